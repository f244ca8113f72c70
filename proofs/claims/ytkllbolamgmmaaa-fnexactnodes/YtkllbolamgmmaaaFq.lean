/- Ranks and their moves: the program (written by tools/genfq.py). -/
import Derived.Test.YtkllbolamgmmaaaFo
import Derived.Test.YtkllbolamgmmaaaFh
import Derived.Deep.DeepCutAuto
namespace Go.Proofs.Ytkllbolamgmmaaa
namespace Vo
open Go.ChangeShapes Go.WideShapes Go.ChangeAt Go.RowKit Go.Joins Go.Sort
open Vl
set_option linter.unusedVariables false
set_option linter.unusedSimpArgs false
theorem workerF (f s m k : Nat) (w : World) (f64 : f ≤ 64) (s64 : s ≤ 64) (k64 : k ≤ 256) : Calls Try.prog 49 #[.agg #[.int .i64 f, .int .i64 s, .int .i64 m], .int .i64 k] w fun e w' => e = .returned (.int .i64 ((f : Int) + (k : Int) * s)) ∧ Below w.heap.size w w' := by
  have B0 := hide (show Below w.heap.size w (w.alloc (.cells #[.int .i64 f, .int .i64 s, .int .i64 m] 43)) from (Below.refl _ _).alloc (Nat.le_refl _) _)
  obtain ⟨p1, p0⟩ := mul_small (a := k) (b := s) (by omega) s64
  have wp : IntKind.i64.wrap ((k : Int) * (s : Int)) = (k : Int) * s := by rw [IntKind.wrap_i64]; omega
  have wq : IntKind.i64.wrap ((f : Int) + (k : Int) * (s : Int)) = (f : Int) + (k : Int) * s := by rw [IntKind.wrap_i64]; omega
  clear p1 p0
  go_enter Try.func49, Try.ntmps49
  go_wp2_with fail
  go_ret
  exact ⟨rfl, B0.out⟩
section
variable {o : Oper} {A : Act} {w : World} {x y z u : Operand}
theorem runLoadRk {b : Nat} {f s c : Int} (ho : o.op = .load 43 x) (hx : A.eval x = .pointer (some ⟨b, 0, none⟩)) (h0 : w.cell? ⟨b, 0, none⟩ = some (.int .i64 f)) (h1 : w.cell? ⟨b, 1, none⟩ = some (.int .i64 s)) (h2 : w.cell? ⟨b, 2, none⟩ = some (.int .i64 c)) : (execOp A.eval o).run Try.prog w = .ok (.value (.agg #[.int .i64 f, .int .i64 s, .int .i64 c])) w := by
  unfold execOp
  rw [ho]
  simp only [hx]
  go_simp
theorem runBuildM3 {a b : Int} {d : Bool} (ho : o.op = .build 33 #[(0, x), (1, y), (3, u)]) (hx : A.eval x = .int .i64 a) (hy : A.eval y = .int .i64 b) (hu : A.eval u = .bool d) : (execOp A.eval o).run Try.prog w = .ok (.value (.agg #[.int .i64 a, .int .i64 b, .int .i64 0, .bool d])) w := by
  unfold execOp
  rw [ho]
  simp only [List.map_toArray, List.map_cons, List.map_nil, hx, hy, hu]
  go_simp
theorem runAllocM (ho : o.op = .alloc 33) : (execOp A.eval o).run Try.prog w = .ok (.value (.pointer (some ⟨w.heap.size, 0, none⟩))) (w.alloc (.cells #[.int .i64 0, .int .i64 0, .int .i64 0, .bool false] 33)) := by
  unfold execOp
  rw [ho]
  go_simp
end
/-- a new Move's variable -/
def NewM (E : Nat) (v : Value) (w : World) : Prop := ∃ g, v = .pointer (some ⟨g, 0, none⟩) ∧ E ≤ g ∧ g < w.heap.size ∧ w.heap[g]? = some (.cells #[.int .i64 0, .int .i64 0, .int .i64 0, .bool false] 33 (0, 0))
theorem NewM.below {E : Nat} {v : Value} {w w' : World} (h : NewM E v w) (hb : Below w.heap.size w w') : NewM E v w' := by
  obtain ⟨g, e, h1, h2, h3⟩ := h
  exact ⟨g, e, h1, Nat.lt_of_lt_of_le h2 hb.size, (hb.block g h2).trans h3⟩
/-- a Move's variable and the list under way -/
structure VarM (E g q c gm : Nat) (l : List Mov) (x : Mov) (W1 w : World) : Prop where
  c0 : w.cell? ⟨gm, 0, none⟩ = some (.int .i64 x.f)
  c1 : w.cell? ⟨gm, 1, none⟩ = some (.int .i64 x.t)
  c2 : w.cell? ⟨gm, 2, none⟩ = some (.int .i64 x.c)
  c3 : w.cell? ⟨gm, 3, none⟩ = some (.bool x.d)
  fr : ∀ k, w.frozen? ⟨gm, k, none⟩ = false
  lt : gm < w.heap.size
  ge : E ≤ gm
  ne : g ≠ gm
  row : w.ownsRow E 33 4 (.slice (some ⟨g, 0, none⟩) q c) q (mvb l)
  bl : Below E W1 w
theorem VarM.set {E g q c gm k : Nat} {l : List Mov} {x : Mov} {W1 w : World} {u : Value} (h : VarM E g q c gm l x W1 w) : (w.setCell ⟨gm, k, none⟩ u).ownsRow E 33 4 (.slice (some ⟨g, 0, none⟩) q c) q (mvb l) ∧ Below E W1 (w.setCell ⟨gm, k, none⟩ u) :=
  ⟨rows_kept (T := (· = gm)) h.row (Kept.setCell w ⟨gm, k, none⟩ u) (fun b e q => h.ne (by have : g = b := Option.some.inj e; rw [this]; exact q)), h.bl.setCell (p := ⟨gm, k, none⟩) h.ge _⟩
theorem VarM.set4 {E g q c gm : Nat} {l : List Mov} {x : Mov} {W1 w : World} (h : VarM E g q c gm l x W1 w) (y : Mov) : VarM E g q c gm l y W1 ((((w.setCell ⟨gm, 0, none⟩ (.int .i64 y.f)).setCell ⟨gm, 1, none⟩ (.int .i64 y.t)).setCell ⟨gm, 2, none⟩ (.int .i64 y.c)).setCell ⟨gm, 3, none⟩ (.bool y.d)) := by
  have K := kept_mov w gm 0 1 2 3 (.int .i64 y.f) (.int .i64 y.t) (.int .i64 y.c) (.bool y.d)
  refine ⟨?_, ?_, ?_, ?_, fun k => by rw [World.frozen?_setCell, World.frozen?_setCell, World.frozen?_setCell, World.frozen?_setCell]; exact h.fr k, Nat.lt_of_lt_of_le h.lt K.size, h.ge, h.ne, rows_kept (T := (· = gm)) h.row K (fun b e q => h.ne (by have : g = b := Option.some.inj e; rw [this]; exact q)), ((h.bl.setCell (p := ⟨gm, 0, none⟩) h.ge _).setCell (p := ⟨gm, 1, none⟩) h.ge _).setCell (p := ⟨gm, 2, none⟩) h.ge _ |>.setCell (p := ⟨gm, 3, none⟩) h.ge _⟩
  · rw [World.cell?_setCell_other _ _ _ _ (by simp), World.cell?_setCell_other _ _ _ _ (by simp), World.cell?_setCell_other _ _ _ _ (by simp)]
    exact World.cell?_setCell_same _ _ _ h.c0
  · rw [World.cell?_setCell_other _ _ _ _ (by simp), World.cell?_setCell_other _ _ _ _ (by simp)]
    exact World.cell?_setCell_same _ _ _ ((World.cell?_setCell_other _ _ _ _ (by simp)).trans h.c1)
  · rw [World.cell?_setCell_other _ _ _ _ (by simp)]
    exact World.cell?_setCell_same _ _ _ ((World.cell?_setCell_other _ _ _ _ (by simp)).trans ((World.cell?_setCell_other _ _ _ _ (by simp)).trans h.c2))
  · exact World.cell?_setCell_same _ _ _ ((World.cell?_setCell_other _ _ _ _ (by simp)).trans ((World.cell?_setCell_other _ _ _ _ (by simp)).trans ((World.cell?_setCell_other _ _ _ _ (by simp)).trans h.c3)))
theorem VarM.swap {E g q c gm : Nat} {l : List Mov} {x : Mov} {W1 w : World} (h : VarM E g q c gm l x W1 w) : VarM E g q c gm l ⟨x.t, x.f, x.c, x.d⟩ W1 ((w.setCell ⟨gm, 0, none⟩ (.int .i64 x.t)).setCell ⟨gm, 1, none⟩ (.int .i64 x.f)) := by
  have K := (Kept.setCell w ⟨gm, 0, none⟩ (.int .i64 x.t)).trans (Kept.setCell _ ⟨gm, 1, none⟩ (.int .i64 x.f))
  refine ⟨?_, ?_, ?_, ?_, fun k => by rw [World.frozen?_setCell, World.frozen?_setCell]; exact h.fr k, Nat.lt_of_lt_of_le h.lt K.size, h.ge, h.ne, rows_kept (T := (· = gm)) h.row K (fun b e q => h.ne (by have : g = b := Option.some.inj e; rw [this]; exact q)), (h.bl.setCell (p := ⟨gm, 0, none⟩) h.ge _).setCell (p := ⟨gm, 1, none⟩) h.ge _⟩
  · rw [World.cell?_setCell_other _ _ _ _ (by simp)]
    exact World.cell?_setCell_same _ _ _ h.c0
  · exact World.cell?_setCell_same _ _ _ ((World.cell?_setCell_other _ _ _ _ (by simp)).trans h.c1)
  · rw [World.cell?_setCell_other _ _ _ _ (by simp), World.cell?_setCell_other _ _ _ _ (by simp)]
    exact h.c2
  · rw [World.cell?_setCell_other _ _ _ _ (by simp), World.cell?_setCell_other _ _ _ _ (by simp)]
    exact h.c3
set_option maxRecDepth 100000 in
set_option maxHeartbeats 800000 in
theorem moves_true (d m f st : Nat) (w : World) (d1 : 1 ≤ d) (d64 : d ≤ 64) (m64 : m ≤ 64) (b64 : f ≤ 64) (a64 : st ≤ 64) :
    Calls Try.prog 47 #[.agg #[.int .i64 f, .int .i64 st, .int .i64 m], .int .i64 d, .bool true] w fun e w' => ∃ g c, e = .returned (.slice (some ⟨g, 0, none⟩) (pairsL d m f st true).length c) ∧ OM w.heap.size w' (some ⟨g, 0, none⟩) (pairsL d m f st true) ∧ Below w.heap.size w w' := by
  obtain ⟨j0, hj0, hjj⟩ := Option.map_eq_some_iff.1 infoMove
  simp only [Prod.mk.injEq] at hjj
  obtain ⟨gz0, gz1, gz2⟩ := hjj
  obtain ⟨W1, hW1⟩ : ∃ W1, w.alloc (.cells #[.int .i64 f, .int .i64 st, .int .i64 m] 43) = W1 := ⟨_, rfl⟩
  have b1 : Below w.heap.size w W1 := by rw [← hW1]; exact (Below.refl _ _).alloc (Nat.le_refl _) _
  have z1 : W1.heap.size = w.heap.size + 1 := by rw [← hW1]; simp
  have CB := hide (show W1.cell? ⟨w.heap.size, 0, none⟩ = some (.int .i64 f) ∧ W1.cell? ⟨w.heap.size, 1, none⟩ = some (.int .i64 st) ∧ W1.cell? ⟨w.heap.size, 2, none⟩ = some (.int .i64 m) from by
    rw [← hW1]; exact ⟨by simp [go_sem], by simp [go_sem], by simp [go_sem]⟩)
  have B1 := hide b1
  obtain ⟨Z, hZ⟩ : ∃ Z, W1.alloc (.cells #[] 33) = Z := ⟨_, rfl⟩
  have Q0 := hide (show RowMv W1.heap.size Z (.slice (some ⟨W1.heap.size, 0, none⟩) 0 0) [] by rw [← hZ]; exact rowMv_new W1)
  have BZ := hide (show Below W1.heap.size W1 Z by rw [← hZ]; exact (Below.refl _ _).alloc (Nat.le_refl _) _)
  have PL := hide (fun q => pc_lt (m := m) (q := q) d1)
  have PLE := hide (pc_le (m := m) d1)
  have Z1 := hide z1
  go_enter Try.func47, Try.ntmps47
  clear b1
  go_wp2_with fail
  clear hZ hW1
  go_loopw [7, 8] (fun o h wx => ∃ (q ix g c : Nat), q ≤ pc d m ∧ ix = 2 * d * q ∧ ix ≤ 192 ∧ h = .int .i64 ix ∧ o = .slice (some ⟨g, 0, none⟩) q c ∧ RowMv W1.heap.size wx (.slice (some ⟨g, 0, none⟩) q c) ((List.range q).map fun q => pairM f st d true (2 * d * q)) ∧ Below W1.heap.size W1 wx) (fun _ h _ => 200 - (intOf h).toNat)
  case atStart => exact ⟨0, 0, W1.heap.size, 0, by omega, rfl, by omega, rfl, by first | rfl | (rw [Z1.out]; rfl) | (rw [Z1.out]), Q0.out, BZ.out⟩
  case round =>
    obtain ⟨U, rfl⟩ : ∃ U, U = wr := ⟨_, rfl⟩
    obtain ⟨q, ix, g, c, hq, hi, hi2, rfl, rfl, hr, hby⟩ := hrel
    have HI := hide hi
    have HQ := hide hr
    have HU := hide hby
    have hp := (PL.out q)
    rw [← hi] at hp
    have zb : (⟨w.heap.size, 0, none⟩ : Addr).block < U.heap.size := by show w.heap.size < _; have := hby.size; omega
    have zw : w.heap.size < W1.heap.size := by omega
    have P0 := hide (show U.cell? ⟨w.heap.size, 0, none⟩ = some (.int .i64 f) ∧ U.cell? ⟨w.heap.size, 1, none⟩ = some (.int .i64 st) ∧ U.cell? ⟨w.heap.size, 2, none⟩ = some (.int .i64 m) from
      ⟨(hby.cell (p := ⟨w.heap.size, 0, none⟩) zw).trans CB.out.1, (hby.cell (p := ⟨w.heap.size, 1, none⟩) zw).trans CB.out.2.1, (hby.cell (p := ⟨w.heap.size, 2, none⟩) zw).trans CB.out.2.2⟩)
    have pm := P0.out.2.2
    clear hr hby hi
    by_cases hql : ix + d < m
    case neg =>
      obtain rfl : q = pc d m := by have := mt hp.2 hql; omega
      have qI : decide ((ix : Int) + (d : Int) < (m : Int)) = false := decide_eq_false (by omega)
      have wi : IntKind.i64.wrap ((ix : Int) + (d : Int)) = (ix : Int) + d := by rw [IntKind.wrap_i64]; omega
      clear hp
      go_wp2_with fail
      go_ret
      obtain ⟨a1, k1, e1, o1⟩ := HQ.out.own
      injection e1 with e1 e2 e3
      subst e1
      exact ⟨g, ⟨c, by rw [pairsL_len]; rfl⟩, o1.mono (Nat.le_of_lt zw), B1.out.trans (HU.out.mono (Nat.le_of_lt zw))⟩
    have hql2 := hp.1 hql
    have qI : (ix : Int) + (d : Int) < (m : Int) := by omega
    have wi : IntKind.i64.wrap ((ix : Int) + (d : Int)) = (ix : Int) + d := by rw [IntKind.wrap_i64]; omega
    have w2d : IntKind.i64.wrap (2 * (d : Int)) = 2 * d := by rw [IntKind.wrap_i64]; omega
    have wid2 : IntKind.i64.wrap ((ix : Int) + 2 * (d : Int)) = (ix : Int) + 2 * d := by rw [IntKind.wrap_i64]; omega
    have HS := hide (show ix + 2 * d = 2 * d * (q + 1) by rw [Nat.mul_add, Nat.mul_one, HI.out])
    have CW := hide (fun (W : World) => workerF f st m ix W b64 a64 (by omega))
    have CV := hide (fun (W : World) => show Calls Try.prog 49 #[.agg #[.int .i64 f, .int .i64 st, .int .i64 m], .int .i64 ((ix : Int) + d)] W fun e w' => e = .returned (.int .i64 ((f : Int) + ((ix : Int) + d) * st)) ∧ Below W.heap.size W w' from by
      have := workerF f st m (ix + d) W b64 a64 (by omega)
      rw [Int.natCast_add] at this
      exact this)
    have QL := hide (show ((List.range q).map fun q => pairM f st d true (2 * d * q)).length = q by simp)
    have MM := hide (show mcs (pairM f st d true (2 * d * q)) = [.int .i64 ((f : Int) + ((ix : Int) + d) * st), .int .i64 ((f : Int) + (ix : Int) * st), .int .i64 0, .bool true] by rw [← HI.out]; rfl)
    have q200 : q ≤ 200 := by have := PLE.out; omega
    clear hp hql
    have QQ := hide (show U.ownsRow W1.heap.size 33 4 (.slice (some ⟨g, 0, none⟩) q c) q (mvb ((List.range q).map fun q => pairM f st d true (2 * d * q))) by have := HQ.out; unfold RowMv at this; rw [QL.out] at this; exact this)
    go_wp2_with fail
    clear pm
    go_cut [9] (fun p wx => ∃ gm, p = .pointer (some ⟨gm, 0, none⟩) ∧ VarM W1.heap.size g q c gm ((List.range q).map fun q => pairM f st d true (2 * d * q)) ⟨(f : Int) + (ix : Int) * st, (f : Int) + ((ix : Int) + d) * st, 0, true⟩ W1 wx)
    case first =>
      refine Qf.facts2 11 (by kernel_rfl) (by kernel_rfl) (by kernel_rfl) (fun i v wx => match i with | 0 => v = .agg #[.int .i64 f, .int .i64 st, .int .i64 m] | 1 => v = .int .i64 (ix : Int) | 2 => v = .int .i64 ((f : Int) + (ix : Int) * st) | 3 => v = .agg #[.int .i64 f, .int .i64 st, .int .i64 m] | 4 => v = .int .i64 (ix : Int) | 5 => v = .int .i64 (d : Int) | 6 => v = .int .i64 ((ix : Int) + d) | 7 => v = .int .i64 ((f : Int) + ((ix : Int) + d) * st) | 8 => v = .bool true | 9 => v = .agg #[.int .i64 ((f : Int) + (ix : Int) * st), .int .i64 ((f : Int) + ((ix : Int) + d) * st), .int .i64 0, .bool true] | 10 => NewM U.heap.size v wx | _ => True) ?stableF ?stepsF ?restF
      case stableF =>
        intro i v w1 w2 h hb
        match i, h with
        | 0, h => exact h
        | 1, h => exact h
        | 2, h => exact h
        | 3, h => exact h
        | 4, h => exact h
        | 5, h => exact h
        | 6, h => exact h
        | 7, h => exact h
        | 8, h => exact h
        | 9, h => exact h
        | 10, h => exact h.below hb
        | _ + 11, h => exact h
      case stepsF =>
        intro i o hi ho s A wS hb hk hA hO
        match i, hi, ho, hk with
        | 0, _, ho, hk =>
          cases ho
          have lp := (hb.cell (p := ⟨w.heap.size, 0, none⟩) zb)
          have lq := (hb.cell (p := ⟨w.heap.size, 1, none⟩) zb)
          have lr := (hb.cell (p := ⟨w.heap.size, 2, none⟩) zb)
          exact Qf.lands_val _ _ (runLoadRk rfl ((hO 3 (by rfl)).trans rfl) (lp.trans P0.out.1) (lq.trans P0.out.2.1) (lr.trans P0.out.2.2)) ⟨Below.refl _ _, rfl⟩
        | 1, _, ho, hk =>
          cases ho
          exact Qf.lands_move _ rfl _ ((hO 8 (by rfl)).trans rfl) ⟨Below.refl _ _, rfl⟩
        | 2, _, ho, hk =>
          cases ho
          have h0 := hA 0 _ 21 (by decide) rfl rfl (by simp)
          have e0 := hk 0 (by kernel_rfl)
          rw [e0] at h0
          have h1 := hA 1 _ 22 (by decide) rfl rfl (by simp)
          have e1 := hk 1 (by kernel_rfl)
          rw [e1] at h1
          refine Qf.lands_call 49 _ _ rfl (enters_of Try.func49 (by kernel_rfl) rfl) _ (by simp [h0, h1]) ((CW.out _).mono ?_)
          rintro e wT ⟨rfl, bT⟩
          exact ⟨_, rfl, bT, rfl⟩
        | 3, _, ho, hk =>
          cases ho
          have lp := (hb.cell (p := ⟨w.heap.size, 0, none⟩) zb)
          have lq := (hb.cell (p := ⟨w.heap.size, 1, none⟩) zb)
          have lr := (hb.cell (p := ⟨w.heap.size, 2, none⟩) zb)
          exact Qf.lands_val _ _ (runLoadRk rfl ((hO 3 (by rfl)).trans rfl) (lp.trans P0.out.1) (lq.trans P0.out.2.1) (lr.trans P0.out.2.2)) ⟨Below.refl _ _, rfl⟩
        | 4, _, ho, hk =>
          cases ho
          exact Qf.lands_move _ rfl _ ((hO 8 (by rfl)).trans rfl) ⟨Below.refl _ _, rfl⟩
        | 5, _, ho, hk =>
          cases ho
          exact Qf.lands_move _ rfl _ ((hO 1 (by rfl)).trans rfl) ⟨Below.refl _ _, rfl⟩
        | 6, _, ho, hk =>
          cases ho
          have h4 := hA 4 _ 25 (by decide) rfl rfl (by simp)
          have e4 := hk 4 (by kernel_rfl)
          rw [e4] at h4
          have h5 := hA 5 _ 26 (by decide) rfl rfl (by simp)
          have e5 := hk 5 (by kernel_rfl)
          rw [e5] at h5
          exact Qf.lands_val _ _ (runAddM rfl h4 h5 wi) ⟨Below.refl _ _, rfl⟩
        | 7, _, ho, hk =>
          cases ho
          have h3 := hA 3 _ 24 (by decide) rfl rfl (by simp)
          have e3 := hk 3 (by kernel_rfl)
          rw [e3] at h3
          have h6 := hA 6 _ 27 (by decide) rfl rfl (by simp)
          have e6 := hk 6 (by kernel_rfl)
          rw [e6] at h6
          refine Qf.lands_call 49 _ _ rfl (enters_of Try.func49 (by kernel_rfl) rfl) _ (by simp [h3, h6]) ((CV.out _).mono ?_)
          rintro e wT ⟨rfl, bT⟩
          exact ⟨_, rfl, bT, rfl⟩
        | 8, _, ho, hk =>
          cases ho
          exact Qf.lands_move _ rfl _ ((hO 2 (by rfl)).trans rfl) ⟨Below.refl _ _, rfl⟩
        | 9, _, ho, hk =>
          cases ho
          have h2 := hA 2 _ 23 (by decide) rfl rfl (by simp)
          have e2 := hk 2 (by kernel_rfl)
          rw [e2] at h2
          have h7 := hA 7 _ 28 (by decide) rfl rfl (by simp)
          have e7 := hk 7 (by kernel_rfl)
          rw [e7] at h7
          have h8 := hA 8 _ 29 (by decide) rfl rfl (by simp)
          have e8 := hk 8 (by kernel_rfl)
          rw [e8] at h8
          exact Qf.lands_val _ _ (runBuildM3 rfl h2 h7 h8) ⟨Below.refl _ _, rfl⟩
        | 10, _, ho, hk =>
          cases ho
          exact Qf.lands_val _ _ (runAllocM rfl) ⟨(Below.refl _ _).alloc (Nat.le_refl _) _, _, rfl, hb.size, by simp, heap_alloc_new _ _⟩
        | _ + 11, hi, _, _ => exact absurd hi (by omega)
      case restF =>
        intro s V1 hbV hk
        have e0 : s 0 = .agg #[.int .i64 f, .int .i64 st, .int .i64 m] := hk 0 (by decide)
        have e1 : s 1 = .int .i64 (ix : Int) := hk 1 (by decide)
        have e2 : s 2 = .int .i64 ((f : Int) + (ix : Int) * st) := hk 2 (by decide)
        have e3 : s 3 = .agg #[.int .i64 f, .int .i64 st, .int .i64 m] := hk 3 (by decide)
        have e4 : s 4 = .int .i64 (ix : Int) := hk 4 (by decide)
        have e5 : s 5 = .int .i64 (d : Int) := hk 5 (by decide)
        have e6 : s 6 = .int .i64 ((ix : Int) + d) := hk 6 (by decide)
        have e7 : s 7 = .int .i64 ((f : Int) + ((ix : Int) + d) * st) := hk 7 (by decide)
        have e8 : s 8 = .bool true := hk 8 (by decide)
        have e9 : s 9 = .agg #[.int .i64 ((f : Int) + (ix : Int) * st), .int .i64 ((f : Int) + ((ix : Int) + d) * st), .int .i64 0, .bool true] := hk 9 (by decide)
        obtain ⟨gm, e10, m1, m2, m3⟩ := hk 10 (by decide)
        have c0 : V1.cell? ⟨gm, 0, none⟩ = some (.int .i64 0) := cell_of_row V1 gm 0 _ _ (0, 0) m3
        have c1 : V1.cell? ⟨gm, 1, none⟩ = some (.int .i64 0) := cell_of_row V1 gm 1 _ _ (0, 0) m3
        have c2 : V1.cell? ⟨gm, 2, none⟩ = some (.int .i64 0) := cell_of_row V1 gm 2 _ _ (0, 0) m3
        have c3 : V1.cell? ⟨gm, 3, none⟩ = some (.bool false) := cell_of_row V1 gm 3 _ _ (0, 0) m3
        have ff : ∀ k, V1.frozen? ⟨gm, k, none⟩ = false := fun k => frozen_of_row V1 gm k _ _ m3
        have f0 := ff 0
        have f1 := ff 1
        have f2 := ff 2
        have f3 := ff 3
        have gl := (QQ.out.lt g rfl).2
        have V0 := hide (show VarM W1.heap.size g q c gm ((List.range q).map fun q => pairM f st d true (2 * d * q)) ⟨0, 0, 0, false⟩ W1 V1 from ⟨c0, c1, c2, c3, ff, m2, Nat.le_trans HU.out.size m1, by omega, rows_kept (T := fun _ => False) QQ.out (Kept.of_below hbV) (fun _ _ q => q), HU.out.trans (hbV.mono HU.out.size)⟩)
        clear hk CW CV P0 HI hbV HQ HU QQ ff gl
        simp only [List.take_succ_cons, List.take_zero, List.drop_succ_cons, List.drop_zero, Qf.lay, Qf.all1, if_true]
        simp only [e0, e1, e2, e3, e4, e5, e6, e7, e8, e9, e10]
        simp only [Act.put, List.setIfInBounds_toArray, List.set_cons_succ, List.set_cons_zero]
        go_wp2_with fail
        go_meet
        exact ⟨gm, rfl, V0.out.set4 ⟨(f : Int) + (ix : Int) * st, (f : Int) + ((ix : Int) + d) * st, 0, true⟩⟩
    case rest =>
      clear CW CV P0 HQ HU QQ
      obtain ⟨gm, rfl, hv⟩ := hcut
      obtain ⟨V0, rfl⟩ : ∃ V, V = wc := ⟨_, rfl⟩
      obtain ⟨V, hV⟩ : ∃ V, ((V0.setCell ⟨gm, 0, none⟩ (.int .i64 ((f : Int) + ((ix : Int) + d) * st))).setCell ⟨gm, 1, none⟩ (.int .i64 ((f : Int) + (ix : Int) * st))) = V := ⟨_, rfl⟩
      have hv2 := hv.swap
      rw [hV] at hv2
      have d0 := hv.c0
      have d1' := hv.c1
      have f0 := hv.fr 0
      have f1 := hv.fr 1
      clear hv
      have hv := hv2
      clear hv2
      dsimp only at hv d0 d1'
      have VO := hide hv
      obtain ⟨c0, c1, c2, c3, ff, _, _, _, _, _⟩ := hv
      have QQ := hide VO.out.row
      have HB := hide VO.out.bl
      have zu := HB.out.size
      clear ff
      go_wp2_with (at_builtin; refine wpList_append_lies _ rfl _ _ 30 rfl W1.heap.size 33 j0 (.agg #[.int .i64 0, .int .i64 0, .int .i64 0, .bool false]) 4 32 Try.underlying30 hj0 gz0 gz1 gz2 rfl (by decide) _ _ _ rfl (QQ.out.alloc _) ⟨V.heap.size, 0, none⟩ 1 1 [.int .i64 ((f : Int) + ((ix : Int) + d) * st), .int .i64 ((f : Int) + (ix : Int) * st), .int .i64 0, .bool true] rfl rfl (World.news_of_block (cs := #[.int .i64 ((f : Int) + ((ix : Int) + d) * st), .int .i64 ((f : Int) + (ix : Int) * st), .int .i64 0, .bool true]) (t := 33) (fr := (0, 0)) (heap_alloc_new V _)) (by simp [Value.oneCell']) (by omega) (by unfold maxLen; omega) (by omega) (by simp; omega) (V.heap.size + 1) (by simp) ?_; intro gN c2 X3 hown1 hgrow1 hat hlt3)
      rw [← MM.out] at hown1
      have RW := hide (show RowMv W1.heap.size X3 (.slice (some ⟨gN, 0, none⟩) (q + 1) c2) ((List.range (q + 1)).map fun q => pairM f st d true (2 * d * q)) from by rw [range_more]; exact RowMv.more QL.out hown1)
      have GB := hide ((HB.out.alloc zu _).grown hgrow1 (by simp; omega) (fun b hb => (QQ.out.lt b hb).1))
      clear hown1 hgrow1 hat hlt3 QQ HB VO
      go_roundw
      case rel => exact ⟨q + 1, ix + 2 * d, _, _, hql2, HS.out, by omega, by go_num, rfl, RW.out, GB.out⟩
      case measure => simp [intOf]; omega

set_option maxRecDepth 100000 in
set_option maxHeartbeats 800000 in
theorem moves_false (d m f st : Nat) (w : World) (d1 : 1 ≤ d) (d64 : d ≤ 64) (m64 : m ≤ 64) (b64 : f ≤ 64) (a64 : st ≤ 64) :
    Calls Try.prog 47 #[.agg #[.int .i64 f, .int .i64 st, .int .i64 m], .int .i64 d, .bool false] w fun e w' => ∃ g c, e = .returned (.slice (some ⟨g, 0, none⟩) (pairsL d m f st false).length c) ∧ OM w.heap.size w' (some ⟨g, 0, none⟩) (pairsL d m f st false) ∧ Below w.heap.size w w' := by
  obtain ⟨j0, hj0, hjj⟩ := Option.map_eq_some_iff.1 infoMove
  simp only [Prod.mk.injEq] at hjj
  obtain ⟨gz0, gz1, gz2⟩ := hjj
  obtain ⟨W1, hW1⟩ : ∃ W1, w.alloc (.cells #[.int .i64 f, .int .i64 st, .int .i64 m] 43) = W1 := ⟨_, rfl⟩
  have b1 : Below w.heap.size w W1 := by rw [← hW1]; exact (Below.refl _ _).alloc (Nat.le_refl _) _
  have z1 : W1.heap.size = w.heap.size + 1 := by rw [← hW1]; simp
  have CB := hide (show W1.cell? ⟨w.heap.size, 0, none⟩ = some (.int .i64 f) ∧ W1.cell? ⟨w.heap.size, 1, none⟩ = some (.int .i64 st) ∧ W1.cell? ⟨w.heap.size, 2, none⟩ = some (.int .i64 m) from by
    rw [← hW1]; exact ⟨by simp [go_sem], by simp [go_sem], by simp [go_sem]⟩)
  have B1 := hide b1
  obtain ⟨Z, hZ⟩ : ∃ Z, W1.alloc (.cells #[] 33) = Z := ⟨_, rfl⟩
  have Q0 := hide (show RowMv W1.heap.size Z (.slice (some ⟨W1.heap.size, 0, none⟩) 0 0) [] by rw [← hZ]; exact rowMv_new W1)
  have BZ := hide (show Below W1.heap.size W1 Z by rw [← hZ]; exact (Below.refl _ _).alloc (Nat.le_refl _) _)
  have PL := hide (fun q => pc_lt (m := m) (q := q) d1)
  have PLE := hide (pc_le (m := m) d1)
  have Z1 := hide z1
  go_enter Try.func47, Try.ntmps47
  clear b1
  go_wp2_with fail
  clear hZ hW1
  go_loopw [7, 8] (fun o h wx => ∃ (q ix g c : Nat), q ≤ pc d m ∧ ix = 2 * d * q ∧ ix ≤ 192 ∧ h = .int .i64 ix ∧ o = .slice (some ⟨g, 0, none⟩) q c ∧ RowMv W1.heap.size wx (.slice (some ⟨g, 0, none⟩) q c) ((List.range q).map fun q => pairM f st d false (2 * d * q)) ∧ Below W1.heap.size W1 wx) (fun _ h _ => 200 - (intOf h).toNat)
  case atStart => exact ⟨0, 0, W1.heap.size, 0, by omega, rfl, by omega, rfl, by first | rfl | (rw [Z1.out]; rfl) | (rw [Z1.out]), Q0.out, BZ.out⟩
  case round =>
    obtain ⟨U, rfl⟩ : ∃ U, U = wr := ⟨_, rfl⟩
    obtain ⟨q, ix, g, c, hq, hi, hi2, rfl, rfl, hr, hby⟩ := hrel
    have HI := hide hi
    have HQ := hide hr
    have HU := hide hby
    have hp := (PL.out q)
    rw [← hi] at hp
    have zb : (⟨w.heap.size, 0, none⟩ : Addr).block < U.heap.size := by show w.heap.size < _; have := hby.size; omega
    have zw : w.heap.size < W1.heap.size := by omega
    have P0 := hide (show U.cell? ⟨w.heap.size, 0, none⟩ = some (.int .i64 f) ∧ U.cell? ⟨w.heap.size, 1, none⟩ = some (.int .i64 st) ∧ U.cell? ⟨w.heap.size, 2, none⟩ = some (.int .i64 m) from
      ⟨(hby.cell (p := ⟨w.heap.size, 0, none⟩) zw).trans CB.out.1, (hby.cell (p := ⟨w.heap.size, 1, none⟩) zw).trans CB.out.2.1, (hby.cell (p := ⟨w.heap.size, 2, none⟩) zw).trans CB.out.2.2⟩)
    have pm := P0.out.2.2
    clear hr hby hi
    by_cases hql : ix + d < m
    case neg =>
      obtain rfl : q = pc d m := by have := mt hp.2 hql; omega
      have qI : decide ((ix : Int) + (d : Int) < (m : Int)) = false := decide_eq_false (by omega)
      have wi : IntKind.i64.wrap ((ix : Int) + (d : Int)) = (ix : Int) + d := by rw [IntKind.wrap_i64]; omega
      clear hp
      go_wp2_with fail
      go_ret
      obtain ⟨a1, k1, e1, o1⟩ := HQ.out.own
      injection e1 with e1 e2 e3
      subst e1
      exact ⟨g, ⟨c, by rw [pairsL_len]; rfl⟩, o1.mono (Nat.le_of_lt zw), B1.out.trans (HU.out.mono (Nat.le_of_lt zw))⟩
    have hql2 := hp.1 hql
    have qI : (ix : Int) + (d : Int) < (m : Int) := by omega
    have wi : IntKind.i64.wrap ((ix : Int) + (d : Int)) = (ix : Int) + d := by rw [IntKind.wrap_i64]; omega
    have w2d : IntKind.i64.wrap (2 * (d : Int)) = 2 * d := by rw [IntKind.wrap_i64]; omega
    have wid2 : IntKind.i64.wrap ((ix : Int) + 2 * (d : Int)) = (ix : Int) + 2 * d := by rw [IntKind.wrap_i64]; omega
    have HS := hide (show ix + 2 * d = 2 * d * (q + 1) by rw [Nat.mul_add, Nat.mul_one, HI.out])
    have CW := hide (fun (W : World) => workerF f st m ix W b64 a64 (by omega))
    have CV := hide (fun (W : World) => show Calls Try.prog 49 #[.agg #[.int .i64 f, .int .i64 st, .int .i64 m], .int .i64 ((ix : Int) + d)] W fun e w' => e = .returned (.int .i64 ((f : Int) + ((ix : Int) + d) * st)) ∧ Below W.heap.size W w' from by
      have := workerF f st m (ix + d) W b64 a64 (by omega)
      rw [Int.natCast_add] at this
      exact this)
    have QL := hide (show ((List.range q).map fun q => pairM f st d false (2 * d * q)).length = q by simp)
    have MM := hide (show mcs (pairM f st d false (2 * d * q)) = [.int .i64 ((f : Int) + (ix : Int) * st), .int .i64 ((f : Int) + ((ix : Int) + d) * st), .int .i64 0, .bool false] by rw [← HI.out]; rfl)
    have q200 : q ≤ 200 := by have := PLE.out; omega
    clear hp hql
    have QQ := hide (show U.ownsRow W1.heap.size 33 4 (.slice (some ⟨g, 0, none⟩) q c) q (mvb ((List.range q).map fun q => pairM f st d false (2 * d * q))) by have := HQ.out; unfold RowMv at this; rw [QL.out] at this; exact this)
    go_wp2_with fail
    clear pm
    go_cut [9] (fun p wx => ∃ gm, p = .pointer (some ⟨gm, 0, none⟩) ∧ VarM W1.heap.size g q c gm ((List.range q).map fun q => pairM f st d false (2 * d * q)) ⟨(f : Int) + (ix : Int) * st, (f : Int) + ((ix : Int) + d) * st, 0, false⟩ W1 wx)
    case first =>
      refine Qf.facts2 11 (by kernel_rfl) (by kernel_rfl) (by kernel_rfl) (fun i v wx => match i with | 0 => v = .agg #[.int .i64 f, .int .i64 st, .int .i64 m] | 1 => v = .int .i64 (ix : Int) | 2 => v = .int .i64 ((f : Int) + (ix : Int) * st) | 3 => v = .agg #[.int .i64 f, .int .i64 st, .int .i64 m] | 4 => v = .int .i64 (ix : Int) | 5 => v = .int .i64 (d : Int) | 6 => v = .int .i64 ((ix : Int) + d) | 7 => v = .int .i64 ((f : Int) + ((ix : Int) + d) * st) | 8 => v = .bool false | 9 => v = .agg #[.int .i64 ((f : Int) + (ix : Int) * st), .int .i64 ((f : Int) + ((ix : Int) + d) * st), .int .i64 0, .bool false] | 10 => NewM U.heap.size v wx | _ => True) ?stableF ?stepsF ?restF
      case stableF =>
        intro i v w1 w2 h hb
        match i, h with
        | 0, h => exact h
        | 1, h => exact h
        | 2, h => exact h
        | 3, h => exact h
        | 4, h => exact h
        | 5, h => exact h
        | 6, h => exact h
        | 7, h => exact h
        | 8, h => exact h
        | 9, h => exact h
        | 10, h => exact h.below hb
        | _ + 11, h => exact h
      case stepsF =>
        intro i o hi ho s A wS hb hk hA hO
        match i, hi, ho, hk with
        | 0, _, ho, hk =>
          cases ho
          have lp := (hb.cell (p := ⟨w.heap.size, 0, none⟩) zb)
          have lq := (hb.cell (p := ⟨w.heap.size, 1, none⟩) zb)
          have lr := (hb.cell (p := ⟨w.heap.size, 2, none⟩) zb)
          exact Qf.lands_val _ _ (runLoadRk rfl ((hO 3 (by rfl)).trans rfl) (lp.trans P0.out.1) (lq.trans P0.out.2.1) (lr.trans P0.out.2.2)) ⟨Below.refl _ _, rfl⟩
        | 1, _, ho, hk =>
          cases ho
          exact Qf.lands_move _ rfl _ ((hO 8 (by rfl)).trans rfl) ⟨Below.refl _ _, rfl⟩
        | 2, _, ho, hk =>
          cases ho
          have h0 := hA 0 _ 21 (by decide) rfl rfl (by simp)
          have e0 := hk 0 (by kernel_rfl)
          rw [e0] at h0
          have h1 := hA 1 _ 22 (by decide) rfl rfl (by simp)
          have e1 := hk 1 (by kernel_rfl)
          rw [e1] at h1
          refine Qf.lands_call 49 _ _ rfl (enters_of Try.func49 (by kernel_rfl) rfl) _ (by simp [h0, h1]) ((CW.out _).mono ?_)
          rintro e wT ⟨rfl, bT⟩
          exact ⟨_, rfl, bT, rfl⟩
        | 3, _, ho, hk =>
          cases ho
          have lp := (hb.cell (p := ⟨w.heap.size, 0, none⟩) zb)
          have lq := (hb.cell (p := ⟨w.heap.size, 1, none⟩) zb)
          have lr := (hb.cell (p := ⟨w.heap.size, 2, none⟩) zb)
          exact Qf.lands_val _ _ (runLoadRk rfl ((hO 3 (by rfl)).trans rfl) (lp.trans P0.out.1) (lq.trans P0.out.2.1) (lr.trans P0.out.2.2)) ⟨Below.refl _ _, rfl⟩
        | 4, _, ho, hk =>
          cases ho
          exact Qf.lands_move _ rfl _ ((hO 8 (by rfl)).trans rfl) ⟨Below.refl _ _, rfl⟩
        | 5, _, ho, hk =>
          cases ho
          exact Qf.lands_move _ rfl _ ((hO 1 (by rfl)).trans rfl) ⟨Below.refl _ _, rfl⟩
        | 6, _, ho, hk =>
          cases ho
          have h4 := hA 4 _ 25 (by decide) rfl rfl (by simp)
          have e4 := hk 4 (by kernel_rfl)
          rw [e4] at h4
          have h5 := hA 5 _ 26 (by decide) rfl rfl (by simp)
          have e5 := hk 5 (by kernel_rfl)
          rw [e5] at h5
          exact Qf.lands_val _ _ (runAddM rfl h4 h5 wi) ⟨Below.refl _ _, rfl⟩
        | 7, _, ho, hk =>
          cases ho
          have h3 := hA 3 _ 24 (by decide) rfl rfl (by simp)
          have e3 := hk 3 (by kernel_rfl)
          rw [e3] at h3
          have h6 := hA 6 _ 27 (by decide) rfl rfl (by simp)
          have e6 := hk 6 (by kernel_rfl)
          rw [e6] at h6
          refine Qf.lands_call 49 _ _ rfl (enters_of Try.func49 (by kernel_rfl) rfl) _ (by simp [h3, h6]) ((CV.out _).mono ?_)
          rintro e wT ⟨rfl, bT⟩
          exact ⟨_, rfl, bT, rfl⟩
        | 8, _, ho, hk =>
          cases ho
          exact Qf.lands_move _ rfl _ ((hO 2 (by rfl)).trans rfl) ⟨Below.refl _ _, rfl⟩
        | 9, _, ho, hk =>
          cases ho
          have h2 := hA 2 _ 23 (by decide) rfl rfl (by simp)
          have e2 := hk 2 (by kernel_rfl)
          rw [e2] at h2
          have h7 := hA 7 _ 28 (by decide) rfl rfl (by simp)
          have e7 := hk 7 (by kernel_rfl)
          rw [e7] at h7
          have h8 := hA 8 _ 29 (by decide) rfl rfl (by simp)
          have e8 := hk 8 (by kernel_rfl)
          rw [e8] at h8
          exact Qf.lands_val _ _ (runBuildM3 rfl h2 h7 h8) ⟨Below.refl _ _, rfl⟩
        | 10, _, ho, hk =>
          cases ho
          exact Qf.lands_val _ _ (runAllocM rfl) ⟨(Below.refl _ _).alloc (Nat.le_refl _) _, _, rfl, hb.size, by simp, heap_alloc_new _ _⟩
        | _ + 11, hi, _, _ => exact absurd hi (by omega)
      case restF =>
        intro s V1 hbV hk
        have e0 : s 0 = .agg #[.int .i64 f, .int .i64 st, .int .i64 m] := hk 0 (by decide)
        have e1 : s 1 = .int .i64 (ix : Int) := hk 1 (by decide)
        have e2 : s 2 = .int .i64 ((f : Int) + (ix : Int) * st) := hk 2 (by decide)
        have e3 : s 3 = .agg #[.int .i64 f, .int .i64 st, .int .i64 m] := hk 3 (by decide)
        have e4 : s 4 = .int .i64 (ix : Int) := hk 4 (by decide)
        have e5 : s 5 = .int .i64 (d : Int) := hk 5 (by decide)
        have e6 : s 6 = .int .i64 ((ix : Int) + d) := hk 6 (by decide)
        have e7 : s 7 = .int .i64 ((f : Int) + ((ix : Int) + d) * st) := hk 7 (by decide)
        have e8 : s 8 = .bool false := hk 8 (by decide)
        have e9 : s 9 = .agg #[.int .i64 ((f : Int) + (ix : Int) * st), .int .i64 ((f : Int) + ((ix : Int) + d) * st), .int .i64 0, .bool false] := hk 9 (by decide)
        obtain ⟨gm, e10, m1, m2, m3⟩ := hk 10 (by decide)
        have c0 : V1.cell? ⟨gm, 0, none⟩ = some (.int .i64 0) := cell_of_row V1 gm 0 _ _ (0, 0) m3
        have c1 : V1.cell? ⟨gm, 1, none⟩ = some (.int .i64 0) := cell_of_row V1 gm 1 _ _ (0, 0) m3
        have c2 : V1.cell? ⟨gm, 2, none⟩ = some (.int .i64 0) := cell_of_row V1 gm 2 _ _ (0, 0) m3
        have c3 : V1.cell? ⟨gm, 3, none⟩ = some (.bool false) := cell_of_row V1 gm 3 _ _ (0, 0) m3
        have ff : ∀ k, V1.frozen? ⟨gm, k, none⟩ = false := fun k => frozen_of_row V1 gm k _ _ m3
        have f0 := ff 0
        have f1 := ff 1
        have f2 := ff 2
        have f3 := ff 3
        have gl := (QQ.out.lt g rfl).2
        have V0 := hide (show VarM W1.heap.size g q c gm ((List.range q).map fun q => pairM f st d false (2 * d * q)) ⟨0, 0, 0, false⟩ W1 V1 from ⟨c0, c1, c2, c3, ff, m2, Nat.le_trans HU.out.size m1, by omega, rows_kept (T := fun _ => False) QQ.out (Kept.of_below hbV) (fun _ _ q => q), HU.out.trans (hbV.mono HU.out.size)⟩)
        clear hk CW CV P0 HI hbV HQ HU QQ ff gl
        simp only [List.take_succ_cons, List.take_zero, List.drop_succ_cons, List.drop_zero, Qf.lay, Qf.all1, if_true]
        simp only [e0, e1, e2, e3, e4, e5, e6, e7, e8, e9, e10]
        simp only [Act.put, List.setIfInBounds_toArray, List.set_cons_succ, List.set_cons_zero]
        go_wp2_with fail
        go_meet
        exact ⟨gm, rfl, V0.out.set4 ⟨(f : Int) + (ix : Int) * st, (f : Int) + ((ix : Int) + d) * st, 0, false⟩⟩
    case rest =>
      clear CW CV P0 HQ HU QQ
      obtain ⟨gm, rfl, hv⟩ := hcut
      obtain ⟨V, rfl⟩ : ∃ V, V = wc := ⟨_, rfl⟩
      have VO := hide hv
      obtain ⟨c0, c1, c2, c3, ff, _, _, _, _, _⟩ := hv
      have QQ := hide VO.out.row
      have HB := hide VO.out.bl
      have zu := HB.out.size
      clear ff
      go_wp2_with (at_builtin; refine wpList_append_lies _ rfl _ _ 30 rfl W1.heap.size 33 j0 (.agg #[.int .i64 0, .int .i64 0, .int .i64 0, .bool false]) 4 32 Try.underlying30 hj0 gz0 gz1 gz2 rfl (by decide) _ _ _ rfl (QQ.out.alloc _) ⟨V.heap.size, 0, none⟩ 1 1 [.int .i64 ((f : Int) + (ix : Int) * st), .int .i64 ((f : Int) + ((ix : Int) + d) * st), .int .i64 0, .bool false] rfl rfl (World.news_of_block (cs := #[.int .i64 ((f : Int) + (ix : Int) * st), .int .i64 ((f : Int) + ((ix : Int) + d) * st), .int .i64 0, .bool false]) (t := 33) (fr := (0, 0)) (heap_alloc_new V _)) (by simp [Value.oneCell']) (by omega) (by unfold maxLen; omega) (by omega) (by simp; omega) (V.heap.size + 1) (by simp) ?_; intro gN c2 X3 hown1 hgrow1 hat hlt3)
      rw [← MM.out] at hown1
      have RW := hide (show RowMv W1.heap.size X3 (.slice (some ⟨gN, 0, none⟩) (q + 1) c2) ((List.range (q + 1)).map fun q => pairM f st d false (2 * d * q)) from by rw [range_more]; exact RowMv.more QL.out hown1)
      have GB := hide ((HB.out.alloc zu _).grown hgrow1 (by simp; omega) (fun b hb => (QQ.out.lt b hb).1))
      clear hown1 hgrow1 hat hlt3 QQ HB VO
      go_roundw
      case rel => exact ⟨q + 1, ix + 2 * d, _, _, hql2, HS.out, by omega, by go_num, rfl, RW.out, GB.out⟩
      case measure => simp [intOf]; omega

theorem movesF (d m f st : Nat) (add : Bool) (w : World) (d1 : 1 ≤ d) (d64 : d ≤ 64) (m64 : m ≤ 64) (b64 : f ≤ 64) (a64 : st ≤ 64) :
    Calls Try.prog 47 #[.agg #[.int .i64 f, .int .i64 st, .int .i64 m], .int .i64 d, .bool add] w fun e w' => ∃ g c, e = .returned (.slice (some ⟨g, 0, none⟩) (pairsL d m f st add).length c) ∧ OM w.heap.size w' (some ⟨g, 0, none⟩) (pairsL d m f st add) ∧ Below w.heap.size w w' := by
  cases add
  · exact moves_false d m f st w d1 d64 m64 b64 a64
  · exact moves_true d m f st w d1 d64 m64 b64 a64
end Vo
end Go.Proofs.Ytkllbolamgmmaaa
