/- Nodes: the program; both are one. -/
import Derived.Test.YtkllbolamgmmaaaFv
namespace Go.Proofs.Ytkllbolamgmmaaa
namespace Vo
open Go.ChangeShapes Go.WideShapes Go.ChangeAt Go.RowKit Go.Joins Go.Sort
open Vl
set_option linter.unusedVariables false
set_option linter.unusedSimpArgs false
theorem infoRank : (Try.prog.info? 43).map (fun i => (i.zero, i.size, i.bytes)) = some (some (.agg #[.int .i64 0, .int .i64 0, .int .i64 0]), 3, 24) := by kernel_rfl
theorem make_rank (n : Nat) (hn : (n : Int) ≤ 1048576) (w : World) : (Instr.makeSlice 47 (.int .i64 n) (.int .i64 n)).run Try.prog w = .ok (.slice (some ⟨w.heap.size, 0, none⟩) n n) (w.alloc (.cells (madeCells #[.int .i64 0, .int .i64 0, .int .i64 0] (n * 3)) 43)) := by
  obtain ⟨i, h1, h2⟩ := Option.map_eq_some_iff.1 infoRank
  simp only [Prod.mk.injEq] at h2
  obtain ⟨hz, hs, hb⟩ := h2
  have := run_make (P := Try.prog) w 47 43 i (.agg #[.int .i64 0, .int .i64 0, .int .i64 0]) Try.underlying47 h1 hz .i64 .i64 n n (by omega) (Int.le_refl _) (by rw [hb]; omega) (by omega)
  rw [hs] at this
  simpa [Value.cells] using this
/-- ranks that are being laid -/
structure RkP (w : World) (g N k : Nat) (f : Nat → RkV) : Prop where
  lt : g < w.heap.size
  laid : ∀ i, i < k → w.cell? ⟨g, i * 3, none⟩ = some (.int .i64 ((f i).f : Int)) ∧ w.cell? ⟨g, i * 3 + 1, none⟩ = some (.int .i64 ((f i).s : Int)) ∧ w.cell? ⟨g, i * 3 + 2, none⟩ = some (.int .i64 ((f i).c : Int))
  rest : ∀ i, k ≤ i → i < N → w.cell? ⟨g, i * 3, none⟩ = some (.int .i64 0) ∧ w.cell? ⟨g, i * 3 + 1, none⟩ = some (.int .i64 0) ∧ w.cell? ⟨g, i * 3 + 2, none⟩ = some (.int .i64 0)
  free : ∀ i, w.frozen? ⟨g, i, none⟩ = false
theorem RkP.below {w w' : World} {g N k : Nat} {f : Nat → RkV} (h : RkP w g N k f) (hb : Below w.heap.size w w') : RkP w' g N k f :=
  have c : ∀ i, w'.cell? ⟨g, i, none⟩ = w.cell? ⟨g, i, none⟩ := fun i => hb.cell (p := ⟨g, i, none⟩) h.lt
  ⟨Nat.lt_of_lt_of_le h.lt hb.size, fun i hi => by rw [c, c, c]; exact h.laid i hi, fun i h1 h2 => by rw [c, c, c]; exact h.rest i h1 h2, fun i => (hb.frozen (p := ⟨g, i, none⟩) h.lt).trans (h.free i)⟩
theorem RkP.put {w : World} {g N k : Nat} {f : Nat → RkV} (h : RkP w g N k f) (hk : k < N) :
    RkP (((w.setCell ⟨g, k * 3, none⟩ (.int .i64 ((f k).f : Int))).setCell ⟨g, k * 3 + 1, none⟩ (.int .i64 ((f k).s : Int))).setCell ⟨g, k * 3 + 2, none⟩ (.int .i64 ((f k).c : Int))) g N (k + 1) f := by
  obtain ⟨e0, e1, e2⟩ := h.rest k (Nat.le_refl _) hk
  have far : ∀ j, j ≠ k * 3 → j ≠ k * 3 + 1 → j ≠ k * 3 + 2 → (((w.setCell ⟨g, k * 3, none⟩ (.int .i64 ((f k).f : Int))).setCell ⟨g, k * 3 + 1, none⟩ (.int .i64 ((f k).s : Int))).setCell ⟨g, k * 3 + 2, none⟩ (.int .i64 ((f k).c : Int))).cell? ⟨g, j, none⟩ = w.cell? ⟨g, j, none⟩ := fun j n0 n1 n2 => by
    rw [World.cell?_setCell_other _ _ _ _ (by intro e; injection e with _ e _; omega), World.cell?_setCell_other _ _ _ _ (by intro e; injection e with _ e _; omega), World.cell?_setCell_other _ _ _ _ (by intro e; injection e with _ e _; omega)]
  refine ⟨by simpa [World.setCell] using h.lt, fun i hi => ?_, fun i h1 h2 => by rw [far _ (by omega) (by omega) (by omega), far _ (by omega) (by omega) (by omega), far _ (by omega) (by omega) (by omega)]; exact h.rest i (by omega) h2, fun i => by rw [World.frozen?_setCell, World.frozen?_setCell, World.frozen?_setCell]; exact h.free i⟩
  by_cases c : i = k
  · subst c
    refine ⟨?_, ?_, ?_⟩
    · rw [World.cell?_setCell_other _ _ _ _ (by intro e; injection e with _ e _; omega), World.cell?_setCell_other _ _ _ _ (by intro e; injection e with _ e _; omega)]
      exact World.cell?_setCell_same _ _ _ e0
    · rw [World.cell?_setCell_other _ _ _ _ (by intro e; injection e with _ e _; omega)]
      exact World.cell?_setCell_same _ _ _ ((World.cell?_setCell_other _ _ _ _ (by intro e; injection e with _ e _; omega)).trans e1)
    · exact World.cell?_setCell_same _ _ _ ((World.cell?_setCell_other _ _ _ _ (by intro e; injection e with _ e _; omega)).trans ((World.cell?_setCell_other _ _ _ _ (by intro e; injection e with _ e _; omega)).trans e2))
  · rw [far _ (by omega) (by omega) (by omega), far _ (by omega) (by omega) (by omega), far _ (by omega) (by omega) (by omega)]
    exact h.laid i (by omega)
theorem rkp_new (w : World) (N : Nat) (f : Nat → RkV) : RkP (w.alloc (.cells (madeCells #[.int .i64 0, .int .i64 0, .int .i64 0] (N * 3)) 43)) w.heap.size N 0 f := by
  refine ⟨by simp, fun i hi => by omega, fun i _ hi => ?_, fun i => by simp [go_sem]⟩
  have m0 : i * 3 % 3 = 0 := by omega
  have m1 : (i * 3 + 1) % 3 = 1 := by omega
  have m2 : (i * 3 + 2) % 3 = 2 := by omega
  refine ⟨?_, ?_, ?_⟩
  · rw [World.cell?_alloc_at _ _ _ _ rfl]
    simp [madeCells, m0, show i * 3 < N * 3 by omega]
  · rw [World.cell?_alloc_at _ _ _ _ rfl]
    simp [madeCells, m1, show i * 3 + 1 < N * 3 by omega]
  · rw [World.cell?_alloc_at _ _ _ _ rfl]
    simp [madeCells, m2, show i * 3 + 2 < N * 3 by omega]
theorem kept_rk (w : World) (g o0 o1 o2 : Nat) (u0 u1 u2 : Value) : Kept (· = g) w (((w.setCell ⟨g, o0, none⟩ u0).setCell ⟨g, o1, none⟩ u1).setCell ⟨g, o2, none⟩ u2) :=
  ((Kept.setCell w ⟨g, o0, none⟩ u0).trans (Kept.setCell _ ⟨g, o1, none⟩ u1)).trans (Kept.setCell _ ⟨g, o2, none⟩ u2)
set_option maxRecDepth 100000 in
set_option maxHeartbeats 1000000 in
theorem elementwiseRk (N : Nat) (F : Nat) (cs : Array Value) (f : Nat → RkV) (w : World) (hN : (N : Int) ≤ 4096) (eF : ∀ args w, (callFunc F args).run Try.prog w = .ok (.enter F args) w)
    (hf : ∀ (k : Nat) (W : World), k < N → Below w.heap.size w W → Calls Try.prog F (#[.int .i64 k] ++ cs) W fun e W' => e = .returned (.agg #[.int .i64 ((f k).f : Int), .int .i64 ((f k).s : Int), .int .i64 ((f k).c : Int)]) ∧ Below W.heap.size W W') :
    Calls Try.prog 30 #[.int .i64 N, .func (.func F) #[] cs] w fun e w' => e = .returned (.slice (some ⟨w.heap.size, 0, none⟩) N N) ∧ RkP w' w.heap.size N N f ∧ Below w.heap.size w w' := by
  have hmk := make_rank N (by omega) w
  obtain ⟨W0, hW0⟩ : ∃ W0, w.alloc (.cells (madeCells #[.int .i64 0, .int .i64 0, .int .i64 0] (N * 3)) 43) = W0 := ⟨_, rfl⟩
  have o0 := rkp_new w N f
  rw [hW0] at o0 hmk
  have bl : Below w.heap.size w W0 := by rw [← hW0]; exact (Below.refl _ _).alloc (Nat.le_refl _) _
  have O0 := hide o0
  have BL := hide bl
  have HF := hide hf
  clear hf o0 bl hW0
  go_enter Try.func30, Try.ntmps30
  go_wp2_with fail
  clear hmk
  go_loopw [11] (fun i wx => ∃ k : Nat, k ≤ N ∧ i = .int .i64 k ∧ RkP wx w.heap.size N k f ∧ Below w.heap.size w wx) (fun i _ => N - (intOf i).toNat)
  case atStart => exact ⟨0, Nat.zero_le _, rfl, O0.out, BL.out⟩
  case round =>
    obtain ⟨X, rfl⟩ : ∃ X, X = wr := ⟨_, rfl⟩
    obtain ⟨k, hk, rfl, ho, hb⟩ := hrel
    have HO := hide ho
    have HB := hide hb
    clear ho hb
    by_cases hlt : k < N
    · have hkI : (k : Int) < N := by omega
      have CK := hide (HF.out k X hlt HB.out)
      obtain ⟨x0, hx0⟩ : ∃ x, (f k).f = x := ⟨_, rfl⟩
      obtain ⟨x1, hx1⟩ : ∃ x, (f k).s = x := ⟨_, rfl⟩
      obtain ⟨x2, hx2⟩ : ∃ x, (f k).c = x := ⟨_, rfl⟩
      rw [hx0, hx1, hx2] at CK
      have PUT := hide (fun (W : World) (h : RkP W w.heap.size N k f) => show RkP (((W.setCell ⟨w.heap.size, k * 3, none⟩ (.int .i64 (x0 : Int))).setCell ⟨w.heap.size, k * 3 + 1, none⟩ (.int .i64 (x1 : Int))).setCell ⟨w.heap.size, k * 3 + 2, none⟩ (.int .i64 (x2 : Int))) w.heap.size N (k + 1) f by
        have := h.put hlt
        rw [hx0, hx1, hx2] at this
        exact this)
      clear hx0 hx1 hx2
      go_wp2_with fail
      refine CK.out.mono ?_
      rintro e X1 ⟨rfl, b1⟩
      have O1 := hide (HO.out.below b1)
      have B1 := hide (HB.out.trans (b1.mono HB.out.size))
      obtain ⟨c0, c1, c2⟩ := O1.out.rest k (Nat.le_refl _) hlt
      have f0 := O1.out.free (k * 3)
      have f1 := O1.out.free (k * 3 + 1)
      have f2 := O1.out.free (k * 3 + 2)
      have gl := O1.out.lt
      clear b1 CK
      go_wp2_with fail
      go_roundw
      case rel =>
        exact ⟨k + 1, by omega, by go_num, PUT.out _ O1.out, B1.out.trans ((kept_rk _ _ _ _ _ _ _ _).below (Nat.le_of_lt gl) (fun b e => by rw [show b = w.heap.size from e]; exact Nat.le_refl _))⟩
      case measure => simp [intOf]; omega
    · have e : k = N := by omega
      subst e
      have kI : decide ((k : Int) < (k : Int)) = false := decide_eq_false (by omega)
      go_wp2_with fail
      go_ret
      exact ⟨rfl, HO.out, HB.out⟩
set_option maxHeartbeats 1000000 in
theorem nodes1 (n each g : Nat) (p q : Nat) (w : World) (hp : w.cell? ⟨p, 0, none⟩ = some (.int .i64 each)) (hq : w.cell? ⟨q, 0, none⟩ = some (.int .i64 n)) (n64 : n ≤ 64) (e1 : 1 ≤ each) (e64 : each ≤ 64) (hg : g < gcn n each) :
    Calls Try.prog 32 #[.int .i64 g, .pointer (some ⟨p, 0, none⟩), .pointer (some ⟨q, 0, none⟩)] w fun e W' => e = .returned (.agg #[.int .i64 ((grpRk n each g).f : Int), .int .i64 ((grpRk n each g).s : Int), .int .i64 ((grpRk n each g).c : Int)]) ∧ Below w.heap.size w W' := by
  have hb := (gcn_lt (n := n) (q := g) e1).2 hg
  have gg := gcn_le (n := n) e1
  obtain ⟨b, hbe⟩ : ∃ b, g * each = b := ⟨_, rfl⟩
  have gb : (g : Int) * (each : Int) = (b : Int) := by rw [← hbe]; simp
  rw [hbe] at hb
  have GV : (grpRk n each g) = ⟨b, 1, min each (n - b)⟩ := by unfold grpRk; rw [hbe]
  rw [GV]
  obtain ⟨W1, hW1⟩ : ∃ W1, w.alloc (.cells #[.int .i64 0, .int .i64 0, .int .i64 0] 43) = W1 := ⟨_, rfl⟩
  have b1 : Below w.heap.size w W1 := by rw [← hW1]; exact (Below.refl _ _).alloc (Nat.le_refl _) _
  have lp := World.block_lt_of_cell? _ _ hp
  have lq := World.block_lt_of_cell? _ _ hq
  have hp' : W1.cell? ⟨p, 0, none⟩ = some (.int .i64 each) := (b1.cell (p := ⟨p, 0, none⟩) lp).trans hp
  have hq' : W1.cell? ⟨q, 0, none⟩ = some (.int .i64 n) := (b1.cell (p := ⟨q, 0, none⟩) lq).trans hq
  have c0 : W1.cell? ⟨w.heap.size, 0, none⟩ = some (.int .i64 0) := by rw [← hW1]; simp [go_sem]
  have c1 : W1.cell? ⟨w.heap.size, 1, none⟩ = some (.int .i64 0) := by rw [← hW1]; simp [go_sem]
  have c2 : W1.cell? ⟨w.heap.size, 2, none⟩ = some (.int .i64 0) := by rw [← hW1]; simp [go_sem]
  have ff : ∀ k, W1.frozen? ⟨w.heap.size, k, none⟩ = false := fun k => by rw [← hW1]; simp [go_sem]
  have f0 := ff 0
  have f1 := ff 1
  have f2 := ff 2
  have BL := hide b1
  have wg : IntKind.i64.wrap ((g : Int) * (each : Int)) = (b : Int) := by rw [gb, IntKind.wrap_i64]; omega
  have wn : IntKind.i64.wrap ((n : Int) - (b : Int)) = (n : Int) - (b : Int) := by rw [IntKind.wrap_i64]; omega
  have em := hide (show ((min each (n - b) : Nat) : Int) = min (each : Int) ((n : Int) - (b : Int)) by omega)
  clear hp hq b1 ff hg hbe GV
  go_enter Try.func32, Try.ntmps32
  go_wp2_with fail
  all_goals first
    | (refine bodyPost_ret (v := .agg #[.int .i64 b, .int .i64 1, .int .i64 (each : Int)]) (by simp [results, Try.results32, go_sem, c0, c1, c2]) rfl ⟨by rw [show ((min each (n - b) : Nat) : Int) = (each : Int) by omega], ?_⟩
       repeat (refine Below.setCell ?_ (by show w.heap.size ≤ w.heap.size; omega) _)
       exact BL.out)
    | (refine bodyPost_ret (v := .agg #[.int .i64 b, .int .i64 1, .int .i64 ((n : Int) - (b : Int))]) (by simp [results, Try.results32, go_sem, c0, c1, c2]) rfl ⟨by rw [show ((min each (n - b) : Nat) : Int) = (n : Int) - (b : Int) by omega], ?_⟩
       repeat (refine Below.setCell ?_ (by show w.heap.size ≤ w.heap.size; omega) _)
       exact BL.out)
theorem tdivG {n each : Nat} (n1 : 1 ≤ n) (e1 : 1 ≤ each) : ((n : Int) + each - 1).tdiv each = (gcn n each : Int) := by
  unfold gcn
  rw [Int.tdiv_eq_ediv_of_nonneg (by omega)]
  have : (n : Int) + each - 1 = ((n + each - 1 : Nat) : Int) := by omega
  rw [this]
  rfl
theorem roundedUpN (n each : Nat) (w : World) (n1 : 1 ≤ n) (n64 : n ≤ 64) (e1 : 1 ≤ each) (e64 : each ≤ 64) :
    Calls Try.prog 31 #[.int .i64 n, .int .i64 each] w fun e w' => e = .returned (.int .i64 (gcn n each)) ∧ w' = w := by
  have gq := tdivG n1 e1
  have gl := gcn_le (n := n) e1
  have nz : ((each : Int) == 0) = false := by simp; omega
  have nz' : ¬ (each : Int) = 0 := by omega
  have e1I : (1 : Int) ≤ (each : Int) := by omega
  have wq1 : IntKind.i64.wrap ((n : Int) + (each : Int)) = (n : Int) + each := by rw [IntKind.wrap_i64]; omega
  have wq2 : IntKind.i64.wrap ((n : Int) + (each : Int) - 1) = (n : Int) + each - 1 := by rw [IntKind.wrap_i64]; omega
  obtain ⟨gc, hgc⟩ : ∃ gc, gcn n each = gc := ⟨_, rfl⟩
  rw [hgc] at gq gl ⊢
  have wq3 : IntKind.i64.wrap (gc : Int) = (gc : Int) := by rw [IntKind.wrap_i64]; omega
  clear hgc
  go_enter Try.func31, Try.ntmps31
  go_wp2_with fail
  go_ret
  exact ⟨rfl, rfl⟩
theorem ibN2 (x y : Int) : ib 1 64 2 (fun j => if j = 0 then x else y) = decide ((1 ≤ x ∧ x ≤ 64) ∧ (1 ≤ y ∧ y ≤ 64)) := by
  unfold ib
  rw [decide_eq_decide]
  constructor
  · intro h
    exact ⟨by simpa using h 0 (by omega), by simpa using h 1 (by omega)⟩
  · intro h i hi
    rcases (by omega : i = 0 ∨ i = 1) with rfl | rfl
    · simpa using h.1
    · simpa using h.2
theorem ints_lit2 (x y : Int) (hx : bd x) (hy : bd y) (w : World) : Ints (w.alloc (.cells #[.int .i64 x, .int .i64 y] 3)).heap.size (w.alloc (.cells #[.int .i64 x, .int .i64 y] 3)) (some ⟨w.heap.size, 0, none⟩) 2 (fun j => if j = 0 then x else y) :=
  .inr ⟨w.heap.size, 0, rfl, by simp, fun j hj => by
    rcases (by omega : j = 0 ∨ j = 1) with rfl | rfl
    · exact ⟨by simp [go_sem], by simpa using hx⟩
    · exact ⟨by simp [go_sem], by simpa using hy⟩⟩
/-- what Nodes answers -/
def nodesZ (x y : Int) : List (List Mov) := if (1 ≤ x ∧ x ≤ 64) ∧ (1 ≤ y ∧ y ≤ 64) then nodesL x.toNat y.toNat else []
theorem rkl_of {w : World} {g N : Nat} {f : Nat → RkV} (h : RkP w g N N f) : RkL w g ((List.range N).map f) :=
  ⟨h.lt, fun i hi => by
    have hi : i < N := by simpa using hi
    have := h.laid i hi
    simpa using this⟩
set_option maxHeartbeats 1000000 in
theorem implNodes (x y : Int) (w : World) (hx : bd x) (hy : bd y) : Calls Try.prog 14 #[.int .i64 x, .int .i64 y] w (RowsB (nodesZ x y) w) := by
  obtain ⟨W1, hW1⟩ : ∃ W1, (w.alloc (.cells #[.int .i64 x] 3)).alloc (.cells #[.int .i64 y] 3) = W1 := ⟨_, rfl⟩
  have b1 : Below w.heap.size w W1 := by rw [← hW1]; exact ((Below.refl _ _).alloc (Nat.le_refl _) _).alloc (by simp) _
  have z1 : W1.heap.size = w.heap.size + 2 := by rw [← hW1]; simp
  have c0 : W1.cell? ⟨w.heap.size, 0, none⟩ = some (.int .i64 x) := by rw [← hW1]; simp [go_sem]
  have c1 : W1.cell? ⟨w.heap.size + 1, 0, none⟩ = some (.int .i64 y) := by rw [← hW1]; simp [go_sem]
  obtain ⟨W2, hW2⟩ : ∃ W2, W1.alloc (.cells #[.int .i64 x, .int .i64 y] 3) = W2 := ⟨_, rfl⟩
  have b2 : Below W1.heap.size W1 W2 := by rw [← hW2]; exact (Below.refl _ _).alloc (Nat.le_refl _) _
  have CI := hide (inBoundsF W2.heap.size (some ⟨W1.heap.size, 0, none⟩) 2 2 (fun j => if j = 0 then x else y) 1 64 W2 (by decide) (Nat.le_refl _) (by rw [← hW2]; exact ints_lit2 x y hx hy W1) (by decide))
  rw [ibN2] at CI
  have B2 := hide (b1.trans (b2.mono b1.size))
  have BX := hide b2
  have BW := hide b1
  have C0 := hide (fun (W : World) (h : Below W1.heap.size W1 W) => show W.cell? ⟨w.heap.size, 0, none⟩ = some (.int .i64 x) ∧ W.cell? ⟨w.heap.size + 1, 0, none⟩ = some (.int .i64 y) from ⟨(h.cell (p := ⟨w.heap.size, 0, none⟩) (by show w.heap.size < W1.heap.size; omega)).trans c0, (h.cell (p := ⟨w.heap.size + 1, 0, none⟩) (by show w.heap.size + 1 < W1.heap.size; omega)).trans c1⟩)
  clear b1 b2 z1
  by_cases hb : (1 ≤ x ∧ x ≤ 64) ∧ (1 ≤ y ∧ y ≤ 64)
  case neg =>
    rw [decide_eq_false hb] at CI
    have ER := hide (show nodesZ x y = [] from if_neg hb)
    clear hb
    go_enter Try.func14, Try.ntmps14
    go_wp2_with fail
    refine CI.out.mono ?_
    rintro e w1 ⟨rfl, q1⟩
    have B3 := hide (B2.out.trans (q1.mono B2.out.size))
    clear CI q1 c0 c1
    go_wp2_with fail
    go_ret
    exact ⟨_, 0, [], rfl, (rowsM_new w1).mono B3.out.size, ER.out.symm, by simp, B3.out.trans ((show Below w1.heap.size w1 (w1.alloc (.cells #[] 30)) from (Below.refl _ _).alloc (Nat.le_refl _) _).mono B3.out.size)⟩
  rw [decide_eq_true hb] at CI
  obtain ⟨n, rfl⟩ : ∃ n : Nat, x = n := ⟨x.toNat, by omega⟩
  obtain ⟨each, rfl⟩ : ∃ n : Nat, y = n := ⟨y.toNat, by omega⟩
  have ER := hide (show nodesZ n each = tabL (grpsR n each) (scn (min each n)) (treeL (gcn n each) each) from by
    unfold nodesZ
    rw [if_pos hb, Int.toNat_natCast, Int.toNat_natCast]
    rfl)
  have n1 : 1 ≤ n := by omega
  have n64 : n ≤ 64 := by omega
  have e1 : 1 ≤ each := by omega
  have e64 : each ≤ 64 := by omega
  have gl : gcn n each ≤ 64 := Nat.le_trans (gcn_le e1) n64
  have g1 : 1 ≤ gcn n each := (gcn_lt (n := n) (q := 0) e1).1 (by omega)
  have GL := hide (And.intro g1 gl)
  have GK := hide (grps_ok e1 n64 e64 (gcn n each) (Nat.le_refl _))
  have CR := hide (fun (W : World) => roundedUpN n each W n1 n64 e1 e64)
  have C1 := hide (fun g (W : World) (hg : g < gcn n each) (hW : Below W1.heap.size W1 W) => nodes1 n each g (w.heap.size + 1) w.heap.size W (C0.out W hW).2 (C0.out W hW).1 n64 e1 e64 hg)
  have HR0 := hide (show (rkAt (grpsR n each) 0).c = min each n by
    unfold rkAt grpsR grpsK
    rw [List.getD_eq_getElem?_getD, List.getElem?_map, List.getElem?_range (by omega)]
    show min each (n - 0 * each) = _
    rw [Nat.zero_mul, Nat.sub_zero])
  clear hb hx hy
  go_enter Try.func14, Try.ntmps14
  go_wp2_with fail
  refine CI.out.mono ?_
  rintro e w1 ⟨rfl, q1⟩
  have Q1 := hide (BX.out.trans (q1.mono BX.out.size))
  obtain ⟨c0, c1⟩ := C0.out w1 Q1.out
  have zq := Q1.out.size
  clear CI q1
  go_wp2_with fail
  refine (CR.out _).mono ?_
  rintro e w2 ⟨rfl, rfl⟩
  have CE := hide (elementwiseRk (gcn n each) 32 #[.pointer (some ⟨w.heap.size + 1, 0, none⟩), .pointer (some ⟨w.heap.size, 0, none⟩)] (grpRk n each) w2 (by omega) (enters_of Try.func32 (by kernel_rfl) rfl)
    (fun k W hk hW => C1.out k W hk (Q1.out.trans (hW.mono zq))))
  obtain ⟨gc, hgc⟩ : ∃ gc, gcn n each = gc := ⟨_, rfl⟩
  rw [hgc] at CE ER GL GK ⊢
  have HG := hide hgc
  clear hgc gl g1 CR
  go_wp2_with fail
  refine CE.out.mono ?_
  rintro e w3 ⟨rfl, rk, q3⟩
  have RK := hide (show RkL w3 w2.heap.size (grpsR n each) by have := rkl_of rk; unfold grpsR grpsK; rw [HG.out]; exact this)
  have RKn := hide (show (grpsR n each).length = gc by unfold grpsR grpsK; rw [HG.out]; simp)
  have Q3 := hide (Q1.out.trans (q3.mono zq))
  obtain ⟨c0, c1⟩ := C0.out w3 Q3.out
  have B3 := hide (BW.out.trans (Q3.out.mono BW.out.size))
  have CT := hide (treeOfF 0 each gc w3 (by omega) e64 GL.out.2)
  rw [tree_is] at CT
  rw [show ((0 : Nat) : Int) = 0 from rfl] at CT
  clear rk q3 CE C1
  go_wp2_with fail
  refine CT.out.mono ?_
  rintro e w4 ⟨ab, cb, Lb, rfl, rb, cnb, nab, q4⟩
  obtain ⟨nb, hnb⟩ : ∃ nb, Lb.length = nb := ⟨_, rfl⟩
  rw [hnb] at rb nab ⊢
  have NBL := hide (show nb ≤ 200 by
    rw [← hnb, ← cnt_len, cnb]
    have := scn_le GL.out.2
    unfold treeL treeUp treeDn
    simp; omega)
  have CF := hide (tabF w3.heap.size w2.heap.size gc gc nb cb (min each n) (grpsR n each) ab Lb w4 RKn.out GL.out.1 GL.out.2 (RK.out.below q4) (by unfold grpsR; rw [HG.out]; exact GK.out) HR0.out rb q4.size hnb nab NBL.out)
  rw [cnb, ← ER.out] at CF
  have B4 := hide (B3.out.trans (q4.mono B3.out.size))
  have Z3 := hide B3.out.size
  clear rb cnb nab q4 CT hnb
  go_wp2_with fail
  refine CF.out.mono ?_
  rintro e w5 ⟨a, k, L, rfl, r, cn, an, q⟩
  have RR := hide (r.mono (E' := w.heap.size) Z3.out)
  have CN := hide cn
  have AN := hide an
  have BF := hide (B4.out.trans (q.mono B4.out.size))
  clear r cn an q CF
  go_wp2_with fail
  go_ret
  exact ⟨a, k, L, rfl, RR.out, CN.out, AN.out, BF.out⟩
set_option maxHeartbeats 1000000 in
theorem specNodes (x y : Int) (w : World) (hx : bd x) (hy : bd y) : Calls Try.prog 13 #[.int .i64 x, .int .i64 y] w (RowsA (nodesZ x y) w) := by
  by_cases hb : (1 ≤ x ∧ x ≤ 64) ∧ (1 ≤ y ∧ y ≤ 64)
  · obtain ⟨n, rfl⟩ : ∃ n : Nat, x = n := ⟨x.toNat, by omega⟩
    obtain ⟨each, rfl⟩ : ∃ n : Nat, y = n := ⟨y.toNat, by omega⟩
    have : nodesZ n each = nodesL n each := by
      unfold nodesZ
      rw [if_pos hb, Int.toNat_natCast, Int.toNat_natCast]
    rw [this]
    exact nodesS n each w (by omega) (by omega) (by omega) (by omega)
  have ER := hide (show nodesZ x y = [] from if_neg hb)
  obtain ⟨Y, hY⟩ : ∃ Y, w.alloc (.cells #[] 30) = Y := ⟨_, rfl⟩
  have R0 := hide (show RowsM w.heap.size Y (.slice (some ⟨w.heap.size, 0, none⟩) 0 0) [] by rw [← hY]; exact rowsM_new w)
  have BY := hide (show Below w.heap.size w Y by rw [← hY]; exact (Below.refl _ _).alloc (Nat.le_refl _) _)
  have CI1 := hide (l5InN x 1 64 Y)
  have CI2 := hide (l5InN y 1 64 Y)
  by_cases h1 : 1 ≤ x ∧ x ≤ 64
  · have h2 : ¬ (1 ≤ y ∧ y ≤ 64) := fun h => hb ⟨h1, h⟩
    rw [decide_eq_true h1] at CI1
    rw [decide_eq_false h2] at CI2
    clear h1 h2 hb
    go_enter Try.func13, Try.ntmps13
    go_wp2_with fail
    refine CI1.out.mono ?_
    rintro e W1 ⟨rfl, rfl⟩
    go_wp2_with fail
    refine CI2.out.mono ?_
    rintro e W1 ⟨rfl, rfl⟩
    go_wp2_with fail
    go_ret
    exact ⟨_, _, [], rfl, R0.out, ER.out.symm, BY.out⟩
  · rw [decide_eq_false h1] at CI1
    clear h1 hb
    go_enter Try.func13, Try.ntmps13
    go_wp2_with fail
    refine CI1.out.mono ?_
    rintro e W1 ⟨rfl, rfl⟩
    go_wp2_with fail
    go_ret
    exact ⟨_, _, [], rfl, R0.out, ER.out.symm, BY.out⟩
theorem nodes_small (x y : Int) : (nodesZ x y).length ≤ 200 ∧ totC (nodesZ x y) ≤ 819200 := by
  by_cases hb : (1 ≤ x ∧ x ≤ 64) ∧ (1 ≤ y ∧ y ≤ 64)
  · unfold nodesZ
    rw [if_pos hb]
    obtain ⟨n, hn⟩ : ∃ n, x.toNat = n := ⟨_, rfl⟩
    obtain ⟨e, he⟩ : ∃ n, y.toNat = n := ⟨_, rfl⟩
    rw [hn, he]
    have n64 : n ≤ 64 := by omega
    have e1 : 1 ≤ e := by omega
    have e64 : e ≤ 64 := by omega
    have gl : gcn n e ≤ 64 := Nat.le_trans (gcn_le e1) n64
    have s6 := scn_le (show min e n ≤ 64 by omega)
    have t6 := scn_le gl
    have hl : (nodesL n e).length ≤ 24 := by unfold nodesL tabL tabUp tabDn treeL treeUp treeDn; simp; omega
    have hm : ∀ j (b : Bool), (moa (grpsR n e) (2 ^ j) b).length ≤ 4096 := fun j b =>
      moa_small (R := grpsR n e) (n := gcn n e) (by unfold grpsR grpsK; simp) (grps_ok e1 n64 e64 _ (Nat.le_refl _)) gl Nat.one_le_two_pow b
    have ht : ∀ r ∈ treeL (gcn n e) e, r.length ≤ 64 := by
      intro r hr
      unfold treeL treeUp treeDn at hr
      rcases List.mem_append.1 hr with m | m
      · obtain ⟨j, _, rfl⟩ := List.mem_map.1 m
        rw [pairsL_len]; exact Nat.le_trans (pc_le Nat.one_le_two_pow) gl
      · obtain ⟨j, _, rfl⟩ := List.mem_map.1 m
        rw [pairsL_len]; exact Nat.le_trans (pc_le Nat.one_le_two_pow) gl
    have h : ∀ r ∈ nodesL n e, r.length ≤ 4096 := by
      intro r hr
      unfold nodesL tabL tabUp tabDn at hr
      rcases List.mem_append.1 hr with m | m
      · rcases List.mem_append.1 m with m | m
        · obtain ⟨j, _, rfl⟩ := List.mem_map.1 m
          exact hm j true
        · exact Nat.le_trans (ht r m) (by decide)
      · obtain ⟨j, _, rfl⟩ := List.mem_map.1 (List.mem_reverse.1 m)
        exact hm j false
    have := totC_le h
    exact ⟨by omega, by have := Nat.mul_le_mul_right 4096 hl; omega⟩
  · unfold nodesZ
    rw [if_neg hb]
    exact ⟨by simp, by simp [totC]⟩
end Vo
end Go.Proofs.Ytkllbolamgmmaaa
