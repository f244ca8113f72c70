/- Ring: the model. -/
import Derived.Test.YtkllbolamgmmaaaFg
import Derived.Shelf.Abstract
import Derived.Test.YtkllbolamgmmaaaQf
namespace Go.Proofs.Ytkllbolamgmmaaa
namespace Vo
open Go.ChangeShapes Go.WideShapes Go.ChangeAt Go.RowKit Go.Joins Go.Sort
open Vl
set_option linter.unusedVariables false
set_option linter.unusedSimpArgs false
theorem infoMove : (Try.prog.info? 33).map (fun i => (i.zero, i.size, i.bytes)) = some (some (.agg #[.int .i64 0, .int .i64 0, .int .i64 0, .bool false]), 4, 32) := by kernel_rfl
theorem infoMoveS : (Try.prog.info? 30).map (fun i => (i.zero, i.size, i.bytes)) = some (some (.slice none 0 0), 1, 24) := by kernel_rfl
theorem l5InN (x lo hi : Int) (w : World) : Calls Try.prog 15 #[.int .i64 x, .int .i64 lo, .int .i64 hi] w fun e w' => e = .returned (.bool (decide (lo ≤ x ∧ x ≤ hi))) ∧ w' = w := by
  by_cases h1 : lo ≤ x
  · by_cases h2 : x ≤ hi
    · have e := hide (show decide (lo ≤ x ∧ x ≤ hi) = true from decide_eq_true ⟨h1, h2⟩)
      go_enter Try.func15, Try.ntmps15
      go_wp2_with fail
      go_ret
      exact ⟨by rw [e.out]; rfl, rfl⟩
    · have e := hide (show decide (lo ≤ x ∧ x ≤ hi) = false from decide_eq_false (fun h => h2 h.2))
      have h2' : decide (x ≤ hi) = false := decide_eq_false h2
      clear h2
      go_enter Try.func15, Try.ntmps15
      go_wp2_with fail
      go_ret
      exact ⟨by rw [e.out]; rfl, rfl⟩
  · have e := hide (show decide (lo ≤ x ∧ x ≤ hi) = false from decide_eq_false (fun h => h1 h.1))
    have h1' : decide (lo ≤ x) = false := decide_eq_false h1
    clear h1
    go_enter Try.func15, Try.ntmps15
    go_wp2_with fail
    go_ret
    exact ⟨by rw [e.out]; rfl, rfl⟩
theorem mod_is (x n : Int) (n1 : 1 ≤ n) : (x.tmod n + n).tmod n = x % n ∧ -n < x.tmod n ∧ x.tmod n < n := by
  have hb : -n < x.tmod n ∧ x.tmod n < n := by
    rcases Int.le_total 0 x with h | h
    · rw [Int.tmod_eq_emod_of_nonneg h]
      have := Int.emod_nonneg x (show n ≠ 0 by omega)
      have := Int.emod_lt_of_pos x (show 0 < n by omega)
      omega
    · have e : x.tmod n = -((-x) % n) := by rw [← Int.tmod_eq_emod_of_nonneg (by omega), Int.neg_tmod]; omega
      have := Int.emod_nonneg (-x) (show n ≠ 0 by omega)
      have := Int.emod_lt_of_pos (-x) (show 0 < n by omega)
      omega
  refine ⟨?_, hb⟩
  rw [Int.tmod_eq_emod_of_nonneg (by omega), Int.add_emod_right]
  have e : x.tmod n = x - n * x.tdiv n := by have := Int.mul_tdiv_add_tmod x n; omega
  rw [e, Int.sub_mul_emod_self_left]
theorem l18Mod (x n : Int) (w : World) (n1 : 1 ≤ n) (n2 : n ≤ 4611686018427387904) (hx : bd x) : Calls Try.prog 16 #[.int .i64 x, .int .i64 n] w fun e w' => e = .returned (.int .i64 (x % n)) ∧ w' = w := by
  obtain ⟨h1, h2, h3⟩ := mod_is x n n1
  unfold bd at hx
  have n0 : (n == 0) = false := by simp; omega
  have w1 : IntKind.i64.wrap (x.tmod n) = x.tmod n := by rw [IntKind.wrap_i64]; omega
  have w2 : IntKind.i64.wrap (x.tmod n + n) = x.tmod n + n := by rw [IntKind.wrap_i64]; omega
  have H1 := hide h1
  have e0 := Int.emod_nonneg x (show n ≠ 0 by omega)
  have e1 := Int.emod_lt_of_pos x (show 0 < n by omega)
  have w3 : IntKind.i64.wrap ((x.tmod n + n).tmod n) = (x.tmod n + n).tmod n := by rw [h1, IntKind.wrap_i64]; omega
  clear h1 e0 e1 h2 h3
  go_enter Try.func16, Try.ntmps16
  go_wp2_with fail
  go_ret
  exact ⟨by rw [← H1.out]; rfl, rfl⟩
section
variable {o : Oper} {A : Act} {w : World} {x y z u : Operand}
theorem runAddM {a b q : Int} (ho : o.op = .binOp .add 3 x y 3) (hx : A.eval x = .int .i64 a) (hy : A.eval y = .int .i64 b) (hq : IntKind.i64.wrap (a + b) = q) : (execOp A.eval o).run Try.prog w = .ok (.value (.int .i64 q)) w := by
  unfold execOp
  rw [ho]
  simp only [hx, hy]
  go_simp
theorem runAddK {a b q : Int} (ho : o.op = .binOp .add 3 x (.const (.int .i64 b)) 3) (hx : A.eval x = .int .i64 a) (hq : IntKind.i64.wrap (a + b) = q) : (execOp A.eval o).run Try.prog w = .ok (.value (.int .i64 q)) w := by
  unfold execOp
  rw [ho]
  simp only [hx]
  go_simp
theorem runSubM {a b q : Int} (ho : o.op = .binOp .sub 3 x y 3) (hx : A.eval x = .int .i64 a) (hy : A.eval y = .int .i64 b) (hq : IntKind.i64.wrap (a - b) = q) : (execOp A.eval o).run Try.prog w = .ok (.value (.int .i64 q)) w := by
  unfold execOp
  rw [ho]
  simp only [hx, hy]
  go_simp
theorem runRemM {a b : Int} (ho : o.op = .binOp .rem 3 x y 3) (hx : A.eval x = .int .i64 a) (hy : A.eval y = .int .i64 b) (a0 : 0 ≤ a) (hb : 1 ≤ b) (hz : ¬ b = 0) : (execOp A.eval o).run Try.prog w = .ok (.value (.int .i64 (a % b))) w := by
  unfold execOp
  rw [ho]
  simp only [hx, hy]
  go_simp
  rw [Int.tmod_eq_emod_of_nonneg a0]
theorem runEqlK {a b : Int} (ho : o.op = .binOp .eql 3 x (.const (.int .i64 b)) 3) (hx : A.eval x = .int .i64 a) : (execOp A.eval o).run Try.prog w = .ok (.value (.bool (a == b))) w := by
  unfold execOp
  rw [ho]
  simp only [hx]
  go_simp
theorem runBuildMv {a b c : Int} {d : Bool} (ho : o.op = .build 33 #[(0, x), (1, y), (2, z), (3, u)]) (hx : A.eval x = .int .i64 a) (hy : A.eval y = .int .i64 b) (hz : A.eval z = .int .i64 c) (hu : A.eval u = .bool d) : (execOp A.eval o).run Try.prog w = .ok (.value (.agg #[.int .i64 a, .int .i64 b, .int .i64 c, .bool d])) w := by
  unfold execOp
  rw [ho]
  simp only [List.map_toArray, List.map_cons, List.map_nil, hx, hy, hz, hu]
  go_simp
theorem runBuildMvS {a b c : Int} {d : Bool} (ho : o.op = .buildSlice 30 1 #[(0, x)]) (hx : A.eval x = .agg #[.int .i64 a, .int .i64 b, .int .i64 c, .bool d]) : (execOp A.eval o).run Try.prog w = .ok (.value (.slice (some ⟨w.heap.size, 0, none⟩) 1 1)) (w.alloc (.cells #[.int .i64 a, .int .i64 b, .int .i64 c, .bool d] 33)) := by
  unfold execOp
  rw [ho]
  simp only [List.map_toArray, List.map_cons, List.map_nil, hx]
  go_simp
end
/-- one Move of one's own in a slice -/
def OneM (E : Nat) (x : Mov) (v : Value) (w : World) : Prop := ∃ g, v = .slice (some ⟨g, 0, none⟩) 1 1 ∧ E ≤ g ∧ g < w.heap.size ∧ w.heap[g]? = some (.cells #[.int .i64 x.f, .int .i64 x.t, .int .i64 x.c, .bool x.d] 33 (0, 0))
theorem OneM.below {E : Nat} {x : Mov} {v : Value} {w w' : World} (h : OneM E x v w) (hb : Below w.heap.size w w') : OneM E x v w' := by
  obtain ⟨g, e, h1, h2, h3⟩ := h
  exact ⟨g, e, h1, Nat.lt_of_lt_of_le h2 hb.size, (hb.block g h2).trans h3⟩
/-- the Move of worker i in round r of a half -/
def ringM (n h r i : Nat) : Mov := ⟨i, ((i : Int) + 1) % n, ((i : Int) + h - r) % n, (h : Int) == 0⟩
def ringRow (n h r : Nat) : List Mov := (List.range n).map (ringM n h r)
def ringH (n h : Nat) : List (List Mov) := (List.range h).flatMap fun j => (List.range (n - 1)).map (ringRow n j)
def ringL (z : Int) : List (List Mov) := if 1 ≤ z ∧ z ≤ 64 then ringH z.toNat 2 else []
theorem range_more {α : Type} (f : Nat → α) (k : Nat) : (List.range (k + 1)).map f = (List.range k).map f ++ [f k] := by
  rw [List.range_succ, List.map_append]; rfl
theorem ringH_more (n h : Nat) : ringH n (h + 1) = ringH n h ++ (List.range (n - 1)).map (ringRow n h) := by
  unfold ringH
  rw [List.range_succ, List.flatMap_append]
  simp
theorem ringH_len (n h : Nat) : (ringH n h).length = h * (n - 1) := by
  induction h with
  | zero => simp [ringH]
  | succ h ih => rw [ringH_more, List.length_append, ih, List.length_map, List.length_range, Nat.succ_mul]
theorem RowMv.more {E n : Nat} {w' : World} {v : Value} {l : List Mov} {x : Mov} (hn : l.length = n) (h : w'.ownsRow E 33 4 v (n + 1) (mvb l ++ mcs x)) : RowMv E w' v (l ++ [x]) := by
  unfold RowMv
  rw [mvb_app, mvb_one, List.length_append, hn]
  exact h
theorem keptG {w w' : World} {o : Option Nat} (h : w.grownBy w' o) : Kept (fun k => o = some k) w w' := ⟨h.os, h.tape, h.output, h.size, fun k hk hn => h.block k hk (fun e => hn e.symm)⟩
/-- what answers with rows of one's own -/
def RowsA (R : List (List Mov)) (w : World) (e : Ending) (w' : World) : Prop :=
  ∃ g c L, e = .returned (.slice (some ⟨g, 0, none⟩) L.length c) ∧ RowsM w.heap.size w' (.slice (some ⟨g, 0, none⟩) L.length c) L ∧ cnt L = R ∧ Below w.heap.size w w'
set_option maxRecDepth 100000 in
set_option maxHeartbeats 800000 in
theorem specRing (z : Int) (w : World) (hz : bd z) : Calls Try.prog 6 #[.int .i64 z] w (RowsA (ringL z) w) := by
  obtain ⟨i0, hi0, hii⟩ := Option.map_eq_some_iff.1 infoMoveS
  obtain ⟨j0, hj0, hjj⟩ := Option.map_eq_some_iff.1 infoMove
  simp only [Prod.mk.injEq] at hii hjj
  obtain ⟨hz0, hz1, hz2⟩ := hii
  obtain ⟨gz0, gz1, gz2⟩ := hjj
  obtain ⟨Y, hY⟩ : ∃ Y, w.alloc (.cells #[] 30) = Y := ⟨_, rfl⟩
  have R0 := hide (show RowsM w.heap.size Y (.slice (some ⟨w.heap.size, 0, none⟩) 0 0) [] by rw [← hY]; exact rowsM_new w)
  have BY := hide (show Below w.heap.size w Y by rw [← hY]; exact (Below.refl _ _).alloc (Nat.le_refl _) _)
  have CI := hide (l5InN z 1 64 Y)
  go_enter Try.func6, Try.ntmps6
  by_cases hb : 1 ≤ z ∧ z ≤ 64
  case neg =>
    rw [decide_eq_false hb] at CI
    have ER := hide (show ringL z = [] from if_neg hb)
    clear hb hz
    go_wp2_with fail
    refine CI.out.mono ?_
    rintro e W1 ⟨rfl, rfl⟩
    go_wp2_with fail
    go_ret
    exact ⟨_, _, [], rfl, R0.out, ER.out.symm, BY.out⟩
  rw [decide_eq_true hb] at CI
  have ER := hide (show ringL z = ringH z.toNat 2 from if_pos hb)
  obtain ⟨n, rfl⟩ : ∃ n : Nat, z = n := ⟨z.toNat, by omega⟩
  rw [Int.toNat_natCast] at ER
  have n1 : 1 ≤ n := by omega
  have n64 : n ≤ 64 := by omega
  have nz : ((n : Int) == 0) = false := by simp; omega
  have RM := hide (ringH_more n)
  have RL := hide (ringH_len n)
  clear hb hz
  go_wp2_with fail
  refine CI.out.mono ?_
  rintro e W1 ⟨rfl, rfl⟩
  clear CI
  go_wp2_with fail
  clear hY
  go_loopw [3, 4] (fun o h wx => ∃ (j g c : Nat) (L : List VM), j ≤ 2 ∧ h = .int .i64 j ∧ o = .slice (some ⟨g, 0, none⟩) L.length c ∧ RowsM w.heap.size wx (.slice (some ⟨g, 0, none⟩) L.length c) L ∧ cnt L = ringH n j ∧ Below w.heap.size w wx) (fun _ h _ => 2 - (intOf h).toNat)
  case atStart => exact ⟨0, _, _, [], by omega, rfl, rfl, R0.out, rfl, BY.out⟩
  case round =>
    obtain ⟨V, rfl⟩ : ∃ V, V = wr := ⟨_, rfl⟩
    obtain ⟨j, g, c, L, hj, rfl, rfl, hr, hc, hby⟩ := hrel
    have HR := hide hr
    have HC := hide hc
    have HB := hide hby
    clear hr hc hby
    by_cases hlt : j < 2
    case neg =>
      obtain rfl : j = 2 := by omega
      go_wp2_with fail
      go_ret
      exact ⟨_, _, L, rfl, HR.out, HC.out.trans ER.out.symm, HB.out⟩
    have jI : (j : Int) < 2 := by omega
    go_wp2_with fail
    go_loopw [3, 5] (fun o h wx => ∃ (t g c : Nat) (L : List VM), t ≤ n - 1 ∧ h = .int .i64 t ∧ o = .slice (some ⟨g, 0, none⟩) L.length c ∧ RowsM w.heap.size wx (.slice (some ⟨g, 0, none⟩) L.length c) L ∧ cnt L = ringH n j ++ (List.range t).map (ringRow n j) ∧ Below w.heap.size w wx) (fun _ h _ => n - 1 - (intOf h).toNat)
    case atStart => exact ⟨0, _, _, L, by omega, rfl, rfl, HR.out, by rw [HC.out]; simp, HB.out⟩
    case round =>
      obtain ⟨X, rfl⟩ : ∃ X, X = wr := ⟨_, rfl⟩
      obtain ⟨t, g, c, L, ht, rfl, rfl, hr, hc, hby⟩ := hrel
      replace HR := hide hr
      replace HC := hide hc
      replace HB := hide hby
      clear hr hc hby
      by_cases htl : t < n - 1
      case neg =>
        obtain rfl : t = n - 1 := by omega
        have kI : decide (((n - 1 : Nat) : Int) < (n : Int) - 1) = false := decide_eq_false (by omega)
        go_wp2_with fail
        go_roundw
        all_goals first
          | (simp only [intOf]; omega)
          | (simp [intOf]; omega)
          | exact ⟨j + 1, _, _, L, by omega, by go_num, rfl, HR.out, by rw [HC.out, RM.out], HB.out⟩
      have kI : (t : Int) < (n : Int) - 1 := by omega
      have lenL : L.length = j * (n - 1) + t := by rw [← cnt_len, HC.out, List.length_append, RL.out]; simp
      have lenB : L.length ≤ 200 := by have : j * (n - 1) ≤ 2 * (n - 1) := Nat.mul_le_mul_right _ (by omega); omega
      obtain ⟨Z, hZ⟩ : ∃ Z, X.alloc (.cells #[] 33) = Z := ⟨_, rfl⟩
      have Q0 := hide (show RowMv X.heap.size Z (.slice (some ⟨X.heap.size, 0, none⟩) 0 0) [] by rw [← hZ]; exact rowMv_new X)
      have BZ := hide (show Below X.heap.size X Z by rw [← hZ]; exact (Below.refl _ _).alloc (Nat.le_refl _) _)
      clear lenL
      go_wp2_with fail
      clear hZ
      go_loopw [6, 7] (fun o h wx => ∃ (q g' c' : Nat), q ≤ n ∧ h = .int .i64 q ∧ o = .slice (some ⟨g', 0, none⟩) q c' ∧ RowMv X.heap.size wx (.slice (some ⟨g', 0, none⟩) q c') ((List.range q).map (ringM n j t)) ∧ Below X.heap.size X wx) (fun _ h _ => n - (intOf h).toNat)
      case atStart => exact ⟨0, _, _, by omega, rfl, rfl, Q0.out, BZ.out⟩
      case round =>
        obtain ⟨U, rfl⟩ : ∃ U, U = wr := ⟨_, rfl⟩
        obtain ⟨q, g', c', hq, rfl, rfl, hr, hby⟩ := hrel
        have HQ := hide hr
        have HU := hide hby
        clear hr hby
        by_cases hql : q < n
        case neg =>
          obtain rfl : q = n := by omega
          obtain ⟨a1, k1, e1, o1⟩ := HQ.out.own
          injection e1 with e1 e2 e3
          subst e1
          have OR := hide (show OM X.heap.size U (some ⟨g', 0, none⟩) (ringRow q j t) from o1)
          have RL := hide (show (ringRow q j t).length = q by simp [ringRow])
          have HH := hide ((HR.out.below HU.out).heads)
          clear o1 e2 e3
          go_wp2_with (at_builtin; refine wpList_append_lies _ rfl _ _ 22 rfl w.heap.size 30 i0 (.slice none 0 0) 1 24 Try.underlying22 hi0 hz0 hz1 hz2 rfl (by decide) _ _ _ rfl (HH.out.alloc _) ⟨U.heap.size, 0, none⟩ 1 1 [.slice (some ⟨g', 0, none⟩) q c'] rfl rfl (World.news_of_block (cs := #[.slice (some ⟨g', 0, none⟩) q c']) (t := 30) (fr := (0, 0)) (heap_alloc_new U _)) (by simp [Value.oneCell']) (by omega) (by unfold maxLen; omega) (by omega) (by have := HB.out.size; have := HU.out.size; simp; omega) (U.heap.size + 1) (by simp) ?_; intro g2 c2 X3 hown1 hgrow1 hat hlt3)
          go_roundw
          case rel =>
            have BA : Below U.heap.size U (U.alloc (.cells #[.slice (some ⟨g', 0, none⟩) q c'] 30)) := (Below.refl _ _).alloc (Nat.le_refl _) _
            have zz := HB.out.size
            have zu := HU.out.size
            have P := HR.out.put (X1 := U.alloc (.cells #[.slice (some ⟨g', 0, none⟩) q c'] 30)) (HU.out.trans (BA.mono zu)) zz (OR.out.below BA) (by rw [RL.out]; exact hown1) (keptG hgrow1) (H := U.heap.size + 1) (hat.imp id Eq.symm) (by simp)
            have LA : (L ++ [(⟨some ⟨g', 0, none⟩, c', ringRow q j t⟩ : VM)]).length = L.length + 1 := by rw [List.length_append]; rfl
            refine ⟨t + 1, g2, c2, L ++ [⟨some ⟨g', 0, none⟩, c', ringRow q j t⟩], by omega, by go_num, (by rw [LA]), (by rw [LA]; exact P), ?_, ?_⟩
            · rw [cnt_app, HC.out, List.append_assoc, range_more]
              rfl
            · exact (HB.out.trans ((HU.out.trans (BA.mono zu)).mono zz)).grown hgrow1 (by simp; omega) (fun b hb => (HR.out.heads.lt b hb).1)
          case measure => simp [intOf]; omega
        have qI : (q : Int) < (n : Int) := by omega
        have CM := hide (fun (W : World) => l18Mod ((q : Int) + (j : Int) - (t : Int)) (n : Int) W (by omega) (by omega) (by unfold bd; omega))
        have QL := hide (show ((List.range q).map (ringM n j t)).length = q by simp)
        have nz' : ¬ (n : Int) = 0 := by omega
        have n1I : (1 : Int) ≤ (n : Int) := by omega
        have q1I : (0 : Int) ≤ (q : Int) + 1 := by omega
        have wq : IntKind.i64.wrap ((q : Int) + 1) = (q : Int) + 1 := by rw [IntKind.wrap_i64]; omega
        have wj : IntKind.i64.wrap ((q : Int) + (j : Int)) = (q : Int) + j := by rw [IntKind.wrap_i64]; omega
        have wt : IntKind.i64.wrap ((q : Int) + (j : Int) - (t : Int)) = (q : Int) + j - t := by rw [IntKind.wrap_i64]; omega
        go_wp2_with fail
        refine Qf.facts2 17 (by kernel_rfl) (by kernel_rfl) (by kernel_rfl) (fun i v wx => match i with | 0 => v = .slice (some ⟨g', 0, none⟩) q c' | 1 => v = .int .i64 ((q : Int)) | 2 => v = .int .i64 ((q : Int)) | 3 => v = .int .i64 ((q : Int) + 1) | 4 => v = .int .i64 ((n : Int)) | 5 => v = .int .i64 (((q : Int) + 1) % n) | 6 => v = .int .i64 ((q : Int)) | 7 => v = .int .i64 ((j : Int)) | 8 => v = .int .i64 ((q : Int) + j) | 9 => v = .int .i64 ((t : Int)) | 10 => v = .int .i64 ((q : Int) + j - t) | 11 => v = .int .i64 ((n : Int)) | 12 => v = .int .i64 (((q : Int) + j - t) % n) | 13 => v = .int .i64 ((j : Int)) | 14 => v = .bool ((j : Int) == 0) | 15 => v = .agg #[.int .i64 (q : Int), .int .i64 (((q : Int) + 1) % n), .int .i64 (((q : Int) + j - t) % n), .bool ((j : Int) == 0)] | 16 => OneM U.heap.size (ringM n j t q) v wx | _ => True) ?stable ?steps ?rest
        case stable =>
          intro i v w1 w2 h hb
          match i, h with
          | 0, h => exact h
          | 1, h => exact h
          | 2, h => exact h
          | 3, h => exact h
          | 4, h => exact h
          | 5, h => exact h
          | 6, h => exact h
          | 7, h => exact h
          | 8, h => exact h
          | 9, h => exact h
          | 10, h => exact h
          | 11, h => exact h
          | 12, h => exact h
          | 13, h => exact h
          | 14, h => exact h
          | 15, h => exact h
          | 16, h => exact h.below hb
          | _ + 17, h => exact h
        case steps =>
          intro i o hi ho s A wS hb hk hA hO
          match i, hi, ho, hk with
          | 0, _, ho, hk =>
            cases ho
            exact Qf.lands_move _ rfl _ ((hO 6 (by rfl)).trans rfl) ⟨Below.refl _ _, rfl⟩
          | 1, _, ho, hk =>
            cases ho
            exact Qf.lands_move _ rfl _ ((hO 7 (by rfl)).trans rfl) ⟨Below.refl _ _, rfl⟩
          | 2, _, ho, hk =>
            cases ho
            exact Qf.lands_move _ rfl _ ((hO 7 (by rfl)).trans rfl) ⟨Below.refl _ _, rfl⟩
          | 3, _, ho, hk =>
            cases ho
            have h2 := hA 2 _ 31 (by decide) rfl rfl (by simp)
            have e2 := hk 2 (by kernel_rfl)
            rw [e2] at h2
            exact Qf.lands_val _ _ (runAddK rfl h2 wq) ⟨Below.refl _ _, rfl⟩
          | 4, _, ho, hk =>
            cases ho
            exact Qf.lands_move _ rfl _ ((hO 0 (by rfl)).trans rfl) ⟨Below.refl _ _, rfl⟩
          | 5, _, ho, hk =>
            cases ho
            have h3 := hA 3 _ 32 (by decide) rfl rfl (by simp)
            have e3 := hk 3 (by kernel_rfl)
            rw [e3] at h3
            have h4 := hA 4 _ 33 (by decide) rfl rfl (by simp)
            have e4 := hk 4 (by kernel_rfl)
            rw [e4] at h4
            exact Qf.lands_val _ _ (runRemM rfl h3 h4 q1I n1I nz') ⟨Below.refl _ _, rfl⟩
          | 6, _, ho, hk =>
            cases ho
            exact Qf.lands_move _ rfl _ ((hO 7 (by rfl)).trans rfl) ⟨Below.refl _ _, rfl⟩
          | 7, _, ho, hk =>
            cases ho
            exact Qf.lands_move _ rfl _ ((hO 4 (by rfl)).trans rfl) ⟨Below.refl _ _, rfl⟩
          | 8, _, ho, hk =>
            cases ho
            have h6 := hA 6 _ 35 (by decide) rfl rfl (by simp)
            have e6 := hk 6 (by kernel_rfl)
            rw [e6] at h6
            have h7 := hA 7 _ 36 (by decide) rfl rfl (by simp)
            have e7 := hk 7 (by kernel_rfl)
            rw [e7] at h7
            exact Qf.lands_val _ _ (runAddM rfl h6 h7 wj) ⟨Below.refl _ _, rfl⟩
          | 9, _, ho, hk =>
            cases ho
            exact Qf.lands_move _ rfl _ ((hO 5 (by rfl)).trans rfl) ⟨Below.refl _ _, rfl⟩
          | 10, _, ho, hk =>
            cases ho
            have h8 := hA 8 _ 37 (by decide) rfl rfl (by simp)
            have e8 := hk 8 (by kernel_rfl)
            rw [e8] at h8
            have h9 := hA 9 _ 38 (by decide) rfl rfl (by simp)
            have e9 := hk 9 (by kernel_rfl)
            rw [e9] at h9
            exact Qf.lands_val _ _ (runSubM rfl h8 h9 wt) ⟨Below.refl _ _, rfl⟩
          | 11, _, ho, hk =>
            cases ho
            exact Qf.lands_move _ rfl _ ((hO 0 (by rfl)).trans rfl) ⟨Below.refl _ _, rfl⟩
          | 12, _, ho, hk =>
            cases ho
            have h10 := hA 10 _ 39 (by decide) rfl rfl (by simp)
            have e10 := hk 10 (by kernel_rfl)
            rw [e10] at h10
            have h11 := hA 11 _ 40 (by decide) rfl rfl (by simp)
            have e11 := hk 11 (by kernel_rfl)
            rw [e11] at h11
            refine Qf.lands_call 16 _ _ rfl (enters_of Try.func16 (by kernel_rfl) rfl) _ (by simp [h10, h11]) ((CM.out _).mono ?_)
            rintro e wT ⟨rfl, rfl⟩
            exact ⟨_, rfl, Below.refl _ _, rfl⟩
          | 13, _, ho, hk =>
            cases ho
            exact Qf.lands_move _ rfl _ ((hO 4 (by rfl)).trans rfl) ⟨Below.refl _ _, rfl⟩
          | 14, _, ho, hk =>
            cases ho
            have h13 := hA 13 _ 42 (by decide) rfl rfl (by simp)
            have e13 := hk 13 (by kernel_rfl)
            rw [e13] at h13
            exact Qf.lands_val _ _ (runEqlK rfl h13) ⟨Below.refl _ _, rfl⟩
          | 15, _, ho, hk =>
            cases ho
            have h1 := hA 1 _ 30 (by decide) rfl rfl (by simp)
            have e1 := hk 1 (by kernel_rfl)
            rw [e1] at h1
            have h5 := hA 5 _ 34 (by decide) rfl rfl (by simp)
            have e5 := hk 5 (by kernel_rfl)
            rw [e5] at h5
            have h12 := hA 12 _ 41 (by decide) rfl rfl (by simp)
            have e12 := hk 12 (by kernel_rfl)
            rw [e12] at h12
            have h14 := hA 14 _ 43 (by decide) rfl rfl (by simp)
            have e14 := hk 14 (by kernel_rfl)
            rw [e14] at h14
            exact Qf.lands_val _ _ (runBuildMv rfl h1 h5 h12 h14) ⟨Below.refl _ _, rfl⟩
          | 16, _, ho, hk =>
            cases ho
            have h15 := hA 15 _ 44 (by decide) rfl rfl (by simp)
            have e15 := hk 15 (by kernel_rfl)
            rw [e15] at h15
            exact Qf.lands_val _ _ (runBuildMvS rfl h15) ⟨(Below.refl _ _).alloc (Nat.le_refl _) _, _, rfl, hb.size, by simp, heap_alloc_new _ _⟩
          | _ + 17, hi, _, _ => exact absurd hi (by omega)
        case rest =>
          intro s V1 hbV hk
          have e0 : s 0 = .slice (some ⟨g', 0, none⟩) q c' := hk 0 (by decide)
          obtain ⟨ga, e16, g1, g2, g3⟩ := hk 16 (by decide)
          clear hk
          have Q1 := hide (HQ.out.below hbV)
          have U1 := hide (HU.out.trans (hbV.mono HU.out.size))
          have QQ := hide (show V1.ownsRow X.heap.size 33 4 (.slice (some ⟨g', 0, none⟩) q c') q (mvb ((List.range q).map (ringM n j t))) by have := Q1.out; unfold RowMv at this; rw [QL.out] at this; exact this)
          clear hbV HQ HU CM
          simp only [List.take_succ_cons, List.take_zero, List.drop_succ_cons, List.drop_zero, Qf.lay, Qf.all1, if_true]
          simp only [e0, e16]
          simp only [Act.put, List.setIfInBounds_toArray, List.set_cons_succ, List.set_cons_zero]
          go_wp2_with (at_builtin; refine wpList_append_lies _ rfl _ _ 30 rfl X.heap.size 33 j0 (.agg #[.int .i64 0, .int .i64 0, .int .i64 0, .bool false]) 4 32 Try.underlying30 hj0 gz0 gz1 gz2 rfl (by decide) _ _ _ rfl QQ.out ⟨ga, 0, none⟩ 1 1 (mcs (ringM n j t q)) rfl rfl (World.news_of_block (cs := #[.int .i64 (ringM n j t q).f, .int .i64 (ringM n j t q).t, .int .i64 (ringM n j t q).c, .bool (ringM n j t q).d]) (t := 33) (fr := (0, 0)) g3) (by simp [Value.oneCell', mcs]) (by omega) (by unfold maxLen; omega) (by omega) (by have := U1.out.size; omega) _ rfl ?_; intro gN c2 X3 hown1 hgrow1 hat hlt3)
          have RW := hide (show RowMv X.heap.size X3 (.slice (some ⟨gN, 0, none⟩) (q + 1) c2) ((List.range (q + 1)).map (ringM n j t)) from by rw [range_more]; exact RowMv.more QL.out hown1)
          have GB := hide (U1.out.grown hgrow1 U1.out.size (fun b hb => (QQ.out.lt b hb).1))
          clear hown1 hgrow1 hat hlt3 Q1 U1 QQ
          go_roundw
          case rel => exact ⟨q + 1, _, _, hql, by go_num, rfl, RW.out, GB.out⟩
          case measure => simp [intOf]; omega
end Vo
end Go.Proofs.Ytkllbolamgmmaaa
