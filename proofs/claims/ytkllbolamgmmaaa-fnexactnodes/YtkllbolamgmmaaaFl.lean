/- Ring: the program. -/
import Derived.Test.YtkllbolamgmmaaaFk
import Derived.Test.YtkllbolamgmmaaaQt
import Derived.Test.YtkllbolamgmmaaaIa
namespace Go.Proofs.Ytkllbolamgmmaaa
namespace Vo
open Go.ChangeShapes Go.WideShapes Go.ChangeAt Go.RowKit Go.Joins Go.Sort
open Vl
set_option linter.unusedVariables false
set_option linter.unusedSimpArgs false
/-- the Move of worker i of a round with an ahead -/
def aheadM (n : Nat) (h : Int) (d : Bool) (i : Nat) : Mov := ⟨i, ((i : Int) + 1) % n, ((i : Int) + h) % n, d⟩
theorem ahead_is (n h r i : Nat) (hh : Int) (e : hh = (h : Int) - r) : aheadM n hh ((h : Int) == 0) i = ringM n h r i := by
  unfold aheadM ringM
  congr 1
  rw [e]
  congr 1
  omega
set_option maxHeartbeats 1000000 in
theorem ringRound1 (n i : Nat) (h : Int) (d : Bool) (p q r : Nat) (w : World) (hp : w.cell? ⟨p, 0, none⟩ = some (.int .i64 n)) (hq : w.cell? ⟨q, 0, none⟩ = some (.int .i64 h)) (hr : w.cell? ⟨r, 0, none⟩ = some (.bool d)) (n1 : 1 ≤ n) (n64 : n ≤ 64) (hi : i < n) (h0 : -(n : Int) ≤ h) (h1 : h ≤ 64) :
    Calls Try.prog 38 #[.int .i64 i, .pointer (some ⟨p, 0, none⟩), .pointer (some ⟨q, 0, none⟩), .pointer (some ⟨r, 0, none⟩)] w fun e w' => e = .returned (.agg #[.int .i64 (aheadM n h d i).f, .int .i64 (aheadM n h d i).t, .int .i64 (aheadM n h d i).c, .bool (aheadM n h d i).d]) ∧ Below w.heap.size w w' := by
  obtain ⟨W1, hW1⟩ : ∃ W1, w.alloc (.cells #[.int .i64 0, .int .i64 0, .int .i64 0, .bool false] 33) = W1 := ⟨_, rfl⟩
  have b1 : Below w.heap.size w W1 := by rw [← hW1]; exact (Below.refl _ _).alloc (Nat.le_refl _) _
  have lp := World.block_lt_of_cell? _ _ hp
  have lq := World.block_lt_of_cell? _ _ hq
  have lr := World.block_lt_of_cell? _ _ hr
  have hp' : W1.cell? ⟨p, 0, none⟩ = some (.int .i64 n) := (b1.cell (p := ⟨p, 0, none⟩) lp).trans hp
  have hq' : W1.cell? ⟨q, 0, none⟩ = some (.int .i64 h) := (b1.cell (p := ⟨q, 0, none⟩) lq).trans hq
  have hr' : W1.cell? ⟨r, 0, none⟩ = some (.bool d) := (b1.cell (p := ⟨r, 0, none⟩) lr).trans hr
  have CZ := hide (show W1.cell? ⟨w.heap.size, 0, none⟩ = some (.int .i64 0) ∧ W1.cell? ⟨w.heap.size, 1, none⟩ = some (.int .i64 0) ∧ W1.cell? ⟨w.heap.size, 2, none⟩ = some (.int .i64 0) ∧ W1.cell? ⟨w.heap.size, 3, none⟩ = some (.bool false) from by
    rw [← hW1]
    exact ⟨by simp [go_sem], by simp [go_sem], by simp [go_sem], by simp [go_sem]⟩)
  have FZ := hide (show ∀ k, W1.frozen? ⟨w.heap.size, k, none⟩ = false from fun k => by rw [← hW1]; simp [go_sem])
  have BL := hide b1
  have s1 : w.heap.size < W1.heap.size := by rw [← hW1]; simp
  have nz : ((n : Int) == 0) = false := by simp; omega
  have nz' : ¬ (n : Int) = 0 := by omega
  have n1I : (1 : Int) ≤ (n : Int) := by omega
  have iI : (i : Int) < (n : Int) := by omega
  have w1 : IntKind.i64.wrap ((i : Int) + 1) = (i : Int) + 1 := by rw [IntKind.wrap_i64]; omega
  have w2 : IntKind.i64.wrap ((i : Int) + h) = (i : Int) + h := by rw [IntKind.wrap_i64]; omega
  have w3 : IntKind.i64.wrap ((i : Int) + h + (n : Int)) = (i : Int) + h + n := by rw [IntKind.wrap_i64]; omega
  have p3 : (0 : Int) ≤ (i : Int) + h + n := by omega
  clear hp hq hr b1
  go_enter Try.func38, Try.ntmps38
  go_wp2_with fail
  clear hW1
  refine Qt.region_tail_lit 14 (by kernel_rfl) (by kernel_rfl) ?_
  simp only [List.take_succ_cons, List.take_zero, List.drop_succ_cons, List.drop_zero]
  repeat (go_big_quiet_step (fail))
  refine wpQuiet_nil ?_
  intro _ hw'
  obtain ⟨nq, hw''⟩ := hw'
  subst hw''
  have bz := below_drewN (Below.refl W1.heap.size W1) nq
  obtain ⟨c0, c1, c2, c3⟩ := CZ.out
  have c0 := (bz.cell (p := ⟨w.heap.size, 0, none⟩) s1).trans c0
  have c1 := (bz.cell (p := ⟨w.heap.size, 1, none⟩) s1).trans c1
  have c2 := (bz.cell (p := ⟨w.heap.size, 2, none⟩) s1).trans c2
  have c3 := (bz.cell (p := ⟨w.heap.size, 3, none⟩) s1).trans c3
  have f0 := (bz.frozen (p := ⟨w.heap.size, 0, none⟩) s1).trans (FZ.out 0)
  have f1 := (bz.frozen (p := ⟨w.heap.size, 1, none⟩) s1).trans (FZ.out 1)
  have f2 := (bz.frozen (p := ⟨w.heap.size, 2, none⟩) s1).trans (FZ.out 2)
  have f3 := (bz.frozen (p := ⟨w.heap.size, 3, none⟩) s1).trans (FZ.out 3)
  have BZ := hide (BL.out.trans (bz.mono BL.out.size))
  clear hp' hq' hr' bz
  generalize W1.drewN nq = Y at *
  go_wp2_with fail
  refine bodyPost_ret (v := .agg #[.int .i64 i, .int .i64 (((i : Int) + 1) % n), .int .i64 (((i : Int) + h) % n), .bool d]) (by simp [results, Try.results38, go_sem, c0, c1, c2, c3]) rfl ⟨rfl, ?_⟩
  repeat (refine Below.setCell ?_ (by show w.heap.size ≤ w.heap.size; omega) _)
  exact BZ.out
set_option maxHeartbeats 1000000 in
theorem ringRoundF (n : Nat) (h : Int) (d : Bool) (w : World) (n1 : 1 ≤ n) (n64 : n ≤ 64) (h0 : -(n : Int) ≤ h) (h1 : h ≤ 64) :
    Calls Try.prog 20 #[.int .i64 n, .int .i64 h, .bool d] w fun e w' => ∃ g, e = .returned (.slice (some ⟨g, 0, none⟩) n n) ∧ OM w.heap.size w' (some ⟨g, 0, none⟩) ((List.range n).map (aheadM n h d)) ∧ Below w.heap.size w w' := by
  obtain ⟨W1, hW1⟩ : ∃ W1, ((w.alloc (.cells #[.int .i64 n] 3)).alloc (.cells #[.int .i64 h] 3)).alloc (.cells #[.bool d] 4) = W1 := ⟨_, rfl⟩
  have b1 : Below w.heap.size w W1 := by rw [← hW1]; exact (((Below.refl _ _).alloc (Nat.le_refl _) _).alloc (by simp) _).alloc (by simp; omega) _
  have z1 : W1.heap.size = w.heap.size + 3 := by rw [← hW1]; simp
  have c0 : W1.cell? ⟨w.heap.size, 0, none⟩ = some (.int .i64 n) := by rw [← hW1]; simp [go_sem]
  have c1 : W1.cell? ⟨w.heap.size + 1, 0, none⟩ = some (.int .i64 h) := by rw [← hW1]; simp [go_sem]
  have c2 : W1.cell? ⟨w.heap.size + 1 + 1, 0, none⟩ = some (.bool d) := by rw [← hW1]; simp [go_sem]
  have CE := hide (elementwiseMv n 38 #[.pointer (some ⟨w.heap.size, 0, none⟩), .pointer (some ⟨w.heap.size + 1, 0, none⟩), .pointer (some ⟨w.heap.size + 1 + 1, 0, none⟩)] (aheadM n h d) W1 (by omega) (enters_of Try.func38 (by kernel_rfl) rfl)
    (fun k W hk hW => ringRound1 n k h d w.heap.size (w.heap.size + 1) (w.heap.size + 1 + 1) W ((hW.cell (p := ⟨w.heap.size, 0, none⟩) (by show w.heap.size < W1.heap.size; omega)).trans c0) ((hW.cell (p := ⟨w.heap.size + 1, 0, none⟩) (by show w.heap.size + 1 < W1.heap.size; omega)).trans c1) ((hW.cell (p := ⟨w.heap.size + 1 + 1, 0, none⟩) (by show w.heap.size + 1 + 1 < W1.heap.size; omega)).trans c2) n1 n64 hk h0 h1))
  have BL := hide b1
  clear c1 c2 b1
  go_enter Try.func20, Try.ntmps20
  go_wp2_with fail
  refine CE.out.mono ?_
  rintro e w1 ⟨rfl, o1, q1⟩
  have O1 := hide (o1.mono BL.out.size)
  have B1 := hide (BL.out.trans (q1.mono BL.out.size))
  clear o1 q1 CE c0 z1
  go_wp2_with fail
  go_ret
  exact ⟨_, rfl, O1.out, B1.out⟩
/-- the rounds of one half -/
theorem ringHalf1 (n k : Nat) (p : Nat) (w : World) (hp : w.cell? ⟨p, 0, none⟩ = some (.int .i64 n)) (n1 : 1 ≤ n) (n64 : n ≤ 64) (hk : k < n - 1) :
    Calls Try.prog 19 #[.int .i64 k, .pointer (some ⟨p, 0, none⟩)] w fun e W' => ∃ a c, e = .returned (.slice a (ringRow n 0 k).length c) ∧ OM w.heap.size W' a (ringRow n 0 k) ∧ (a = none → (ringRow n 0 k).length = 0 ∧ c = 0) ∧ Below w.heap.size w W' := by
  have CR := hide (ringRoundF n (-(k : Int)) true w n1 n64 (by omega) (by omega))
  have RR := hide (show (List.range n).map (aheadM n (-(k : Int)) true) = ringRow n 0 k by
    unfold ringRow
    apply List.map_congr_left
    intro i _
    exact ahead_is n 0 k i (-(k : Int)) (by omega))
  have RL := hide (show (ringRow n 0 k).length = n by simp [ringRow])
  have wk : IntKind.i64.wrap (-(k : Int)) = -(k : Int) := by rw [IntKind.wrap_i64]; omega
  go_enter Try.func19, Try.ntmps19
  go_wp2_with fail
  refine CR.out.mono ?_
  rintro e w1 ⟨g, rfl, o1, q1⟩
  rw [RR.out] at o1
  have O1 := hide o1
  have B1 := hide q1
  clear o1 q1 CR
  go_wp2_with fail
  go_ret
  exact ⟨_, n, by rw [RL.out]; rfl, O1.out, by simp, B1.out⟩
theorem ringHalf2 (n k : Nat) (p : Nat) (w : World) (hp : w.cell? ⟨p, 0, none⟩ = some (.int .i64 n)) (n1 : 1 ≤ n) (n64 : n ≤ 64) (hk : k < n - 1) :
    Calls Try.prog 21 #[.int .i64 k, .pointer (some ⟨p, 0, none⟩)] w fun e W' => ∃ a c, e = .returned (.slice a (ringRow n 1 k).length c) ∧ OM w.heap.size W' a (ringRow n 1 k) ∧ (a = none → (ringRow n 1 k).length = 0 ∧ c = 0) ∧ Below w.heap.size w W' := by
  have CR := hide (ringRoundF n (1 - (k : Int)) false w n1 n64 (by omega) (by omega))
  have RR := hide (show (List.range n).map (aheadM n (1 - (k : Int)) false) = ringRow n 1 k by
    unfold ringRow
    apply List.map_congr_left
    intro i _
    exact ahead_is n 1 k i (1 - (k : Int)) (by omega))
  have RL := hide (show (ringRow n 1 k).length = n by simp [ringRow])
  have wk : IntKind.i64.wrap (1 - (k : Int)) = 1 - (k : Int) := by rw [IntKind.wrap_i64]; omega
  go_enter Try.func21, Try.ntmps21
  go_wp2_with fail
  refine CR.out.mono ?_
  rintro e w1 ⟨g, rfl, o1, q1⟩
  rw [RR.out] at o1
  have O1 := hide o1
  have B1 := hide q1
  clear o1 q1 CR
  go_wp2_with fail
  go_ret
  exact ⟨_, n, by rw [RL.out]; rfl, O1.out, by simp, B1.out⟩
/-- rows of one's own as raw cells -/
def rlOf (v : Option Addr × Nat × List VM) : RL := ⟨v.1, v.2.2.length, v.2.1, hdM v.2.2⟩
/-- what answers with rows of one's own, wherever their heads lie -/
def RowsB (R : List (List Mov)) (w : World) (e : Ending) (w' : World) : Prop :=
  ∃ a c L, e = .returned (.slice a L.length c) ∧ RowsM w.heap.size w' (.slice a L.length c) L ∧ cnt L = R ∧ (a = none → L.length = 0 ∧ c = 0) ∧ Below w.heap.size w w'
end Vo
end Go.Proofs.Ytkllbolamgmmaaa
