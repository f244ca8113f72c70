/- What a nest must be: the program's small functions. -/
import Derived.Test.YtgmjijjckedmcaaJk
namespace Go.Proofs.Ytgmjijjckedmcaa
namespace Vo
open Go.ChangeShapes Go.WideShapes Go.ChangeAt Go.RowKit Go.Joins Go.Sort
open Vl Vp
set_option linter.unusedVariables false
set_option linter.unusedSimpArgs false
theorem wi_one (y n : Int) : wi 1 (fun _ => y) n = decide (0 ≤ y ∧ y < n) := by
  unfold wi
  refine decide_eq_decide.2 ⟨fun h => h 0 (by omega), fun h j _ => h⟩
theorem wi_two (y z n : Int) : wi 2 (fun t => if t = 0 then y else z) n = decide ((0 ≤ y ∧ y < n) ∧ 0 ≤ z ∧ z < n) := by
  unfold wi
  refine decide_eq_decide.2 ⟨fun h => ⟨h 0 (by omega), h 1 (by omega)⟩, fun h j hj => ?_⟩
  rcases show j = 0 ∨ j = 1 by omega with rfl | rfl
  · exact h.1
  · exact h.2
theorem ints_new1 (w : World) (y : Int) (t : TypeId) (hy : bd y) : Ints (w.alloc (.cells #[.int .i64 y] t)).heap.size (w.alloc (.cells #[.int .i64 y] t)) (some ⟨w.heap.size, 0, none⟩) 1 (fun _ => y) := by
  refine .inr ⟨w.heap.size, 0, rfl, by simp, fun j hj => ?_⟩
  obtain rfl : j = 0 := by omega
  exact ⟨by simp [go_sem], hy⟩
theorem ints_new2 (w : World) (y z : Int) (t : TypeId) (hy : bd y) (hz : bd z) : Ints (w.alloc (.cells #[.int .i64 y, .int .i64 z] t)).heap.size (w.alloc (.cells #[.int .i64 y, .int .i64 z] t)) (some ⟨w.heap.size, 0, none⟩) 2 (fun t => if t = 0 then y else z) := by
  refine .inr ⟨w.heap.size, 0, rfl, by simp, fun j hj => ?_⟩
  rcases show j = 0 ∨ j = 1 by omega with rfl | rfl
  · exact ⟨by simp [go_sem], hy⟩
  · exact ⟨by simp [go_sem], hz⟩
/-- the work of a kernel -/
def wk (k : KV) : Int := if k.lr ≤ 12 then pd k.LD k.lr else 0
set_option maxHeartbeats 2000000 in
theorem workF (B : Nat) (k : KV) (w : World) (hB : B ≤ w.heap.size) (h : Ints B w k.la k.lr k.LD) :
    Calls Try.prog 58 #[k.val] w fun e w' => e = .returned (.int .i64 (wk k)) ∧ Below w.heap.size w w' := by
  obtain ⟨la, lr, lcap, LD, aa, an, acap, AA, ⟨u, o, ta, tr, tcap, TD⟩, sm, ca, cn, ccap, CC⟩ := k
  unfold KV.val
  dsimp only at *
  obtain ⟨K, hK⟩ : ∃ K : KV, K = ⟨la, lr, lcap, LD, aa, an, acap, AA, ⟨u, o, ta, tr, tcap, TD⟩, sm, ca, cn, ccap, CC⟩ := ⟨_, rfl⟩
  rw [← hK]
  have EK := hide (show wk K = if lr ≤ 12 then pd LD lr else 0 by rw [hK]; rfl)
  clear hK
  obtain ⟨W1, hW1⟩ : ∃ W1, w.alloc (.cells #[.slice la lr lcap, .slice aa an acap, .int .i64 u, .int .i64 o, .slice ta tr tcap, .bool sm, .slice ca cn ccap] 90) = W1 := ⟨_, rfl⟩
  have BL := hide (show Below w.heap.size w W1 by rw [← hW1]; exact (Below.refl _ _).alloc (Nat.le_refl _) _)
  have p := Cells7.new w (.slice la lr lcap) (.slice aa an acap) (.int .i64 u) (.int .i64 o) (.slice ta tr tcap) (.bool sm) (.slice ca cn ccap) 90
  rw [hW1] at p
  obtain ⟨p0, p1, p2, p3, p4, p5, p6⟩ := p
  have H := hide (h.below (BL.out.mono hB))
  clear h
  go_enter Try.func58, Try.ntmps58
  by_cases c1 : 12 < (lr : Int)
  · have e := hide (show wk K = 0 by rw [EK.out, if_neg (by omega)])
    have c1'' : decide (12 < lr) = true := decide_eq_true (by omega)
    go_wp2_with fail
    go_ret
    exact ⟨by rw [e.out]; rfl, BL.out⟩
  have c1' : decide (12 < (lr : Int)) = false := by rw [decide_eq_false_iff_not]; exact c1
  have c1'' : decide (12 < lr) = false := by rw [decide_eq_false_iff_not]; omega
  rw [if_pos (by omega)] at EK
  have lI : (lr : Int) ≤ 12 := by omega
  clear c1
  go_wp2_with fail
  clear p0 p1 p2 p3 p4 p5 p6 hW1
  go_loopw [3, 13] (fun n t wx => ∃ (j : Nat) (q : Int), j ≤ lr ∧ t = .int .i64 j ∧ n = .int .i64 q ∧ q = pd LD j ∧ 1 ≤ q ∧ q ≤ 65536 ∧ wx = W1) (fun _ t _ => lr - (intOf t).toNat)
  case atStart => exact ⟨0, 1, Nat.zero_le _, rfl, rfl, rfl, by omega, by omega, rfl⟩
  case round =>
    obtain ⟨j, q, hj, rfl, rfl, hq, q1, q2, rfl⟩ := hrel
    have HQ := hide hq
    clear hq
    by_cases hlt : j < lr
    · have jI : (j : Int) < lr := by omega
      rcases H.out with h0 | ⟨b, off, rfl, hbB, hc⟩
      · omega
      have cc := (hc j hlt).1
      clear hc
      obtain ⟨d, hd⟩ : ∃ d, LD j = d := ⟨_, rfl⟩
      rw [hd] at cc
      have ED := hide hd
      clear hd
      by_cases h1 : d < 1
      · have e := hide (show wk K = 0 by rw [EK.out]; exact pd_stop (.inl (by rw [ED.out]; exact h1)) hlt)
        go_wp2_with fail
        go_ret
        exact ⟨by rw [e.out]; rfl, BL.out⟩
      have h1' : decide (d < 1) = false := by rw [decide_eq_false_iff_not]; exact h1
      obtain ⟨t, ht⟩ : ∃ t, (65536 : Int).tdiv q = t := ⟨_, rfl⟩
      have ht' : (65536 : Int) / q = t := by rw [← ht, Int.tdiv_eq_ediv_of_nonneg (by omega)]
      have t0 : 0 ≤ t := by rw [← ht']; exact Int.ediv_nonneg (by omega) (by omega)
      have t1 : t ≤ 65536 := by rw [← ht']; exact Int.ediv_le_self _ (by omega)
      have key : d ≤ t ↔ q * d ≤ 65536 := by rw [← ht', Int.mul_comm]; exact Int.le_ediv_iff_mul_le (by omega)
      have qn : (q == 0) = false := by simp; omega
      have wt : IntKind.i64.wrap t = t := by rw [IntKind.wrap_i64]; omega
      by_cases h2 : t < d
      · have e := hide (show wk K = 0 by rw [EK.out]; exact pd_stop (.inr (by rw [ED.out, ← HQ.out]; omega)) hlt)
        clear h1 ht' key
        go_wp2_with fail
        go_ret
        exact ⟨by rw [e.out]; rfl, BL.out⟩
      have h2' : decide (t < d) = false := by rw [decide_eq_false_iff_not]; exact h2
      obtain ⟨m, hm⟩ : ∃ m, q * d = m := ⟨_, rfl⟩
      have m1 : m ≤ 65536 := by have := key.1 (by omega); omega
      have m0 : 1 ≤ m := by have := mul_one_le (p := q) (d := d) q1 (by omega); omega
      have hwr : IntKind.i64.wrap (q * d) = m := by rw [hm, IntKind.wrap_i64]; omega
      have e := hide (show m = pd LD (j + 1) by rw [pd_next (by rw [← HQ.out]; omega) (by rw [ED.out]; omega) (by rw [← HQ.out, ED.out, hm]; omega), ← HQ.out, ED.out, hm])
      clear h1 h2 hm ht' key
      go_wp2_with fail
      go_roundw
      all_goals first
        | (simp only [intOf]; omega)
        | (simp [intOf]; omega)
        | exact ⟨j + 1, m, by omega, by go_num, rfl, e.out, m0, m1, trivial⟩
    · obtain rfl : j = lr := by omega
      go_wp2_with fail
      go_ret
      exact ⟨by rw [EK.out, ← HQ.out]; rfl, BL.out⟩
theorem areNumbersF (B : Nat) (a : Option Addr) (r cap : Nat) (D : Nat → Int) (n : Int) (w : World) (hB : B ≤ w.heap.size) (h : Ints B w a r D) (hr : (r : Int) ≤ 1048576) :
    Calls Try.prog 86 #[.slice a r cap, .int .i64 n] w fun e w' => e = .returned (.bool (decide ((r : Int) = n ∧ WI r D 2147483647))) ∧ Below w.heap.size w w' := by
  have CW := hide (within B a r cap D 2147483647 w hB h hr)
  clear h
  go_enter Try.func86, Try.ntmps86
  by_cases c : (r : Int) = n
  · have c' : ((r : Int) == n) = true := by simp [c]
    by_cases d : WI r D 2147483647
    · have e := hide (decide_eq_true (show (r : Int) = n ∧ WI r D 2147483647 from ⟨c, d⟩))
      rw [show wi r D 2147483647 = true from decide_eq_true d] at CW
      clear c d
      go_wp2_with fail
      refine CW.out.mono ?_
      rintro e1 w1 ⟨rfl, b1⟩
      go_wp2_with fail
      go_ret
      exact ⟨by rw [e.out]; rfl, b1⟩
    · have e := hide (decide_eq_false (show ¬ ((r : Int) = n ∧ WI r D 2147483647) from fun q => d q.2))
      rw [show wi r D 2147483647 = false from decide_eq_false d] at CW
      clear c d
      go_wp2_with fail
      refine CW.out.mono ?_
      rintro e1 w1 ⟨rfl, b1⟩
      go_wp2_with fail
      go_ret
      exact ⟨by rw [e.out]; rfl, b1⟩
  · have c' : ((r : Int) == n) = false := by simp [c]
    have e := hide (decide_eq_false (show ¬ ((r : Int) = n ∧ WI r D 2147483647) from fun q => c q.1))
    clear c
    go_wp2_with fail
    go_ret
    exact ⟨by rw [e.out]; rfl, Below.refl _ _⟩
theorem cell_alloc_old' {p : Addr} {v : Value} (w : World) (o : Obj) (h : w.cell? p = some v) : (w.alloc o).cell? p = some v := by
  have := ((Below.refl w.heap.size w).alloc (Nat.le_refl _) o).cell (p := p) (World.block_lt_of_cell? _ _ h)
  rw [this]; exact h
set_option maxRecDepth 100000 in
set_option maxHeartbeats 8000000 in
theorem calcFits (x y z : Int) (k : Nat) (n : Int) (w : World) (hy : bd y) (hz : bd z) :
    Calls Try.prog 88 #[.agg #[.int .i64 x, .int .i64 y, .int .i64 z], .int .i64 k, .int .i64 n] w fun e w' => e = .returned (.bool (decide (stp ⟨x, y, z⟩ k n))) ∧ Below w.heap.size w w' := by
  obtain ⟨W1, hW1⟩ : ∃ W1, w.alloc (.cells #[.int .i64 x, .int .i64 y, .int .i64 z] 128) = W1 := ⟨_, rfl⟩
  have BL := hide (show Below w.heap.size w W1 by rw [← hW1]; exact (Below.refl _ _).alloc (Nat.le_refl _) _)
  have r0 : W1.cell? ⟨w.heap.size, 0, none⟩ = some (.int .i64 x) := by rw [← hW1]; simp [go_sem]
  have r1 : W1.cell? ⟨w.heap.size, 1, none⟩ = some (.int .i64 y) := by rw [← hW1]; simp [go_sem]
  have r2 : W1.cell? ⟨w.heap.size, 2, none⟩ = some (.int .i64 z) := by rw [← hW1]; simp [go_sem]
  have zz : w.heap.size < W1.heap.size := World.block_lt_of_cell? _ _ r0
  have BL1 := hide (BL.out.trans (show Below w.heap.size W1 (W1.alloc (.cells #[.int .i64 y] 3)) from (Below.refl _ _).alloc BL.out.size _))
  have BL2 := hide (BL.out.trans (show Below w.heap.size W1 (W1.alloc (.cells #[.int .i64 y, .int .i64 z] 3)) from (Below.refl _ _).alloc BL.out.size _))
  go_enter Try.func88, Try.ntmps88
  by_cases x1 : x = 1
  · subst x1
    by_cases q : 0 ≤ y ∧ y < n
    case neg =>
      have e := hide (decide_eq_false (show ¬ stp ⟨1, y, z⟩ k n from fun c => by unfold stp at c; dsimp only at c; omega))
      have CW := hide (within _ _ 1 1 (fun _ => y) n _ (Nat.le_refl _) (ints_new1 W1 y 3 hy) (by omega))
      rw [wi_one, decide_eq_false q] at CW
      clear q
      go_wp2_with fail
      refine CW.out.mono ?_
      rintro e1 w2 ⟨rfl, b2⟩
      have B2 := hide (BL1.out.trans (b2.mono BL1.out.size))
      go_wp2_with fail
      go_ret
      exact ⟨by rw [e.out]; rfl, B2.out⟩
    have CW := hide (within _ _ 1 1 (fun _ => y) n _ (Nat.le_refl _) (ints_new1 W1 y 3 hy) (by omega))
    rw [wi_one, decide_eq_true q] at CW
    by_cases z0 : z = 0
    · have e := hide (decide_eq_true (show stp ⟨1, y, z⟩ k n by unfold stp; dsimp only; omega))
      have z0' : (z == 0) = true := by simp [z0]
      clear q z0
      go_wp2_with fail
      refine CW.out.mono ?_
      rintro e1 w2 ⟨rfl, b2⟩
      have B2 := hide (BL1.out.trans (b2.mono BL1.out.size))
      have c2 := (b2.cell (p := ⟨w.heap.size, 2, none⟩) (by simp only [World.size_alloc]; show w.heap.size < _; omega)).trans (cell_alloc_old' W1 _ r2)
      go_wp2_with fail
      go_ret
      exact ⟨by rw [e.out]; rfl, B2.out⟩
    · have e := hide (decide_eq_false (show ¬ stp ⟨1, y, z⟩ k n from fun c => by unfold stp at c; dsimp only at c; omega))
      have z0' : (z == 0) = false := by simp [z0]
      clear q z0
      go_wp2_with fail
      refine CW.out.mono ?_
      rintro e1 w2 ⟨rfl, b2⟩
      have B2 := hide (BL1.out.trans (b2.mono BL1.out.size))
      have c2 := (b2.cell (p := ⟨w.heap.size, 2, none⟩) (by simp only [World.size_alloc]; show w.heap.size < _; omega)).trans (cell_alloc_old' W1 _ r2)
      go_wp2_with fail
      go_ret
      exact ⟨by rw [e.out]; rfl, B2.out⟩
  have x1' : (x == 1) = false := by simp [x1]
  by_cases x2 : x = 2
  · subst x2
    by_cases q : 0 ≤ y ∧ y < 2147483647
    case neg =>
      have e := hide (decide_eq_false (show ¬ stp ⟨2, y, z⟩ k n from fun c => by unfold stp at c; dsimp only at c; omega))
      have CW := hide (within _ _ 1 1 (fun _ => y) 2147483647 _ (Nat.le_refl _) (ints_new1 W1 y 3 hy) (by omega))
      rw [wi_one, decide_eq_false q] at CW
      clear q
      go_wp2_with fail
      refine CW.out.mono ?_
      rintro e1 w2 ⟨rfl, b2⟩
      have B2 := hide (BL1.out.trans (b2.mono BL1.out.size))
      go_wp2_with fail
      go_ret
      exact ⟨by rw [e.out]; rfl, B2.out⟩
    have CW := hide (within _ _ 1 1 (fun _ => y) 2147483647 _ (Nat.le_refl _) (ints_new1 W1 y 3 hy) (by omega))
    rw [wi_one, decide_eq_true q] at CW
    by_cases z0 : z = 0
    · have e := hide (decide_eq_true (show stp ⟨2, y, z⟩ k n by unfold stp; dsimp only; omega))
      have z0' : (z == 0) = true := by simp [z0]
      clear q z0
      go_wp2_with fail
      refine CW.out.mono ?_
      rintro e1 w2 ⟨rfl, b2⟩
      have B2 := hide (BL1.out.trans (b2.mono BL1.out.size))
      have c2 := (b2.cell (p := ⟨w.heap.size, 2, none⟩) (by simp only [World.size_alloc]; show w.heap.size < _; omega)).trans (cell_alloc_old' W1 _ r2)
      go_wp2_with fail
      go_ret
      exact ⟨by rw [e.out]; rfl, B2.out⟩
    · have e := hide (decide_eq_false (show ¬ stp ⟨2, y, z⟩ k n from fun c => by unfold stp at c; dsimp only at c; omega))
      have z0' : (z == 0) = false := by simp [z0]
      clear q z0
      go_wp2_with fail
      refine CW.out.mono ?_
      rintro e1 w2 ⟨rfl, b2⟩
      have B2 := hide (BL1.out.trans (b2.mono BL1.out.size))
      have c2 := (b2.cell (p := ⟨w.heap.size, 2, none⟩) (by simp only [World.size_alloc]; show w.heap.size < _; omega)).trans (cell_alloc_old' W1 _ r2)
      go_wp2_with fail
      go_ret
      exact ⟨by rw [e.out]; rfl, B2.out⟩
  have x2' : (x == 2) = false := by simp [x2]
  by_cases x3 : x = 3
  · subst x3
    have CW := hide (within _ _ 2 2 (fun t => if t = 0 then y else z) k _ (Nat.le_refl _) (ints_new2 W1 y z 3 hy hz) (by omega))
    rw [wi_two] at CW
    have e := hide (show decide ((0 ≤ y ∧ y < k) ∧ 0 ≤ z ∧ z < k) = decide (stp ⟨3, y, z⟩ k n) from decide_eq_decide.2 (by unfold stp; dsimp only; omega))
    rw [e.out] at CW
    go_wp2_with fail
    refine CW.out.mono ?_
    rintro e1 w2 ⟨rfl, b2⟩
    have B2 := hide (BL2.out.trans (b2.mono BL2.out.size))
    go_wp2_with fail
    go_ret
    exact ⟨rfl, B2.out⟩
  have x3' : (x == 3) = false := by simp [x3]
  by_cases x4 : x = 4
  · subst x4
    have CW := hide (within _ _ 2 2 (fun t => if t = 0 then y else z) k _ (Nat.le_refl _) (ints_new2 W1 y z 3 hy hz) (by omega))
    rw [wi_two] at CW
    have e := hide (show decide ((0 ≤ y ∧ y < k) ∧ 0 ≤ z ∧ z < k) = decide (stp ⟨4, y, z⟩ k n) from decide_eq_decide.2 (by unfold stp; dsimp only; omega))
    rw [e.out] at CW
    go_wp2_with fail
    refine CW.out.mono ?_
    rintro e1 w2 ⟨rfl, b2⟩
    have B2 := hide (BL2.out.trans (b2.mono BL2.out.size))
    go_wp2_with fail
    go_ret
    exact ⟨rfl, B2.out⟩
  have x4' : (x == 4) = false := by simp [x4]
  by_cases x5 : x = 5
  · subst x5
    have CW := hide (within _ _ 2 2 (fun t => if t = 0 then y else z) k _ (Nat.le_refl _) (ints_new2 W1 y z 3 hy hz) (by omega))
    rw [wi_two] at CW
    have e := hide (show decide ((0 ≤ y ∧ y < k) ∧ 0 ≤ z ∧ z < k) = decide (stp ⟨5, y, z⟩ k n) from decide_eq_decide.2 (by unfold stp; dsimp only; omega))
    rw [e.out] at CW
    go_wp2_with fail
    refine CW.out.mono ?_
    rintro e1 w2 ⟨rfl, b2⟩
    have B2 := hide (BL2.out.trans (b2.mono BL2.out.size))
    go_wp2_with fail
    go_ret
    exact ⟨rfl, B2.out⟩
  have x5' : (x == 5) = false := by simp [x5]
  by_cases x6 : x = 6
  · subst x6
    by_cases q : 0 ≤ y ∧ y < (k : Int)
    case neg =>
      have e := hide (decide_eq_false (show ¬ stp ⟨6, y, z⟩ k n from fun c => by unfold stp at c; dsimp only at c; omega))
      have CW := hide (within _ _ 1 1 (fun _ => y) (k : Int) _ (Nat.le_refl _) (ints_new1 W1 y 3 hy) (by omega))
      rw [wi_one, decide_eq_false q] at CW
      clear q
      go_wp2_with fail
      refine CW.out.mono ?_
      rintro e1 w2 ⟨rfl, b2⟩
      have B2 := hide (BL1.out.trans (b2.mono BL1.out.size))
      go_wp2_with fail
      go_ret
      exact ⟨by rw [e.out]; rfl, B2.out⟩
    have CW := hide (within _ _ 1 1 (fun _ => y) (k : Int) _ (Nat.le_refl _) (ints_new1 W1 y 3 hy) (by omega))
    rw [wi_one, decide_eq_true q] at CW
    by_cases z0 : z = 0
    · have e := hide (decide_eq_true (show stp ⟨6, y, z⟩ k n by unfold stp; dsimp only; omega))
      have z0' : (z == 0) = true := by simp [z0]
      clear q z0
      go_wp2_with fail
      refine CW.out.mono ?_
      rintro e1 w2 ⟨rfl, b2⟩
      have B2 := hide (BL1.out.trans (b2.mono BL1.out.size))
      have c2 := (b2.cell (p := ⟨w.heap.size, 2, none⟩) (by simp only [World.size_alloc]; show w.heap.size < _; omega)).trans (cell_alloc_old' W1 _ r2)
      go_wp2_with fail
      go_ret
      exact ⟨by rw [e.out]; rfl, B2.out⟩
    · have e := hide (decide_eq_false (show ¬ stp ⟨6, y, z⟩ k n from fun c => by unfold stp at c; dsimp only at c; omega))
      have z0' : (z == 0) = false := by simp [z0]
      clear q z0
      go_wp2_with fail
      refine CW.out.mono ?_
      rintro e1 w2 ⟨rfl, b2⟩
      have B2 := hide (BL1.out.trans (b2.mono BL1.out.size))
      have c2 := (b2.cell (p := ⟨w.heap.size, 2, none⟩) (by simp only [World.size_alloc]; show w.heap.size < _; omega)).trans (cell_alloc_old' W1 _ r2)
      go_wp2_with fail
      go_ret
      exact ⟨by rw [e.out]; rfl, B2.out⟩
  have x6' : (x == 6) = false := by simp [x6]
  by_cases x7 : x = 7
  · subst x7
    by_cases q : 0 ≤ y ∧ y < (k : Int)
    case neg =>
      have e := hide (decide_eq_false (show ¬ stp ⟨7, y, z⟩ k n from fun c => by unfold stp at c; dsimp only at c; omega))
      have CW := hide (within _ _ 1 1 (fun _ => y) (k : Int) _ (Nat.le_refl _) (ints_new1 W1 y 3 hy) (by omega))
      rw [wi_one, decide_eq_false q] at CW
      clear q
      go_wp2_with fail
      refine CW.out.mono ?_
      rintro e1 w2 ⟨rfl, b2⟩
      have B2 := hide (BL1.out.trans (b2.mono BL1.out.size))
      go_wp2_with fail
      go_ret
      exact ⟨by rw [e.out]; rfl, B2.out⟩
    have CW := hide (within _ _ 1 1 (fun _ => y) (k : Int) _ (Nat.le_refl _) (ints_new1 W1 y 3 hy) (by omega))
    rw [wi_one, decide_eq_true q] at CW
    by_cases z0 : z = 0
    · have e := hide (decide_eq_true (show stp ⟨7, y, z⟩ k n by unfold stp; dsimp only; omega))
      have z0' : (z == 0) = true := by simp [z0]
      clear q z0
      go_wp2_with fail
      refine CW.out.mono ?_
      rintro e1 w2 ⟨rfl, b2⟩
      have B2 := hide (BL1.out.trans (b2.mono BL1.out.size))
      have c2 := (b2.cell (p := ⟨w.heap.size, 2, none⟩) (by simp only [World.size_alloc]; show w.heap.size < _; omega)).trans (cell_alloc_old' W1 _ r2)
      go_wp2_with fail
      go_ret
      exact ⟨by rw [e.out]; rfl, B2.out⟩
    · have e := hide (decide_eq_false (show ¬ stp ⟨7, y, z⟩ k n from fun c => by unfold stp at c; dsimp only at c; omega))
      have z0' : (z == 0) = false := by simp [z0]
      clear q z0
      go_wp2_with fail
      refine CW.out.mono ?_
      rintro e1 w2 ⟨rfl, b2⟩
      have B2 := hide (BL1.out.trans (b2.mono BL1.out.size))
      have c2 := (b2.cell (p := ⟨w.heap.size, 2, none⟩) (by simp only [World.size_alloc]; show w.heap.size < _; omega)).trans (cell_alloc_old' W1 _ r2)
      go_wp2_with fail
      go_ret
      exact ⟨by rw [e.out]; rfl, B2.out⟩
  have x7' : (x == 7) = false := by simp [x7]
  by_cases x8 : x = 8
  · subst x8
    by_cases q : 0 ≤ y ∧ y < (k : Int)
    case neg =>
      have e := hide (decide_eq_false (show ¬ stp ⟨8, y, z⟩ k n from fun c => by unfold stp at c; dsimp only at c; omega))
      have CW := hide (within _ _ 1 1 (fun _ => y) (k : Int) _ (Nat.le_refl _) (ints_new1 W1 y 3 hy) (by omega))
      rw [wi_one, decide_eq_false q] at CW
      clear q
      go_wp2_with fail
      refine CW.out.mono ?_
      rintro e1 w2 ⟨rfl, b2⟩
      have B2 := hide (BL1.out.trans (b2.mono BL1.out.size))
      go_wp2_with fail
      go_ret
      exact ⟨by rw [e.out]; rfl, B2.out⟩
    have CW := hide (within _ _ 1 1 (fun _ => y) (k : Int) _ (Nat.le_refl _) (ints_new1 W1 y 3 hy) (by omega))
    rw [wi_one, decide_eq_true q] at CW
    by_cases z0 : z = 0
    · have e := hide (decide_eq_true (show stp ⟨8, y, z⟩ k n by unfold stp; dsimp only; omega))
      have z0' : (z == 0) = true := by simp [z0]
      clear q z0
      go_wp2_with fail
      refine CW.out.mono ?_
      rintro e1 w2 ⟨rfl, b2⟩
      have B2 := hide (BL1.out.trans (b2.mono BL1.out.size))
      have c2 := (b2.cell (p := ⟨w.heap.size, 2, none⟩) (by simp only [World.size_alloc]; show w.heap.size < _; omega)).trans (cell_alloc_old' W1 _ r2)
      go_wp2_with fail
      go_ret
      exact ⟨by rw [e.out]; rfl, B2.out⟩
    · have e := hide (decide_eq_false (show ¬ stp ⟨8, y, z⟩ k n from fun c => by unfold stp at c; dsimp only at c; omega))
      have z0' : (z == 0) = false := by simp [z0]
      clear q z0
      go_wp2_with fail
      refine CW.out.mono ?_
      rintro e1 w2 ⟨rfl, b2⟩
      have B2 := hide (BL1.out.trans (b2.mono BL1.out.size))
      have c2 := (b2.cell (p := ⟨w.heap.size, 2, none⟩) (by simp only [World.size_alloc]; show w.heap.size < _; omega)).trans (cell_alloc_old' W1 _ r2)
      go_wp2_with fail
      go_ret
      exact ⟨by rw [e.out]; rfl, B2.out⟩
  have x8' : (x == 8) = false := by simp [x8]
  by_cases x9 : x = 9
  · subst x9
    by_cases q : 0 ≤ y ∧ y < (k : Int)
    case neg =>
      have e := hide (decide_eq_false (show ¬ stp ⟨9, y, z⟩ k n from fun c => by unfold stp at c; dsimp only at c; omega))
      have CW := hide (within _ _ 1 1 (fun _ => y) (k : Int) _ (Nat.le_refl _) (ints_new1 W1 y 3 hy) (by omega))
      rw [wi_one, decide_eq_false q] at CW
      clear q
      go_wp2_with fail
      refine CW.out.mono ?_
      rintro e1 w2 ⟨rfl, b2⟩
      have B2 := hide (BL1.out.trans (b2.mono BL1.out.size))
      go_wp2_with fail
      go_ret
      exact ⟨by rw [e.out]; rfl, B2.out⟩
    have CW := hide (within _ _ 1 1 (fun _ => y) (k : Int) _ (Nat.le_refl _) (ints_new1 W1 y 3 hy) (by omega))
    rw [wi_one, decide_eq_true q] at CW
    by_cases z0 : z = 0
    · have e := hide (decide_eq_true (show stp ⟨9, y, z⟩ k n by unfold stp; dsimp only; omega))
      have z0' : (z == 0) = true := by simp [z0]
      clear q z0
      go_wp2_with fail
      refine CW.out.mono ?_
      rintro e1 w2 ⟨rfl, b2⟩
      have B2 := hide (BL1.out.trans (b2.mono BL1.out.size))
      have c2 := (b2.cell (p := ⟨w.heap.size, 2, none⟩) (by simp only [World.size_alloc]; show w.heap.size < _; omega)).trans (cell_alloc_old' W1 _ r2)
      go_wp2_with fail
      go_ret
      exact ⟨by rw [e.out]; rfl, B2.out⟩
    · have e := hide (decide_eq_false (show ¬ stp ⟨9, y, z⟩ k n from fun c => by unfold stp at c; dsimp only at c; omega))
      have z0' : (z == 0) = false := by simp [z0]
      clear q z0
      go_wp2_with fail
      refine CW.out.mono ?_
      rintro e1 w2 ⟨rfl, b2⟩
      have B2 := hide (BL1.out.trans (b2.mono BL1.out.size))
      have c2 := (b2.cell (p := ⟨w.heap.size, 2, none⟩) (by simp only [World.size_alloc]; show w.heap.size < _; omega)).trans (cell_alloc_old' W1 _ r2)
      go_wp2_with fail
      go_ret
      exact ⟨by rw [e.out]; rfl, B2.out⟩
  have x9' : (x == 9) = false := by simp [x9]
  have e := hide (decide_eq_false (show ¬ stp ⟨x, y, z⟩ k n from fun c => by unfold stp at c; dsimp only at c; omega))
  clear x1 x2 x3 x4 x5 x6 x7 x8 x9
  go_wp2_with fail
  go_ret
  exact ⟨by rw [e.out]; rfl, BL.out⟩
end Vo
end Go.Proofs.Ytgmjijjckedmcaa
