/- Scales on both sides; what a real is as a byte, and back. -/
import Derived.Test.YtabjpemneimljaaIa
import Derived.Test.YtabjpemneimljaaNea
namespace Go.Proofs.Ytabjpemneimljaa
namespace Vo
open Go.ChangeShapes Go.WideShapes Go.ChangeAt Go.RowKit Go.Joins Go.Sort
open Vl
set_option linter.unusedVariables false
set_option linter.unusedSimpArgs false
theorem one_new (x : Int) (w : World) (ty : TypeId) (hx : bd x) : Ints (w.heap.size + 1) (w.alloc (.cells #[.int .i64 x] ty)) (some ⟨w.heap.size, 0, none⟩) 1 (fun _ => x) :=
  .inr ⟨_, 0, rfl, by simp, fun j hj => by
    obtain rfl : j = 0 := by omega
    exact ⟨by simp [go_sem], hx⟩⟩
theorem inB_one (l m x : Int) (b : Bool) (P : Nat) (w : World) (hl : l ≤ m) (hx : bd x) (hb : decide (l ≤ x ∧ x ≤ m) = b) (hP : P = w.heap.size) :
    Calls Try.prog 39 #[.int .i64 l, .int .i64 m, .slice (some ⟨P, 0, none⟩) 1 1] (w.alloc (.cells #[.int .i64 x] 3)) fun e w' => e = .returned (.bool b) ∧ Below w.heap.size w w' := by
  subst hP
  refine (inBoundsF (w.heap.size + 1) _ 1 1 (fun _ => x) l m _ hl (by simp) (one_new x w _ hx) (by decide)).mono ?_
  rintro e w' ⟨rfl, b1⟩
  exact ⟨by rw [ib_one, hb], ((Below.refl _ _).alloc (Nat.le_refl _) _).trans (b1.mono (by simp))⟩
theorem bytes_one (x : Int) (b : Bool) (P : Nat) (w : World) (hx : bd x) (hb : decide (0 ≤ x ∧ x ≤ 255) = b) (hP : P = w.heap.size) :
    Calls Try.prog 29 #[.slice (some ⟨P, 0, none⟩) 1 1] (w.alloc (.cells #[.int .i64 x] 3)) fun e w' => e = .returned (.bool b) ∧ Below w.heap.size w w' := by
  subst hP
  refine (areBytesF (w.heap.size + 1) _ 1 1 (fun _ => x) _ (by simp) (one_new x w _ hx) (by decide)).mono ?_
  rintro e w' ⟨rfl, b1⟩
  exact ⟨by rw [ib_one, hb], ((Below.refl _ _).alloc (Nat.le_refl _) _).trans (b1.mono (by simp))⟩
theorem reals_one (x : Int) (b : Bool) (P : Nat) (w : World) (hx : bd x) (hb : decide (-1099511627776 ≤ x ∧ x ≤ 1099511627776) = b) (hP : P = w.heap.size) :
    Calls Try.prog 30 #[.slice (some ⟨P, 0, none⟩) 1 1] (w.alloc (.cells #[.int .i64 x] 3)) fun e w' => e = .returned (.bool b) ∧ Below w.heap.size w w' := by
  subst hP
  refine (areRealsF (w.heap.size + 1) _ 1 1 (fun _ => x) _ (by simp) (one_new x w _ hx) (by decide)).mono ?_
  rintro e w' ⟨rfl, b1⟩
  exact ⟨by rw [ib_one, hb], ((Below.refl _ _).alloc (Nat.le_refl _) _).trans (b1.mono (by simp))⟩
theorem sc_f1 {s z : Int} (h : ¬ (1 ≤ s ∧ s ≤ 1099511627776)) : scOk s z = false := decide_eq_false (fun q => h q.1)
theorem sc_f2 {s z : Int} (h : ¬ (0 ≤ z ∧ z ≤ 255)) : scOk s z = false := decide_eq_false (fun q => h q.2)
theorem sc_t {s z : Int} (h : 1 ≤ s ∧ s ≤ 1099511627776) (h' : 0 ≤ z ∧ z ≤ 255) : scOk s z = true := decide_eq_true ⟨h, h'⟩
theorem sc_of {s z : Int} (h : scOk s z = true) : (1 ≤ s ∧ s ≤ 1099511627776) ∧ (0 ≤ z ∧ z ≤ 255) := of_decide_eq_true h
theorem toScale (n d : Int) (w : World) :
    Calls Try.prog 19 #[.agg #[.int .i64 n, .int .i64 d]] w fun e w' => e = .returned (.agg #[.int .i64 n, .int .i64 d]) ∧ Below w.heap.size w w' := by
  go_enter Try.func19, Try.ntmps19
  go_wp2
  refine bodyPost_ret (v := .agg #[.int .i64 n, .int .i64 d]) (by simp [results, Try.results19, go_sem]) rfl ⟨rfl, ?_⟩
  exact (((Below.refl _ _).alloc (Nat.le_refl _) _).alloc (by simp) _).alloc (by simp; omega) _
theorem eqScale (s z : Int) (w : World) :
    Calls Try.prog 23 #[.agg #[.int .i64 s, .int .i64 z], .agg #[.int .i64 s, .int .i64 z]] w fun e w' => e = .returned (.bool true) ∧ Below w.heap.size w w' := by
  go_enter Try.func23, Try.ntmps23
  go_wp2_with fail
  go_ret
  exact ⟨rfl, ((Below.refl _ _).alloc (Nat.le_refl _) _).alloc (by simp) _⟩
theorem specScaleOk (s z : Int) (w : World) :
    Calls Try.prog 12 #[.agg #[.int .i64 s, .int .i64 z]] w fun e w' => e = .returned (.bool (scOk s z)) ∧ Below w.heap.size w w' := by
  have I1 := hide (fun w => inS s 1 1099511627776 w)
  have I2 := hide (fun w => inS z 0 255 w)
  by_cases c1 : 1 ≤ s ∧ s ≤ 1099511627776
  · have e1 := hide (decide_eq_true c1)
    by_cases c2 : 0 ≤ z ∧ z ≤ 255
    · have e2 := hide (decide_eq_true c2)
      have e := hide (sc_t c1 c2)
      clear c1 c2
      go_enter Try.func12, Try.ntmps12
      go_wp2_with fail
      refine (I1.out _).mono ?_; rintro e3 w1 ⟨rfl, rfl⟩
      rw [e1.out]
      go_wp2_with fail
      refine (I2.out _).mono ?_; rintro e3 w1 ⟨rfl, rfl⟩
      rw [e2.out]
      go_wp2_with fail
      go_ret
      exact ⟨ret_bool e.out.symm, (Below.refl _ _).alloc (Nat.le_refl _) _⟩
    · have e2 := hide (decide_eq_false c2)
      have e := hide (sc_f2 (s := s) c2)
      clear c1 c2
      go_enter Try.func12, Try.ntmps12
      go_wp2_with fail
      refine (I1.out _).mono ?_; rintro e3 w1 ⟨rfl, rfl⟩
      rw [e1.out]
      go_wp2_with fail
      refine (I2.out _).mono ?_; rintro e3 w1 ⟨rfl, rfl⟩
      rw [e2.out]
      go_wp2_with fail
      go_ret
      exact ⟨ret_bool e.out.symm, (Below.refl _ _).alloc (Nat.le_refl _) _⟩
  · have e1 := hide (decide_eq_false c1)
    have e := hide (sc_f1 (z := z) c1)
    clear c1
    go_enter Try.func12, Try.ntmps12
    go_wp2_with fail
    refine (I1.out _).mono ?_; rintro e3 w1 ⟨rfl, rfl⟩
    rw [e1.out]
    go_wp2_with fail
    go_ret
    exact ⟨ret_bool e.out.symm, (Below.refl _ _).alloc (Nat.le_refl _) _⟩
theorem implScaleOk (s z : Int) (w : World) (hs : bd s) (hz : bd z) :
    Calls Try.prog 16 #[.agg #[.int .i64 s, .int .i64 z]] w fun e w' => e = .returned (.bool (scOk s z)) ∧ Below w.heap.size w w' := by
  have HS := hide hs
  have HZ := hide hz
  clear hs hz
  have key : ∀ b1 b2 : Bool, decide (1 ≤ s ∧ s ≤ 1099511627776) = b1 → decide (0 ≤ z ∧ z ≤ 255) = b2 → scOk s z = (b1 && b2) → Calls Try.prog 16 #[.agg #[.int .i64 s, .int .i64 z]] w fun e w' => e = .returned (.bool (scOk s z)) ∧ Below w.heap.size w w' := by
    intro b1 b2 h1 h2 h3
    have E1 := hide h1
    have E2 := hide h2
    have E3 := hide h3
    clear h1 h2 h3
    cases b1
    · go_enter Try.func16, Try.ntmps16
      go_wp2_with fail
      refine (inB_one _ _ _ false _ _ (by decide) HS.out E1.out (by simp)).mono ?_; rintro e3 w1 ⟨rfl, q1⟩
      go_wp2_with fail
      go_ret
      exact ⟨ret_bool E3.out.symm, ((Below.refl _ _).alloc (Nat.le_refl _) _).trans (q1.mono (by simp))⟩
    · go_enter Try.func16, Try.ntmps16
      go_wp2_with fail
      refine (inB_one _ _ _ true _ _ (by decide) HS.out E1.out (by simp)).mono ?_; rintro e3 w1 ⟨rfl, q1⟩
      have k1 : w1.cell? ⟨w.heap.size, 1, none⟩ = some (.int .i64 z) := by rw [q1.cell (p := ⟨w.heap.size, 1, none⟩) (by simp)]; simp [go_sem]
      have s1 := q1.size
      simp at s1
      have S1 := hide s1
      clear s1
      go_wp2_with fail
      refine (bytes_one _ b2 _ _ HZ.out E2.out rfl).mono ?_; rintro e3 w2 ⟨rfl, q2⟩
      go_wp2_with fail
      go_ret
      exact ⟨ret_bool (by rw [E3.out]; simp), (((Below.refl _ _).alloc (Nat.le_refl _) _).trans (q1.mono (by simp))).trans (q2.mono (by have := S1.out; omega))⟩
  refine key _ _ rfl rfl ?_
  unfold scOk
  rw [Bool.decide_and]
theorem mul255 {s y : Int} (s0 : 1 ≤ s) (s1 : s ≤ 1099511627776) (y0 : -255 ≤ y) (y1 : y ≤ 255) : -280375465082880 ≤ s * y ∧ s * y ≤ 280375465082880 := by
  have h : (s * y).natAbs ≤ 1099511627776 * 255 := by
    rw [Int.natAbs_mul]; exact Nat.mul_le_mul (by omega) (by omega)
  generalize s * y = z at *
  omega
set_option maxHeartbeats 1000000 in
/-- a byte's value: both sides answer one number, not far from 0 -/
theorem valueBoth (s z q : Int) (hs : bd s) (hz : bd z) (hq : bd q) : ∃ v : Int, (-280375465082880 ≤ v ∧ v ≤ 280375465082880) ∧ (v = if scOk s z = true ∧ 0 ≤ q ∧ q ≤ 255 then s * (q - z) else 0) ∧
    (∀ w, Calls Try.prog 20 #[.agg #[.int .i64 s, .int .i64 z], .int .i64 q] w fun e w' => e = .returned (.int .i64 v) ∧ Below w.heap.size w w') ∧
    (∀ w, Calls Try.prog 10 #[.agg #[.int .i64 s, .int .i64 z], .int .i64 q] w fun e w' => e = .returned (.int .i64 v) ∧ Below w.heap.size w w') := by
  have CS := hide (fun w => specScaleOk s z w)
  have CI := hide (fun w => implScaleOk s z w hs hz)
  have IS := hide (fun w => inS q 0 255 w)
  have HQ := hide hq
  clear hs hz hq
  by_cases c1 : scOk s z = true
  · have E1 := hide c1
    by_cases c2 : 0 ≤ q ∧ q ≤ 255
    · obtain ⟨⟨s0, s1⟩, z0, z1⟩ := sc_of c1
      have E2 := hide (decide_eq_true c2)
      obtain ⟨q0, q1⟩ := c2
      obtain ⟨m0, m1⟩ := mul255 (y := q - z) s0 s1 (by omega) (by omega)
      refine ⟨s * (q - z), ⟨m0, m1⟩, by rw [if_pos ⟨c1, q0, q1⟩], fun w => ?_, fun w => ?_⟩
      · clear c1
        go_enter Try.func20, Try.ntmps20
        go_wp2_with fail
        refine (CS.out _).mono ?_; rintro e3 w1 ⟨rfl, b1⟩
        rw [E1.out]
        have k0 : w1.cell? ⟨w.heap.size, 0, none⟩ = some (.int .i64 s) := by rw [b1.cell (p := ⟨w.heap.size, 0, none⟩) (by simp)]; simp [go_sem]
        have k1 : w1.cell? ⟨w.heap.size, 1, none⟩ = some (.int .i64 z) := by rw [b1.cell (p := ⟨w.heap.size, 1, none⟩) (by simp)]; simp [go_sem]
        go_wp2_with fail
        refine (IS.out _).mono ?_; rintro e3 w1 ⟨rfl, rfl⟩
        rw [E2.out]
        go_wp2_with fail
        go_ret
        exact ⟨rfl, ((Below.refl _ _).alloc (Nat.le_refl _) _).trans (b1.mono (by simp))⟩
      · clear c1
        go_enter Try.func10, Try.ntmps10
        go_wp2_with fail
        refine (CI.out _).mono ?_; rintro e3 w1 ⟨rfl, b1⟩
        rw [E1.out]
        have k0 : w1.cell? ⟨w.heap.size, 0, none⟩ = some (.int .i64 s) := by rw [b1.cell (p := ⟨w.heap.size, 0, none⟩) (by simp)]; simp [go_sem]
        have k1 : w1.cell? ⟨w.heap.size, 1, none⟩ = some (.int .i64 z) := by rw [b1.cell (p := ⟨w.heap.size, 1, none⟩) (by simp)]; simp [go_sem]
        have s1' := b1.size
        simp at s1'
        have S1 := hide s1'
        clear s1'
        go_wp2_with fail
        refine (bytes_one _ true _ _ HQ.out E2.out rfl).mono ?_; rintro e3 w2 ⟨rfl, b2⟩
        have l0 : w2.cell? ⟨w.heap.size, 0, none⟩ = some (.int .i64 s) := by rw [b2.cell (p := ⟨w.heap.size, 0, none⟩) (by have := S1.out; show w.heap.size < _; omega)]; exact k0
        have l1 : w2.cell? ⟨w.heap.size, 1, none⟩ = some (.int .i64 z) := by rw [b2.cell (p := ⟨w.heap.size, 1, none⟩) (by have := S1.out; show w.heap.size < _; omega)]; exact k1
        clear k0 k1
        go_wp2_with fail
        go_ret
        exact ⟨rfl, (((Below.refl _ _).alloc (Nat.le_refl _) _).trans (b1.mono (by simp))).trans (b2.mono (by have := S1.out; omega))⟩
    · have E2 := hide (decide_eq_false c2)
      refine ⟨0, by omega, by rw [if_neg (fun h => c2 h.2)], fun w => ?_, fun w => ?_⟩
      · clear c1 c2
        go_enter Try.func20, Try.ntmps20
        go_wp2_with fail
        refine (CS.out _).mono ?_; rintro e3 w1 ⟨rfl, b1⟩
        rw [E1.out]
        go_wp2_with fail
        refine (IS.out _).mono ?_; rintro e3 w1 ⟨rfl, rfl⟩
        rw [E2.out]
        go_wp2_with fail
        go_ret
        exact ⟨rfl, ((Below.refl _ _).alloc (Nat.le_refl _) _).trans (b1.mono (by simp))⟩
      · clear c1 c2
        go_enter Try.func10, Try.ntmps10
        go_wp2_with fail
        refine (CI.out _).mono ?_; rintro e3 w1 ⟨rfl, b1⟩
        rw [E1.out]
        have s1' := b1.size
        simp at s1'
        have S1 := hide s1'
        clear s1'
        go_wp2_with fail
        refine (bytes_one _ false _ _ HQ.out E2.out rfl).mono ?_; rintro e3 w2 ⟨rfl, b2⟩
        go_wp2_with fail
        go_ret
        exact ⟨rfl, (((Below.refl _ _).alloc (Nat.le_refl _) _).trans (b1.mono (by simp))).trans (b2.mono (by have := S1.out; omega))⟩
  · have E1 := hide (show scOk s z = false by simpa using c1)
    refine ⟨0, by omega, by rw [if_neg (fun h => c1 h.1)], fun w => ?_, fun w => ?_⟩
    · clear c1
      go_enter Try.func20, Try.ntmps20
      go_wp2_with fail
      refine (CS.out _).mono ?_; rintro e3 w1 ⟨rfl, b1⟩
      rw [E1.out]
      go_wp2_with fail
      go_ret
      exact ⟨rfl, ((Below.refl _ _).alloc (Nat.le_refl _) _).trans (b1.mono (by simp))⟩
    · clear c1
      go_enter Try.func10, Try.ntmps10
      go_wp2_with fail
      refine (CI.out _).mono ?_; rintro e3 w1 ⟨rfl, b1⟩
      rw [E1.out]
      go_wp2_with fail
      go_ret
      exact ⟨rfl, ((Below.refl _ _).alloc (Nat.le_refl _) _).trans (b1.mono (by simp))⟩
end Vo
end Go.Proofs.Ytabjpemneimljaa
