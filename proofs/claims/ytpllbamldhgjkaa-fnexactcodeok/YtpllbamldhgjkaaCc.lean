/- Instructions that can be: the model. -/
import Derived.Test.YtpllbamldhgjkaaCb
import Derived.Deep.QuietTactic
namespace Go.Proofs.Ytpllbamldhgjkaa
namespace Vo
open Go.ChangeShapes Go.WideShapes Go.ChangeAt Go.RowKit Go.Joins Go.Sort
open Vl
set_option linter.unusedVariables false
set_option linter.unusedSimpArgs false
theorem inF (x lo hi : Int) (w : World) : Calls Try.prog 20 #[.int .i64 x, .int .i64 lo, .int .i64 hi] w fun e w' => e = .returned (.bool (decide (inS (lo, hi) x))) ∧ w' = w := by
  by_cases h1 : lo ≤ x
  · have e := hide (show decide (x ≤ hi) = decide (inS (lo, hi) x) from decide_eq_decide.2 ⟨fun q => ⟨h1, q⟩, fun q => q.2⟩)
    go_enter Try.func20, Try.ntmps20
    go_wp2_with fail
    go_ret
    exact ⟨by rw [← e.out]; rfl, rfl⟩
  · have e := hide (show decide (inS (lo, hi) x) = false from decide_eq_false (fun h => h1 h.1))
    have h1' : decide (lo ≤ x) = false := decide_eq_false h1
    clear h1
    go_enter Try.func20, Try.ntmps20
    go_wp2_with fail
    go_ret
    exact ⟨by rw [e.out]; rfl, rfl⟩
theorem numF (x : Int) (w : World) : Calls Try.prog 21 #[.int .i64 x] w fun e w' => e = .returned (.bool (decide (inS (-1000000, 1000000) x))) ∧ w' = w := by
  go_enter Try.func21, Try.ntmps21
  go_wp2_with fail
  refine (inF x _ _ _).mono ?_
  rintro e w1 ⟨rfl, rfl⟩
  go_wp2_with fail
  go_ret
  exact ⟨rfl, rfl⟩
theorem regF (x : Int) (w : World) : Calls Try.prog 22 #[.int .i64 x] w fun e w' => e = .returned (.bool (decide (inS (0, 63) x))) ∧ w' = w := by
  go_enter Try.func22, Try.ntmps22
  go_wp2_with fail
  refine (inF x _ _ _).mono ?_
  rintro e w1 ⟨rfl, rfl⟩
  go_wp2_with fail
  go_ret
  exact ⟨rfl, rfl⟩
set_option maxHeartbeats 4000000 in
theorem specIns1 (a b c : Int) (w : World) : Calls Try.prog 14 #[.agg #[.int .i64 1, .int .i64 a, .int .i64 b, .int .i64 c]] w fun e w' => e = .returned (.bool (decide (inS (1, 65536) a ∧ inS (0, 0) b ∧ inS (0, 0) c))) ∧ Below w.heap.size w w' := by
  have B0 := hide (show Below w.heap.size w (w.alloc (.cells #[.int .i64 1, .int .i64 a, .int .i64 b, .int .i64 c] 36)) from (Below.refl _ _).alloc (Nat.le_refl _) _)
  have C0 := hide (fun W => inF a 1 65536 W)
  go_enter Try.func14, Try.ntmps14
  by_cases t0 : inS (1, 65536) a
  case neg =>
    have e := hide (show decide (inS (1, 65536) a ∧ inS (0, 0) b ∧ inS (0, 0) c) = false from decide_eq_false (fun h => t0 h.1))
    simp only [decide_eq_false t0] at C0
    clear t0
    go_wp2_with fail
    refine (C0.out _).mono ?_
    rintro e0 w0 ⟨rfl, rfl⟩
    go_wp2_with fail
    go_ret
    exact ⟨by rw [e.out]; rfl, B0.out⟩
  simp only [decide_eq_true t0] at C0
  by_cases t1 : inS (0, 0) b
  case neg =>
    have e := hide (show decide (inS (1, 65536) a ∧ inS (0, 0) b ∧ inS (0, 0) c) = false from decide_eq_false (fun h => t1 h.2.1))
    have z1 : (b == 0) = false := by simpa using fun q : b = 0 => t1 ⟨by omega, by omega⟩
    clear t0 t1
    go_wp2_with fail
    refine (C0.out _).mono ?_
    rintro e0 w0 ⟨rfl, rfl⟩
    go_wp2_with fail
    go_ret
    exact ⟨by rw [e.out]; rfl, B0.out⟩
  have z1 : (b == 0) = true := by have := t1.1; have := t1.2; simp; omega
  by_cases t2 : inS (0, 0) c
  case neg =>
    have e := hide (show decide (inS (1, 65536) a ∧ inS (0, 0) b ∧ inS (0, 0) c) = false from decide_eq_false (fun h => t2 h.2.2))
    have z2 : (c == 0) = false := by simpa using fun q : c = 0 => t2 ⟨by omega, by omega⟩
    clear t0 t1 t2
    go_wp2_with fail
    refine (C0.out _).mono ?_
    rintro e0 w0 ⟨rfl, rfl⟩
    go_wp2_with fail
    go_ret
    exact ⟨by rw [e.out]; rfl, B0.out⟩
  have z2 : (c == 0) = true := by have := t2.1; have := t2.2; simp; omega
  have e := hide (show decide (inS (1, 65536) a ∧ inS (0, 0) b ∧ inS (0, 0) c) = true from decide_eq_true ⟨t0, t1, t2⟩)
  clear t0 t1 t2
  go_wp2_with fail
  refine (C0.out _).mono ?_
  rintro e0 w0 ⟨rfl, rfl⟩
  go_wp2_with fail
  go_ret
  exact ⟨by rw [e.out]; rfl, B0.out⟩
set_option maxHeartbeats 4000000 in
theorem specIns2 (a b c : Int) (w : World) : Calls Try.prog 14 #[.agg #[.int .i64 2, .int .i64 a, .int .i64 b, .int .i64 c]] w fun e w' => e = .returned (.bool (decide (inS (0, 0) a ∧ inS (0, 0) b ∧ inS (0, 0) c))) ∧ Below w.heap.size w w' := by
  have B0 := hide (show Below w.heap.size w (w.alloc (.cells #[.int .i64 2, .int .i64 a, .int .i64 b, .int .i64 c] 36)) from (Below.refl _ _).alloc (Nat.le_refl _) _)
  go_enter Try.func14, Try.ntmps14
  by_cases t0 : inS (0, 0) a
  case neg =>
    have e := hide (show decide (inS (0, 0) a ∧ inS (0, 0) b ∧ inS (0, 0) c) = false from decide_eq_false (fun h => t0 h.1))
    have z0 : (a == 0) = false := by simpa using fun q : a = 0 => t0 ⟨by omega, by omega⟩
    clear t0
    go_wp2_with fail
    go_ret
    exact ⟨by rw [e.out]; rfl, B0.out⟩
  have z0 : (a == 0) = true := by have := t0.1; have := t0.2; simp; omega
  by_cases t1 : inS (0, 0) b
  case neg =>
    have e := hide (show decide (inS (0, 0) a ∧ inS (0, 0) b ∧ inS (0, 0) c) = false from decide_eq_false (fun h => t1 h.2.1))
    have z1 : (b == 0) = false := by simpa using fun q : b = 0 => t1 ⟨by omega, by omega⟩
    clear t0 t1
    go_wp2_with fail
    go_ret
    exact ⟨by rw [e.out]; rfl, B0.out⟩
  have z1 : (b == 0) = true := by have := t1.1; have := t1.2; simp; omega
  by_cases t2 : inS (0, 0) c
  case neg =>
    have e := hide (show decide (inS (0, 0) a ∧ inS (0, 0) b ∧ inS (0, 0) c) = false from decide_eq_false (fun h => t2 h.2.2))
    have z2 : (c == 0) = false := by simpa using fun q : c = 0 => t2 ⟨by omega, by omega⟩
    clear t0 t1 t2
    go_wp2_with fail
    go_ret
    exact ⟨by rw [e.out]; rfl, B0.out⟩
  have z2 : (c == 0) = true := by have := t2.1; have := t2.2; simp; omega
  have e := hide (show decide (inS (0, 0) a ∧ inS (0, 0) b ∧ inS (0, 0) c) = true from decide_eq_true ⟨t0, t1, t2⟩)
  clear t0 t1 t2
  go_wp2_with fail
  go_ret
  exact ⟨by rw [e.out]; rfl, B0.out⟩
set_option maxHeartbeats 4000000 in
theorem specIns3 (a b c : Int) (w : World) : Calls Try.prog 14 #[.agg #[.int .i64 3, .int .i64 a, .int .i64 b, .int .i64 c]] w fun e w' => e = .returned (.bool (decide (inS (0, 31) a ∧ inS ((-1000000), 1000000) b ∧ inS (0, 0) c))) ∧ Below w.heap.size w w' := by
  have B0 := hide (show Below w.heap.size w (w.alloc (.cells #[.int .i64 3, .int .i64 a, .int .i64 b, .int .i64 c] 36)) from (Below.refl _ _).alloc (Nat.le_refl _) _)
  have C0 := hide (fun W => inF a 0 31 W)
  have C1 := hide (fun W => numF b W)
  go_enter Try.func14, Try.ntmps14
  by_cases t0 : inS (0, 31) a
  case neg =>
    have e := hide (show decide (inS (0, 31) a ∧ inS ((-1000000), 1000000) b ∧ inS (0, 0) c) = false from decide_eq_false (fun h => t0 h.1))
    simp only [decide_eq_false t0] at C0
    clear t0
    go_wp2_with fail
    refine (C0.out _).mono ?_
    rintro e0 w0 ⟨rfl, rfl⟩
    go_wp2_with fail
    go_ret
    exact ⟨by rw [e.out]; rfl, B0.out⟩
  simp only [decide_eq_true t0] at C0
  by_cases t1 : inS ((-1000000), 1000000) b
  case neg =>
    have e := hide (show decide (inS (0, 31) a ∧ inS ((-1000000), 1000000) b ∧ inS (0, 0) c) = false from decide_eq_false (fun h => t1 h.2.1))
    simp only [decide_eq_false t1] at C1
    clear t0 t1
    go_wp2_with fail
    refine (C0.out _).mono ?_
    rintro e0 w0 ⟨rfl, rfl⟩
    go_wp2_with fail
    refine (C1.out _).mono ?_
    rintro e1 w1 ⟨rfl, rfl⟩
    go_wp2_with fail
    go_ret
    exact ⟨by rw [e.out]; rfl, B0.out⟩
  simp only [decide_eq_true t1] at C1
  by_cases t2 : inS (0, 0) c
  case neg =>
    have e := hide (show decide (inS (0, 31) a ∧ inS ((-1000000), 1000000) b ∧ inS (0, 0) c) = false from decide_eq_false (fun h => t2 h.2.2))
    have z2 : (c == 0) = false := by simpa using fun q : c = 0 => t2 ⟨by omega, by omega⟩
    clear t0 t1 t2
    go_wp2_with fail
    refine (C0.out _).mono ?_
    rintro e0 w0 ⟨rfl, rfl⟩
    go_wp2_with fail
    refine (C1.out _).mono ?_
    rintro e1 w1 ⟨rfl, rfl⟩
    go_wp2_with fail
    go_ret
    exact ⟨by rw [e.out]; rfl, B0.out⟩
  have z2 : (c == 0) = true := by have := t2.1; have := t2.2; simp; omega
  have e := hide (show decide (inS (0, 31) a ∧ inS ((-1000000), 1000000) b ∧ inS (0, 0) c) = true from decide_eq_true ⟨t0, t1, t2⟩)
  clear t0 t1 t2
  go_wp2_with fail
  refine (C0.out _).mono ?_
  rintro e0 w0 ⟨rfl, rfl⟩
  go_wp2_with fail
  refine (C1.out _).mono ?_
  rintro e1 w1 ⟨rfl, rfl⟩
  go_wp2_with fail
  go_ret
  exact ⟨by rw [e.out]; rfl, B0.out⟩
set_option maxHeartbeats 4000000 in
theorem specIns4 (a b c : Int) (w : World) : Calls Try.prog 14 #[.agg #[.int .i64 4, .int .i64 a, .int .i64 b, .int .i64 c]] w fun e w' => e = .returned (.bool (decide (inS (0, 31) a ∧ inS ((-1000000), 1000000) b ∧ inS (0, 0) c))) ∧ Below w.heap.size w w' := by
  have B0 := hide (show Below w.heap.size w (w.alloc (.cells #[.int .i64 4, .int .i64 a, .int .i64 b, .int .i64 c] 36)) from (Below.refl _ _).alloc (Nat.le_refl _) _)
  have C0 := hide (fun W => inF a 0 31 W)
  have C1 := hide (fun W => numF b W)
  go_enter Try.func14, Try.ntmps14
  by_cases t0 : inS (0, 31) a
  case neg =>
    have e := hide (show decide (inS (0, 31) a ∧ inS ((-1000000), 1000000) b ∧ inS (0, 0) c) = false from decide_eq_false (fun h => t0 h.1))
    simp only [decide_eq_false t0] at C0
    clear t0
    go_wp2_with fail
    refine (C0.out _).mono ?_
    rintro e0 w0 ⟨rfl, rfl⟩
    go_wp2_with fail
    go_ret
    exact ⟨by rw [e.out]; rfl, B0.out⟩
  simp only [decide_eq_true t0] at C0
  by_cases t1 : inS ((-1000000), 1000000) b
  case neg =>
    have e := hide (show decide (inS (0, 31) a ∧ inS ((-1000000), 1000000) b ∧ inS (0, 0) c) = false from decide_eq_false (fun h => t1 h.2.1))
    simp only [decide_eq_false t1] at C1
    clear t0 t1
    go_wp2_with fail
    refine (C0.out _).mono ?_
    rintro e0 w0 ⟨rfl, rfl⟩
    go_wp2_with fail
    refine (C1.out _).mono ?_
    rintro e1 w1 ⟨rfl, rfl⟩
    go_wp2_with fail
    go_ret
    exact ⟨by rw [e.out]; rfl, B0.out⟩
  simp only [decide_eq_true t1] at C1
  by_cases t2 : inS (0, 0) c
  case neg =>
    have e := hide (show decide (inS (0, 31) a ∧ inS ((-1000000), 1000000) b ∧ inS (0, 0) c) = false from decide_eq_false (fun h => t2 h.2.2))
    have z2 : (c == 0) = false := by simpa using fun q : c = 0 => t2 ⟨by omega, by omega⟩
    clear t0 t1 t2
    go_wp2_with fail
    refine (C0.out _).mono ?_
    rintro e0 w0 ⟨rfl, rfl⟩
    go_wp2_with fail
    refine (C1.out _).mono ?_
    rintro e1 w1 ⟨rfl, rfl⟩
    go_wp2_with fail
    go_ret
    exact ⟨by rw [e.out]; rfl, B0.out⟩
  have z2 : (c == 0) = true := by have := t2.1; have := t2.2; simp; omega
  have e := hide (show decide (inS (0, 31) a ∧ inS ((-1000000), 1000000) b ∧ inS (0, 0) c) = true from decide_eq_true ⟨t0, t1, t2⟩)
  clear t0 t1 t2
  go_wp2_with fail
  refine (C0.out _).mono ?_
  rintro e0 w0 ⟨rfl, rfl⟩
  go_wp2_with fail
  refine (C1.out _).mono ?_
  rintro e1 w1 ⟨rfl, rfl⟩
  go_wp2_with fail
  go_ret
  exact ⟨by rw [e.out]; rfl, B0.out⟩
set_option maxHeartbeats 4000000 in
theorem specIns5 (a b c : Int) (w : World) : Calls Try.prog 14 #[.agg #[.int .i64 5, .int .i64 a, .int .i64 b, .int .i64 c]] w fun e w' => e = .returned (.bool (decide (inS (1, 8) a ∧ inS (0, 0) b ∧ inS (0, 0) c))) ∧ Below w.heap.size w w' := by
  have B0 := hide (show Below w.heap.size w (w.alloc (.cells #[.int .i64 5, .int .i64 a, .int .i64 b, .int .i64 c] 36)) from (Below.refl _ _).alloc (Nat.le_refl _) _)
  have C0 := hide (fun W => inF a 1 8 W)
  go_enter Try.func14, Try.ntmps14
  by_cases t0 : inS (1, 8) a
  case neg =>
    have e := hide (show decide (inS (1, 8) a ∧ inS (0, 0) b ∧ inS (0, 0) c) = false from decide_eq_false (fun h => t0 h.1))
    simp only [decide_eq_false t0] at C0
    clear t0
    go_wp2_with fail
    refine (C0.out _).mono ?_
    rintro e0 w0 ⟨rfl, rfl⟩
    go_wp2_with fail
    go_ret
    exact ⟨by rw [e.out]; rfl, B0.out⟩
  simp only [decide_eq_true t0] at C0
  by_cases t1 : inS (0, 0) b
  case neg =>
    have e := hide (show decide (inS (1, 8) a ∧ inS (0, 0) b ∧ inS (0, 0) c) = false from decide_eq_false (fun h => t1 h.2.1))
    have z1 : (b == 0) = false := by simpa using fun q : b = 0 => t1 ⟨by omega, by omega⟩
    clear t0 t1
    go_wp2_with fail
    refine (C0.out _).mono ?_
    rintro e0 w0 ⟨rfl, rfl⟩
    go_wp2_with fail
    go_ret
    exact ⟨by rw [e.out]; rfl, B0.out⟩
  have z1 : (b == 0) = true := by have := t1.1; have := t1.2; simp; omega
  by_cases t2 : inS (0, 0) c
  case neg =>
    have e := hide (show decide (inS (1, 8) a ∧ inS (0, 0) b ∧ inS (0, 0) c) = false from decide_eq_false (fun h => t2 h.2.2))
    have z2 : (c == 0) = false := by simpa using fun q : c = 0 => t2 ⟨by omega, by omega⟩
    clear t0 t1 t2
    go_wp2_with fail
    refine (C0.out _).mono ?_
    rintro e0 w0 ⟨rfl, rfl⟩
    go_wp2_with fail
    go_ret
    exact ⟨by rw [e.out]; rfl, B0.out⟩
  have z2 : (c == 0) = true := by have := t2.1; have := t2.2; simp; omega
  have e := hide (show decide (inS (1, 8) a ∧ inS (0, 0) b ∧ inS (0, 0) c) = true from decide_eq_true ⟨t0, t1, t2⟩)
  clear t0 t1 t2
  go_wp2_with fail
  refine (C0.out _).mono ?_
  rintro e0 w0 ⟨rfl, rfl⟩
  go_wp2_with fail
  go_ret
  exact ⟨by rw [e.out]; rfl, B0.out⟩
set_option maxHeartbeats 4000000 in
theorem specIns6 (a b c : Int) (w : World) : Calls Try.prog 14 #[.agg #[.int .i64 6, .int .i64 a, .int .i64 b, .int .i64 c]] w fun e w' => e = .returned (.bool (decide (inS (0, 63) a ∧ inS (0, 31) b ∧ inS ((-1000000), 1000000) c))) ∧ Below w.heap.size w w' := by
  have B0 := hide (show Below w.heap.size w (w.alloc (.cells #[.int .i64 6, .int .i64 a, .int .i64 b, .int .i64 c] 36)) from (Below.refl _ _).alloc (Nat.le_refl _) _)
  have C0 := hide (fun W => regF a W)
  have C1 := hide (fun W => inF b 0 31 W)
  have C2 := hide (fun W => numF c W)
  go_enter Try.func14, Try.ntmps14
  by_cases t0 : inS (0, 63) a
  case neg =>
    have e := hide (show decide (inS (0, 63) a ∧ inS (0, 31) b ∧ inS ((-1000000), 1000000) c) = false from decide_eq_false (fun h => t0 h.1))
    simp only [decide_eq_false t0] at C0
    clear t0
    go_wp2_with fail
    refine (C0.out _).mono ?_
    rintro e0 w0 ⟨rfl, rfl⟩
    go_wp2_with fail
    go_ret
    exact ⟨by rw [e.out]; rfl, B0.out⟩
  simp only [decide_eq_true t0] at C0
  by_cases t1 : inS (0, 31) b
  case neg =>
    have e := hide (show decide (inS (0, 63) a ∧ inS (0, 31) b ∧ inS ((-1000000), 1000000) c) = false from decide_eq_false (fun h => t1 h.2.1))
    simp only [decide_eq_false t1] at C1
    clear t0 t1
    go_wp2_with fail
    refine (C0.out _).mono ?_
    rintro e0 w0 ⟨rfl, rfl⟩
    go_wp2_with fail
    refine (C1.out _).mono ?_
    rintro e1 w1 ⟨rfl, rfl⟩
    go_wp2_with fail
    go_ret
    exact ⟨by rw [e.out]; rfl, B0.out⟩
  simp only [decide_eq_true t1] at C1
  by_cases t2 : inS ((-1000000), 1000000) c
  case neg =>
    have e := hide (show decide (inS (0, 63) a ∧ inS (0, 31) b ∧ inS ((-1000000), 1000000) c) = false from decide_eq_false (fun h => t2 h.2.2))
    simp only [decide_eq_false t2] at C2
    clear t0 t1 t2
    go_wp2_with fail
    refine (C0.out _).mono ?_
    rintro e0 w0 ⟨rfl, rfl⟩
    go_wp2_with fail
    refine (C1.out _).mono ?_
    rintro e1 w1 ⟨rfl, rfl⟩
    go_wp2_with fail
    refine (C2.out _).mono ?_
    rintro e2 w2 ⟨rfl, rfl⟩
    go_wp2_with fail
    go_ret
    exact ⟨by rw [e.out]; rfl, B0.out⟩
  simp only [decide_eq_true t2] at C2
  have e := hide (show decide (inS (0, 63) a ∧ inS (0, 31) b ∧ inS ((-1000000), 1000000) c) = true from decide_eq_true ⟨t0, t1, t2⟩)
  clear t0 t1 t2
  go_wp2_with fail
  refine (C0.out _).mono ?_
  rintro e0 w0 ⟨rfl, rfl⟩
  go_wp2_with fail
  refine (C1.out _).mono ?_
  rintro e1 w1 ⟨rfl, rfl⟩
  go_wp2_with fail
  refine (C2.out _).mono ?_
  rintro e2 w2 ⟨rfl, rfl⟩
  go_wp2_with fail
  go_ret
  exact ⟨by rw [e.out]; rfl, B0.out⟩
set_option maxHeartbeats 4000000 in
theorem specIns7 (a b c : Int) (w : World) : Calls Try.prog 14 #[.agg #[.int .i64 7, .int .i64 a, .int .i64 b, .int .i64 c]] w fun e w' => e = .returned (.bool (decide (inS (0, 63) a ∧ inS (0, 31) b ∧ inS ((-1000000), 1000000) c))) ∧ Below w.heap.size w w' := by
  have B0 := hide (show Below w.heap.size w (w.alloc (.cells #[.int .i64 7, .int .i64 a, .int .i64 b, .int .i64 c] 36)) from (Below.refl _ _).alloc (Nat.le_refl _) _)
  have C0 := hide (fun W => regF a W)
  have C1 := hide (fun W => inF b 0 31 W)
  have C2 := hide (fun W => numF c W)
  go_enter Try.func14, Try.ntmps14
  by_cases t0 : inS (0, 63) a
  case neg =>
    have e := hide (show decide (inS (0, 63) a ∧ inS (0, 31) b ∧ inS ((-1000000), 1000000) c) = false from decide_eq_false (fun h => t0 h.1))
    simp only [decide_eq_false t0] at C0
    clear t0
    go_wp2_with fail
    refine (C0.out _).mono ?_
    rintro e0 w0 ⟨rfl, rfl⟩
    go_wp2_with fail
    go_ret
    exact ⟨by rw [e.out]; rfl, B0.out⟩
  simp only [decide_eq_true t0] at C0
  by_cases t1 : inS (0, 31) b
  case neg =>
    have e := hide (show decide (inS (0, 63) a ∧ inS (0, 31) b ∧ inS ((-1000000), 1000000) c) = false from decide_eq_false (fun h => t1 h.2.1))
    simp only [decide_eq_false t1] at C1
    clear t0 t1
    go_wp2_with fail
    refine (C0.out _).mono ?_
    rintro e0 w0 ⟨rfl, rfl⟩
    go_wp2_with fail
    refine (C1.out _).mono ?_
    rintro e1 w1 ⟨rfl, rfl⟩
    go_wp2_with fail
    go_ret
    exact ⟨by rw [e.out]; rfl, B0.out⟩
  simp only [decide_eq_true t1] at C1
  by_cases t2 : inS ((-1000000), 1000000) c
  case neg =>
    have e := hide (show decide (inS (0, 63) a ∧ inS (0, 31) b ∧ inS ((-1000000), 1000000) c) = false from decide_eq_false (fun h => t2 h.2.2))
    simp only [decide_eq_false t2] at C2
    clear t0 t1 t2
    go_wp2_with fail
    refine (C0.out _).mono ?_
    rintro e0 w0 ⟨rfl, rfl⟩
    go_wp2_with fail
    refine (C1.out _).mono ?_
    rintro e1 w1 ⟨rfl, rfl⟩
    go_wp2_with fail
    refine (C2.out _).mono ?_
    rintro e2 w2 ⟨rfl, rfl⟩
    go_wp2_with fail
    go_ret
    exact ⟨by rw [e.out]; rfl, B0.out⟩
  simp only [decide_eq_true t2] at C2
  have e := hide (show decide (inS (0, 63) a ∧ inS (0, 31) b ∧ inS ((-1000000), 1000000) c) = true from decide_eq_true ⟨t0, t1, t2⟩)
  clear t0 t1 t2
  go_wp2_with fail
  refine (C0.out _).mono ?_
  rintro e0 w0 ⟨rfl, rfl⟩
  go_wp2_with fail
  refine (C1.out _).mono ?_
  rintro e1 w1 ⟨rfl, rfl⟩
  go_wp2_with fail
  refine (C2.out _).mono ?_
  rintro e2 w2 ⟨rfl, rfl⟩
  go_wp2_with fail
  go_ret
  exact ⟨by rw [e.out]; rfl, B0.out⟩
set_option maxHeartbeats 4000000 in
theorem specIns8 (a b c : Int) (w : World) : Calls Try.prog 14 #[.agg #[.int .i64 8, .int .i64 a, .int .i64 b, .int .i64 c]] w fun e w' => e = .returned (.bool (decide (inS (0, 63) a ∧ inS (0, 31) b ∧ inS ((-1000000), 1000000) c))) ∧ Below w.heap.size w w' := by
  have B0 := hide (show Below w.heap.size w (w.alloc (.cells #[.int .i64 8, .int .i64 a, .int .i64 b, .int .i64 c] 36)) from (Below.refl _ _).alloc (Nat.le_refl _) _)
  have C0 := hide (fun W => regF a W)
  have C1 := hide (fun W => inF b 0 31 W)
  have C2 := hide (fun W => numF c W)
  go_enter Try.func14, Try.ntmps14
  by_cases t0 : inS (0, 63) a
  case neg =>
    have e := hide (show decide (inS (0, 63) a ∧ inS (0, 31) b ∧ inS ((-1000000), 1000000) c) = false from decide_eq_false (fun h => t0 h.1))
    simp only [decide_eq_false t0] at C0
    clear t0
    go_wp2_with fail
    refine (C0.out _).mono ?_
    rintro e0 w0 ⟨rfl, rfl⟩
    go_wp2_with fail
    go_ret
    exact ⟨by rw [e.out]; rfl, B0.out⟩
  simp only [decide_eq_true t0] at C0
  by_cases t1 : inS (0, 31) b
  case neg =>
    have e := hide (show decide (inS (0, 63) a ∧ inS (0, 31) b ∧ inS ((-1000000), 1000000) c) = false from decide_eq_false (fun h => t1 h.2.1))
    simp only [decide_eq_false t1] at C1
    clear t0 t1
    go_wp2_with fail
    refine (C0.out _).mono ?_
    rintro e0 w0 ⟨rfl, rfl⟩
    go_wp2_with fail
    refine (C1.out _).mono ?_
    rintro e1 w1 ⟨rfl, rfl⟩
    go_wp2_with fail
    go_ret
    exact ⟨by rw [e.out]; rfl, B0.out⟩
  simp only [decide_eq_true t1] at C1
  by_cases t2 : inS ((-1000000), 1000000) c
  case neg =>
    have e := hide (show decide (inS (0, 63) a ∧ inS (0, 31) b ∧ inS ((-1000000), 1000000) c) = false from decide_eq_false (fun h => t2 h.2.2))
    simp only [decide_eq_false t2] at C2
    clear t0 t1 t2
    go_wp2_with fail
    refine (C0.out _).mono ?_
    rintro e0 w0 ⟨rfl, rfl⟩
    go_wp2_with fail
    refine (C1.out _).mono ?_
    rintro e1 w1 ⟨rfl, rfl⟩
    go_wp2_with fail
    refine (C2.out _).mono ?_
    rintro e2 w2 ⟨rfl, rfl⟩
    go_wp2_with fail
    go_ret
    exact ⟨by rw [e.out]; rfl, B0.out⟩
  simp only [decide_eq_true t2] at C2
  have e := hide (show decide (inS (0, 63) a ∧ inS (0, 31) b ∧ inS ((-1000000), 1000000) c) = true from decide_eq_true ⟨t0, t1, t2⟩)
  clear t0 t1 t2
  go_wp2_with fail
  refine (C0.out _).mono ?_
  rintro e0 w0 ⟨rfl, rfl⟩
  go_wp2_with fail
  refine (C1.out _).mono ?_
  rintro e1 w1 ⟨rfl, rfl⟩
  go_wp2_with fail
  refine (C2.out _).mono ?_
  rintro e2 w2 ⟨rfl, rfl⟩
  go_wp2_with fail
  go_ret
  exact ⟨by rw [e.out]; rfl, B0.out⟩
set_option maxHeartbeats 4000000 in
theorem specIns9 (a b c : Int) (w : World) : Calls Try.prog 14 #[.agg #[.int .i64 9, .int .i64 a, .int .i64 b, .int .i64 c]] w fun e w' => e = .returned (.bool (decide (inS (0, 63) a ∧ inS (0, 2147483646) b ∧ inS (0, 0) c))) ∧ Below w.heap.size w w' := by
  have B0 := hide (show Below w.heap.size w (w.alloc (.cells #[.int .i64 9, .int .i64 a, .int .i64 b, .int .i64 c] 36)) from (Below.refl _ _).alloc (Nat.le_refl _) _)
  have C0 := hide (fun W => regF a W)
  have C1 := hide (fun W => inF b 0 2147483646 W)
  go_enter Try.func14, Try.ntmps14
  by_cases t0 : inS (0, 63) a
  case neg =>
    have e := hide (show decide (inS (0, 63) a ∧ inS (0, 2147483646) b ∧ inS (0, 0) c) = false from decide_eq_false (fun h => t0 h.1))
    simp only [decide_eq_false t0] at C0
    clear t0
    go_wp2_with fail
    refine (C0.out _).mono ?_
    rintro e0 w0 ⟨rfl, rfl⟩
    go_wp2_with fail
    go_ret
    exact ⟨by rw [e.out]; rfl, B0.out⟩
  simp only [decide_eq_true t0] at C0
  by_cases t1 : inS (0, 2147483646) b
  case neg =>
    have e := hide (show decide (inS (0, 63) a ∧ inS (0, 2147483646) b ∧ inS (0, 0) c) = false from decide_eq_false (fun h => t1 h.2.1))
    simp only [decide_eq_false t1] at C1
    clear t0 t1
    go_wp2_with fail
    refine (C0.out _).mono ?_
    rintro e0 w0 ⟨rfl, rfl⟩
    go_wp2_with fail
    refine (C1.out _).mono ?_
    rintro e1 w1 ⟨rfl, rfl⟩
    go_wp2_with fail
    go_ret
    exact ⟨by rw [e.out]; rfl, B0.out⟩
  simp only [decide_eq_true t1] at C1
  by_cases t2 : inS (0, 0) c
  case neg =>
    have e := hide (show decide (inS (0, 63) a ∧ inS (0, 2147483646) b ∧ inS (0, 0) c) = false from decide_eq_false (fun h => t2 h.2.2))
    have z2 : (c == 0) = false := by simpa using fun q : c = 0 => t2 ⟨by omega, by omega⟩
    clear t0 t1 t2
    go_wp2_with fail
    refine (C0.out _).mono ?_
    rintro e0 w0 ⟨rfl, rfl⟩
    go_wp2_with fail
    refine (C1.out _).mono ?_
    rintro e1 w1 ⟨rfl, rfl⟩
    go_wp2_with fail
    go_ret
    exact ⟨by rw [e.out]; rfl, B0.out⟩
  have z2 : (c == 0) = true := by have := t2.1; have := t2.2; simp; omega
  have e := hide (show decide (inS (0, 63) a ∧ inS (0, 2147483646) b ∧ inS (0, 0) c) = true from decide_eq_true ⟨t0, t1, t2⟩)
  clear t0 t1 t2
  go_wp2_with fail
  refine (C0.out _).mono ?_
  rintro e0 w0 ⟨rfl, rfl⟩
  go_wp2_with fail
  refine (C1.out _).mono ?_
  rintro e1 w1 ⟨rfl, rfl⟩
  go_wp2_with fail
  go_ret
  exact ⟨by rw [e.out]; rfl, B0.out⟩
set_option maxHeartbeats 4000000 in
theorem specIns10 (a b c : Int) (w : World) : Calls Try.prog 14 #[.agg #[.int .i64 10, .int .i64 a, .int .i64 b, .int .i64 c]] w fun e w' => e = .returned (.bool (decide (inS (0, 63) a ∧ inS (0, 63) b ∧ inS (0, 63) c))) ∧ Below w.heap.size w w' := by
  have B0 := hide (show Below w.heap.size w (w.alloc (.cells #[.int .i64 10, .int .i64 a, .int .i64 b, .int .i64 c] 36)) from (Below.refl _ _).alloc (Nat.le_refl _) _)
  have C0 := hide (fun W => regF a W)
  have C1 := hide (fun W => regF b W)
  have C2 := hide (fun W => regF c W)
  go_enter Try.func14, Try.ntmps14
  by_cases t0 : inS (0, 63) a
  case neg =>
    have e := hide (show decide (inS (0, 63) a ∧ inS (0, 63) b ∧ inS (0, 63) c) = false from decide_eq_false (fun h => t0 h.1))
    simp only [decide_eq_false t0] at C0
    clear t0
    go_wp2_with fail
    refine (C0.out _).mono ?_
    rintro e0 w0 ⟨rfl, rfl⟩
    go_wp2_with fail
    go_ret
    exact ⟨by rw [e.out]; rfl, B0.out⟩
  simp only [decide_eq_true t0] at C0
  by_cases t1 : inS (0, 63) b
  case neg =>
    have e := hide (show decide (inS (0, 63) a ∧ inS (0, 63) b ∧ inS (0, 63) c) = false from decide_eq_false (fun h => t1 h.2.1))
    simp only [decide_eq_false t1] at C1
    clear t0 t1
    go_wp2_with fail
    refine (C0.out _).mono ?_
    rintro e0 w0 ⟨rfl, rfl⟩
    go_wp2_with fail
    refine (C1.out _).mono ?_
    rintro e1 w1 ⟨rfl, rfl⟩
    go_wp2_with fail
    go_ret
    exact ⟨by rw [e.out]; rfl, B0.out⟩
  simp only [decide_eq_true t1] at C1
  by_cases t2 : inS (0, 63) c
  case neg =>
    have e := hide (show decide (inS (0, 63) a ∧ inS (0, 63) b ∧ inS (0, 63) c) = false from decide_eq_false (fun h => t2 h.2.2))
    simp only [decide_eq_false t2] at C2
    clear t0 t1 t2
    go_wp2_with fail
    refine (C0.out _).mono ?_
    rintro e0 w0 ⟨rfl, rfl⟩
    go_wp2_with fail
    refine (C1.out _).mono ?_
    rintro e1 w1 ⟨rfl, rfl⟩
    go_wp2_with fail
    refine (C2.out _).mono ?_
    rintro e2 w2 ⟨rfl, rfl⟩
    go_wp2_with fail
    go_ret
    exact ⟨by rw [e.out]; rfl, B0.out⟩
  simp only [decide_eq_true t2] at C2
  have e := hide (show decide (inS (0, 63) a ∧ inS (0, 63) b ∧ inS (0, 63) c) = true from decide_eq_true ⟨t0, t1, t2⟩)
  clear t0 t1 t2
  go_wp2_with fail
  refine (C0.out _).mono ?_
  rintro e0 w0 ⟨rfl, rfl⟩
  go_wp2_with fail
  refine (C1.out _).mono ?_
  rintro e1 w1 ⟨rfl, rfl⟩
  go_wp2_with fail
  refine (C2.out _).mono ?_
  rintro e2 w2 ⟨rfl, rfl⟩
  go_wp2_with fail
  go_ret
  exact ⟨by rw [e.out]; rfl, B0.out⟩
set_option maxHeartbeats 4000000 in
theorem specIns11 (a b c : Int) (w : World) : Calls Try.prog 14 #[.agg #[.int .i64 11, .int .i64 a, .int .i64 b, .int .i64 c]] w fun e w' => e = .returned (.bool (decide (inS (0, 63) a ∧ inS (0, 63) b ∧ inS (0, 63) c))) ∧ Below w.heap.size w w' := by
  have B0 := hide (show Below w.heap.size w (w.alloc (.cells #[.int .i64 11, .int .i64 a, .int .i64 b, .int .i64 c] 36)) from (Below.refl _ _).alloc (Nat.le_refl _) _)
  have C0 := hide (fun W => regF a W)
  have C1 := hide (fun W => regF b W)
  have C2 := hide (fun W => regF c W)
  go_enter Try.func14, Try.ntmps14
  by_cases t0 : inS (0, 63) a
  case neg =>
    have e := hide (show decide (inS (0, 63) a ∧ inS (0, 63) b ∧ inS (0, 63) c) = false from decide_eq_false (fun h => t0 h.1))
    simp only [decide_eq_false t0] at C0
    clear t0
    go_wp2_with fail
    refine (C0.out _).mono ?_
    rintro e0 w0 ⟨rfl, rfl⟩
    go_wp2_with fail
    go_ret
    exact ⟨by rw [e.out]; rfl, B0.out⟩
  simp only [decide_eq_true t0] at C0
  by_cases t1 : inS (0, 63) b
  case neg =>
    have e := hide (show decide (inS (0, 63) a ∧ inS (0, 63) b ∧ inS (0, 63) c) = false from decide_eq_false (fun h => t1 h.2.1))
    simp only [decide_eq_false t1] at C1
    clear t0 t1
    go_wp2_with fail
    refine (C0.out _).mono ?_
    rintro e0 w0 ⟨rfl, rfl⟩
    go_wp2_with fail
    refine (C1.out _).mono ?_
    rintro e1 w1 ⟨rfl, rfl⟩
    go_wp2_with fail
    go_ret
    exact ⟨by rw [e.out]; rfl, B0.out⟩
  simp only [decide_eq_true t1] at C1
  by_cases t2 : inS (0, 63) c
  case neg =>
    have e := hide (show decide (inS (0, 63) a ∧ inS (0, 63) b ∧ inS (0, 63) c) = false from decide_eq_false (fun h => t2 h.2.2))
    simp only [decide_eq_false t2] at C2
    clear t0 t1 t2
    go_wp2_with fail
    refine (C0.out _).mono ?_
    rintro e0 w0 ⟨rfl, rfl⟩
    go_wp2_with fail
    refine (C1.out _).mono ?_
    rintro e1 w1 ⟨rfl, rfl⟩
    go_wp2_with fail
    refine (C2.out _).mono ?_
    rintro e2 w2 ⟨rfl, rfl⟩
    go_wp2_with fail
    go_ret
    exact ⟨by rw [e.out]; rfl, B0.out⟩
  simp only [decide_eq_true t2] at C2
  have e := hide (show decide (inS (0, 63) a ∧ inS (0, 63) b ∧ inS (0, 63) c) = true from decide_eq_true ⟨t0, t1, t2⟩)
  clear t0 t1 t2
  go_wp2_with fail
  refine (C0.out _).mono ?_
  rintro e0 w0 ⟨rfl, rfl⟩
  go_wp2_with fail
  refine (C1.out _).mono ?_
  rintro e1 w1 ⟨rfl, rfl⟩
  go_wp2_with fail
  refine (C2.out _).mono ?_
  rintro e2 w2 ⟨rfl, rfl⟩
  go_wp2_with fail
  go_ret
  exact ⟨by rw [e.out]; rfl, B0.out⟩
set_option maxHeartbeats 4000000 in
theorem specIns12 (a b c : Int) (w : World) : Calls Try.prog 14 #[.agg #[.int .i64 12, .int .i64 a, .int .i64 b, .int .i64 c]] w fun e w' => e = .returned (.bool (decide (inS (0, 63) a ∧ inS (0, 63) b ∧ inS (0, 63) c))) ∧ Below w.heap.size w w' := by
  have B0 := hide (show Below w.heap.size w (w.alloc (.cells #[.int .i64 12, .int .i64 a, .int .i64 b, .int .i64 c] 36)) from (Below.refl _ _).alloc (Nat.le_refl _) _)
  have C0 := hide (fun W => regF a W)
  have C1 := hide (fun W => regF b W)
  have C2 := hide (fun W => regF c W)
  go_enter Try.func14, Try.ntmps14
  by_cases t0 : inS (0, 63) a
  case neg =>
    have e := hide (show decide (inS (0, 63) a ∧ inS (0, 63) b ∧ inS (0, 63) c) = false from decide_eq_false (fun h => t0 h.1))
    simp only [decide_eq_false t0] at C0
    clear t0
    go_wp2_with fail
    refine (C0.out _).mono ?_
    rintro e0 w0 ⟨rfl, rfl⟩
    go_wp2_with fail
    go_ret
    exact ⟨by rw [e.out]; rfl, B0.out⟩
  simp only [decide_eq_true t0] at C0
  by_cases t1 : inS (0, 63) b
  case neg =>
    have e := hide (show decide (inS (0, 63) a ∧ inS (0, 63) b ∧ inS (0, 63) c) = false from decide_eq_false (fun h => t1 h.2.1))
    simp only [decide_eq_false t1] at C1
    clear t0 t1
    go_wp2_with fail
    refine (C0.out _).mono ?_
    rintro e0 w0 ⟨rfl, rfl⟩
    go_wp2_with fail
    refine (C1.out _).mono ?_
    rintro e1 w1 ⟨rfl, rfl⟩
    go_wp2_with fail
    go_ret
    exact ⟨by rw [e.out]; rfl, B0.out⟩
  simp only [decide_eq_true t1] at C1
  by_cases t2 : inS (0, 63) c
  case neg =>
    have e := hide (show decide (inS (0, 63) a ∧ inS (0, 63) b ∧ inS (0, 63) c) = false from decide_eq_false (fun h => t2 h.2.2))
    simp only [decide_eq_false t2] at C2
    clear t0 t1 t2
    go_wp2_with fail
    refine (C0.out _).mono ?_
    rintro e0 w0 ⟨rfl, rfl⟩
    go_wp2_with fail
    refine (C1.out _).mono ?_
    rintro e1 w1 ⟨rfl, rfl⟩
    go_wp2_with fail
    refine (C2.out _).mono ?_
    rintro e2 w2 ⟨rfl, rfl⟩
    go_wp2_with fail
    go_ret
    exact ⟨by rw [e.out]; rfl, B0.out⟩
  simp only [decide_eq_true t2] at C2
  have e := hide (show decide (inS (0, 63) a ∧ inS (0, 63) b ∧ inS (0, 63) c) = true from decide_eq_true ⟨t0, t1, t2⟩)
  clear t0 t1 t2
  go_wp2_with fail
  refine (C0.out _).mono ?_
  rintro e0 w0 ⟨rfl, rfl⟩
  go_wp2_with fail
  refine (C1.out _).mono ?_
  rintro e1 w1 ⟨rfl, rfl⟩
  go_wp2_with fail
  refine (C2.out _).mono ?_
  rintro e2 w2 ⟨rfl, rfl⟩
  go_wp2_with fail
  go_ret
  exact ⟨by rw [e.out]; rfl, B0.out⟩
set_option maxHeartbeats 4000000 in
theorem specIns13 (a b c : Int) (w : World) : Calls Try.prog 14 #[.agg #[.int .i64 13, .int .i64 a, .int .i64 b, .int .i64 c]] w fun e w' => e = .returned (.bool (decide (inS (0, 63) a ∧ inS (0, 63) b ∧ inS (0, 0) c))) ∧ Below w.heap.size w w' := by
  have B0 := hide (show Below w.heap.size w (w.alloc (.cells #[.int .i64 13, .int .i64 a, .int .i64 b, .int .i64 c] 36)) from (Below.refl _ _).alloc (Nat.le_refl _) _)
  have C0 := hide (fun W => regF a W)
  have C1 := hide (fun W => regF b W)
  go_enter Try.func14, Try.ntmps14
  by_cases t0 : inS (0, 63) a
  case neg =>
    have e := hide (show decide (inS (0, 63) a ∧ inS (0, 63) b ∧ inS (0, 0) c) = false from decide_eq_false (fun h => t0 h.1))
    simp only [decide_eq_false t0] at C0
    clear t0
    go_wp2_with fail
    refine (C0.out _).mono ?_
    rintro e0 w0 ⟨rfl, rfl⟩
    go_wp2_with fail
    go_ret
    exact ⟨by rw [e.out]; rfl, B0.out⟩
  simp only [decide_eq_true t0] at C0
  by_cases t1 : inS (0, 63) b
  case neg =>
    have e := hide (show decide (inS (0, 63) a ∧ inS (0, 63) b ∧ inS (0, 0) c) = false from decide_eq_false (fun h => t1 h.2.1))
    simp only [decide_eq_false t1] at C1
    clear t0 t1
    go_wp2_with fail
    refine (C0.out _).mono ?_
    rintro e0 w0 ⟨rfl, rfl⟩
    go_wp2_with fail
    refine (C1.out _).mono ?_
    rintro e1 w1 ⟨rfl, rfl⟩
    go_wp2_with fail
    go_ret
    exact ⟨by rw [e.out]; rfl, B0.out⟩
  simp only [decide_eq_true t1] at C1
  by_cases t2 : inS (0, 0) c
  case neg =>
    have e := hide (show decide (inS (0, 63) a ∧ inS (0, 63) b ∧ inS (0, 0) c) = false from decide_eq_false (fun h => t2 h.2.2))
    have z2 : (c == 0) = false := by simpa using fun q : c = 0 => t2 ⟨by omega, by omega⟩
    clear t0 t1 t2
    go_wp2_with fail
    refine (C0.out _).mono ?_
    rintro e0 w0 ⟨rfl, rfl⟩
    go_wp2_with fail
    refine (C1.out _).mono ?_
    rintro e1 w1 ⟨rfl, rfl⟩
    go_wp2_with fail
    go_ret
    exact ⟨by rw [e.out]; rfl, B0.out⟩
  have z2 : (c == 0) = true := by have := t2.1; have := t2.2; simp; omega
  have e := hide (show decide (inS (0, 63) a ∧ inS (0, 63) b ∧ inS (0, 0) c) = true from decide_eq_true ⟨t0, t1, t2⟩)
  clear t0 t1 t2
  go_wp2_with fail
  refine (C0.out _).mono ?_
  rintro e0 w0 ⟨rfl, rfl⟩
  go_wp2_with fail
  refine (C1.out _).mono ?_
  rintro e1 w1 ⟨rfl, rfl⟩
  go_wp2_with fail
  go_ret
  exact ⟨by rw [e.out]; rfl, B0.out⟩
set_option maxHeartbeats 4000000 in
theorem specIns14 (a b c : Int) (w : World) : Calls Try.prog 14 #[.agg #[.int .i64 14, .int .i64 a, .int .i64 b, .int .i64 c]] w fun e w' => e = .returned (.bool (decide (inS (0, 63) a ∧ inS (0, 63) b ∧ inS (0, 0) c))) ∧ Below w.heap.size w w' := by
  have B0 := hide (show Below w.heap.size w (w.alloc (.cells #[.int .i64 14, .int .i64 a, .int .i64 b, .int .i64 c] 36)) from (Below.refl _ _).alloc (Nat.le_refl _) _)
  have C0 := hide (fun W => regF a W)
  have C1 := hide (fun W => regF b W)
  go_enter Try.func14, Try.ntmps14
  by_cases t0 : inS (0, 63) a
  case neg =>
    have e := hide (show decide (inS (0, 63) a ∧ inS (0, 63) b ∧ inS (0, 0) c) = false from decide_eq_false (fun h => t0 h.1))
    simp only [decide_eq_false t0] at C0
    clear t0
    go_wp2_with fail
    refine (C0.out _).mono ?_
    rintro e0 w0 ⟨rfl, rfl⟩
    go_wp2_with fail
    go_ret
    exact ⟨by rw [e.out]; rfl, B0.out⟩
  simp only [decide_eq_true t0] at C0
  by_cases t1 : inS (0, 63) b
  case neg =>
    have e := hide (show decide (inS (0, 63) a ∧ inS (0, 63) b ∧ inS (0, 0) c) = false from decide_eq_false (fun h => t1 h.2.1))
    simp only [decide_eq_false t1] at C1
    clear t0 t1
    go_wp2_with fail
    refine (C0.out _).mono ?_
    rintro e0 w0 ⟨rfl, rfl⟩
    go_wp2_with fail
    refine (C1.out _).mono ?_
    rintro e1 w1 ⟨rfl, rfl⟩
    go_wp2_with fail
    go_ret
    exact ⟨by rw [e.out]; rfl, B0.out⟩
  simp only [decide_eq_true t1] at C1
  by_cases t2 : inS (0, 0) c
  case neg =>
    have e := hide (show decide (inS (0, 63) a ∧ inS (0, 63) b ∧ inS (0, 0) c) = false from decide_eq_false (fun h => t2 h.2.2))
    have z2 : (c == 0) = false := by simpa using fun q : c = 0 => t2 ⟨by omega, by omega⟩
    clear t0 t1 t2
    go_wp2_with fail
    refine (C0.out _).mono ?_
    rintro e0 w0 ⟨rfl, rfl⟩
    go_wp2_with fail
    refine (C1.out _).mono ?_
    rintro e1 w1 ⟨rfl, rfl⟩
    go_wp2_with fail
    go_ret
    exact ⟨by rw [e.out]; rfl, B0.out⟩
  have z2 : (c == 0) = true := by have := t2.1; have := t2.2; simp; omega
  have e := hide (show decide (inS (0, 63) a ∧ inS (0, 63) b ∧ inS (0, 0) c) = true from decide_eq_true ⟨t0, t1, t2⟩)
  clear t0 t1 t2
  go_wp2_with fail
  refine (C0.out _).mono ?_
  rintro e0 w0 ⟨rfl, rfl⟩
  go_wp2_with fail
  refine (C1.out _).mono ?_
  rintro e1 w1 ⟨rfl, rfl⟩
  go_wp2_with fail
  go_ret
  exact ⟨by rw [e.out]; rfl, B0.out⟩
set_option maxHeartbeats 4000000 in
theorem specIns15 (a b c : Int) (w : World) : Calls Try.prog 14 #[.agg #[.int .i64 15, .int .i64 a, .int .i64 b, .int .i64 c]] w fun e w' => e = .returned (.bool (decide (inS (0, 63) a ∧ inS (0, 63) b ∧ inS (0, 0) c))) ∧ Below w.heap.size w w' := by
  have B0 := hide (show Below w.heap.size w (w.alloc (.cells #[.int .i64 15, .int .i64 a, .int .i64 b, .int .i64 c] 36)) from (Below.refl _ _).alloc (Nat.le_refl _) _)
  have C0 := hide (fun W => regF a W)
  have C1 := hide (fun W => regF b W)
  go_enter Try.func14, Try.ntmps14
  by_cases t0 : inS (0, 63) a
  case neg =>
    have e := hide (show decide (inS (0, 63) a ∧ inS (0, 63) b ∧ inS (0, 0) c) = false from decide_eq_false (fun h => t0 h.1))
    simp only [decide_eq_false t0] at C0
    clear t0
    go_wp2_with fail
    refine (C0.out _).mono ?_
    rintro e0 w0 ⟨rfl, rfl⟩
    go_wp2_with fail
    go_ret
    exact ⟨by rw [e.out]; rfl, B0.out⟩
  simp only [decide_eq_true t0] at C0
  by_cases t1 : inS (0, 63) b
  case neg =>
    have e := hide (show decide (inS (0, 63) a ∧ inS (0, 63) b ∧ inS (0, 0) c) = false from decide_eq_false (fun h => t1 h.2.1))
    simp only [decide_eq_false t1] at C1
    clear t0 t1
    go_wp2_with fail
    refine (C0.out _).mono ?_
    rintro e0 w0 ⟨rfl, rfl⟩
    go_wp2_with fail
    refine (C1.out _).mono ?_
    rintro e1 w1 ⟨rfl, rfl⟩
    go_wp2_with fail
    go_ret
    exact ⟨by rw [e.out]; rfl, B0.out⟩
  simp only [decide_eq_true t1] at C1
  by_cases t2 : inS (0, 0) c
  case neg =>
    have e := hide (show decide (inS (0, 63) a ∧ inS (0, 63) b ∧ inS (0, 0) c) = false from decide_eq_false (fun h => t2 h.2.2))
    have z2 : (c == 0) = false := by simpa using fun q : c = 0 => t2 ⟨by omega, by omega⟩
    clear t0 t1 t2
    go_wp2_with fail
    refine (C0.out _).mono ?_
    rintro e0 w0 ⟨rfl, rfl⟩
    go_wp2_with fail
    refine (C1.out _).mono ?_
    rintro e1 w1 ⟨rfl, rfl⟩
    go_wp2_with fail
    go_ret
    exact ⟨by rw [e.out]; rfl, B0.out⟩
  have z2 : (c == 0) = true := by have := t2.1; have := t2.2; simp; omega
  have e := hide (show decide (inS (0, 63) a ∧ inS (0, 63) b ∧ inS (0, 0) c) = true from decide_eq_true ⟨t0, t1, t2⟩)
  clear t0 t1 t2
  go_wp2_with fail
  refine (C0.out _).mono ?_
  rintro e0 w0 ⟨rfl, rfl⟩
  go_wp2_with fail
  refine (C1.out _).mono ?_
  rintro e1 w1 ⟨rfl, rfl⟩
  go_wp2_with fail
  go_ret
  exact ⟨by rw [e.out]; rfl, B0.out⟩
set_option maxHeartbeats 4000000 in
theorem specIns16 (a b c : Int) (w : World) : Calls Try.prog 14 #[.agg #[.int .i64 16, .int .i64 a, .int .i64 b, .int .i64 c]] w fun e w' => e = .returned (.bool (decide (inS (0, 63) a ∧ inS (0, 63) b ∧ inS (0, 0) c))) ∧ Below w.heap.size w w' := by
  have B0 := hide (show Below w.heap.size w (w.alloc (.cells #[.int .i64 16, .int .i64 a, .int .i64 b, .int .i64 c] 36)) from (Below.refl _ _).alloc (Nat.le_refl _) _)
  have C0 := hide (fun W => regF a W)
  have C1 := hide (fun W => regF b W)
  go_enter Try.func14, Try.ntmps14
  by_cases t0 : inS (0, 63) a
  case neg =>
    have e := hide (show decide (inS (0, 63) a ∧ inS (0, 63) b ∧ inS (0, 0) c) = false from decide_eq_false (fun h => t0 h.1))
    simp only [decide_eq_false t0] at C0
    clear t0
    go_wp2_with fail
    refine (C0.out _).mono ?_
    rintro e0 w0 ⟨rfl, rfl⟩
    go_wp2_with fail
    go_ret
    exact ⟨by rw [e.out]; rfl, B0.out⟩
  simp only [decide_eq_true t0] at C0
  by_cases t1 : inS (0, 63) b
  case neg =>
    have e := hide (show decide (inS (0, 63) a ∧ inS (0, 63) b ∧ inS (0, 0) c) = false from decide_eq_false (fun h => t1 h.2.1))
    simp only [decide_eq_false t1] at C1
    clear t0 t1
    go_wp2_with fail
    refine (C0.out _).mono ?_
    rintro e0 w0 ⟨rfl, rfl⟩
    go_wp2_with fail
    refine (C1.out _).mono ?_
    rintro e1 w1 ⟨rfl, rfl⟩
    go_wp2_with fail
    go_ret
    exact ⟨by rw [e.out]; rfl, B0.out⟩
  simp only [decide_eq_true t1] at C1
  by_cases t2 : inS (0, 0) c
  case neg =>
    have e := hide (show decide (inS (0, 63) a ∧ inS (0, 63) b ∧ inS (0, 0) c) = false from decide_eq_false (fun h => t2 h.2.2))
    have z2 : (c == 0) = false := by simpa using fun q : c = 0 => t2 ⟨by omega, by omega⟩
    clear t0 t1 t2
    go_wp2_with fail
    refine (C0.out _).mono ?_
    rintro e0 w0 ⟨rfl, rfl⟩
    go_wp2_with fail
    refine (C1.out _).mono ?_
    rintro e1 w1 ⟨rfl, rfl⟩
    go_wp2_with fail
    go_ret
    exact ⟨by rw [e.out]; rfl, B0.out⟩
  have z2 : (c == 0) = true := by have := t2.1; have := t2.2; simp; omega
  have e := hide (show decide (inS (0, 63) a ∧ inS (0, 63) b ∧ inS (0, 0) c) = true from decide_eq_true ⟨t0, t1, t2⟩)
  clear t0 t1 t2
  go_wp2_with fail
  refine (C0.out _).mono ?_
  rintro e0 w0 ⟨rfl, rfl⟩
  go_wp2_with fail
  refine (C1.out _).mono ?_
  rintro e1 w1 ⟨rfl, rfl⟩
  go_wp2_with fail
  go_ret
  exact ⟨by rw [e.out]; rfl, B0.out⟩
set_option maxHeartbeats 4000000 in
theorem specInsNo (o a b c : Int) (w : World) (h : sps o = none) : Calls Try.prog 14 #[.agg #[.int .i64 o, .int .i64 a, .int .i64 b, .int .i64 c]] w fun e w' => e = .returned (.bool false) ∧ Below w.heap.size w w' := by
  have B0 := hide (show Below w.heap.size w (w.alloc (.cells #[.int .i64 o, .int .i64 a, .int .i64 b, .int .i64 c] 36)) from (Below.refl _ _).alloc (Nat.le_refl _) _)
  have c1 : o ≠ 1 := by rintro rfl; revert h; decide
  have d1 : (o == 1) = false := by simpa using c1
  have c2 : o ≠ 2 := by rintro rfl; revert h; decide
  have d2 : (o == 2) = false := by simpa using c2
  have c3 : o ≠ 3 := by rintro rfl; revert h; decide
  have d3 : (o == 3) = false := by simpa using c3
  have c4 : o ≠ 4 := by rintro rfl; revert h; decide
  have d4 : (o == 4) = false := by simpa using c4
  have c5 : o ≠ 5 := by rintro rfl; revert h; decide
  have d5 : (o == 5) = false := by simpa using c5
  have c6 : o ≠ 6 := by rintro rfl; revert h; decide
  have d6 : (o == 6) = false := by simpa using c6
  have c7 : o ≠ 7 := by rintro rfl; revert h; decide
  have d7 : (o == 7) = false := by simpa using c7
  have c8 : o ≠ 8 := by rintro rfl; revert h; decide
  have d8 : (o == 8) = false := by simpa using c8
  have c9 : o ≠ 9 := by rintro rfl; revert h; decide
  have d9 : (o == 9) = false := by simpa using c9
  have c10 : o ≠ 10 := by rintro rfl; revert h; decide
  have d10 : (o == 10) = false := by simpa using c10
  have c11 : o ≠ 11 := by rintro rfl; revert h; decide
  have d11 : (o == 11) = false := by simpa using c11
  have c12 : o ≠ 12 := by rintro rfl; revert h; decide
  have d12 : (o == 12) = false := by simpa using c12
  have c13 : o ≠ 13 := by rintro rfl; revert h; decide
  have d13 : (o == 13) = false := by simpa using c13
  have c14 : o ≠ 14 := by rintro rfl; revert h; decide
  have d14 : (o == 14) = false := by simpa using c14
  have c15 : o ≠ 15 := by rintro rfl; revert h; decide
  have d15 : (o == 15) = false := by simpa using c15
  have c16 : o ≠ 16 := by rintro rfl; revert h; decide
  have d16 : (o == 16) = false := by simpa using c16
  clear h c1 c2 c3 c4 c5 c6 c7 c8 c9 c10 c11 c12 c13 c14 c15 c16
  go_enter Try.func14, Try.ntmps14
  go_wp2_with fail
  go_ret
  exact ⟨rfl, B0.out⟩
theorem specIns (x : IV) (w : World) : Calls Try.prog 14 #[.agg #[.int .i64 x.o, .int .i64 x.a, .int .i64 x.b, .int .i64 x.c]] w fun e w' => e = .returned (.bool (decide (InsOk x))) ∧ Below w.heap.size w w' := by
  obtain ⟨o, a, b, c⟩ := x
  dsimp only
  by_cases c1 : o = 1
  · subst c1
    have q := specIns1 a b c w
    rwa [show decide (InsOk ⟨1, a, b, c⟩) = _ from decide_eq_decide.2 (InsOk.of (x := ⟨1, a, b, c⟩) (s := ((1, 65536), (0, 0), (0, 0))) rfl)]
  by_cases c2 : o = 2
  · subst c2
    have q := specIns2 a b c w
    rwa [show decide (InsOk ⟨2, a, b, c⟩) = _ from decide_eq_decide.2 (InsOk.of (x := ⟨2, a, b, c⟩) (s := ((0, 0), (0, 0), (0, 0))) rfl)]
  by_cases c3 : o = 3
  · subst c3
    have q := specIns3 a b c w
    rwa [show decide (InsOk ⟨3, a, b, c⟩) = _ from decide_eq_decide.2 (InsOk.of (x := ⟨3, a, b, c⟩) (s := ((0, 31), ((-1000000), 1000000), (0, 0))) rfl)]
  by_cases c4 : o = 4
  · subst c4
    have q := specIns4 a b c w
    rwa [show decide (InsOk ⟨4, a, b, c⟩) = _ from decide_eq_decide.2 (InsOk.of (x := ⟨4, a, b, c⟩) (s := ((0, 31), ((-1000000), 1000000), (0, 0))) rfl)]
  by_cases c5 : o = 5
  · subst c5
    have q := specIns5 a b c w
    rwa [show decide (InsOk ⟨5, a, b, c⟩) = _ from decide_eq_decide.2 (InsOk.of (x := ⟨5, a, b, c⟩) (s := ((1, 8), (0, 0), (0, 0))) rfl)]
  by_cases c6 : o = 6
  · subst c6
    have q := specIns6 a b c w
    rwa [show decide (InsOk ⟨6, a, b, c⟩) = _ from decide_eq_decide.2 (InsOk.of (x := ⟨6, a, b, c⟩) (s := ((0, 63), (0, 31), ((-1000000), 1000000))) rfl)]
  by_cases c7 : o = 7
  · subst c7
    have q := specIns7 a b c w
    rwa [show decide (InsOk ⟨7, a, b, c⟩) = _ from decide_eq_decide.2 (InsOk.of (x := ⟨7, a, b, c⟩) (s := ((0, 63), (0, 31), ((-1000000), 1000000))) rfl)]
  by_cases c8 : o = 8
  · subst c8
    have q := specIns8 a b c w
    rwa [show decide (InsOk ⟨8, a, b, c⟩) = _ from decide_eq_decide.2 (InsOk.of (x := ⟨8, a, b, c⟩) (s := ((0, 63), (0, 31), ((-1000000), 1000000))) rfl)]
  by_cases c9 : o = 9
  · subst c9
    have q := specIns9 a b c w
    rwa [show decide (InsOk ⟨9, a, b, c⟩) = _ from decide_eq_decide.2 (InsOk.of (x := ⟨9, a, b, c⟩) (s := ((0, 63), (0, 2147483646), (0, 0))) rfl)]
  by_cases c10 : o = 10
  · subst c10
    have q := specIns10 a b c w
    rwa [show decide (InsOk ⟨10, a, b, c⟩) = _ from decide_eq_decide.2 (InsOk.of (x := ⟨10, a, b, c⟩) (s := ((0, 63), (0, 63), (0, 63))) rfl)]
  by_cases c11 : o = 11
  · subst c11
    have q := specIns11 a b c w
    rwa [show decide (InsOk ⟨11, a, b, c⟩) = _ from decide_eq_decide.2 (InsOk.of (x := ⟨11, a, b, c⟩) (s := ((0, 63), (0, 63), (0, 63))) rfl)]
  by_cases c12 : o = 12
  · subst c12
    have q := specIns12 a b c w
    rwa [show decide (InsOk ⟨12, a, b, c⟩) = _ from decide_eq_decide.2 (InsOk.of (x := ⟨12, a, b, c⟩) (s := ((0, 63), (0, 63), (0, 63))) rfl)]
  by_cases c13 : o = 13
  · subst c13
    have q := specIns13 a b c w
    rwa [show decide (InsOk ⟨13, a, b, c⟩) = _ from decide_eq_decide.2 (InsOk.of (x := ⟨13, a, b, c⟩) (s := ((0, 63), (0, 63), (0, 0))) rfl)]
  by_cases c14 : o = 14
  · subst c14
    have q := specIns14 a b c w
    rwa [show decide (InsOk ⟨14, a, b, c⟩) = _ from decide_eq_decide.2 (InsOk.of (x := ⟨14, a, b, c⟩) (s := ((0, 63), (0, 63), (0, 0))) rfl)]
  by_cases c15 : o = 15
  · subst c15
    have q := specIns15 a b c w
    rwa [show decide (InsOk ⟨15, a, b, c⟩) = _ from decide_eq_decide.2 (InsOk.of (x := ⟨15, a, b, c⟩) (s := ((0, 63), (0, 63), (0, 0))) rfl)]
  by_cases c16 : o = 16
  · subst c16
    have q := specIns16 a b c w
    rwa [show decide (InsOk ⟨16, a, b, c⟩) = _ from decide_eq_decide.2 (InsOk.of (x := ⟨16, a, b, c⟩) (s := ((0, 63), (0, 63), (0, 0))) rfl)]
  have h : sps o = none := by simp [sps, c1, c2, c3, c4, c5, c6, c7, c8, c9, c10, c11, c12, c13, c14, c15, c16]
  have q := specInsNo o a b c w h
  rwa [decide_eq_false (InsOk.no (x := ⟨o, a, b, c⟩) h)]
end Vo
end Go.Proofs.Ytpllbamldhgjkaa
