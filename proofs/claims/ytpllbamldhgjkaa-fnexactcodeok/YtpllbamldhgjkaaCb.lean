/- Instructions that can be: what is asked of one. -/
import Derived.Test.YtpllbamldhgjkaaCa
import Derived.Lib.QuietBelow
import Derived.BigQuiet
namespace Go.Proofs.Ytpllbamldhgjkaa
namespace Vo
open Go.ChangeShapes Go.WideShapes Go.ChangeAt Go.RowKit Go.Joins Go.Sort
open Vl
set_option linter.unusedVariables false
set_option linter.unusedSimpArgs false
/-- where A, B, C of an Op may be -/
def sps (o : Int) : Option ((Int × Int) × (Int × Int) × (Int × Int)) :=
  if o = 1 then some ((1, 65536), (0, 0), (0, 0)) else
  if o = 2 then some ((0, 0), (0, 0), (0, 0)) else
  if o = 3 then some ((0, 31), ((-1000000), 1000000), (0, 0)) else
  if o = 4 then some ((0, 31), ((-1000000), 1000000), (0, 0)) else
  if o = 5 then some ((1, 8), (0, 0), (0, 0)) else
  if o = 6 then some ((0, 63), (0, 31), ((-1000000), 1000000)) else
  if o = 7 then some ((0, 63), (0, 31), ((-1000000), 1000000)) else
  if o = 8 then some ((0, 63), (0, 31), ((-1000000), 1000000)) else
  if o = 9 then some ((0, 63), (0, 2147483646), (0, 0)) else
  if o = 10 then some ((0, 63), (0, 63), (0, 63)) else
  if o = 11 then some ((0, 63), (0, 63), (0, 63)) else
  if o = 12 then some ((0, 63), (0, 63), (0, 63)) else
  if o = 13 then some ((0, 63), (0, 63), (0, 0)) else
  if o = 14 then some ((0, 63), (0, 63), (0, 0)) else
  if o = 15 then some ((0, 63), (0, 63), (0, 0)) else
  if o = 16 then some ((0, 63), (0, 63), (0, 0)) else
  none
def inS (s : Int × Int) (x : Int) : Prop := s.1 ≤ x ∧ x ≤ s.2
instance (s : Int × Int) (x : Int) : Decidable (inS s x) := by unfold inS; infer_instance
/-- an instruction that can be -/
def InsOk (x : IV) : Prop := ∃ s, sps x.o = some s ∧ inS s.1 x.a ∧ inS s.2.1 x.b ∧ inS s.2.2 x.c
theorem InsOk.of {x : IV} {s} (h : sps x.o = some s) : InsOk x ↔ (inS s.1 x.a ∧ inS s.2.1 x.b ∧ inS s.2.2 x.c) :=
  ⟨fun ⟨s', h', q⟩ => by rw [h] at h'; injection h' with h'; subst h'; exact q, fun q => ⟨s, h, q⟩⟩
theorem InsOk.no {x : IV} (h : sps x.o = none) : ¬ InsOk x := fun ⟨s, h', _⟩ => by rw [h] at h'; cases h'
instance (x : IV) : Decidable (InsOk x) :=
  match h : sps x.o with
  | none => .isFalse (InsOk.no h)
  | some s => decidable_of_iff _ (InsOk.of h).symm
set_option maxHeartbeats 1000000 in
theorem hasF (l m x : Int) (w : World) : Calls Try.prog 24 #[.agg #[.int .i64 l, .int .i64 m], .int .i64 x] w fun e w' => e = .returned (.bool (decide (inS (l, m) x))) ∧ Below w.heap.size w w' := by
  have B0 := hide (show Below w.heap.size w (w.alloc (.cells #[.int .i64 l, .int .i64 m] 44)) from (Below.refl _ _).alloc (Nat.le_refl _) _)
  go_enter Try.func24, Try.ntmps24
  by_cases c : l ≤ x
  · have e := hide (show decide (x ≤ m) = decide (inS (l, m) x) from decide_eq_decide.2 ⟨fun q => ⟨c, q⟩, fun q => q.2⟩)
    go_wp2_with fail
    go_ret
    exact ⟨by rw [← e.out]; rfl, B0.out⟩
  · have e := hide (show ¬ inS (l, m) x from fun q => c q.1)
    have c' : decide (l ≤ x) = false := by rw [decide_eq_false_iff_not]; exact c
    clear c
    go_wp2_with fail
    go_ret
    exact ⟨by rw [decide_eq_false e.out]; rfl, B0.out⟩
theorem below_alloc5i (o1 o2 o3 o4 o5 : Obj) (w : World) : Below w.heap.size w (((((w.alloc o1).alloc o2).alloc o3).alloc o4).alloc o5) := (((((Below.refl _ _).alloc (Nat.le_refl _) _).alloc (by simp) _).alloc (by simp; omega) _).alloc (by simp; omega) _).alloc (by simp; omega) _
set_option maxHeartbeats 4000000 in
theorem spans1 (w : World) : Calls Try.prog 23 #[.int .i64 1] w fun e w' => e = .returned (.tuple #[.agg #[.int .i64 1, .int .i64 65536, .int .i64 0, .int .i64 0, .int .i64 0, .int .i64 0], .bool true]) ∧ Below w.heap.size w w' := by
  go_enter Try.func23, Try.ntmps23
  go_wp2_with fail
  exact bodyPost_ret (v := .tuple #[.agg #[.int .i64 1, .int .i64 65536, .int .i64 0, .int .i64 0, .int .i64 0, .int .i64 0], .bool true]) (by simp [results, Try.results23, go_sem]) rfl ⟨rfl, below_alloc5i _ _ _ _ _ _⟩
set_option maxHeartbeats 4000000 in
theorem spans2 (w : World) : Calls Try.prog 23 #[.int .i64 2] w fun e w' => e = .returned (.tuple #[.agg #[.int .i64 0, .int .i64 0, .int .i64 0, .int .i64 0, .int .i64 0, .int .i64 0], .bool true]) ∧ Below w.heap.size w w' := by
  go_enter Try.func23, Try.ntmps23
  go_wp2_with fail
  exact bodyPost_ret (v := .tuple #[.agg #[.int .i64 0, .int .i64 0, .int .i64 0, .int .i64 0, .int .i64 0, .int .i64 0], .bool true]) (by simp [results, Try.results23, go_sem]) rfl ⟨rfl, below_alloc5i _ _ _ _ _ _⟩
set_option maxHeartbeats 4000000 in
theorem spans3 (w : World) : Calls Try.prog 23 #[.int .i64 3] w fun e w' => e = .returned (.tuple #[.agg #[.int .i64 0, .int .i64 31, .int .i64 (-1000000), .int .i64 1000000, .int .i64 0, .int .i64 0], .bool true]) ∧ Below w.heap.size w w' := by
  go_enter Try.func23, Try.ntmps23
  go_wp2_with fail
  exact bodyPost_ret (v := .tuple #[.agg #[.int .i64 0, .int .i64 31, .int .i64 (-1000000), .int .i64 1000000, .int .i64 0, .int .i64 0], .bool true]) (by simp [results, Try.results23, go_sem]) rfl ⟨rfl, below_alloc5i _ _ _ _ _ _⟩
set_option maxHeartbeats 4000000 in
theorem spans4 (w : World) : Calls Try.prog 23 #[.int .i64 4] w fun e w' => e = .returned (.tuple #[.agg #[.int .i64 0, .int .i64 31, .int .i64 (-1000000), .int .i64 1000000, .int .i64 0, .int .i64 0], .bool true]) ∧ Below w.heap.size w w' := by
  go_enter Try.func23, Try.ntmps23
  go_wp2_with fail
  exact bodyPost_ret (v := .tuple #[.agg #[.int .i64 0, .int .i64 31, .int .i64 (-1000000), .int .i64 1000000, .int .i64 0, .int .i64 0], .bool true]) (by simp [results, Try.results23, go_sem]) rfl ⟨rfl, below_alloc5i _ _ _ _ _ _⟩
set_option maxHeartbeats 4000000 in
theorem spans5 (w : World) : Calls Try.prog 23 #[.int .i64 5] w fun e w' => e = .returned (.tuple #[.agg #[.int .i64 1, .int .i64 8, .int .i64 0, .int .i64 0, .int .i64 0, .int .i64 0], .bool true]) ∧ Below w.heap.size w w' := by
  go_enter Try.func23, Try.ntmps23
  go_wp2_with fail
  exact bodyPost_ret (v := .tuple #[.agg #[.int .i64 1, .int .i64 8, .int .i64 0, .int .i64 0, .int .i64 0, .int .i64 0], .bool true]) (by simp [results, Try.results23, go_sem]) rfl ⟨rfl, below_alloc5i _ _ _ _ _ _⟩
set_option maxHeartbeats 4000000 in
theorem spans6 (w : World) : Calls Try.prog 23 #[.int .i64 6] w fun e w' => e = .returned (.tuple #[.agg #[.int .i64 0, .int .i64 63, .int .i64 0, .int .i64 31, .int .i64 (-1000000), .int .i64 1000000], .bool true]) ∧ Below w.heap.size w w' := by
  go_enter Try.func23, Try.ntmps23
  go_wp2_with fail
  exact bodyPost_ret (v := .tuple #[.agg #[.int .i64 0, .int .i64 63, .int .i64 0, .int .i64 31, .int .i64 (-1000000), .int .i64 1000000], .bool true]) (by simp [results, Try.results23, go_sem]) rfl ⟨rfl, below_alloc5i _ _ _ _ _ _⟩
set_option maxHeartbeats 4000000 in
theorem spans7 (w : World) : Calls Try.prog 23 #[.int .i64 7] w fun e w' => e = .returned (.tuple #[.agg #[.int .i64 0, .int .i64 63, .int .i64 0, .int .i64 31, .int .i64 (-1000000), .int .i64 1000000], .bool true]) ∧ Below w.heap.size w w' := by
  go_enter Try.func23, Try.ntmps23
  go_wp2_with fail
  exact bodyPost_ret (v := .tuple #[.agg #[.int .i64 0, .int .i64 63, .int .i64 0, .int .i64 31, .int .i64 (-1000000), .int .i64 1000000], .bool true]) (by simp [results, Try.results23, go_sem]) rfl ⟨rfl, below_alloc5i _ _ _ _ _ _⟩
set_option maxHeartbeats 4000000 in
theorem spans8 (w : World) : Calls Try.prog 23 #[.int .i64 8] w fun e w' => e = .returned (.tuple #[.agg #[.int .i64 0, .int .i64 63, .int .i64 0, .int .i64 31, .int .i64 (-1000000), .int .i64 1000000], .bool true]) ∧ Below w.heap.size w w' := by
  go_enter Try.func23, Try.ntmps23
  go_wp2_with fail
  exact bodyPost_ret (v := .tuple #[.agg #[.int .i64 0, .int .i64 63, .int .i64 0, .int .i64 31, .int .i64 (-1000000), .int .i64 1000000], .bool true]) (by simp [results, Try.results23, go_sem]) rfl ⟨rfl, below_alloc5i _ _ _ _ _ _⟩
set_option maxHeartbeats 4000000 in
theorem spans9 (w : World) : Calls Try.prog 23 #[.int .i64 9] w fun e w' => e = .returned (.tuple #[.agg #[.int .i64 0, .int .i64 63, .int .i64 0, .int .i64 2147483646, .int .i64 0, .int .i64 0], .bool true]) ∧ Below w.heap.size w w' := by
  go_enter Try.func23, Try.ntmps23
  go_wp2_with fail
  exact bodyPost_ret (v := .tuple #[.agg #[.int .i64 0, .int .i64 63, .int .i64 0, .int .i64 2147483646, .int .i64 0, .int .i64 0], .bool true]) (by simp [results, Try.results23, go_sem]) rfl ⟨rfl, below_alloc5i _ _ _ _ _ _⟩
set_option maxHeartbeats 4000000 in
theorem spans10 (w : World) : Calls Try.prog 23 #[.int .i64 10] w fun e w' => e = .returned (.tuple #[.agg #[.int .i64 0, .int .i64 63, .int .i64 0, .int .i64 63, .int .i64 0, .int .i64 63], .bool true]) ∧ Below w.heap.size w w' := by
  go_enter Try.func23, Try.ntmps23
  go_wp2_with fail
  exact bodyPost_ret (v := .tuple #[.agg #[.int .i64 0, .int .i64 63, .int .i64 0, .int .i64 63, .int .i64 0, .int .i64 63], .bool true]) (by simp [results, Try.results23, go_sem]) rfl ⟨rfl, below_alloc5i _ _ _ _ _ _⟩
set_option maxHeartbeats 4000000 in
theorem spans11 (w : World) : Calls Try.prog 23 #[.int .i64 11] w fun e w' => e = .returned (.tuple #[.agg #[.int .i64 0, .int .i64 63, .int .i64 0, .int .i64 63, .int .i64 0, .int .i64 63], .bool true]) ∧ Below w.heap.size w w' := by
  go_enter Try.func23, Try.ntmps23
  go_wp2_with fail
  exact bodyPost_ret (v := .tuple #[.agg #[.int .i64 0, .int .i64 63, .int .i64 0, .int .i64 63, .int .i64 0, .int .i64 63], .bool true]) (by simp [results, Try.results23, go_sem]) rfl ⟨rfl, below_alloc5i _ _ _ _ _ _⟩
set_option maxHeartbeats 4000000 in
theorem spans12 (w : World) : Calls Try.prog 23 #[.int .i64 12] w fun e w' => e = .returned (.tuple #[.agg #[.int .i64 0, .int .i64 63, .int .i64 0, .int .i64 63, .int .i64 0, .int .i64 63], .bool true]) ∧ Below w.heap.size w w' := by
  go_enter Try.func23, Try.ntmps23
  go_wp2_with fail
  exact bodyPost_ret (v := .tuple #[.agg #[.int .i64 0, .int .i64 63, .int .i64 0, .int .i64 63, .int .i64 0, .int .i64 63], .bool true]) (by simp [results, Try.results23, go_sem]) rfl ⟨rfl, below_alloc5i _ _ _ _ _ _⟩
set_option maxHeartbeats 4000000 in
theorem spans13 (w : World) : Calls Try.prog 23 #[.int .i64 13] w fun e w' => e = .returned (.tuple #[.agg #[.int .i64 0, .int .i64 63, .int .i64 0, .int .i64 63, .int .i64 0, .int .i64 0], .bool true]) ∧ Below w.heap.size w w' := by
  go_enter Try.func23, Try.ntmps23
  go_wp2_with fail
  exact bodyPost_ret (v := .tuple #[.agg #[.int .i64 0, .int .i64 63, .int .i64 0, .int .i64 63, .int .i64 0, .int .i64 0], .bool true]) (by simp [results, Try.results23, go_sem]) rfl ⟨rfl, below_alloc5i _ _ _ _ _ _⟩
set_option maxHeartbeats 4000000 in
theorem spans14 (w : World) : Calls Try.prog 23 #[.int .i64 14] w fun e w' => e = .returned (.tuple #[.agg #[.int .i64 0, .int .i64 63, .int .i64 0, .int .i64 63, .int .i64 0, .int .i64 0], .bool true]) ∧ Below w.heap.size w w' := by
  go_enter Try.func23, Try.ntmps23
  go_wp2_with fail
  exact bodyPost_ret (v := .tuple #[.agg #[.int .i64 0, .int .i64 63, .int .i64 0, .int .i64 63, .int .i64 0, .int .i64 0], .bool true]) (by simp [results, Try.results23, go_sem]) rfl ⟨rfl, below_alloc5i _ _ _ _ _ _⟩
set_option maxHeartbeats 4000000 in
theorem spans15 (w : World) : Calls Try.prog 23 #[.int .i64 15] w fun e w' => e = .returned (.tuple #[.agg #[.int .i64 0, .int .i64 63, .int .i64 0, .int .i64 63, .int .i64 0, .int .i64 0], .bool true]) ∧ Below w.heap.size w w' := by
  go_enter Try.func23, Try.ntmps23
  go_wp2_with fail
  exact bodyPost_ret (v := .tuple #[.agg #[.int .i64 0, .int .i64 63, .int .i64 0, .int .i64 63, .int .i64 0, .int .i64 0], .bool true]) (by simp [results, Try.results23, go_sem]) rfl ⟨rfl, below_alloc5i _ _ _ _ _ _⟩
set_option maxHeartbeats 4000000 in
theorem spans16 (w : World) : Calls Try.prog 23 #[.int .i64 16] w fun e w' => e = .returned (.tuple #[.agg #[.int .i64 0, .int .i64 63, .int .i64 0, .int .i64 63, .int .i64 0, .int .i64 0], .bool true]) ∧ Below w.heap.size w w' := by
  go_enter Try.func23, Try.ntmps23
  go_wp2_with fail
  exact bodyPost_ret (v := .tuple #[.agg #[.int .i64 0, .int .i64 63, .int .i64 0, .int .i64 63, .int .i64 0, .int .i64 0], .bool true]) (by simp [results, Try.results23, go_sem]) rfl ⟨rfl, below_alloc5i _ _ _ _ _ _⟩
set_option maxHeartbeats 4000000 in
theorem spansNo (o : Int) (w : World) (h : sps o = none) : Calls Try.prog 23 #[.int .i64 o] w fun e w' => e = .returned (.tuple #[.agg #[.int .i64 0, .int .i64 0, .int .i64 0, .int .i64 0, .int .i64 0, .int .i64 0], .bool false]) ∧ Below w.heap.size w w' := by
  have c1 : o ≠ 1 := by rintro rfl; revert h; decide
  have d1 : (o == 1) = false := by simpa using c1
  have c2 : o ≠ 2 := by rintro rfl; revert h; decide
  have d2 : (o == 2) = false := by simpa using c2
  have c3 : o ≠ 3 := by rintro rfl; revert h; decide
  have d3 : (o == 3) = false := by simpa using c3
  have c4 : o ≠ 4 := by rintro rfl; revert h; decide
  have d4 : (o == 4) = false := by simpa using c4
  have c5 : o ≠ 5 := by rintro rfl; revert h; decide
  have d5 : (o == 5) = false := by simpa using c5
  have c6 : o ≠ 6 := by rintro rfl; revert h; decide
  have d6 : (o == 6) = false := by simpa using c6
  have c7 : o ≠ 7 := by rintro rfl; revert h; decide
  have d7 : (o == 7) = false := by simpa using c7
  have c8 : o ≠ 8 := by rintro rfl; revert h; decide
  have d8 : (o == 8) = false := by simpa using c8
  have c9 : o ≠ 9 := by rintro rfl; revert h; decide
  have d9 : (o == 9) = false := by simpa using c9
  have c10 : o ≠ 10 := by rintro rfl; revert h; decide
  have d10 : (o == 10) = false := by simpa using c10
  have c11 : o ≠ 11 := by rintro rfl; revert h; decide
  have d11 : (o == 11) = false := by simpa using c11
  have c12 : o ≠ 12 := by rintro rfl; revert h; decide
  have d12 : (o == 12) = false := by simpa using c12
  have c13 : o ≠ 13 := by rintro rfl; revert h; decide
  have d13 : (o == 13) = false := by simpa using c13
  have c14 : o ≠ 14 := by rintro rfl; revert h; decide
  have d14 : (o == 14) = false := by simpa using c14
  have c15 : o ≠ 15 := by rintro rfl; revert h; decide
  have d15 : (o == 15) = false := by simpa using c15
  have c16 : o ≠ 16 := by rintro rfl; revert h; decide
  have d16 : (o == 16) = false := by simpa using c16
  clear h c1 c2 c3 c4 c5 c6 c7 c8 c9 c10 c11 c12 c13 c14 c15 c16
  go_enter Try.func23, Try.ntmps23
  go_wp2_with fail
  exact bodyPost_ret (v := .tuple #[.agg #[.int .i64 0, .int .i64 0, .int .i64 0, .int .i64 0, .int .i64 0, .int .i64 0], .bool false]) (by simp [results, Try.results23, go_sem]) rfl ⟨rfl, below_alloc5i _ _ _ _ _ _⟩
theorem spansYes (o : Int) (s : (Int × Int) × (Int × Int) × (Int × Int)) (w : World) (h : sps o = some s) : Calls Try.prog 23 #[.int .i64 o] w fun e w' => e = .returned (.tuple #[.agg #[.int .i64 s.1.1, .int .i64 s.1.2, .int .i64 s.2.1.1, .int .i64 s.2.1.2, .int .i64 s.2.2.1, .int .i64 s.2.2.2], .bool true]) ∧ Below w.heap.size w w' := by
  by_cases c1 : o = 1
  · subst c1
    obtain rfl := Option.some.inj h
    exact spans1 w
  by_cases c2 : o = 2
  · subst c2
    obtain rfl := Option.some.inj h
    exact spans2 w
  by_cases c3 : o = 3
  · subst c3
    obtain rfl := Option.some.inj h
    exact spans3 w
  by_cases c4 : o = 4
  · subst c4
    obtain rfl := Option.some.inj h
    exact spans4 w
  by_cases c5 : o = 5
  · subst c5
    obtain rfl := Option.some.inj h
    exact spans5 w
  by_cases c6 : o = 6
  · subst c6
    obtain rfl := Option.some.inj h
    exact spans6 w
  by_cases c7 : o = 7
  · subst c7
    obtain rfl := Option.some.inj h
    exact spans7 w
  by_cases c8 : o = 8
  · subst c8
    obtain rfl := Option.some.inj h
    exact spans8 w
  by_cases c9 : o = 9
  · subst c9
    obtain rfl := Option.some.inj h
    exact spans9 w
  by_cases c10 : o = 10
  · subst c10
    obtain rfl := Option.some.inj h
    exact spans10 w
  by_cases c11 : o = 11
  · subst c11
    obtain rfl := Option.some.inj h
    exact spans11 w
  by_cases c12 : o = 12
  · subst c12
    obtain rfl := Option.some.inj h
    exact spans12 w
  by_cases c13 : o = 13
  · subst c13
    obtain rfl := Option.some.inj h
    exact spans13 w
  by_cases c14 : o = 14
  · subst c14
    obtain rfl := Option.some.inj h
    exact spans14 w
  by_cases c15 : o = 15
  · subst c15
    obtain rfl := Option.some.inj h
    exact spans15 w
  by_cases c16 : o = 16
  · subst c16
    obtain rfl := Option.some.inj h
    exact spans16 w
  · simp [sps, c1, c2, c3, c4, c5, c6, c7, c8, c9, c10, c11, c12, c13, c14, c15, c16] at h
end Vo
end Go.Proofs.Ytpllbamldhgjkaa
