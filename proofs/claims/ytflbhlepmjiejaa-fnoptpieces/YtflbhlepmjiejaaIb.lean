/- Scales on both sides; what a real is as a byte, and back. -/
import Derived.Test.YtflbhlepmjiejaaIa
import Derived.Test.YtflbhlepmjiejaaNea
namespace Go.Proofs.Ytflbhlepmjiejaa
namespace Vo
open Go.ChangeShapes Go.WideShapes Go.ChangeAt Go.RowKit Go.Joins Go.Sort
open Vl
set_option linter.unusedVariables false
set_option linter.unusedSimpArgs false
theorem one_new (x : Int) (w : World) (ty : TypeId) (hx : bd x) : Ints (w.heap.size + 1) (w.alloc (.cells #[.int .i64 x] ty)) (some ⟨w.heap.size, 0, none⟩) 1 (fun _ => x) :=
  .inr ⟨_, 0, rfl, by simp, fun j hj => by
    obtain rfl : j = 0 := by omega
    exact ⟨by simp [go_sem], hx⟩⟩
theorem inB_one (l m x : Int) (b : Bool) (P : Nat) (w : World) (hl : l ≤ m) (hx : bd x) (hb : decide (l ≤ x ∧ x ≤ m) = b) (hP : P = w.heap.size) :
    Calls Try.prog 22 #[.int .i64 l, .int .i64 m, .slice (some ⟨P, 0, none⟩) 1 1] (w.alloc (.cells #[.int .i64 x] 3)) fun e w' => e = .returned (.bool b) ∧ Below w.heap.size w w' := by
  subst hP
  refine (inBoundsF (w.heap.size + 1) _ 1 1 (fun _ => x) l m _ hl (by simp) (one_new x w _ hx) (by decide)).mono ?_
  rintro e w' ⟨rfl, b1⟩
  exact ⟨by rw [ib_one, hb], ((Below.refl _ _).alloc (Nat.le_refl _) _).trans (b1.mono (by simp))⟩
theorem sc_f1 {s z : Int} (h : ¬ (1 ≤ s ∧ s ≤ 1099511627776)) : scOk s z = false := decide_eq_false (fun q => h q.1)
theorem sc_f2 {s z : Int} (h : ¬ (0 ≤ z ∧ z ≤ 255)) : scOk s z = false := decide_eq_false (fun q => h q.2)
theorem sc_t {s z : Int} (h : 1 ≤ s ∧ s ≤ 1099511627776) (h' : 0 ≤ z ∧ z ≤ 255) : scOk s z = true := decide_eq_true ⟨h, h'⟩
theorem sc_of {s z : Int} (h : scOk s z = true) : (1 ≤ s ∧ s ≤ 1099511627776) ∧ (0 ≤ z ∧ z ≤ 255) := of_decide_eq_true h
theorem mul255 {s y : Int} (s0 : 1 ≤ s) (s1 : s ≤ 1099511627776) (y0 : -255 ≤ y) (y1 : y ≤ 255) : -280375465082880 ≤ s * y ∧ s * y ≤ 280375465082880 := by
  have h : (s * y).natAbs ≤ 1099511627776 * 255 := by
    rw [Int.natAbs_mul]; exact Nat.mul_le_mul (by omega) (by omega)
  generalize s * y = z at *
  omega
end Vo
end Go.Proofs.Ytflbhlepmjiejaa
