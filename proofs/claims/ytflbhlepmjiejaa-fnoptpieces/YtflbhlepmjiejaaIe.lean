/- Short steps; Bound on both sides (written by tools/gen14.py). -/
import Derived.Test.YtflbhlepmjiejaaIc
namespace Go.Proofs.Ytflbhlepmjiejaa
namespace Vo
open Go.ChangeShapes Go.WideShapes Go.ChangeAt Go.RowKit Go.Joins Go.Sort
open Vl
set_option linter.unusedVariables false
set_option linter.unusedSimpArgs false
theorem two_new (x y : Int) (w : World) (ty : TypeId) (hx : bd x) (hy : bd y) : Ints (w.heap.size + 1) (w.alloc (.cells #[.int .i64 x, .int .i64 y] ty)) (some ⟨w.heap.size, 0, none⟩) 2 (fun i => if i = 0 then x else y) :=
  .inr ⟨_, 0, rfl, by simp, fun j hj => by
    rcases (by omega : j = 0 ∨ j = 1) with rfl | rfl
    · exact ⟨by simp [go_sem], by simpa using hx⟩
    · exact ⟨by simp [go_sem], by simpa using hy⟩⟩
theorem inB_two (l m x y : Int) (b : Bool) (P : Nat) (w : World) (hl : l ≤ m) (hx : bd x) (hy : bd y) (hb : decide ((l ≤ x ∧ x ≤ m) ∧ (l ≤ y ∧ y ≤ m)) = b) (hP : P = w.heap.size) :
    Calls Try.prog 22 #[.int .i64 l, .int .i64 m, .slice (some ⟨P, 0, none⟩) 2 2] (w.alloc (.cells #[.int .i64 x, .int .i64 y] 3)) fun e w' => e = .returned (.bool b) ∧ Below w.heap.size w w' := by
  subst hP
  refine (inBoundsF (w.heap.size + 1) _ 2 2 (fun i => if i = 0 then x else y) l m _ hl (by simp) (two_new x y w _ hx hy) (by decide)).mono ?_
  rintro e w' ⟨rfl, b1⟩
  exact ⟨by rw [ib_two, hb], ((Below.refl _ _).alloc (Nat.le_refl _) _).trans (b1.mono (by simp))⟩
/-- a scale with a short step -/
def sht (s z : Int) : Bool := scOk s z && decide (s ≤ 16777216)
theorem sht_t {s z : Int} (h : scOk s z = true) (h' : s ≤ 16777216) : sht s z = true := by unfold sht; rw [h, decide_eq_true h']; rfl
theorem sht_of {s z : Int} (h : sht s z = true) : scOk s z = true ∧ s ≤ 16777216 := by
  unfold sht at h
  rw [Bool.and_eq_true] at h
  exact ⟨h.1, of_decide_eq_true h.2⟩
theorem sht_f {s z : Int} (h : ¬ (scOk s z = true ∧ s ≤ 16777216)) : sht s z = false := by
  cases e : sht s z
  · rfl
  · exact absurd (sht_of e) h
end Vo
end Go.Proofs.Ytflbhlepmjiejaa
