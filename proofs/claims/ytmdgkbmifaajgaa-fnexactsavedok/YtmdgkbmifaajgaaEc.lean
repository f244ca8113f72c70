/- Rules that can be, on both sides (written by tools/gen15.py). -/
import Derived.Test.YtmdgkbmifaajgaaEa
namespace Go.Proofs.Ytmdgkbmifaajgaa
namespace Vo
open Go.ChangeShapes Go.WideShapes Go.ChangeAt Go.RowKit Go.Joins Go.Sort
open Vl
set_option linter.unusedVariables false
set_option linter.unusedSimpArgs false
/-- 11 ints in a variable -/
def Box11 (w : World) (p : Nat) (x0 x1 x2 x3 x4 x5 x6 x7 x8 x9 x10 : Int) : Prop := p < w.heap.size ∧ w.cell? ⟨p, 0, none⟩ = some (.int .i64 x0) ∧ w.cell? ⟨p, 1, none⟩ = some (.int .i64 x1) ∧ w.cell? ⟨p, 2, none⟩ = some (.int .i64 x2) ∧ w.cell? ⟨p, 3, none⟩ = some (.int .i64 x3) ∧ w.cell? ⟨p, 4, none⟩ = some (.int .i64 x4) ∧ w.cell? ⟨p, 5, none⟩ = some (.int .i64 x5) ∧ w.cell? ⟨p, 6, none⟩ = some (.int .i64 x6) ∧ w.cell? ⟨p, 7, none⟩ = some (.int .i64 x7) ∧ w.cell? ⟨p, 8, none⟩ = some (.int .i64 x8) ∧ w.cell? ⟨p, 9, none⟩ = some (.int .i64 x9) ∧ w.cell? ⟨p, 10, none⟩ = some (.int .i64 x10)
theorem box11_new (w : World) (x0 x1 x2 x3 x4 x5 x6 x7 x8 x9 x10 : Int) (ty : TypeId) : Box11 (w.alloc (.cells #[.int .i64 x0, .int .i64 x1, .int .i64 x2, .int .i64 x3, .int .i64 x4, .int .i64 x5, .int .i64 x6, .int .i64 x7, .int .i64 x8, .int .i64 x9, .int .i64 x10] ty)) w.heap.size x0 x1 x2 x3 x4 x5 x6 x7 x8 x9 x10 := ⟨by simp, by simp [go_sem], by simp [go_sem], by simp [go_sem], by simp [go_sem], by simp [go_sem], by simp [go_sem], by simp [go_sem], by simp [go_sem], by simp [go_sem], by simp [go_sem], by simp [go_sem]⟩
theorem Box11.below {w w' : World} {p : Nat} {x0 x1 x2 x3 x4 x5 x6 x7 x8 x9 x10 : Int} (h : Box11 w p x0 x1 x2 x3 x4 x5 x6 x7 x8 x9 x10) (b : Below w.heap.size w w') : Box11 w' p x0 x1 x2 x3 x4 x5 x6 x7 x8 x9 x10 := by
  obtain ⟨hp, h0, h1, h2, h3, h4, h5, h6, h7, h8, h9, h10⟩ := h
  exact ⟨Nat.lt_of_lt_of_le hp b.size, by rw [b.cell (p := ⟨p, 0, none⟩) hp]; exact h0, by rw [b.cell (p := ⟨p, 1, none⟩) hp]; exact h1, by rw [b.cell (p := ⟨p, 2, none⟩) hp]; exact h2, by rw [b.cell (p := ⟨p, 3, none⟩) hp]; exact h3, by rw [b.cell (p := ⟨p, 4, none⟩) hp]; exact h4, by rw [b.cell (p := ⟨p, 5, none⟩) hp]; exact h5, by rw [b.cell (p := ⟨p, 6, none⟩) hp]; exact h6, by rw [b.cell (p := ⟨p, 7, none⟩) hp]; exact h7, by rw [b.cell (p := ⟨p, 8, none⟩) hp]; exact h8, by rw [b.cell (p := ⟨p, 9, none⟩) hp]; exact h9, by rw [b.cell (p := ⟨p, 10, none⟩) hp]; exact h10⟩
theorem three_new (x y z : Int) (w : World) (ty : TypeId) (hx : bd x) (hy : bd y) (hz : bd z) : Ints (w.heap.size + 1) (w.alloc (.cells #[.int .i64 x, .int .i64 y, .int .i64 z] ty)) (some ⟨w.heap.size, 0, none⟩) 3 (fun i => if i = 0 then x else if i = 1 then y else z) :=
  .inr ⟨_, 0, rfl, by simp, fun j hj => by
    rcases (by omega : j = 0 ∨ j = 1 ∨ j = 2) with rfl | rfl | rfl
    · exact ⟨by simp [go_sem], by simpa using hx⟩
    · exact ⟨by simp [go_sem], by simpa using hy⟩
    · exact ⟨by simp [go_sem], by simpa using hz⟩⟩
theorem ib_three (l m x y z : Int) : ib l m 3 (fun i => if i = 0 then x else if i = 1 then y else z) = decide ((l ≤ x ∧ x ≤ m) ∧ (l ≤ y ∧ y ≤ m) ∧ (l ≤ z ∧ z ≤ m)) := by
  unfold ib
  rw [decide_eq_decide]
  refine ⟨fun h => ⟨by simpa using h 0 (by omega), by simpa using h 1 (by omega), by simpa using h 2 (by omega)⟩, fun h i hi => ?_⟩
  rcases (by omega : i = 0 ∨ i = 1 ∨ i = 2) with rfl | rfl | rfl
  · exact h.1
  · exact h.2.1
  · exact h.2.2
/-- a rule that can be -/
def rulOk (d p l m n k z o y s g : Int) : Bool := decide ((1 ≤ d ∧ d ≤ 3) ∧ schOk p l m n = true ∧ (0 ≤ k ∧ k ≤ 65536) ∧ (0 ≤ z ∧ z ≤ 65536) ∧ (0 ≤ y ∧ y ≤ 65536) ∧ (1 ≤ o ∧ o ≤ 16777216) ∧ (0 ≤ s ∧ s ≤ 1073741824) ∧ (0 ≤ g ∧ g ≤ 1000000))
theorem rul_of {d p l m n k z o y s g : Int} (h : rulOk d p l m n k z o y s g = true) : (1 ≤ d ∧ d ≤ 3) ∧ schOk p l m n = true ∧ (0 ≤ k ∧ k ≤ 65536) ∧ (0 ≤ z ∧ z ≤ 65536) ∧ (0 ≤ y ∧ y ≤ 65536) ∧ (1 ≤ o ∧ o ≤ 16777216) ∧ (0 ≤ s ∧ s ≤ 1073741824) ∧ (0 ≤ g ∧ g ≤ 1000000) := of_decide_eq_true h
end Vo
end Go.Proofs.Ytmdgkbmifaajgaa
