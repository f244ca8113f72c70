/- Arguments: schedules and rules (written by tools/gen15.py). -/
import Derived.Test.YtflbhlepmjiejaaEc
import Derived.Test.YtflbhlepmjiejaaAr
namespace Go.Proofs.Ytflbhlepmjiejaa
namespace Vo
open Go.ChangeShapes Go.WideShapes Go.ChangeAt Go.RowKit Go.Joins Go.Sort
open Vl
set_option linter.unusedVariables false
set_option linter.unusedSimpArgs false
/-- a variable that came in, one that goes out and the answer's: blocks p, p + 2, p + 1 of n cells -/
structure R3 (n : Nat) (w : World) (p : Nat) (S O R : Nat → Value) : Prop where
  s : ∀ i, i < n → w.cell? ⟨p, i, none⟩ = some (S i)
  o : ∀ i, i < n → w.cell? ⟨p + 1 + 1, i, none⟩ = some (O i)
  r : ∀ i, i < n → w.cell? ⟨p + 1, i, none⟩ = some (R i)
  fo : ∀ i, w.frozen? ⟨p + 1 + 1, i, none⟩ = false
  fr : ∀ i, w.frozen? ⟨p + 1, i, none⟩ = false
  z : p + 1 + 1 < w.heap.size
def upv (f : Nat → Value) (k : Nat) (x : Value) (i : Nat) : Value := if i = k then x else f i
theorem cell_oth {w : World} {b i c j : Nat} {v : Value} (n : ¬ (c = b ∧ j = i)) : (w.setCell ⟨b, i, none⟩ v).cell? ⟨c, j, none⟩ = w.cell? ⟨c, j, none⟩ :=
  World.cell?_setCell_other _ _ _ _ (fun q => by cases q; exact n ⟨rfl, rfl⟩)
theorem R3.setO {n p : Nat} {w : World} {S O R : Nat → Value} (h : R3 n w p S O R) (k : Nat) (x : Value) (hk : k < n) : R3 n (w.setCell ⟨p + 1 + 1, k, none⟩ x) p S (upv O k x) R where
  s i hi := by rw [cell_oth (by omega)]; exact h.s i hi
  o i hi := by
    unfold upv
    by_cases c : i = k
    · subst c; rw [if_pos rfl]; exact World.cell?_setCell_same _ _ _ (h.o i hi)
    · rw [if_neg c, cell_oth (by omega)]; exact h.o i hi
  r i hi := by rw [cell_oth (by omega)]; exact h.r i hi
  fo i := by rw [World.frozen?_setCell]; exact h.fo i
  fr i := by rw [World.frozen?_setCell]; exact h.fr i
  z := by simpa [World.setCell] using h.z
theorem R3.setR {n p : Nat} {w : World} {S O R : Nat → Value} (h : R3 n w p S O R) (k : Nat) (x : Value) (hk : k < n) : R3 n (w.setCell ⟨p + 1, k, none⟩ x) p S O (upv R k x) where
  s i hi := by rw [cell_oth (by omega)]; exact h.s i hi
  r i hi := by
    unfold upv
    by_cases c : i = k
    · subst c; rw [if_pos rfl]; exact World.cell?_setCell_same _ _ _ (h.r i hi)
    · rw [if_neg c, cell_oth (by omega)]; exact h.r i hi
  o i hi := by rw [cell_oth (by omega)]; exact h.o i hi
  fo i := by rw [World.frozen?_setCell]; exact h.fo i
  fr i := by rw [World.frozen?_setCell]; exact h.fr i
  z := by simpa [World.setCell] using h.z
theorem R3.below {n p : Nat} {w w' : World} {S O R : Nat → Value} (h : R3 n w p S O R) (b : Below w.heap.size w w') : R3 n w' p S O R where
  s i hi := by have := h.z; rw [b.cell (p := ⟨p, i, none⟩) (by show p < _; omega)]; exact h.s i hi
  o i hi := by have := h.z; rw [b.cell (p := ⟨p + 1 + 1, i, none⟩) (by show p + 1 + 1 < _; omega)]; exact h.o i hi
  r i hi := by have := h.z; rw [b.cell (p := ⟨p + 1, i, none⟩) (by show p + 1 < _; omega)]; exact h.r i hi
  fo i := (b.frozen (p := ⟨p + 1 + 1, i, none⟩) h.z).trans (h.fo i)
  fr i := (b.frozen (p := ⟨p + 1, i, none⟩) (by have := h.z; show p + 1 < _; omega)).trans (h.fr i)
  z := Nat.lt_of_lt_of_le h.z b.size
theorem R3.new (w : World) (S O R : Array Value) (t u v : TypeId) (n : Nat) (hS : S.size = n) (hO : O.size = n) (hR : R.size = n) : R3 n (((w.alloc (.cells S t)).alloc (.cells R u)).alloc (.cells O v)) w.heap.size (fun i => S.getD i undef) (fun i => O.getD i undef) (fun i => R.getD i undef) where
  s i hi := by simp [go_sem, Array.getD, hS, hi]
  o i hi := by simp [go_sem, Array.getD, hO, hi]
  r i hi := by simp [go_sem, Array.getD, hR, hi]
  fo i := by simp [go_sem]
  fr i := by simp [go_sem]
  z := by simp
end Vo
end Go.Proofs.Ytflbhlepmjiejaa
