/- Gradients, and how long they are, on both sides. -/
import Derived.Test.YtnnjkanmcfjblaaEb
namespace Go.Proofs.Ytnnjkanmcfjblaa
namespace Vo
open Go.ChangeShapes Go.WideShapes Go.ChangeAt Go.RowKit Go.Joins Go.Sort
open Vl
set_option linter.unusedVariables false
set_option linter.unusedSimpArgs false
/-- a gradient -/
def grd (r : Nat) (S : Nat → Int) : Bool := ib (-16777216) 16777216 r S && decide ((r : Int) ≤ 4096)
theorem grd_of {r : Nat} {S : Nat → Int} (h : grd r S = true) : (∀ j, j < r → -16777216 ≤ S j ∧ S j ≤ 16777216) ∧ (r : Int) ≤ 4096 := by
  unfold grd at h
  rw [Bool.and_eq_true] at h
  exact ⟨of_decide_eq_true h.1, of_decide_eq_true h.2⟩
theorem grd_mk {r : Nat} {S : Nat → Int} (h : ∀ j, j < r → -16777216 ≤ S j ∧ S j ≤ 16777216) (h' : (r : Int) ≤ 4096) : grd r S = true := by
  unfold grd ib
  rw [decide_eq_true h, decide_eq_true h']; rfl
theorem grd_same {r : Nat} {S T : Nat → Int} (h : ∀ j, j < r → S j = T j) : grd r S = grd r T := by
  unfold grd ib
  congr 1
  rw [decide_eq_decide]
  exact ⟨fun q i hi => h i hi ▸ q i hi, fun q i hi => (h i hi).symm ▸ q i hi⟩
/-- the sum of the squares -/
def nsum (P : Nat → Int) : Nat → Int
  | 0 => 0
  | k + 1 => nsum P k + P k * P k
theorem sq_bd {x : Int} (h : -16777216 ≤ x ∧ x ≤ 16777216) : 0 ≤ x * x ∧ x * x ≤ 281474976710656 := by
  by_cases c : 0 ≤ x
  · exact ⟨Int.mul_nonneg c c, sq_le c h.2⟩
  · have := sq_le (a := -x) (b := 16777216) (by omega) (by omega)
    rw [Int.neg_mul_neg] at this
    exact ⟨by have := Int.mul_nonneg (a := -x) (b := -x) (by omega) (by omega); rw [Int.neg_mul_neg] at this; exact this, this⟩
theorem nsum_bd {P : Nat → Int} (k : Nat) (h : ∀ j, j < k → -16777216 ≤ P j ∧ P j ≤ 16777216) : 0 ≤ nsum P k ∧ nsum P k ≤ 281474976710656 * (k : Int) := by
  induction k with
  | zero => exact ⟨Int.le_refl _, by show (0 : Int) ≤ _; omega⟩
  | succ k ih =>
    have h1 := ih (fun j hj => h j (by omega))
    have h2 := sq_bd (h k (by omega))
    show 0 ≤ nsum P k + P k * P k ∧ nsum P k + P k * P k ≤ _
    omega
theorem nsum_same {P Q : Nat → Int} (k : Nat) (h : ∀ j, j < k → P j = Q j) : nsum P k = nsum Q k := by
  induction k with
  | zero => rfl
  | succ k ih =>
    show nsum P k + P k * P k = nsum Q k + Q k * Q k
    rw [ih (fun j hj => h j (by omega)), h k (by omega)]
end Vo
end Go.Proofs.Ytnnjkanmcfjblaa
