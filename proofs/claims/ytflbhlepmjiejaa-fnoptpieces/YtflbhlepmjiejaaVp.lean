/- Views, plain: lists as functions of their places; products of lengths. -/
import Derived.Below
namespace Go.Proofs.Ytflbhlepmjiejaa
namespace Vp

/-- the product of the first lengths -/
def pr (D : Nat → Int) : Nat → Int | 0 => 1 | n + 1 => pr D n * D n
/-- the same where they are lengths, and not too many; else 0 -/
def szR (D : Nat → Int) : Nat → Int | 0 => 1 | n + 1 => if szR D n = 0 ∨ D n < 1 ∨ 4096 < szR D n * D n then 0 else szR D n * D n
def sz (r : Nat) (D : Nat → Int) : Int := if 6 < r then 0 else szR D r
def dok (r : Nat) (D : Nat → Int) : Bool := decide (0 < sz r D)
theorem szR_cases (D : Nat → Int) (n : Nat) : szR D n = 0 ∨ ((∀ j, j < n → 1 ≤ D j) ∧ szR D n = pr D n ∧ 1 ≤ szR D n ∧ szR D n ≤ 4096) := by
  induction n with
  | zero => exact .inr ⟨fun _ h => by omega, rfl, by simp [szR], by simp [szR]⟩
  | succ n ih =>
    simp only [szR]
    by_cases c : szR D n = 0 ∨ D n < 1 ∨ 4096 < szR D n * D n
    · rw [if_pos c]; exact .inl rfl
    · rw [if_neg c]
      rcases ih with h | ⟨h1, h2, h3, h4⟩
      · exact absurd (.inl h) c
      · have hd : 1 ≤ D n := by omega
        refine .inr ⟨fun j hj => ?_, by rw [h2]; rfl, ?_, by omega⟩
        · by_cases e : j = n
          · rw [e]; exact hd
          · exact h1 j (by omega)
        · have := Int.mul_le_mul h3 hd (by omega) (by omega)
          omega
theorem szR_zero {D : Nat → Int} {n m : Nat} (h : szR D n = 0) (hm : n ≤ m) : szR D m = 0 := by
  induction m with
  | zero => obtain rfl : n = 0 := by omega
            exact h
  | succ m ih =>
    by_cases e : n = m + 1
    · rw [← e]; exact h
    · simp only [szR]; rw [if_pos (.inl (ih (by omega)))]
theorem szR_bad {D : Nat → Int} {n r : Nat} (hn : n < r) (h : D n < 1 ∨ 4096 < szR D n * D n) : szR D r = 0 := by
  refine szR_zero (n := n + 1) ?_ hn
  simp only [szR]; rw [if_pos (.inr h)]
theorem szR_next {D : Nat → Int} {n : Nat} (h0 : 1 ≤ szR D n) (h1 : 1 ≤ D n) (h2 : szR D n * D n ≤ 4096) : szR D (n + 1) = szR D n * D n := by
  simp only [szR]; rw [if_neg (by omega)]
theorem szR_rng (D : Nat → Int) (n : Nat) : 0 ≤ szR D n ∧ szR D n ≤ 4096 := by
  rcases szR_cases D n with h | h <;> omega
theorem big_mul {a b : Int} (ha : 1 ≤ a) (hb : 4096 < b) : 4096 < a * b := by
  have := Int.mul_le_mul ha (show 4097 ≤ b by omega) (by omega) (by omega)
  omega
theorem quo_lt {s d : Int} (h1 : 1 ≤ s) (h : 4096 / s < d) : 4096 < s * d := by
  have h4 := Int.emod_lt_of_pos 4096 (show 0 < s by omega)
  have h5 := Int.mul_ediv_add_emod 4096 s
  have h6 := Int.mul_le_mul_of_nonneg_left (show 4096 / s + 1 ≤ d by omega) (show 0 ≤ s by omega)
  rw [Int.mul_add, Int.mul_one] at h6
  omega
theorem quo_ge {s d : Int} (h1 : 1 ≤ s) (h : d ≤ 4096 / s) : s * d ≤ 4096 := by
  have h4 := Int.emod_nonneg 4096 (show s ≠ 0 by omega)
  have h5 := Int.mul_ediv_add_emod 4096 s
  have h6 := Int.mul_le_mul_of_nonneg_left h (show 0 ≤ s by omega)
  omega
theorem pr_same {D E : Nat → Int} {n : Nat} (h : ∀ j, j < n → D j = E j) : pr D n = pr E n := by
  induction n with
  | zero => rfl
  | succ n ih => simp only [pr]; rw [ih (fun j hj => h j (by omega)), h n (by omega)]
theorem szR_same {D E : Nat → Int} {n : Nat} (h : ∀ j, j < n → D j = E j) : szR D n = szR E n := by
  induction n with
  | zero => rfl
  | succ n ih => simp only [szR]; rw [ih (fun j hj => h j (by omega)), h n (by omega)]
theorem sz_same {r : Nat} {D E : Nat → Int} (h : ∀ j, j < r → D j = E j) : sz r D = sz r E := by unfold sz; rw [szR_same h]
theorem dok_iff {r : Nat} {D : Nat → Int} : dok r D = true ↔ r ≤ 6 ∧ 0 < szR D r := by
  unfold dok sz
  by_cases h : 6 < r
  · rw [if_pos h]; simp; omega
  · rw [if_neg h]; simp; omega
theorem dok_len {r : Nat} {D : Nat → Int} (h : dok r D = true) {j : Nat} (hj : j < r) : 1 ≤ D j ∧ D j ≤ 4096 := by
  obtain ⟨_, h0⟩ := dok_iff.1 h
  rcases szR_cases D r with e | ⟨h1, _, _, _⟩
  · omega
  · have d1 := h1 j hj
    refine ⟨d1, ?_⟩
    rcases szR_cases D j with e | ⟨_, _, s1, s4⟩
    · have := szR_zero e (Nat.le_of_lt hj); omega
    · apply Decidable.byContradiction; intro hc
      have := szR_bad hj (.inr (big_mul s1 (show 4096 < D j by omega)))
      omega
end Vp
end Go.Proofs.Ytflbhlepmjiejaa
