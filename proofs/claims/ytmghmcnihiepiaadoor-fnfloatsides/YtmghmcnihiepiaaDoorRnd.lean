/- Plain arithmetic of rounding: the nearest whole number of a fraction, of two as near the even one; the bits that a number has; a fraction rounded to so many bits. -/
import Derived.Test.YtmghmcnihiepiaaDoorRows
import Derived.WalkKit
import Derived.Lib.ItoaNum
namespace Go.Proofs.YtmghmcnihiepiaaDoor
namespace Rnd
set_option linter.unusedVariables false

/-- how many bits -/
def bl (n : Nat) : Nat := if n = 0 then 0 else n.log2 + 1
theorem bl_zero : bl 0 = 0 := rfl
theorem bl_lt (n : Nat) : n < 2 ^ bl n := by
  unfold bl; split
  · subst_vars; decide
  · exact Nat.lt_log2_self
theorem bl_le (n : Nat) (h : n ≠ 0) : 2 ^ (bl n - 1) ≤ n := by
  unfold bl; rw [if_neg h]; exact Nat.log2_self_le h
theorem bl_pos (n : Nat) (h : n ≠ 0) : 1 ≤ bl n := by unfold bl; rw [if_neg h]; omega
theorem pow_lt_of {a b : Nat} (h : 2 ^ a < 2 ^ b) : a < b := (Nat.pow_lt_pow_iff_right (by omega)).1 h
theorem pow_le_of {a b : Nat} (h : 2 ^ a ≤ 2 ^ b) : a ≤ b := (Nat.pow_le_pow_iff_right (by omega)).1 h
theorem bl_eq (n L : Nat) (hL : 1 ≤ L) (h1 : 2 ^ (L - 1) ≤ n) (h2 : n < 2 ^ L) : bl n = L := by
  have h0 : n ≠ 0 := by have := Nat.two_pow_pos (L - 1); omega
  have a1 := pow_lt_of (Nat.lt_of_le_of_lt (bl_le n h0) h2)
  have a2 := pow_lt_of (Nat.lt_of_le_of_lt h1 (bl_lt n))
  have := bl_pos n h0
  omega
theorem bl_le_of (n L : Nat) (h : n < 2 ^ L) : bl n ≤ L := by
  by_cases h0 : n = 0
  · subst h0; rw [bl_zero]; omega
  · have a1 := pow_lt_of (Nat.lt_of_le_of_lt (bl_le n h0) h)
    have := bl_pos n h0; omega
theorem le_bl_of (n L : Nat) (h : 2 ^ L ≤ n) : L + 1 ≤ bl n := by
  have := pow_lt_of (Nat.lt_of_le_of_lt h (bl_lt n)); omega
theorem bl_lib (n : Nat) (h : n < 2 ^ 64) : Lib.bitLen n = bl n := by
  by_cases h0 : n = 0
  · subst h0; rfl
  · obtain ⟨a, b, c⟩ := Lib.bitLenAux_bounds 64 n h h0
    exact (bl_eq n _ a b c).symm
theorem div_pow_zero (n i : Nat) : n / 2 ^ i = 0 ↔ bl n ≤ i := by
  constructor
  · intro h
    have hp := Nat.two_pow_pos i
    have := (Nat.div_eq_zero_iff).1 h
    exact bl_le_of n i (by omega)
  · intro h
    exact Nat.div_eq_of_lt (Nat.lt_of_lt_of_le (bl_lt n) (Nat.pow_le_pow_right (by omega) h))
theorem bl_mul (n j : Nat) (h : n ≠ 0) : bl (n * 2 ^ j) = bl n + j := by
  have p := bl_pos n h
  refine bl_eq _ _ (by omega) ?_ ?_
  · rw [show bl n + j - 1 = (bl n - 1) + j by omega, Nat.pow_add]; exact Nat.mul_le_mul_right _ (bl_le n h)
  · rw [Nat.pow_add]; exact Nat.mul_lt_mul_of_pos_right (bl_lt n) (Nat.two_pow_pos j)

theorem bl_or (n : Nat) (h : n ≠ 0) : bl (2 * (n / 2) + 1) = bl n := by
  have p := bl_pos n h
  have h1 := bl_le n h
  have h2 := bl_lt n
  refine bl_eq _ _ p ?_ ?_
  · omega
  · by_cases c : bl n = 1
    · rw [c] at h2 ⊢; omega
    · have e : 2 ^ bl n = 2 * 2 ^ (bl n - 1) := by rw [Nat.mul_comm, ← Nat.pow_succ]; congr 1; omega
      omega

/-- a / b to the nearest, of two as near the even one -/
def ne (a b : Nat) : Nat := if b < 2 * (a % b) ∨ (2 * (a % b) = b ∧ a / b % 2 = 1) then a / b + 1 else a / b
theorem ne_scale (a b c : Nat) (hc : 0 < c) : ne (a * c) (b * c) = ne a b := by
  unfold ne
  rw [Nat.mul_mod_mul_right, Nat.mul_div_mul_right _ _ hc, show 2 * (a % b * c) = 2 * (a % b) * c from (Nat.mul_assoc ..).symm]
  have e1 : (b * c < 2 * (a % b) * c) ↔ b < 2 * (a % b) := Nat.mul_lt_mul_right hc
  have e2 : (2 * (a % b) * c = b * c) ↔ 2 * (a % b) = b := ⟨fun h => Nat.eq_of_mul_eq_mul_right hc h, fun h => by rw [h]⟩
  simp only [e1, e2]
theorem ne_exact (a b : Nat) (hb : 0 < b) : ne (a * b) b = a := by
  unfold ne
  rw [Nat.mul_mod_left, Nat.mul_div_cancel _ hb, if_neg (by omega)]
theorem ne_ge (a b : Nat) : a / b ≤ ne a b := by unfold ne; split <;> omega
theorem ne_le (a b : Nat) : ne a b ≤ a / b + 1 := by unfold ne; split <;> omega
theorem ne_zero (b : Nat) : ne 0 b = 0 := by
  unfold ne; rw [Nat.zero_mod, Nat.zero_div, if_neg (by omega)]
/-- far below a half: nothing -/
theorem ne_small (a b : Nat) (h : 2 * a < b) : ne a b = 0 := by
  unfold ne
  rw [Nat.mod_eq_of_lt (by omega), Nat.div_eq_of_lt (by omega), if_neg (by omega)]

/-- what lies below may be told in one bit -/
theorem ne_sticky (a b k : Nat) (hb : 0 < b) (hk : 1 ≤ k) : ne a (b * 2 ^ k) = ne (2 * (a / b) + (if a % b = 0 then 0 else 1)) (2 ^ (k + 1)) := by
  have hd : a / (b * 2 ^ k) = a / b / 2 ^ k := (Nat.div_div_eq_div_mul ..).symm
  have hm : a % (b * 2 ^ k) = a % b + b * (a / b % 2 ^ k) := Nat.mod_mul
  have hr : a % b < b := Nat.mod_lt _ hb
  have hq : a / b % 2 ^ k < 2 ^ k := Nat.mod_lt _ (Nat.two_pow_pos k)
  have hs : (2 * (a / b) + (if a % b = 0 then 0 else 1)) / 2 ^ (k + 1) = a / b / 2 ^ k := by
    rw [show 2 ^ (k + 1) = 2 * 2 ^ k by rw [Nat.pow_succ, Nat.mul_comm], ← Nat.div_div_eq_div_mul]
    congr 1; split <;> omega
  have ht : (2 * (a / b) + (if a % b = 0 then 0 else 1)) % 2 ^ (k + 1) = 2 * (a / b % 2 ^ k) + (if a % b = 0 then 0 else 1) := by
    rw [show 2 ^ (k + 1) = 2 * 2 ^ k by rw [Nat.pow_succ, Nat.mul_comm], Nat.mod_mul]
    have e1 : (2 * (a / b) + (if a % b = 0 then 0 else 1)) % 2 = (if a % b = 0 then 0 else 1) := by split <;> omega
    have e2 : (2 * (a / b) + (if a % b = 0 then 0 else 1)) / 2 = a / b := by split <;> omega
    rw [e1, e2]; omega
  unfold ne
  rw [hd, hm, hs, ht]
  generalize a / b % 2 ^ k = q at *
  generalize a / b / 2 ^ k = z at *
  generalize a % b = r at *
  have hK : 2 ^ (k + 1) = 2 * 2 ^ k := by rw [Nat.pow_succ, Nat.mul_comm]
  have hK2 : 2 ^ k = 2 * 2 ^ (k - 1) := by rw [Nat.mul_comm, ← Nat.pow_succ]; congr 1; omega
  rw [hK]
  generalize 2 ^ (k - 1) = P at *
  rw [hK2] at hq ⊢
  have c : q < P ∨ q = P ∨ P < q := by omega
  by_cases r0 : r = 0
  · subst r0
    rw [if_pos rfl]
    have e1 : (b * (2 * P) < 2 * (0 + b * q)) ↔ 2 * (2 * P) < 2 * (2 * q + 0) := by
      rw [show 2 * (0 + b * q) = b * (2 * q) by rw [Nat.zero_add, Nat.mul_left_comm], Nat.mul_lt_mul_left hb]; omega
    have e2 : (2 * (0 + b * q) = b * (2 * P)) ↔ 2 * (2 * q + 0) = 2 * (2 * P) := by
      rw [show 2 * (0 + b * q) = b * (2 * q) by rw [Nat.zero_add, Nat.mul_left_comm], Nat.mul_right_inj (by omega)]; omega
    simp only [e1, e2]
  · rw [if_neg r0]
    have hl : ∀ x y : Nat, x ≤ y → b * x ≤ b * y := fun x y h => Nat.mul_le_mul_left b h
    have f1 : b * (2 * P) = 2 * (b * P) := Nat.mul_left_comm ..
    have f2 : 2 * (r + b * q) = 2 * r + 2 * (b * q) := by omega
    rw [f1, f2]
    rcases c with c | c | c
    · have g : b * (q + 1) ≤ b * P := hl _ _ c
      rw [Nat.mul_succ] at g
      rw [if_neg (by omega), if_neg (by omega)]
    · subst c
      rw [if_pos (by omega), if_pos (by omega)]
    · have g : b * P ≤ b * q := hl _ _ (by omega)
      rw [if_pos (by omega), if_pos (by omega)]

/-- .. and so in the last bit, two bits down -/
theorem ne_or (a b k : Nat) (hb : 0 < b) (hk : 2 ≤ k) (hr : a % b ≠ 0) : ne a (b * 2 ^ k) = ne (2 * (a / b / 2) + 1) (2 ^ k) := by
  have h := ne_sticky a (b * 2) (k - 1) (by omega) (by omega)
  have h2 : a % (b * 2) ≠ 0 := by rw [Nat.mod_mul]; omega
  rw [if_neg h2, ← Nat.div_div_eq_div_mul, show k - 1 + 1 = k by omega, Nat.mul_assoc, show 2 * 2 ^ (k - 1) = 2 ^ k by rw [Nat.mul_comm, ← Nat.pow_succ]; congr 1; omega] at h
  exact h

/-- a / b rounded to frac bits and one: its bits without a sign, told from the least float on -/
def fl (frac top a b : Nat) : Nat := min ((bl (a / b) - (frac + 1)) * 2 ^ frac + ne a (b * 2 ^ (bl (a / b) - (frac + 1)))) (top * 2 ^ frac)

theorem fl_zero (frac top b : Nat) : fl frac top 0 b = 0 := by
  unfold fl; rw [ne_zero, Nat.zero_div, bl_zero]; simp

/-- the place of the last bit that is kept, reckoned of a number cut short -/
theorem unit_eq (frac a b j1 j2 : Nat) (hb : 0 < b) (h : a * 2 ^ j1 / (b * 2 ^ j2) ≠ 0) :
    (j2 + bl (a * 2 ^ j1 / (b * 2 ^ j2))) - (j1 + (frac + 1)) = bl (a / b) - (frac + 1) := by
  have hB : 0 < b * 2 ^ j2 := Nat.mul_pos hb (Nat.two_pow_pos _)
  have l1 := bl_le _ h
  have l2 := bl_lt (a * 2 ^ j1 / (b * 2 ^ j2))
  have lp := bl_pos _ h
  generalize bl (a * 2 ^ j1 / (b * 2 ^ j2)) = L at *
  have l1' := (Nat.le_div_iff_mul_le hB).1 l1
  have l2' := (Nat.div_lt_iff_lt_mul hB).1 l2
  have p1 : 2 ^ (L - 1) * (b * 2 ^ j2) = b * 2 ^ (L - 1 + j2) := by rw [Nat.mul_left_comm, ← Nat.pow_add]
  have p2 : 2 ^ L * (b * 2 ^ j2) = b * 2 ^ (L + j2) := by rw [Nat.mul_left_comm, ← Nat.pow_add]
  rw [p1] at l1'
  rw [p2] at l2'
  by_cases q0 : a / b = 0
  · have : a < b := by have := (Nat.div_eq_zero_iff).1 q0; omega
    have h3 : b * 2 ^ (L - 1 + j2) < b * 2 ^ j1 := Nat.lt_of_le_of_lt l1' (Nat.mul_lt_mul_of_pos_right this (Nat.two_pow_pos _))
    have h4 := pow_lt_of ((Nat.mul_lt_mul_left hb).1 h3)
    rw [q0, bl_zero]; omega
  · have m1 := bl_le _ q0
    have m2 := bl_lt (a / b)
    have mp := bl_pos _ q0
    generalize bl (a / b) = M at *
    have m1' := (Nat.le_div_iff_mul_le hb).1 m1
    have m2' := (Nat.div_lt_iff_lt_mul hb).1 m2
    have a1 : b * 2 ^ (L - 1 + j2) < b * 2 ^ (M + j1) := by
      refine Nat.lt_of_le_of_lt l1' ?_
      rw [Nat.pow_add, ← Nat.mul_assoc, Nat.mul_comm b]
      exact Nat.mul_lt_mul_of_pos_right m2' (Nat.two_pow_pos _)
    have a2 : b * 2 ^ (M - 1 + j1) < b * 2 ^ (L + j2) := by
      refine Nat.lt_of_le_of_lt ?_ l2'
      rw [Nat.pow_add, ← Nat.mul_assoc, Nat.mul_comm b]
      exact Nat.mul_le_mul_right _ m1'
    have c1 := pow_lt_of ((Nat.mul_lt_mul_left hb).1 a1)
    have c2 := pow_lt_of ((Nat.mul_lt_mul_left hb).1 a2)
    omega

/-- rounding what was cut short, up or not at all -/
theorem ne_up (a b j1 j2 u : Nat) (hb : 0 < b) (hu : u + j1 ≤ j2) (hx : a * 2 ^ j1 % (b * 2 ^ j2) = 0) :
    ne a (b * 2 ^ u) = a * 2 ^ j1 / (b * 2 ^ j2) * 2 ^ (j2 - (u + j1)) := by
  have e := Nat.div_add_mod (a * 2 ^ j1) (b * 2 ^ j2)
  rw [hx, Nat.add_zero] at e
  generalize a * 2 ^ j1 / (b * 2 ^ j2) = m at *
  rw [← ne_scale a (b * 2 ^ u) (2 ^ j1) (Nat.two_pow_pos _), ← e]
  rw [show b * 2 ^ j2 * m = m * 2 ^ (j2 - (u + j1)) * (b * 2 ^ u * 2 ^ j1) by
    rw [show 2 ^ j2 = 2 ^ (j2 - (u + j1)) * (2 ^ u * 2 ^ j1) by rw [← Nat.pow_add, ← Nat.pow_add]; congr 1; omega]
    ac_rfl]
  exact ne_exact _ _ (Nat.mul_pos (Nat.mul_pos hb (Nat.two_pow_pos _)) (Nat.two_pow_pos _))
theorem ne_down (a b j1 j2 u k : Nat) (hu : u + j1 = j2 + k) : ne a (b * 2 ^ u) = ne (a * 2 ^ j1) (b * 2 ^ j2 * 2 ^ k) := by
  rw [← ne_scale a (b * 2 ^ u) (2 ^ j1) (Nat.two_pow_pos _), Nat.mul_assoc, Nat.mul_assoc, ← Nat.pow_add, ← Nat.pow_add, hu]

/-- where the last kept bit isn't the lowest of all, the number rounded fills its bits -/
theorem ne_fills (frac a b : Nat) (hb : 0 < b) :
    ne a (b * 2 ^ (bl (a / b) - (frac + 1))) ≤ 2 ^ (frac + 1) ∧ (ne a (b * 2 ^ (bl (a / b) - (frac + 1))) < 2 ^ frac → bl (a / b) - (frac + 1) = 0) := by
  have g := ne_ge a (b * 2 ^ (bl (a / b) - (frac + 1)))
  have l := ne_le a (b * 2 ^ (bl (a / b) - (frac + 1)))
  rw [← Nat.div_div_eq_div_mul] at g l
  have q2 := bl_lt (a / b)
  constructor
  · refine Nat.le_trans l ?_
    have : a / b / 2 ^ (bl (a / b) - (frac + 1)) < 2 ^ (frac + 1) := by
      rw [Nat.div_lt_iff_lt_mul (Nat.two_pow_pos _), ← Nat.pow_add]
      exact Nat.lt_of_lt_of_le q2 (Nat.pow_le_pow_right (by omega) (by omega))
    omega
  · intro h
    by_cases u0 : bl (a / b) - (frac + 1) = 0
    · exact u0
    · exfalso
      have q0 : a / b ≠ 0 := by intro h0; rw [h0, bl_zero] at u0; omega
      have q1 := bl_le _ q0
      have : 2 ^ frac ≤ a / b / 2 ^ (bl (a / b) - (frac + 1)) := by
        rw [Nat.le_div_iff_mul_le (Nat.two_pow_pos _), ← Nat.pow_add, show frac + (bl (a / b) - (frac + 1)) = bl (a / b) - 1 by omega]
        exact q1
      omega

theorem min_int (x y : Nat) : ((min x y : Nat) : Int) = min (x : Int) (y : Int) := by omega
theorem fl_int (frac top a b : Nat) : ((fl frac top a b : Nat) : Int) = min (((bl (a / b) - (frac + 1) : Nat) : Int) * ((2 ^ frac : Nat) : Int) + ((ne a (b * 2 ^ (bl (a / b) - (frac + 1))) : Nat) : Int)) ((top * 2 ^ frac : Nat) : Int) := by
  unfold fl
  rw [min_int, Int.natCast_add, Int.natCast_mul]
theorem fl_le (frac top a b : Nat) (T : Int) (h : ((top * 2 ^ frac : Nat) : Int) = T) : ((fl frac top a b : Nat) : Int) ≤ T := by
  rw [fl_int, h]; exact Int.min_le_right _ _

end Rnd
end Go.Proofs.YtmghmcnihiepiaaDoor
