/- Whole numbers of at most 24 bits as floats, plain. -/
import Derived.Test.YtmghmcnihiepiaaDoorRnd
import Derived.Test.YtmghmcnihiepiaaDoorFlP
namespace Go.Proofs.YtmghmcnihiepiaaDoor
namespace FlV
open Rnd
set_option linter.unusedVariables false
/-- the bits of a whole number's float, without its sign -/
def fw (N : Nat) : Nat := fl 23 255 (N * 2 ^ 149) 1
/-- its parts -/
def fm (N : Nat) : Nat := N * 2 ^ (24 - bl N)
def fe (N : Nat) : Int := if N = 0 then -149 else (bl N : Int) - 24
theorem fw_is (N : Nat) (hN : N < 16777216) (h0 : N ≠ 0) : fw N = (bl N + 125) * 8388608 + fm N ∧ 8388608 ≤ fm N ∧ fm N < 16777216 ∧ 1 ≤ bl N ∧ bl N ≤ 24 := by
  have b1 : bl N ≤ 24 := bl_le_of N 24 hN
  have b0 : 1 ≤ bl N := bl_pos N h0
  have hl := bl_lt N
  have hg := bl_le N h0
  have m0 : 8388608 ≤ fm N := by
    unfold fm
    have := Nat.mul_le_mul_right (2 ^ (24 - bl N)) hg
    rw [← Nat.pow_add, show bl N - 1 + (24 - bl N) = 23 by omega] at this
    exact this
  have m1 : fm N < 16777216 := by
    unfold fm
    have := Nat.mul_lt_mul_of_pos_right hl (Nat.two_pow_pos (24 - bl N))
    rw [← Nat.pow_add, show bl N + (24 - bl N) = 24 by omega] at this
    exact this
  refine ⟨?_, m0, m1, b0, b1⟩
  unfold fw fl
  have e1 : bl (N * 2 ^ 149 / 1) = bl N + 149 := by rw [Nat.div_one]; exact bl_mul N 149 h0
  have e2 : bl N + 149 - (23 + 1) = bl N + 125 := by omega
  have e3 : N * 2 ^ 149 = fm N * (1 * 2 ^ (bl N + 125)) := by
    unfold fm
    rw [Nat.one_mul, Nat.mul_assoc, ← Nat.pow_add, show 24 - bl N + (bl N + 125) = 149 by omega]
  rw [e1, e2, e3, ne_exact _ _ (by rw [Nat.one_mul]; exact Nat.two_pow_pos _)]
  have e4 : (2 : Nat) ^ 23 = 8388608 := by decide
  rw [e4, Nat.min_eq_left]
  omega
theorem fw_zero : fw 0 = 0 := by unfold fw; rw [Nat.zero_mul, fl_zero]
theorem fm_zero : fm 0 = 0 := by unfold fm; rw [Nat.zero_mul]
theorem fe_pos {N : Nat} (h : N ≠ 0) : fe N = (bl N : Int) - 24 := by unfold fe; rw [if_neg h]
theorem fe_zero : fe 0 = -149 := rfl
theorem fin_fw (N : Nat) (s : Int) (hN : N < 16777216) (s0 : 0 ≤ s) (s1 : s ≤ 1) : FlP.Fin (s * 2147483648 + (fw N : Nat)) s (fm N : Nat) (fe N) := by
  by_cases h0 : N = 0
  · subst h0
    rw [fw_zero, fm_zero, fe_zero]
    unfold FlP.Fin; omega
  · obtain ⟨h1, h2, h3, h4, h5⟩ := fw_is N hN h0
    rw [fe_pos h0]
    unfold FlP.Fin
    rw [h1]
    refine ⟨s0, s1, ?_, ?_, ?_, ?_, ?_, ?_⟩ <;> omega
/-- what it is worth, in units of the least float -/
theorem fm_val (N : Nat) (hN : N < 16777216) : ∃ p : Nat, fe N + 149 = (p : Int) ∧ p ≤ 149 ∧ fm N * 2 ^ p = N * 2 ^ 149 := by
  by_cases h0 : N = 0
  · subst h0
    exact ⟨0, by simp [fe_zero], by omega, by simp [fm_zero]⟩
  · obtain ⟨h1, h2, h3, h4, h5⟩ := fw_is N hN h0
    refine ⟨bl N + 125, by rw [fe_pos h0]; omega, by omega, ?_⟩
    unfold fm
    rw [Nat.mul_assoc, ← Nat.pow_add, show 24 - bl N + (bl N + 125) = 149 by omega]
theorem bl_mono {a b : Nat} (h : a ≤ b) : bl a ≤ bl b := bl_le_of a (bl b) (Nat.lt_of_le_of_lt h (bl_lt b))
theorem fw_lt {a b : Nat} (hb : b < 16777216) (h : a < b) : fw a < fw b := by
  obtain ⟨b1, b2, b3, b4, b5⟩ := fw_is b hb (by omega)
  by_cases h0 : a = 0
  · subst h0; rw [fw_zero, b1]; omega
  · obtain ⟨a1, a2, a3, a4, a5⟩ := fw_is a (by omega) h0
    have hm := bl_mono (Nat.le_of_lt h)
    rw [a1, b1]
    rcases Nat.lt_or_ge (bl a) (bl b) with c | c
    · omega
    · have e : bl a = bl b := by omega
      have hlt : fm a < fm b := by
        unfold fm; rw [e]; exact Nat.mul_lt_mul_of_pos_right h (Nat.two_pow_pos _)
      rw [e]; omega
theorem fw_iff {a b : Nat} (ha : a < 16777216) (hb : b < 16777216) : fw a < fw b ↔ a < b := by
  constructor
  · intro h
    rcases Nat.lt_or_ge a b with c | c
    · exact c
    · rcases Nat.lt_or_ge b a with c2 | c2
      · have := fw_lt ha c2; omega
      · obtain rfl : a = b := by omega
        omega
  · exact fw_lt hb
theorem fw_le (N : Nat) (hN : N < 16777216) : fw N ≤ 1266679807 := by
  by_cases h0 : N = 0
  · subst h0; rw [fw_zero]; omega
  · obtain ⟨h1, h2, h3, h4, h5⟩ := fw_is N hN h0
    omega
end FlV
end Go.Proofs.YtmghmcnihiepiaaDoor
