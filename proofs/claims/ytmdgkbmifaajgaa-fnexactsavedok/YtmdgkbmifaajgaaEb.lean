/- The root on both sides (written by tools/gen15.py). -/
import Derived.Test.YtmdgkbmifaajgaaIe
namespace Go.Proofs.Ytmdgkbmifaajgaa
namespace Vo
open Go.ChangeShapes Go.WideShapes Go.ChangeAt Go.RowKit Go.Joins Go.Sort
open Vl
set_option linter.unusedVariables false
set_option linter.unusedSimpArgs false
theorem wid {x : Int} (h : -9223372036854775808 ≤ x ∧ x ≤ 9223372036854775807) : IntKind.i64.wrap x = x := by rw [IntKind.wrap_i64]; omega
theorem sq_le {a b : Int} (a0 : 0 ≤ a) (h : a ≤ b) : a * a ≤ b * b := Int.mul_le_mul h h a0 (by omega)
/-- v is the root of n -/
def IsRt (n v : Int) : Prop := 0 ≤ v ∧ v * v ≤ n ∧ n < (v + 1) * (v + 1)
theorem rt_nat (k : Nat) : ∃ v : Int, IsRt (k : Int) v := by
  induction k with
  | zero => exact ⟨0, by omega, by decide, by decide⟩
  | succ k ih =>
    obtain ⟨v, v0, v1, v2⟩ := ih
    by_cases c : ((k + 1 : Nat) : Int) < (v + 1) * (v + 1)
    · exact ⟨v, v0, by omega, c⟩
    · refine ⟨v + 1, by omega, by omega, ?_⟩
      have : (v + 1) * (v + 1) < (v + 1 + 1) * (v + 1 + 1) := Int.mul_lt_mul (by omega) (by omega) (by omega) (by omega)
      omega
theorem rt_ex {n : Int} (h : 0 ≤ n) : ∃ v, IsRt n v := by
  obtain ⟨k, rfl⟩ := Int.eq_ofNat_of_zero_le h
  exact rt_nat k
theorem rt_le {n v m : Int} (h : IsRt n v) (m0 : 0 ≤ m) : m * m ≤ n ↔ m ≤ v := by
  obtain ⟨v0, v1, v2⟩ := h
  constructor
  · intro q
    by_cases c : m ≤ v
    · exact c
    · have := sq_le (a := v + 1) (b := m) (by omega) (by omega)
      omega
  · intro q
    have := sq_le m0 q
    omega
theorem rt_top {n v : Int} (h : IsRt n v) (n1 : n ≤ 4611686018427387904) : v ≤ 2147483648 := by
  by_cases c : v ≤ 2147483648
  · exact c
  · have := sq_le (a := 2147483649) (b := v) (by decide) (by omega)
    have := h.2.1
    omega
theorem rt_one {n v u : Int} (h : IsRt n v) (k : IsRt n u) : v = u := by
  have h1 := (rt_le k h.1).1 h.2.1
  have h2 := (rt_le h k.1).1 k.2.1
  omega
theorem two_half (j : Nat) : (2 : Int) ^ (j + 1) / 2 = 2 ^ j := by
  rw [Int.pow_succ]; omega
theorem two_pos (j : Nat) : (1 : Int) ≤ 2 ^ j := by
  have : (0 : Int) < 2 ^ j := Int.pow_pos (by decide)
  omega
end Vo
end Go.Proofs.Ytmdgkbmifaajgaa
