/- Whole numbers rounded: Near and Shift on both sides. -/
import Derived.Test.YtmdgkbmifaajgaaRows
import Derived.WalkKit
import Derived.ProofKit
import Derived.OpenShut
import Derived.Below
import Derived.Lib.SmallJoins
import Derived.Deep.QuietTactic
import Derived.BigQuiet
import Derived.WalkSmall
import Derived.WalkSpells
import Derived.Laws.BitsLemmas
namespace Go.Proofs.Ytmdgkbmifaajgaa
namespace Nea
open Go.ChangeShapes Go.WideShapes Go.ChangeAt Go.RowKit Go.Joins
set_option linter.unusedVariables false
theorem hide {p : Prop} (h : p) : Hid p := h
theorem ret_int {k : IntKind} {a b : Int} (h : a = b) : Ending.returned (.int k a) = .returned (.int k b) := by rw [h]
theorem mask1 (n : Int) : bits .and .i64 n 1 = n % 2 := by
  have key : (BitVec.ofInt 64 n &&& BitVec.ofInt 64 1).toNat = (n % ((2 ^ 64 : Nat) : Int)).toNat % 2 ^ 1 := by
    rw [BitVec.toNat_and, BitVec.toNat_ofInt, show (BitVec.ofInt 64 1).toNat = 2 ^ 1 - 1 by decide, Nat.and_two_pow_sub_one_eq_mod]
  show IntKind.i64.wrap ((BitVec.ofInt 64 n &&& BitVec.ofInt 64 1).toNat : Nat) = n % 2
  rw [key, IntKind.wrap_i64]
  omega

/-- the nearest of q and the next, where r of d is left over -/
def rd (q r d : Int) : Int := if d - r < r ∨ (r = d - r ∧ q % 2 = 1) then q + 1 else q


/-- the quotient and the rest, as both sides mend them -/
theorem parts (n d : Int) (n0 : -9223372036854775808 ≤ n) (n1 : n ≤ 9223372036854775807) (d0 : 1 ≤ d) :
    wrap64 (n.tdiv d) = n.tdiv d ∧ -9223372036854775808 ≤ n.tdiv d ∧ n.tdiv d ≤ 9223372036854775807 ∧ -d < n.tmod d ∧ n.tmod d < d ∧ (n.tmod d < 0 → -9223372036854775808 < n.tdiv d ∧ n.tdiv d ≤ 0) ∧ (2 ≤ d → n.tdiv d ≤ 4611686018427387904) := by
  have e := Int.mul_tdiv_add_tmod n d
  have m1 := Int.tmod_lt_of_pos n (by omega : 0 < d)
  have m2 : -d < n.tmod d := by
    have := Int.tmod_lt_of_pos (-n) (by omega : 0 < d)
    rw [Int.neg_tmod] at this; omega
  have t0 : -9223372036854775808 ≤ n.tdiv d ∧ n.tdiv d ≤ 9223372036854775807 ∧ (2 ≤ d → n.tdiv d ≤ 4611686018427387904) := by
    rcases Int.le_total 0 n with h | h
    · have a1 : 0 ≤ n.tdiv d := Int.tdiv_nonneg h (by omega)
      rw [Int.tdiv_eq_ediv_of_nonneg h] at a1 ⊢
      have a2 : n / d ≤ n := Int.ediv_le_self d h
      refine ⟨by omega, by omega, fun h2 => ?_⟩
      have a3 : n / d ≤ n / 2 := by
        obtain ⟨N, rfl⟩ := Int.eq_ofNat_of_zero_le h
        obtain ⟨D, rfl⟩ := Int.eq_ofNat_of_zero_le (by omega : 0 ≤ d)
        have := Nat.div_le_div_left (c := 2) (a := N) (b := D) (by omega) (by omega)
        exact_mod_cast this
      omega
    · have a1 : (-n).tdiv d = -(n.tdiv d) := Int.neg_tdiv n d
      have a2 : 0 ≤ (-n).tdiv d := Int.tdiv_nonneg (by omega) (by omega)
      rw [Int.tdiv_eq_ediv_of_nonneg (by omega : 0 ≤ -n)] at a1 a2
      have a3 : (-n) / d ≤ -n := Int.ediv_le_self d (by omega)
      refine ⟨by omega, by omega, fun h2 => by omega⟩
  refine ⟨?_, t0.1, t0.2.1, m2, m1, fun hp => ?_, t0.2.2⟩
  · obtain ⟨a, b, _⟩ := t0
    simp only [wrap64]; omega
  · have hn : n < 0 := by
      rcases Int.lt_or_le n 0 with h | h
      · exact h
      · have := Int.tmod_nonneg d h; omega
    have a1 : (-n).tdiv d = -(n.tdiv d) := Int.neg_tdiv n d
    have a2 : 0 ≤ (-n).tdiv d := Int.tdiv_nonneg (by omega) (by omega)
    have hd : 2 ≤ d := by omega
    rw [Int.tdiv_eq_ediv_of_nonneg (by omega : 0 ≤ -n)] at a1 a2
    have a3 : (-n) / d ≤ (-n) / 2 := by
      obtain ⟨N, hN⟩ := Int.eq_ofNat_of_zero_le (by omega : 0 ≤ -n)
      obtain ⟨D, rfl⟩ := Int.eq_ofNat_of_zero_le (by omega : 0 ≤ d)
      rw [hN]
      have := Nat.div_le_div_left (c := 2) (a := N) (b := D) (by omega) (by omega)
      exact_mod_cast this
    omega



theorem near_rd (n d : Int) : ∃ r : Int, r = (if n.tmod d < 0 then rd (n.tdiv d - 1) (n.tmod d + d) d else rd (n.tdiv d) (n.tmod d) d) := ⟨_, rfl⟩

end Nea
end Go.Proofs.Ytmdgkbmifaajgaa
