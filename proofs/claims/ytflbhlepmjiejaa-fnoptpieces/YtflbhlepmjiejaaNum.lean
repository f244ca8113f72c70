/- Plain numbers, no program: remainders as Go takes them, powers modulo a prime, the greatest common divisor as both sides reckon it. -/
import Derived.KernelRfl
namespace Go.Proofs.Ytflbhlepmjiejaa
namespace Num

theorem tmod_nonneg_iff (x : Int) (h : 0 ≤ x.tmod 2147483647) : x.tmod 2147483647 = x % 2147483647 := by
  by_cases hx : 0 ≤ x
  · exact Int.tmod_eq_emod_of_nonneg hx
  · obtain ⟨y, rfl⟩ : ∃ y, x = -y := ⟨-x, by omega⟩
    rw [Int.neg_tmod] at h ⊢
    rw [Int.tmod_eq_emod_of_nonneg (by omega)] at h ⊢
    omega

theorem tmod_neg_iff (x : Int) (h : x.tmod 2147483647 < 0) : x.tmod 2147483647 + 2147483647 = x % 2147483647 := by
  by_cases hx : 0 ≤ x
  · rw [Int.tmod_eq_emod_of_nonneg hx] at h
    omega
  · obtain ⟨y, rfl⟩ : ∃ y, x = -y := ⟨-x, by omega⟩
    rw [Int.neg_tmod] at h ⊢
    rw [Int.tmod_eq_emod_of_nonneg (by omega)] at h ⊢
    omega

theorem tmod_bd (x : Int) : -2147483647 < x.tmod 2147483647 ∧ x.tmod 2147483647 < 2147483647 := by
  by_cases hx : 0 ≤ x
  · rw [Int.tmod_eq_emod_of_nonneg hx]
    omega
  · obtain ⟨y, rfl⟩ : ∃ y, x = -y := ⟨-x, by omega⟩
    rw [Int.neg_tmod, Int.tmod_eq_emod_of_nonneg (by omega)]
    omega

/-- the product of two remainders stays far within an int -/
theorem mul_bd (a b : Int) (a0 : 0 ≤ a) (a1 : a < 2147483647) (b0 : 0 ≤ b) (b1 : b < 2147483647) : 0 ≤ a * b ∧ a * b ≤ 4611686009837453316 := by
  constructor
  · exact Int.mul_nonneg a0 b0
  · have h := Int.mul_le_mul (show a ≤ 2147483646 by omega) (show b ≤ 2147483646 by omega) b0 (by omega)
    omega

theorem mul_l (a b : Int) : (a % 2147483647) * b % 2147483647 = a * b % 2147483647 := by
  rw [Int.mul_emod, Int.emod_emod, ← Int.mul_emod]

theorem mul_r (a b : Int) : a * (b % 2147483647) % 2147483647 = a * b % 2147483647 := by
  rw [Int.mul_emod, Int.emod_emod, ← Int.mul_emod]

theorem pow_l (a : Int) (n : Nat) : (a % 2147483647) ^ n % 2147483647 = a ^ n % 2147483647 := by
  induction n with
  | zero => rw [Int.pow_zero, Int.pow_zero]
  | succ n ih => rw [Int.pow_succ, Int.pow_succ, mul_r, Int.mul_emod, ih, ← Int.mul_emod]

/-- a to the power n, modulo the prime -/
def pw (a : Int) (n : Nat) : Int := (a ^ n) % 2147483647

theorem pw_bd (a : Int) (n : Nat) : 0 ≤ pw a n ∧ pw a n < 2147483647 := by
  unfold pw; omega

theorem pw_zero (a : Int) : pw a 0 = 1 := by
  unfold pw; rw [Int.pow_zero]; rfl

theorem pw_even (a : Int) (n : Nat) (h : n % 2 = 0) : pw a n = (pw a (n / 2) * pw a (n / 2)) % 2147483647 := by
  unfold pw
  rw [← Int.mul_emod, ← Int.pow_add]
  have : n / 2 + n / 2 = n := by omega
  rw [this]

theorem pw_odd (a : Int) (n : Nat) (h : n % 2 = 1) : pw a n = (((pw a (n / 2) * pw a (n / 2)) % 2147483647) * a) % 2147483647 := by
  unfold pw
  rw [← Int.mul_emod, ← Int.pow_add, mul_l, ← Int.pow_succ]
  have : (n / 2 + n / 2).succ = n := by omega
  rw [this]

/-- what is left to be reckoned by squaring: p times a to the power n -/
def rest (p a : Int) (n : Nat) : Int := (p * a ^ n) % 2147483647

theorem rest_start (a : Int) (n : Nat) : rest 1 a n = pw a n := by
  unfold rest pw; rw [Int.one_mul]

theorem rest_end (p a : Int) (h0 : 0 ≤ p) (h1 : p < 2147483647) : rest p a 0 = p := by
  unfold rest; rw [Int.pow_zero, Int.mul_one]; omega

theorem rest_even (p a : Int) (n : Nat) (h : n % 2 = 0) : rest p (a * a % 2147483647) (n / 2) = rest p a n := by
  unfold rest
  have e : n = n / 2 + n / 2 := by omega
  have : a ^ n = (a * a) ^ (n / 2) := by
    rw [Int.mul_pow, ← Int.pow_add, ← e]
  rw [this, Int.mul_emod, pow_l, ← Int.mul_emod]

theorem rest_odd (p a : Int) (n : Nat) (h : n % 2 = 1) : rest (p * a % 2147483647) (a * a % 2147483647) (n / 2) = rest p a n := by
  unfold rest
  have e : n = (n / 2 + n / 2).succ := by omega
  have : a ^ n = (a * a) ^ (n / 2) * a := by
    rw [Int.mul_pow, ← Int.pow_add, ← Int.pow_succ, ← e]
  rw [this, mul_l, Int.mul_emod, pow_l, ← Int.mul_emod, Int.mul_assoc, Int.mul_comm a]

/-- Go's remainder and the greatest common divisor -/
theorem gcd_tmod (a b : Int) : Int.gcd b (a.tmod b) = Int.gcd a b := by
  rw [Int.gcd_comm a b]
  unfold Int.gcd
  rw [Int.natAbs_tmod, Nat.gcd_comm, ← Nat.gcd_rec]

theorem gcd_emod (a b : Int) (h : 0 ≤ a) : Int.gcd b (a % b) = Int.gcd a b := by
  rw [← Int.tmod_eq_emod_of_nonneg h, gcd_tmod]

theorem gcd_end (a : Int) (h : 0 ≤ a) : a = (Int.gcd a 0 : Int) := by
  rw [Int.gcd_zero_right]; omega

theorem tmod_lt (a b : Int) (h : b ≠ 0) : (a.tmod b).natAbs < b.natAbs := by
  rw [Int.natAbs_tmod]; exact Nat.mod_lt _ (by omega)

theorem gcd_abs (n d : Int) : Int.gcd (-n) d = Int.gcd d n := by
  rw [Int.neg_gcd, Int.gcd_comm]

end Num
end Go.Proofs.Ytflbhlepmjiejaa
