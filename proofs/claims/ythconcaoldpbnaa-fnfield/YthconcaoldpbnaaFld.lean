/- Plain numbers: the laws of a field modulo the prime, as the law of P1 asks them; each function's answer under a name. -/
import Derived.Test.YthconcaoldpbnaaPow
import Derived.Test.YthconcaoldpbnaaFerm
namespace Go.Proofs.Ythconcaoldpbnaa
namespace Fld

theorem mul_both (x y : Int) : x % 2147483647 * (y % 2147483647) % 2147483647 = x * y % 2147483647 := by rw [← Int.mul_emod]

theorem unit_pow (c v : Int) (h : v * c % 2147483647 = 1) (k : Nat) : v ^ k * c ^ k % 2147483647 = 1 := by
  rw [← Int.mul_pow, ← Num.pow_l, h, Int.one_pow]; rfl

theorem unit_up (c v : Int) (h : v * c % 2147483647 = 1) (k m : Nat) : v ^ k * c ^ (k + m) % 2147483647 = c ^ m % 2147483647 := by
  rw [Int.pow_add, ← Int.mul_assoc, Int.mul_emod, unit_pow c v h k, Int.one_mul, Int.emod_emod]

theorem unit_down (c v : Int) (h : v * c % 2147483647 = 1) (k m : Nat) : v ^ (m + k) * c ^ k % 2147483647 = v ^ m % 2147483647 := by
  rw [Int.pow_add, Int.mul_assoc, Int.mul_emod, unit_pow c v h k, Int.mul_one, Int.emod_emod]

/-- the inverse of a power is the power of the inverse -/
theorem inv_pow (c : Int) (c0 : 1 ≤ c) (c1 : c < 2147483647) (k : Nat) : Num.pw (Num.pw c k) 2147483645 = Num.pw c 2147483645 ^ k % 2147483647 := by
  have hv := Ferm.inv_one c c0 c1
  rw [Int.mul_comm] at hv
  have hk := unit_pow c _ hv k
  generalize Num.pw c 2147483645 = v at *
  have ha : Num.pw c k = c ^ k % 2147483647 := rfl
  obtain ⟨b0, b1⟩ := Num.pw_bd c k
  have hne : Num.pw c k ≠ 0 := by
    intro e
    rw [ha] at e
    rw [Int.mul_emod, e, Int.mul_zero] at hk
    omega
  have hi := Ferm.inv_one (Num.pw c k) (by omega) b1
  obtain ⟨i0, i1⟩ := Num.pw_bd (Num.pw c k) 2147483645
  generalize Num.pw (Num.pw c k) 2147483645 = i at *
  rw [ha, Num.mul_l] at hi
  have e1 : i * (v ^ k * c ^ k) % 2147483647 = i := by
    rw [Int.mul_emod, hk, Int.mul_one, Int.emod_emod]; omega
  have e2 : i * (v ^ k * c ^ k) = v ^ k * (c ^ k * i) := by
    rw [Int.mul_left_comm, Int.mul_comm i]
  rw [e2, Int.mul_emod, hi, Int.mul_one, Int.emod_emod] at e1
  exact e1.symm

/-- c to the power n, n of either sign -/
def pf (c n : Int) : Int := if n < 0 then Num.pw (Num.pw c (-n).toNat) 2147483645 else Num.pw c n.toNat

theorem pf_add3 (c n : Int) (c0 : 1 ≤ c) (c1 : c < 2147483647) : pf c n * pf c 3 % 2147483647 = pf c (n + 3) := by
  have hv := Ferm.inv_one c c0 c1
  rw [Int.mul_comm] at hv
  have h3 : pf c 3 = c ^ 3 % 2147483647 := rfl
  have hp : ∀ m : Int, 0 ≤ m → pf c m = c ^ m.toNat % 2147483647 := fun m hm => by unfold pf; rw [if_neg (by omega)]; rfl
  have hm : ∀ m : Int, m < 0 → pf c m = Num.pw c 2147483645 ^ (-m).toNat % 2147483647 := fun m hm => by unfold pf; rw [if_pos hm, inv_pow c c0 c1]
  generalize Num.pw c 2147483645 = v at *
  rw [h3]
  by_cases hn : 0 ≤ n
  · rw [hp n hn, hp (n + 3) (by omega), mul_both, ← Int.pow_add]
    have : n.toNat + 3 = (n + 3).toNat := by omega
    rw [this]
  · rw [hm n (by omega), mul_both]
    by_cases h : 0 ≤ n + 3
    · rw [hp (n + 3) h]
      have e : 3 = (-n).toNat + (n + 3).toNat := by omega
      rw [show c ^ 3 = c ^ ((-n).toNat + (n + 3).toNat) from by rw [← e]]
      exact unit_up c v hv _ _
    · rw [hm (n + 3) (by omega)]
      have e : (-n).toNat = (-(n + 3)).toNat + 3 := by omega
      rw [e]
      exact unit_down c v hv _ _

theorem pf_bd (c n : Int) : 0 ≤ pf c n ∧ pf c n < 2147483647 := by
  unfold pf; split
  · exact Num.pw_bd _ _
  · exact Num.pw_bd _ _

theorem over_back (a b : Int) (hb : ¬ b % 2147483647 = 0) : a % 2147483647 * Num.pw (b % 2147483647) 2147483645 % 2147483647 * b % 2147483647 = a % 2147483647 := by
  have hv := Ferm.inv_one (b % 2147483647) (by omega) (by omega)
  generalize Num.pw (b % 2147483647) 2147483645 = v at *
  rw [Num.mul_l, Int.mul_assoc, Num.mul_l, Int.mul_emod]
  have : v * b % 2147483647 = 1 := by rw [Int.mul_comm, ← Num.mul_l]; exact hv
  rw [this, Int.mul_one, Int.emod_emod]

end Fld

namespace Base
open Go.ChangeShapes Go.WideShapes Go.ChangeAt Go.RowKit

theorem plusR (a b r : Int) (w : World) (a0 : -9223372036854775808 ≤ a) (a1 : a ≤ 9223372036854775807) (b0 : -9223372036854775808 ≤ b) (b1 : b ≤ 9223372036854775807) (h : (a + b) % 2147483647 = r) :
    Calls Try.prog 7 #[.int .i64 a, .int .i64 b] w fun e w' => e = .returned (.int .i64 r) ∧ w' = w := by
  rw [← h]; exact implPlus a b w a0 a1 b0 b1
theorem minusR (a b r : Int) (w : World) (a0 : -9223372036854775808 ≤ a) (a1 : a ≤ 9223372036854775807) (b0 : -9223372036854775808 ≤ b) (b1 : b ≤ 9223372036854775807) (h : (a - b) % 2147483647 = r) :
    Calls Try.prog 9 #[.int .i64 a, .int .i64 b] w fun e w' => e = .returned (.int .i64 r) ∧ w' = w := by
  rw [← h]; exact implMinus a b w a0 a1 b0 b1
theorem timesR (a b r : Int) (w : World) (a0 : -9223372036854775808 ≤ a) (a1 : a ≤ 9223372036854775807) (b0 : -9223372036854775808 ≤ b) (b1 : b ≤ 9223372036854775807) (h : a * b % 2147483647 = r) :
    Calls Try.prog 8 #[.int .i64 a, .int .i64 b] w fun e w' => e = .returned (.int .i64 r) ∧ w' = w := by
  have := implTimes a b w a0 a1 b0 b1
  rw [Fld.mul_both, h] at this
  exact this
theorem overR (a b r : Int) (w : World) (a0 : -9223372036854775808 ≤ a) (a1 : a ≤ 9223372036854775807) (b0 : -9223372036854775808 ≤ b) (b1 : b ≤ 9223372036854775807) (h : a % 2147483647 * Num.pw (b % 2147483647) 2147483645 % 2147483647 = r) :
    Calls Try.prog 12 #[.int .i64 a, .int .i64 b] w fun e w' => e = .returned (.int .i64 r) ∧ w' = w := by
  rw [← h]; exact implOver a b w a0 a1 b0 b1
theorem powerR (a n r : Int) (w : World) (a0 : -9223372036854775808 ≤ a) (a1 : a ≤ 9223372036854775807) (n0 : -1000000 ≤ n) (n1 : n ≤ 1000000) (h : Fld.pf (a % 2147483647) n = r) :
    Calls Try.prog 13 #[.int .i64 a, .int .i64 n] w fun e w' => e = .returned (.int .i64 r) ∧ w' = w := by
  rw [← h]
  unfold Fld.pf
  by_cases hn : n < 0
  · rw [if_pos hn]; exact implPowerNeg a n w a0 a1 n0 hn
  · rw [if_neg hn]; exact implPowerPos a n w a0 a1 (by omega) n1

theorem modR (a r : Int) (w : World) (a0 : -9223372036854775808 ≤ a) (a1 : a ≤ 9223372036854775807) (h : a % 2147483647 = r) :
    Calls Try.prog 10 #[.int .i64 a] w fun e w' => e = .returned (.int .i64 r) ∧ w' = w := by
  rw [← h]; exact implMod a w a0 a1
theorem specModR (a r : Int) (w : World) (a0 : -9223372036854775808 ≤ a) (a1 : a ≤ 9223372036854775807) (h : a % 2147483647 = r) :
    Calls Try.prog 11 #[.int .i64 a] w fun e w' => e = .returned (.int .i64 r) ∧ w' = w := by
  rw [← h]; exact specMod a w a0 a1

end Base
end Go.Proofs.Ythconcaoldpbnaa
