/- Plain numbers, no program: Fermat's little theorem at a number that no smaller one meets, by binomial coefficients; so the power that both sides take for an inverse is one. -/
import Derived.Test.YtbbmbgjjhaajjaaGreatDoorNum
import Derived.Test.YtbbmbgjjhaajjaaGreatDoorRec
namespace Go.Proofs.YtbbmbgjjhaajjaaGreatDoor
namespace Ferm

/-- binomial coefficients -/
def ch : Nat → Nat → Nat
  | _, 0 => 1
  | 0, _ + 1 => 0
  | n + 1, k + 1 => ch n k + ch n (k + 1)

theorem ch_zero (n : Nat) : ch n 0 = 1 := by cases n <;> rfl
theorem ch_over : ∀ (n k : Nat), n < k → ch n k = 0
  | 0, k + 1, _ => rfl
  | n + 1, k + 1, h => by rw [ch, ch_over n k (by omega), ch_over n (k + 1) (by omega)]

theorem ch_mul : ∀ (n k : Nat), (k + 1) * ch (n + 1) (k + 1) = (n + 1) * ch n k
  | 0, 0 => rfl
  | 0, k + 1 => by rw [ch_over (0 + 1) (k + 1 + 1) (by omega), ch_over 0 (k + 1) (by omega), Nat.mul_zero, Nat.mul_zero]
  | n + 1, 0 => by
    have h := ch_mul n 0
    have e : ch (n + 1 + 1) (0 + 1) = ch (n + 1) 0 + ch (n + 1) (0 + 1) := rfl
    rw [ch_zero] at h
    rw [e, ch_zero]
    omega
  | n + 1, k + 1 => by
    have h1 := ch_mul n k
    have h2 := ch_mul n (k + 1)
    have e1 : ch (n + 1 + 1) (k + 1 + 1) = ch (n + 1) (k + 1) + ch (n + 1) (k + 1 + 1) := rfl
    have e2 : ch (n + 1) (k + 1) = ch n k + ch n (k + 1) := rfl
    have e3 : (k + 1 + 1) * ch (n + 1) (k + 1) = (k + 1) * ch (n + 1) (k + 1) + ch (n + 1) (k + 1) := by rw [Nat.add_mul (k + 1) 1, Nat.one_mul]
    have e4 : (n + 1 + 1) * ch (n + 1) (k + 1) = (n + 1) * ch n k + (n + 1) * ch n (k + 1) + ch (n + 1) (k + 1) := by
      rw [Nat.add_mul (n + 1) 1, Nat.one_mul, e2, Nat.mul_add]
    rw [e1, Nat.mul_add, e3, h1, h2, e4]
    omega

/-- the first m terms of a plus 1 to the power n -/
def part (n a : Nat) : Nat → Nat
  | 0 => 0
  | m + 1 => part n a m + ch n m * a ^ m

theorem part_step (n a : Nat) : ∀ m, part (n + 1) a (m + 1) = part n a (m + 1) + a * part n a m
  | 0 => by simp [part, ch_zero]
  | m + 1 => by
    have h := part_step n a m
    have e1 : part (n + 1) a (m + 1 + 1) = part (n + 1) a (m + 1) + ch (n + 1) (m + 1) * a ^ (m + 1) := rfl
    have e2 : part n a (m + 1 + 1) = part n a (m + 1) + ch n (m + 1) * a ^ (m + 1) := rfl
    have e3 : a * part n a (m + 1) = a * part n a m + ch n m * a ^ (m + 1) := by
      have : part n a (m + 1) = part n a m + ch n m * a ^ m := rfl
      rw [this, Nat.mul_add, Nat.pow_succ, Nat.mul_left_comm, Nat.mul_comm a (a ^ m)]
    have e4 : ch (n + 1) (m + 1) = ch n m + ch n (m + 1) := rfl
    rw [e1, h, e4, Nat.add_mul, e2, e3]
    omega

theorem part_all (a : Nat) : ∀ n, part n a (n + 1) = (a + 1) ^ n
  | 0 => by simp [part, ch_zero]
  | n + 1 => by
    have e : part n a (n + 1 + 1) = part n a (n + 1) + ch n (n + 1) * a ^ (n + 1) := rfl
    have e2 : (a + 1) ^ (n + 1) = (a + 1) ^ n + a * (a + 1) ^ n := by
      rw [Nat.pow_succ, Nat.mul_add, Nat.mul_one, Nat.mul_comm, Nat.add_comm]
    rw [part_step, e, ch_over n (n + 1) (by omega), part_all a n, e2, Nat.zero_mul, Nat.add_zero]

theorem part_mod (p a : Nat) (hp : ∀ k, 0 < k → k < p → Nat.gcd p k = 1) : ∀ m, m + 1 ≤ p → part p a (m + 1) % p = 1 % p
  | 0, _ => by simp [part, ch_zero]
  | m + 1, h => by
    have ih := part_mod p a hp m (by omega)
    have e : part p a (m + 1 + 1) = part p a (m + 1) + ch p (m + 1) * a ^ (m + 1) := rfl
    obtain ⟨q, rfl⟩ : ∃ q, p = q + 1 := ⟨p - 1, by omega⟩
    have hd : (q + 1) ∣ ch (q + 1) (m + 1) := by
      have h1 : (q + 1) ∣ (m + 1) * ch (q + 1) (m + 1) := by rw [ch_mul]; exact Nat.dvd_mul_right ..
      exact Nat.Coprime.dvd_of_dvd_mul_left (hp (m + 1) (by omega) (by omega)) h1
    rw [e, Nat.add_mod, Nat.mod_eq_zero_of_dvd (Nat.dvd_mul_right_of_dvd hd _), Nat.add_zero, Nat.mod_mod, ih]

theorem fermat (p : Nat) (h1 : 1 < p) (hp : ∀ k, 0 < k → k < p → Nat.gcd p k = 1) : ∀ a, a ^ p % p = a % p
  | 0 => by rw [Nat.zero_pow (by omega)]
  | a + 1 => by
    have ih := fermat p h1 hp a
    obtain ⟨q, rfl⟩ : ∃ q, p = q + 1 := ⟨p - 1, by omega⟩
    have e : part (q + 1) a (q + 1 + 1) = part (q + 1) a (q + 1) + ch (q + 1) (q + 1) * a ^ (q + 1) := rfl
    have e1 : ch (q + 1) (q + 1) = 1 := by
      have : ∀ n, ch n n = 1 := fun n => by
        induction n with
        | zero => rfl
        | succ n ih => rw [ch, ih, ch_over n (n + 1) (by omega)]
      exact this _
    rw [← part_all, e, e1, Nat.one_mul, Nat.add_mod, part_mod (q + 1) a hp q (by omega), ih, ← Nat.add_mod, Nat.add_comm]

/-- no number from 2 to 46340 divides the prime -/
theorem free_more : Rec.freeFrom 46339 2 = true := by kernel_rfl

theorem prime_gcd (k : Nat) (h0 : 0 < k) (h1 : k < 2147483647) : Nat.gcd 2147483647 k = 1 := by
  have d1 : Nat.gcd 2147483647 k ∣ 2147483647 := Nat.gcd_dvd_left ..
  have d2 : Nat.gcd 2147483647 k ≤ k := Nat.gcd_le_right _ h0
  have d3 : 0 < Nat.gcd 2147483647 k := Nat.gcd_pos_of_pos_right _ h0
  generalize Nat.gcd 2147483647 k = g at *
  obtain ⟨c, hc⟩ := d1
  by_cases hg : g = 1
  · exact hg
  · exfalso
    have c1 : c ≠ 0 := by intro e; rw [e] at hc; omega
    have c2 : c ≠ 1 := by intro e; rw [e] at hc; omega
    by_cases hs : g ≤ 46340
    · exact Rec.freeFrom_gives 46339 2 g free_more (by omega) (by omega) (Nat.mod_eq_zero_of_dvd ⟨c, hc⟩)
    · by_cases ht : c ≤ 46340
      · exact Rec.freeFrom_gives 46339 2 c free_more (by omega) (by omega) (Nat.mod_eq_zero_of_dvd ⟨g, by rw [hc, Nat.mul_comm]⟩)
      · have := Nat.mul_le_mul (show 46341 ≤ g by omega) (show 46341 ≤ c by omega)
        omega

theorem inv_gen (p q k : Nat) (hq : p = q + 2) (hp : ∀ k, 0 < k → k < p → Nat.gcd p k = 1) (k0 : 0 < k) (k1 : k < p) : k * (k ^ q % p) % p = 1 := by
  have f := fermat p (by omega) hp k
  have e : k ^ p = k * k ^ (q + 1) := by rw [hq, Nat.pow_succ, Nat.mul_comm]
  have e2 : k * (k ^ q % p) % p = k ^ (q + 1) % p := by
    rw [Nat.mul_mod, Nat.mod_mod, ← Nat.mul_mod, Nat.pow_succ, Nat.mul_comm]
  rw [e2]
  rw [e, Nat.mod_eq_of_lt k1, Nat.mul_mod, Nat.mod_eq_of_lt k1] at f
  have hy : k ^ (q + 1) % p < p := Nat.mod_lt _ (by omega)
  generalize k ^ (q + 1) % p = y at *
  by_cases y0 : y = 0
  · subst y0; simp at f; omega
  · obtain ⟨z, rfl⟩ : ∃ z, y = z + 1 := ⟨y - 1, by omega⟩
    have hd : p ∣ k * z := by
      have h2 : (k * z + k) % p = k := by
        have e3 : k * (z + 1) = k * z + k := by rw [Nat.mul_add, Nat.mul_one]
        rw [e3] at f; exact f
      have h3 := Nat.div_add_mod (k * z + k) p
      rw [h2] at h3
      exact ⟨(k * z + k) / p, by omega⟩
    have hz : p ∣ z := Nat.Coprime.dvd_of_dvd_mul_left (hp k k0 k1) hd
    have := Nat.eq_zero_of_dvd_of_lt hz (by omega)
    omega

theorem inv_one (d : Int) (h0 : 1 ≤ d) (h1 : d < 2147483647) : d * Num.pw d 2147483645 % 2147483647 = 1 := by
  obtain ⟨k, rfl⟩ := Int.eq_ofNat_of_zero_le (show 0 ≤ d by omega)
  have h := inv_gen 2147483647 2147483645 k (by omega) (fun j a b => prime_gcd j a b) (by omega) (by omega)
  unfold Num.pw
  rw [← Int.natCast_pow]
  generalize k ^ 2147483645 = z at *
  have h2 : ((k * (z % 2147483647) % 2147483647 : Nat) : Int) = 1 := by rw [h]; rfl
  rw [Int.natCast_emod, Int.natCast_mul, Int.natCast_emod] at h2
  exact h2

theorem over_eq (x n d : Int) (d0 : 1 ≤ d) (d1 : d ≤ 32767) (x0 : 0 ≤ x) (x1 : x < 2147483647) (h : (d * x - n) % 2147483647 = 0) :
    n % 2147483647 * Num.pw (d % 2147483647) 2147483645 % 2147483647 = x := by
  have e : d % 2147483647 = d := by omega
  have hi := inv_one d d0 (by omega)
  rw [e]
  generalize Num.pw d 2147483645 = v at *
  have hn : n % 2147483647 = (d * x) % 2147483647 := by omega
  rw [hn, Num.mul_l, Int.mul_comm d x, Int.mul_assoc, ← Num.mul_r, hi, Int.mul_one]
  omega

end Ferm
end Go.Proofs.YtbbmbgjjhaajjaaGreatDoor
