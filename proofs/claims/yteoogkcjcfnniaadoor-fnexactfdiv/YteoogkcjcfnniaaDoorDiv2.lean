/- Quotients of floats: both sides. -/
import Derived.Test.YteoogkcjcfnniaaDoorFlW
import Derived.Test.YteoogkcjcfnniaaDoorTwo
import Derived.Test.YteoogkcjcfnniaaDoorMul2
import Derived.Test.YteoogkcjcfnniaaDoorDiv
import Derived.Test.YteoogkcjcfnniaaDoorDiv3
namespace Go.Proofs.YteoogkcjcfnniaaDoor
namespace FlV
open Go.ChangeShapes Go.WideShapes Go.ChangeAt Go.RowKit Go.Joins
open Flo (hide ret_int ret_bool)
set_option linter.unusedVariables false

/-- a quotient cut short after g bits more, told from the least float on -/
theorem div_rep (m m2 g A B : Nat) (h2 : 0 < m2) : m * 2 ^ A * 2 ^ (B + g) / (m2 * 2 ^ B * 2 ^ A) = m * 2 ^ g / m2 ∧ (m * 2 ^ A * 2 ^ (B + g) % (m2 * 2 ^ B * 2 ^ A) = 0 ↔ m * 2 ^ g % m2 = 0) := by
  have e1 : m * 2 ^ A * 2 ^ (B + g) = m * 2 ^ g * (2 ^ B * 2 ^ A) := by rw [Nat.pow_add]; ac_rfl
  have e2 : m2 * 2 ^ B * 2 ^ A = m2 * (2 ^ B * 2 ^ A) := Nat.mul_assoc ..
  have hp : 0 < 2 ^ B * 2 ^ A := Nat.mul_pos (Nat.two_pow_pos _) (Nat.two_pow_pos _)
  rw [e1, e2, Nat.mul_div_mul_right _ _ hp, Nat.mul_mod_mul_right]
  refine ⟨rfl, fun h => ?_, fun h => by rw [h, Nat.zero_mul]⟩
  rcases Nat.mul_eq_zero.1 h with h | h
  · exact h
  · omega
theorem or1 (q : Nat) (h : (q : Int) ≤ 18446744073709551615) : bits .or .u64 (q : Int) 1 = ((2 * (q / 2) + 1 : Nat) : Int) := by
  have e : (q : Int) = ((q / 2 : Nat) : Int) * 2 + ((q % 2 : Nat) : Int) := by omega
  have hw : ∀ n : Int, 0 ≤ n → n < 2 ^ 64 → IntKind.u64.wrap n = n := by
    intro n h0 h1; simp [IntKind.wrap, IntKind.bits, IntKind.signed]; omega
  have hb := (bits_nat .u64 64 (by decide) hw q 1 (Int.ofNat_lt.1 (by rw [show ((2 ^ 64 : Nat) : Int) = 18446744073709551616 by decide]; omega)) (by decide)).2
  have e3 : (q ||| 1) = 2 * (q / 2) + 1 := by
    apply Nat.eq_of_testBit_eq
    intro i
    cases i with
    | zero => simp
    | succ i =>
      rw [Nat.testBit_succ, Nat.testBit_succ, Nat.or_div_two, show (2 * (q / 2) + 1) / 2 = q / 2 by omega]; simp
  rw [← e3]; exact hb
/-- the quotient of two finite floats: what both sides round -/
theorem quotBoth (s3 x1 x2 : Int) (m m2 : Nat) (s0 : 0 ≤ s3) (s1 : s3 ≤ 1) (m0 : m ≠ 0) (m1 : (m : Int) < 16777216) (h20 : m2 ≠ 0) (h21 : (m2 : Int) < 16777216) (a0 : -149 ≤ x1) (a1 : x1 ≤ 104) (b0 : -149 ≤ x2) (b1 : x2 ≤ 104) :
    ∃ r : Int, (∀ (neg : Bool) (w : World), neg = (s3 == 1) → Calls Tryd.prog 30 #[.bool neg, .int .i64 ((m * 2 ^ (24 - Rnd.bl m) * 2 ^ 37 / m2 : Nat) : Int), .int .i64 (x1 - ((24 - Rnd.bl m : Nat) : Int) - 37 - x2), .bool (decide (m * 2 ^ (24 - Rnd.bl m) * 2 ^ 37 % m2 ≠ 0))] w fun e w' => e = .returned (.int .i64 r) ∧ w' = w) ∧
      (∀ w : World, Calls Tryd.prog 25 #[.agg #[.int .u8 8, .int .u8 23], .int .u8 s3, .int .u64 ((if m * 2 ^ (64 - Rnd.bl m) % m2 = 0 then m * 2 ^ (64 - Rnd.bl m) / m2 else 2 * (m * 2 ^ (64 - Rnd.bl m) / m2 / 2) + 1 : Nat) : Int), .int .i64 (x1 - x2 - ((64 - Rnd.bl m : Nat) : Int))] w fun e w' => e = .returned (.int .i64 r) ∧ Below w.heap.size w w') := by
  have m2' : m < 2 ^ 24 := Int.ofNat_lt.1 (by rw [show ((2 ^ 24 : Nat) : Int) = 16777216 by decide]; exact m1)
  have n2' : m2 < 2 ^ 24 := Int.ofNat_lt.1 (by rw [show ((2 ^ 24 : Nat) : Int) = 16777216 by decide]; exact h21)
  have L1 := Rnd.bl_le_of m 24 m2'
  have L0 := Rnd.bl_pos m m0
  have hge : ∀ K, Rnd.bl m ≤ K → 2 ^ (K - 1) ≤ m * 2 ^ (K - Rnd.bl m) ∧ m * 2 ^ (K - Rnd.bl m) < 2 ^ K := by
    intro K hK
    constructor
    · have := Nat.mul_le_mul_right (2 ^ (K - Rnd.bl m)) (Rnd.bl_le m m0)
      rw [← Nat.pow_add, show Rnd.bl m - 1 + (K - Rnd.bl m) = K - 1 by omega] at this; exact this
    · have := Nat.mul_lt_mul_of_pos_right (Rnd.bl_lt m) (Nat.two_pow_pos (K - Rnd.bl m))
      rw [← Nat.pow_add, show Rnd.bl m + (K - Rnd.bl m) = K by omega] at this; exact this
  obtain ⟨p1, p2⟩ := hge 24 L1
  obtain ⟨q1, q2⟩ := hge 64 (by omega)
  have hdiv : ∀ X k, 2 ^ (24 + k) ≤ X → 2 ^ k ≤ X / m2 := by
    intro X k h
    rw [Nat.le_div_iff_mul_le (by omega)]
    have h1 : 2 ^ k * m2 ≤ 2 ^ k * 2 ^ 24 := Nat.mul_le_mul_left _ (by omega)
    have h2 : 2 ^ k * 2 ^ 24 = 2 ^ (24 + k) := by rw [← Nat.pow_add]; congr 1; omega
    omega
  generalize hA : (x1 - x2 + 149).toNat = A
  generalize hB : (-(x1 - x2 + 149)).toNat = B
  have hAB : x1 - x2 + 149 = (A : Int) - (B : Int) := by omega
  have hm2p : 0 < m2 := by omega
  have hbp : 0 < m2 * 2 ^ B := Nat.mul_pos hm2p (Nat.two_pow_pos _)
  refine ⟨(Rnd.fl 23 255 (m * 2 ^ A) (m2 * 2 ^ B) : Nat) + s3 * 2147483648, fun neg w hn => ?_, fun w => ?_⟩
  · obtain ⟨d1, d2⟩ := div_rep m m2 (24 - Rnd.bl m + 37) A B hm2p
    have e37 : m * 2 ^ (24 - Rnd.bl m + 37) = m * 2 ^ (24 - Rnd.bl m) * 2 ^ 37 := by rw [Nat.pow_add, Nat.mul_assoc]
    rw [e37] at d1 d2
    have big : 2 ^ 36 ≤ m * 2 ^ (24 - Rnd.bl m) * 2 ^ 37 / m2 := hdiv _ 36 (by
      have := Nat.mul_le_mul_right (2 ^ 37) p1
      rw [← Nat.pow_add] at this; exact this)
    have small : m * 2 ^ (24 - Rnd.bl m) * 2 ^ 37 / m2 < 2 ^ 61 := Nat.lt_of_le_of_lt (Nat.div_le_self _ _) (by
      have := Nat.mul_lt_mul_of_pos_right p2 (Nat.two_pow_pos 37)
      rw [← Nat.pow_add] at this; exact this)
    refine FlM.put neg _ s3 (m * 2 ^ A) (m2 * 2 ^ B) (B + (24 - Rnd.bl m + 37)) A _ _ w s0 s1 hn hbp (by omega) d1.symm ?_ ?_ ?_ ?_ (by omega) (by omega)
    · rw [Bool.eq_iff_iff, decide_eq_true_eq, decide_eq_true_eq]; exact (not_congr d2).symm
    · intro h0; rw [h0] at big; have := Nat.two_pow_pos 36; omega
    · have := Int.ofNat_lt.2 small
      rw [show ((2 ^ 61 : Nat) : Int) = 2305843009213693952 by decide] at this
      omega
    · intro _
      have := Rnd.le_bl_of _ 36 big
      omega
  · obtain ⟨d1, d2⟩ := div_rep m m2 (64 - Rnd.bl m) A B hm2p
    have big : 2 ^ 39 ≤ m * 2 ^ (64 - Rnd.bl m) / m2 := hdiv _ 39 q1
    have small : m * 2 ^ (64 - Rnd.bl m) / m2 < 2 ^ 64 := Nat.lt_of_le_of_lt (Nat.div_le_self _ _) q2
    have b40 := Rnd.le_bl_of _ 39 big
    have bigI := Int.ofNat_le.2 big
    have smallI := Int.ofNat_lt.2 small
    rw [show ((2 ^ 39 : Nat) : Int) = 549755813888 by decide] at bigI
    rw [show ((2 ^ 64 : Nat) : Int) = 18446744073709551616 by decide] at smallI
    rw [Int.add_comm]
    refine FlR.roundS s3 _ _ (m * 2 ^ A) (m2 * 2 ^ B) (B + (64 - Rnd.bl m)) A w s0 s1 hbp (by omega) ?_ ?_ (by omega) (by omega) ?_
    · split <;> omega
    · split <;> omega
    · rw [d1]
      by_cases c : m * 2 ^ (64 - Rnd.bl m) % m2 = 0
      · rw [if_pos c]; exact .inl ⟨rfl, d2.2 c⟩
      · rw [if_neg c]; exact .inr ⟨rfl, fun h => c (d2.1 h), by omega⟩

end FlV
end Go.Proofs.YteoogkcjcfnniaaDoor
