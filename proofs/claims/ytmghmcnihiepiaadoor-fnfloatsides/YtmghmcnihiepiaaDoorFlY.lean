/- Rounding to a float, on both sides. -/
import Derived.Test.YtmghmcnihiepiaaDoorFlV
import Derived.Test.YtmghmcnihiepiaaDoorFlM
import Derived.Test.YtmghmcnihiepiaaDoorFlQ
namespace Go.Proofs.YtmghmcnihiepiaaDoor
namespace FlV
open Go.ChangeShapes Go.WideShapes Go.ChangeAt Go.RowKit Go.Joins
open Flo (hide ret_int ret_bool)
set_option linter.unusedVariables false
/-- a value at its bits: what both sides round -/
theorem exact_rep (low : Int) (M : Nat) (e : Int) : ∃ a b j1 j2 : Nat, 0 < b ∧ e = low + (j2 : Int) - j1 ∧ M = a * 2 ^ j1 / (b * 2 ^ j2) ∧ a * 2 ^ j1 % (b * 2 ^ j2) = 0 := by
  refine ⟨M * 2 ^ (e - low).toNat, 2 ^ (low - e).toNat, (low - e).toNat, (e - low).toNat, Nat.two_pow_pos _, by omega, ?_, ?_⟩
  · rw [Nat.mul_assoc, Nat.mul_comm (2 ^ (low - e).toNat) (2 ^ (e - low).toNat), Nat.mul_div_cancel _ (Nat.mul_pos (Nat.two_pow_pos _) (Nat.two_pow_pos _))]
  · rw [Nat.mul_assoc, Nat.mul_comm (2 ^ (low - e).toNat) (2 ^ (e - low).toNat), Nat.mul_mod_left]

/-- rounding to a float, on both sides -/
theorem roundBothS (s e : Int) (M : Nat) (s0 : 0 ≤ s) (s1 : s ≤ 1) (m1 : (M : Int) < 4611686018427387904) (e0 : -1000 ≤ e) (e1 : e ≤ 1000) : ∃ r : Int, 0 ≤ r ∧ r ≤ 4294967295 ∧
    (∀ (neg : Bool) (w : World), neg = (s == 1) → Calls Tryd.prog 36 #[.bool neg, .int .i64 M, .int .i64 e, .bool false] w fun e w' => e = .returned (.int .i64 r) ∧ w' = w) ∧
    (∀ w : World, Calls Tryd.prog 29 #[.agg #[.int .u8 8, .int .u8 23], .int .u8 s, .int .u64 M, .int .i64 e] w fun e w' => e = .returned (.int .i64 r) ∧ Below w.heap.size w w') := by
  by_cases m0 : M = 0
  · subst m0
    exact ⟨s * 2147483648, by omega, by omega, fun neg w hn => FlM.putZero neg s e w s0 s1 hn e0 e1, fun w => FlR.roundZeroS s e w s0 s1⟩
  · obtain ⟨a, b, j1, j2, hb, he, hm, hx⟩ := exact_rep (-149) M e
    have f0 : (0 : Int) ≤ (Rnd.fl 23 255 a b : Nat) := Int.natCast_nonneg _
    have f1 := Rnd.fl_le 23 255 a b _ (show ((255 * 2 ^ 23 : Nat) : Int) = 2139095040 by decide)
    exact ⟨(Rnd.fl 23 255 a b : Nat) + s * 2147483648, by omega, by omega, fun neg w hn => FlM.put neg false s a b j1 j2 M e w s0 s1 hn hb he hm (by rw [hx]; rfl) m0 m1 (fun h => by cases h) e0 e1,
      fun w => by rw [Int.add_comm]; exact FlR.roundS s e M a b j1 j2 w s0 s1 hb he m0 (by omega) e0 e1 (.inl ⟨hm, hx⟩)⟩
end FlV
end Go.Proofs.YtmghmcnihiepiaaDoor
