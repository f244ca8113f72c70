/- Quotients of floats: both sides, two finite ones. -/
import Derived.Test.YteoogkcjcfnniaaDoorDiv2
namespace Go.Proofs.YteoogkcjcfnniaaDoor
namespace FlV
open Go.ChangeShapes Go.WideShapes Go.ChangeAt Go.RowKit Go.Joins
open Flo (hide ret_int ret_bool)
set_option linter.unusedVariables false

theorem bool_of_nat (n m2 : Nat) : ((((n % m2 : Nat) : Int)) != 0) = decide (n % m2 ≠ 0) := by
  rw [Bool.eq_iff_iff, bne_iff_ne, decide_eq_true_eq]; omega
theorem divFin (a b k1 k2 s1 s2 x1 x2 s3 : Int) (m m2 : Nat)
    (hA : ∀ w, Calls Tryd.prog 26 #[.agg #[.int .u8 8, .int .u8 23], .int .i64 a] w fun e w' => e = .returned (.agg #[.int .u8 k1, .int .u8 s1, .int .i16 x1, .int .u32 (m : Int)]) ∧ Below w.heap.size w w')
    (hB : ∀ w, Calls Tryd.prog 26 #[.agg #[.int .u8 8, .int .u8 23], .int .i64 b] w fun e w' => e = .returned (.agg #[.int .u8 k2, .int .u8 s2, .int .i16 x2, .int .u32 (m2 : Int)]) ∧ Below w.heap.size w w')
    (hx : bits .xor .u8 s1 s2 = s3) (t0 : 0 ≤ s3) (t1 : s3 ≤ 1) (hs3 : (!((s1 == 1) == (s2 == 1))) = (s3 == 1)) (hk1 : k1 = 0 ∨ k1 = 1) (hk2 : k2 = 1) (m0 : m ≠ 0) (h20 : m2 ≠ 0)
    (hfa : FlP.Fin a s1 m x1) (hfb : FlP.Fin b s2 m2 x2) : ∃ r, (∀ w, Calls Tryd.prog 19 #[.int .i64 a, .int .i64 b] w fun e w' => e = .returned (.int .i64 r) ∧ Below w.heap.size w w') ∧
          (∀ w, SV w → Calls Tryd.prog 20 #[.int .i64 a, .int .i64 b] w fun e w' => e = .returned (.int .i64 r) ∧ Below w.heap.size w w') := by
  have m1 : (m : Int) < 16777216 := hfa.2.2.2.2.1
  have ea0 := hfa.2.2.2.2.2.1
  have ea1 := hfa.2.2.2.2.2.2.1
  have n1 : (m2 : Int) < 16777216 := hfb.2.2.2.2.1
  have eb0 := hfb.2.2.2.2.2.1
  have eb1 := hfb.2.2.2.2.2.2.1
  have m2' : m < 2 ^ 24 := Int.ofNat_lt.1 (by rw [show ((2 ^ 24 : Nat) : Int) = 16777216 by decide]; exact m1)
  have L1 := Rnd.bl_le_of m 24 m2'
  have L0 := Rnd.bl_pos m m0
  have h2i : (m2 : Int) ≠ 0 := by omega
  obtain ⟨r, hP, hR⟩ := quotBoth s3 x1 x2 m m2 t0 t1 m0 m1 h20 n1 ea0 ea1 eb0 eb1
  have pw : ∀ K, Rnd.bl m ≤ K → 2 ^ (K - 1) ≤ m * 2 ^ (K - Rnd.bl m) ∧ m * 2 ^ (K - Rnd.bl m) < 2 ^ K := by
    intro K hK
    constructor
    · have := Nat.mul_le_mul_right (2 ^ (K - Rnd.bl m)) (Rnd.bl_le m m0)
      rw [← Nat.pow_add, show Rnd.bl m - 1 + (K - Rnd.bl m) = K - 1 by omega] at this; exact this
    · have := Nat.mul_lt_mul_of_pos_right (Rnd.bl_lt m) (Nat.two_pow_pos (K - Rnd.bl m))
      rw [← Nat.pow_add, show Rnd.bl m + (K - Rnd.bl m) = K by omega] at this; exact this
  have cst : ∀ t : Nat, (m : Int) * 2 ^ t = ((m * 2 ^ t : Nat) : Int) := fun t => by rw [Int.natCast_mul, Int.natCast_pow]; rfl
  refine ⟨r, fun w => ?_, fun w hv => ?_⟩
  · obtain ⟨p1, p2⟩ := pw 24 L1
    have p1i := Int.ofNat_le.2 p1
    have p2i := Int.ofNat_lt.2 p2
    rw [show ((2 ^ (24 - 1) : Nat) : Int) = 8388608 by decide] at p1i
    rw [show ((2 ^ 24 : Nat) : Int) = 16777216 by decide] at p2i
    refine specDivFin a b m x1 m2 x2 ((m * 2 ^ (24 - Rnd.bl m) : Nat) : Int) _ ((m * 2 ^ (24 - Rnd.bl m) * 2 ^ 37 : Nat) : Int) _ r (24 - Rnd.bl m) s1 s2 (s3 == 1) _ w (fun w => FlM.openFin a s1 m x1 w hfa) (fun w => FlM.openFin b s2 m2 x2 w hfb) hs3 (beq_eq_false_iff_ne.2 h2i) (by omega) n1 (by omega) (by omega) (by omega) (by omega) (by omega)
      ?_ (cst _) (.inr p1i) (by omega) p2i ?_ ?_ ?_ rfl (fun w => hP _ w rfl)
    · intro t ht
      rw [cst]
      have h1 : m * 2 ^ t < 2 ^ 23 := by
        have := Nat.mul_lt_mul_of_pos_right (Rnd.bl_lt m) (Nat.two_pow_pos t)
        rw [← Nat.pow_add] at this
        exact Nat.lt_of_lt_of_le this (Nat.pow_le_pow_right (by omega) (by omega))
      have h2 : 0 < m * 2 ^ t := Nat.mul_pos (by omega) (Nat.two_pow_pos t)
      have h3 := Int.ofNat_lt.2 h1
      have h4 := Int.ofNat_lt.2 h2
      rw [show ((2 ^ 23 : Nat) : Int) = 8388608 by decide] at h3
      exact ⟨h4, h3⟩
    · rw [Int.natCast_mul (m * 2 ^ (24 - Rnd.bl m)) (2 ^ 37)]; rfl
    · have e1 : ((m * 2 ^ (24 - Rnd.bl m) * 2 ^ 37 : Nat) : Int).tdiv (m2 : Int) = ((m * 2 ^ (24 - Rnd.bl m) * 2 ^ 37 / m2 : Nat) : Int) := by
        rw [Int.tdiv_eq_ediv_of_nonneg (Int.natCast_nonneg _), Int.natCast_ediv]
      have h1 : m * 2 ^ (24 - Rnd.bl m) * 2 ^ 37 / m2 < 2 ^ 61 := Nat.lt_of_le_of_lt (Nat.div_le_self _ _) (by
        have := Nat.mul_lt_mul_of_pos_right p2 (Nat.two_pow_pos 37)
        rw [← Nat.pow_add] at this; exact this)
      have h2 := Int.ofNat_lt.2 h1
      rw [show ((2 ^ 61 : Nat) : Int) = 2305843009213693952 by decide] at h2
      have h3 : (0 : Int) ≤ ((m * 2 ^ (24 - Rnd.bl m) * 2 ^ 37 / m2 : Nat) : Int) := Int.natCast_nonneg _
      rw [e1]
      generalize ((m * 2 ^ (24 - Rnd.bl m) * 2 ^ 37 / m2 : Nat) : Int) = z at *
      simp only [wrap64]; omega
    · rw [← Int.natCast_emod]; exact bool_of_nat _ _
  · obtain ⟨q1, q2⟩ := pw 64 (by omega)
    have q2i := Int.ofNat_lt.2 q2
    rw [show ((2 ^ 64 : Nat) : Int) = 18446744073709551616 by decide] at q2i
    have q0 : (0 : Int) ≤ ((m * 2 ^ (64 - Rnd.bl m) : Nat) : Int) := Int.natCast_nonneg _
    have d1 : m * 2 ^ (64 - Rnd.bl m) / m2 ≤ m * 2 ^ (64 - Rnd.bl m) := Nat.div_le_self _ _
    have d1i := Int.ofNat_le.2 d1
    have d0 : (0 : Int) ≤ ((m * 2 ^ (64 - Rnd.bl m) / m2 : Nat) : Int) := Int.natCast_nonneg _
    have hbl : Lib.bitLen m = Rnd.bl m := Rnd.bl_lib m (Nat.lt_trans m2' (by decide))
    have wr : ∀ z : Int, 0 ≤ z → z < 18446744073709551616 → IntKind.u64.wrap z = z := by
      intro z h0 h1; simp [IntKind.wrap, IntKind.bits, IntKind.signed]; omega
    refine divWalk a b k1 s1 x1 m k2 s2 x2 m2 s3 _ _ (x1 - x2) ((64 - Rnd.bl m : Nat) : Int) ((m * 2 ^ (64 - Rnd.bl m) : Nat) : Int) ((m * 2 ^ (64 - Rnd.bl m) / m2 : Nat) : Int) ((m * 2 ^ (64 - Rnd.bl m) % m2 : Nat) : Int) r (decide (m * 2 ^ (64 - Rnd.bl m) % m2 ≠ 0)) w hv hA hB
      (.inr (.inr (.inr (.inr (.inr ⟨hk1, hk2, hx, by omega, by omega, wr _ (by omega) (by omega), wr _ (by omega) (by omega), h2i, ?_, by omega, ?_, ?_, ?_, bool_of_nat _ _, ?_, ?_, ?_, ?_, ?_, q0, by omega, hR⟩)))))
    · rw [Int.toNat_natCast, hbl]; omega
    · rw [Int.toNat_natCast, Nat.min_eq_left (by omega), cst]; exact wr _ q0 q2i
    · rw [Int.tdiv_eq_ediv_of_nonneg q0, ← Int.natCast_ediv]; exact wr _ d0 (by omega)
    · rw [Int.natCast_emod]
    · by_cases c : m * 2 ^ (64 - Rnd.bl m) % m2 = 0
      · rw [decide_eq_false (by omega), if_neg (by decide), if_pos c]
      · rw [decide_eq_true c, if_pos rfl, if_neg c]; exact or1 _ (by omega)
    · rw [IntKind.wrap_i64]; omega
    · rw [IntKind.wrap_i64]; omega
    · rw [IntKind.wrap_i64]; omega
    · rw [IntKind.wrap_i64]; omega

end FlV
end Go.Proofs.YteoogkcjcfnniaaDoor
