/- Rounded numbers: whole numbers made floats and back. -/
import Derived.Test.YtmghmcnihiepiaaDoorFlY
import Derived.Lib.QuietBelow
namespace Go.Proofs.YtmghmcnihiepiaaDoor
namespace FlV
open Go.ChangeShapes Go.WideShapes Go.ChangeAt Go.RowKit Go.Joins
open Flo (hide ret_int ret_bool)
set_option linter.unusedVariables false

theorem rep1 (n : Nat) : n = n * 2 ^ 149 * 2 ^ 0 / (1 * 2 ^ 149) ∧ n * 2 ^ 149 * 2 ^ 0 % (1 * 2 ^ 149) = 0 := by
  have hp : 0 < 2 ^ 149 := Nat.two_pow_pos 149
  rw [Nat.pow_zero, Nat.mul_one, Nat.one_mul]
  generalize 2 ^ 149 = P at *
  exact ⟨(Nat.mul_div_cancel _ hp).symm, Nat.mul_mod_left _ _⟩
theorem rep2 (n j : Nat) : n / 2 ^ j = n * 2 ^ 149 * 2 ^ 0 / (1 * 2 ^ (149 + j)) ∧ (n % 2 ^ j = 0 ↔ n * 2 ^ 149 * 2 ^ 0 % (1 * 2 ^ (149 + j)) = 0) := by
  have hp : 0 < 2 ^ 149 := Nat.two_pow_pos 149
  rw [Nat.pow_zero, Nat.mul_one, Nat.one_mul, Nat.pow_add]
  generalize 2 ^ 149 = P at *
  constructor
  · rw [← Nat.div_div_eq_div_mul, Nat.mul_div_cancel _ hp]
  · rw [Nat.mul_comm P (2 ^ j), Nat.mul_mod_mul_right]
    constructor
    · intro h; rw [h, Nat.zero_mul]
    · intro h; rcases Nat.mul_eq_zero.1 h with h | h
      · exact h
      · omega
/-- the model's loop: till 40 bits are left -/
theorem specNat (n : Nat) (w : World) (n1 : (n : Int) ≤ 9223372036854775807) :
    Calls Tryd.prog 52 #[.int .i64 n] w fun e w' => e = .returned (.int .i64 (Rnd.fl 23 255 (n * 2 ^ 149) 1 : Nat)) ∧ w' = w := by
  have c0 : ((n : Int) == -9223372036854775808) = false := by rw [beq_eq_false_iff_ne]; omega
  have c1 : decide ((n : Int) < 0) = false := decide_eq_false (by omega)
  have mk := Flo.mask1
  have f0 : (0 : Int) ≤ (Rnd.fl 23 255 (n * 2 ^ 149) 1 : Nat) := Int.natCast_nonneg _
  have z0 := hide (Flo.lost_zero n false)
  obtain ⟨f, hf⟩ : ∃ f : Int, ((Rnd.fl 23 255 (n * 2 ^ 149) 1 : Nat) : Int) = f := ⟨_, rfl⟩
  rw [hf] at f0 ⊢
  have HF := hide hf
  clear hf
  go_enter Tryd.func52, Tryd.ntmps52
  go_wp2_with fail
  go_loop [0, 3, 4] (fun a b c => ∃ j : Nat, j ≤ 64 ∧ (j ≠ 0 → 549755813888 ≤ ((n / 2 ^ j : Nat) : Int)) ∧ a = .int .i64 ((n / 2 ^ j : Nat) : Int) ∧ b = .bool (Flo.lost n j false) ∧ c = .int .i64 (j : Int)) (fun a _ _ => (intOf a).toNat)
  case atStart => exact ⟨0, by omega, fun h => absurd rfl h, by simp, by rw [z0.out], rfl⟩
  case round =>
    obtain ⟨j, hj, hbig, rfl, rfl, rfl⟩ := hrel
    have hle : ((n / 2 ^ j : Nat) : Int) ≤ 9223372036854775807 := by
      have := Nat.div_le_self n (2 ^ j); omega
    have h0 : (0 : Int) ≤ ((n / 2 ^ j : Nat) : Int) := Int.natCast_nonneg _
    by_cases hlt : (1099511627776 : Int) ≤ ((n / 2 ^ j : Nat) : Int)
    · have hj2 : j < 64 := by
        rcases Nat.lt_or_ge j 64 with h | h
        · exact h
        · exfalso
          have h2 : n < 2 ^ 64 := by
            have : ((2 ^ 64 : Nat) : Int) = 18446744073709551616 := by decide
            exact Int.ofNat_lt.1 (by rw [this]; omega)
          have h3 : n / 2 ^ j = 0 := Nat.div_eq_of_lt (Nat.lt_of_lt_of_le h2 (Nat.pow_le_pow_right (by omega) h))
          rw [h3] at hlt
          omega
      have hs : Hid (((n / 2 ^ j : Nat) : Int) / 2 = ((n / 2 ^ (j + 1) : Nat) : Int)) := by
        show _ = _
        rw [Nat.pow_succ, ← Nat.div_div_eq_div_mul]; rfl
      have hl := hide (Flo.lost_step n j false)
      have hb : Hid ((((n / 2 ^ j : Nat) : Int) % 2 == 1) = decide (n / 2 ^ j % 2 = 1)) := by
        show _ = _
        rw [Bool.eq_iff_iff, beq_iff_eq, decide_eq_true_eq]; omega
      have hj3 : (j : Int) < 64 := by omega
      clear hbig z0
      cases hL : Flo.lost n j false
      · have hn : Hid (Flo.lost n (j + 1) false = (((n / 2 ^ j : Nat) : Int) % 2 == 1)) := by show _ = _; rw [hl.out, hL, hb.out]; rfl
        generalize ((n / 2 ^ j : Nat) : Int) = a at *
        go_wp2_with fail
        go_round
        case rel => exact ⟨j + 1, by omega, fun _ => by rw [← hs.out]; omega, by rw [← hs.out], by rw [hn.out], by go_num⟩
        case measure => simp [intOf]; omega
      · have hn := hide (Flo.lost_yes n j false hL)
        generalize ((n / 2 ^ j : Nat) : Int) = a at *
        go_wp2_with fail
        go_round
        case rel => exact ⟨j + 1, by omega, fun _ => by rw [← hs.out]; omega, by rw [← hs.out], by rw [hn.out], by go_num⟩
        case measure => simp [intOf]; omega
    · have hlt2 : decide ((1099511627776 : Int) ≤ ((n / 2 ^ j : Nat) : Int)) = false := decide_eq_false hlt
      have hP : Hid (∀ w, Calls Tryd.prog 36 #[.bool false, .int .i64 ((n / 2 ^ j : Nat) : Int), .int .i64 (j : Int), .bool (Flo.lost n j false)] w fun e w' => e = .returned (.int .i64 f) ∧ w' = w) := by
        intro w
        obtain ⟨q1, q2⟩ := rep2 n j
        by_cases m0 : n / 2 ^ j = 0
        · have jz : j = 0 := by
            rcases Nat.eq_zero_or_pos j with h | h
            · exact h
            · exfalso; have := hbig (by omega); rw [m0] at this; omega
          subst jz
          rw [Nat.pow_zero, Nat.div_one] at m0
          subst m0
          rw [z0.out]
          have hz := FlM.putZero false 0 0 w (by decide) (by decide) rfl (by decide) (by decide)
          have e1 : f = 0 := by rw [← HF.out, Nat.zero_mul, Rnd.fl_zero]; rfl
          rw [e1]
          simpa using hz
        · have hp := FlM.put false (Flo.lost n j false) 0 (n * 2 ^ 149) 1 0 (149 + j) (n / 2 ^ j) (j : Int) w (by decide) (by decide) rfl (by decide) (by omega) q1 (by
              unfold Flo.lost
              rw [Bool.false_or, Bool.eq_iff_iff, decide_eq_true_eq, decide_eq_true_eq]
              exact not_congr q2) m0 (by omega) (fun h => by
              have jz : j ≠ 0 := by intro h0; subst h0; rw [z0.out] at h; cases h
              have hb := hbig jz
              have h39 : 2 ^ 39 ≤ n / 2 ^ j := Int.ofNat_le.1 (by rw [show ((2 ^ 39 : Nat) : Int) = 549755813888 by decide]; exact hb)
              have := Rnd.le_bl_of _ 39 h39
              omega) (by omega) (by omega)
          rw [HF.out] at hp
          simpa using hp
      clear hbig z0 hlt HF
      generalize ((n / 2 ^ j : Nat) : Int) = a at *
      go_wp2_with fail
      refine (hP.out _).mono ?_; rintro e' w1 ⟨rfl, rfl⟩
      go_wp2_with fail
      go_ret
      exact ⟨rfl, rfl⟩
theorem implNat (n : Nat) (s : Int) (w : World) (s0 : 0 ≤ s) (s1 : s ≤ 1) (n1 : (n : Int) ≤ 18446744073709551615) :
    Calls Tryd.prog 29 #[.agg #[.int .u8 8, .int .u8 23], .int .u8 s, .int .u64 n, .int .i64 0] w fun e w' => e = .returned (.int .i64 (s * 2147483648 + (Rnd.fl 23 255 (n * 2 ^ 149) 1 : Nat))) ∧ Below w.heap.size w w' := by
  by_cases m0 : n = 0
  · subst m0
    rw [Nat.zero_mul, Rnd.fl_zero]
    have := FlR.roundZeroS s 0 w s0 s1
    simpa using this
  · obtain ⟨q1, q2⟩ := rep1 n
    exact FlR.roundS s 0 n (n * 2 ^ 149) 1 0 149 w s0 s1 (by decide) (by decide) m0 n1 (by decide) (by decide) (.inl ⟨q1, q2⟩)
theorem fl_min : Rnd.fl 23 255 (9223372036854775808 * 2 ^ 149) 1 = 1593835520 := by decide +kernel
theorem ofIntBoth (n : Int) (n0 : -9223372036854775808 ≤ n) (n1 : n ≤ 9223372036854775807) : ∃ r, (∀ w, Calls Tryd.prog 52 #[.int .i64 n] w fun e w' => e = .returned (.int .i64 r) ∧ w' = w) ∧
    (∀ w, SV w → Calls Tryd.prog 12 #[.int .i64 n] w fun e w' => e = .returned (.int .i64 r) ∧ Below w.heap.size w w') := by
  by_cases c : n < 0
  · obtain ⟨N, hN⟩ := Int.eq_ofNat_of_zero_le (by omega : 0 ≤ -n)
    have f1 := Rnd.fl_le 23 255 (N * 2 ^ 149) 1 _ (show ((255 * 2 ^ 23 : Nat) : Int) = 2139095040 by decide)
    have f0 : (0 : Int) ≤ (Rnd.fl 23 255 (N * 2 ^ 149) 1 : Nat) := Int.natCast_nonneg _
    have HI := hide (fun w => implNat N 1 w (by decide) (by decide) (by omega))
    have wr : IntKind.u64.wrap (-IntKind.u64.wrap n) = (N : Int) := by simp [IntKind.wrap, IntKind.bits, IntKind.signed]; omega
    have wN : n ≠ -9223372036854775808 → wrap64 (N : Int) = (N : Int) := by intro h; simp only [wrap64]; omega
    refine ⟨2147483648 + (Rnd.fl 23 255 (N * 2 ^ 149) 1 : Nat), fun w => ?_, fun w hv => ?_⟩
    · by_cases cm : n = -9223372036854775808
      · obtain rfl : N = 9223372036854775808 := by omega
        rw [fl_min]
        subst cm
        clear HI wr hN wN
        go_enter Tryd.func52, Tryd.ntmps52
        go_wp2_with fail
        go_ret
        exact ⟨ret_int (by decide), rfl⟩
      · have c0 : (n == -9223372036854775808) = false := by rw [beq_eq_false_iff_ne]; exact cm
        have HS := hide (fun w => specNat N w (by omega))
        have hneg : -n = (N : Int) := hN
        have wN' := wN cm
        clear HI wr hN cm wN
        generalize ((Rnd.fl 23 255 (N * 2 ^ 149) 1 : Nat) : Int) = f at *
        go_enter Tryd.func52, Tryd.ntmps52
        go_wp2_with fail
        refine (HS.out _).mono ?_; rintro e w1 ⟨rfl, rfl⟩
        go_wp2_with fail
        go_ret
        exact ⟨ret_int (by omega), rfl⟩
    · obtain ⟨v0, v1⟩ := hv.cells
      clear hN hv wN
      generalize ((Rnd.fl 23 255 (N * 2 ^ 149) 1 : Nat) : Int) = f at *
      go_enter Tryd.func12, Tryd.ntmps12
      go_wp2_with fail
      refine (HI.out _).mono ?_; rintro e w1 ⟨rfl, b1⟩
      go_wp2_with fail
      go_ret
      exact ⟨ret_int (by omega), b1⟩
  · obtain ⟨N, rfl⟩ := Int.eq_ofNat_of_zero_le (by omega : 0 ≤ n)
    refine ⟨(Rnd.fl 23 255 (N * 2 ^ 149) 1 : Nat), fun w => specNat N w n1, fun w hv => ?_⟩
    have c1 : decide ((N : Int) < 0) = false := decide_eq_false c
    obtain ⟨v0, v1⟩ := hv.cells
    have HI := hide (fun w => implNat N 0 w (by decide) (by decide) (by omega))
    generalize ((Rnd.fl 23 255 (N * 2 ^ 149) 1 : Nat) : Int) = f at *
    clear hv c n0
    go_enter Tryd.func12, Tryd.ntmps12
    go_wp2_with fail
    refine (HI.out _).mono ?_; rintro e w1 ⟨rfl, b1⟩
    go_wp2_with fail
    go_ret
    exact ⟨ret_int (by omega), b1⟩

end FlV
end Go.Proofs.YtmghmcnihiepiaaDoor
