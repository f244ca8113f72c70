/- Rounded numbers, the program's side: rounding. -/
import Derived.Test.YtmghmcnihiepiaaDoorFlP
import Derived.Test.YtmghmcnihiepiaaDoorRnd
import Derived.Test.YtmghmcnihiepiaaDoorShelf
import Derived.WalkKit
import Derived.ProofKit
import Derived.Lib.QuietBelow
import Derived.Deep.RegionHeld3
namespace Go.Proofs.YtmghmcnihiepiaaDoor
namespace FlR
open Go.ChangeShapes Go.WideShapes Go.ChangeAt Go.RowKit Go.Joins
open Flo (hide ret_int ret_bool)
set_option linter.unusedVariables false

theorem wraps_i64 (n : Int) (h₀ : 0 ≤ n) (h₁ : n < 2 ^ 63) : IntKind.i64.wrap n = n := by rw [IntKind.wrap_i64]; omega
theorem or31 (s x : Int) (s0 : 0 ≤ s) (s1 : s ≤ 1) (x0 : 0 ≤ x) (x1 : x < 2147483648) : bits .or .i64 (s * 2147483648) x = s * 2147483648 + x :=
  bits_join .i64 63 (by decide) wraps_i64 31 (s * 2147483648) x (by omega) (by omega) (by omega) x0 (by omega) (by omega)
theorem or15 (s x : Int) (s0 : 0 ≤ s) (s1 : s ≤ 1) (x0 : 0 ≤ x) (x1 : x < 32768) : bits .or .i64 (s * 32768) x = s * 32768 + x :=
  bits_join .i64 63 (by decide) wraps_i64 15 (s * 32768) x (by omega) (by omega) (by omega) x0 (by omega) (by omega)
theorem pow_le_i (k : Nat) (h : k ≤ 64) : (2 : Int) ^ k ≤ 18446744073709551616 := by
  have : (2 : Nat) ^ k ≤ 2 ^ 64 := Nat.pow_le_pow_right (by omega) h
  have h2 : (((2 : Nat) ^ k : Nat) : Int) ≤ ((2 ^ 64 : Nat) : Int) := Int.ofNat_le.2 this
  rw [Int.natCast_pow] at h2
  exact h2

theorem nwFar (m k : Int) (w : World) (h : k < -64) : Calls Tryd.prog 48 #[.int .u64 m, .int .i64 k] w fun e w' => e = .returned (.int .i64 0) ∧ Below w.heap.size w w' := by
  have c : decide (0 ≤ k) = false := decide_eq_false (by omega)
  go_enter Tryd.func48, Tryd.ntmps48
  go_wp2_with fail
  go_ret
  exact ⟨rfl, Below.refl _ _⟩
theorem up_eq (m j : Nat) (h : ((m * 2 ^ j : Nat) : Int) ≤ 4611686018427387904) : wrap64 (IntKind.u64.wrap ((m : Int) * 2 ^ min j 64)) = ((m * 2 ^ j : Nat) : Int) := by
  have e : ((m : Int) * 2 ^ min j 64) = ((m * 2 ^ j : Nat) : Int) := by
    by_cases c : j ≤ 64
    · rw [Nat.min_eq_left c, Int.natCast_mul, Int.natCast_pow]; rfl
    · have hm : m = 0 := by
        rcases Nat.eq_zero_or_pos m with h0 | h0
        · exact h0
        · exfalso
          have h1 : 2 ^ 63 ≤ m * 2 ^ j := Nat.le_trans (Nat.pow_le_pow_right (by omega) (by omega)) (Nat.le_mul_of_pos_left _ h0)
          have h2 : ((2 ^ 63 : Nat) : Int) ≤ ((m * 2 ^ j : Nat) : Int) := Int.ofNat_le.2 h1
          have h3 : ((2 ^ 63 : Nat) : Int) = 9223372036854775808 := by decide
          rw [h3] at h2
          generalize ((m * 2 ^ j : Nat) : Int) = z at *
          omega
      subst hm; simp
  have h0 : (0 : Int) ≤ ((m * 2 ^ j : Nat) : Int) := Int.natCast_nonneg _
  rw [e]
  generalize ((m * 2 ^ j : Nat) : Int) = z at *
  rw [show IntKind.u64.wrap z = z by simp [IntKind.wrap, IntKind.bits, IntKind.signed]; omega]
  simp only [wrap64]; omega
theorem nwUp (m j : Nat) (w : World) (h : ((m * 2 ^ j : Nat) : Int) ≤ 4611686018427387904) : Calls Tryd.prog 48 #[.int .u64 m, .int .i64 j] w fun e w' => e = .returned (.int .i64 ((m * 2 ^ j : Nat) : Int)) ∧ Below w.heap.size w w' := by
  have c : decide (0 ≤ (j : Int)) = true := decide_eq_true (by omega)
  have hh := hide (up_eq m j h)
  clear h
  go_enter Tryd.func48, Tryd.ntmps48
  go_wp2_with fail
  go_ret
  exact ⟨ret_int hh.out, Below.refl _ _⟩
theorem down_eq (m k : Nat) (hm : (m : Int) ≤ 18446744073709551615) (k0 : 1 ≤ k) (k1 : k ≤ 64) :
    wrap64 ((m : Int) / 2 ^ k) = ((m / 2 ^ k : Nat) : Int) ∧ IntKind.u64.wrap ((m : Int) * 2 ^ (64 + -(k : Int)).toNat) = ((m % 2 ^ k * 2 ^ (64 - k) : Nat) : Int) := by
  constructor
  · have h1 : ((m : Int) / 2 ^ k) = ((m / 2 ^ k : Nat) : Int) := by rw [Int.natCast_ediv, Int.natCast_pow]; rfl
    have h2 : m / 2 ^ k ≤ m / 2 := Nat.div_le_div_left (Nat.le_trans (by decide : 2 ≤ 2 ^ 1) (Nat.pow_le_pow_right (by omega) k0)) (by omega)
    have h3 : ((m / 2 ^ k : Nat) : Int) ≤ ((m / 2 : Nat) : Int) := Int.ofNat_le.2 h2
    rw [h1]
    have h4 : (0 : Int) ≤ ((m / 2 ^ k : Nat) : Int) := Int.natCast_nonneg _
    generalize ((m / 2 ^ k : Nat) : Int) = z at *
    simp only [wrap64]; omega
  · have e1 : (64 + -(k : Int)).toNat = 64 - k := by omega
    have e2 : ((m : Int) * 2 ^ (64 - k)) = ((m * 2 ^ (64 - k) : Nat) : Int) := by rw [Int.natCast_mul, Int.natCast_pow]; rfl
    have e3 : IntKind.u64.wrap ((m * 2 ^ (64 - k) : Nat) : Int) = ((m * 2 ^ (64 - k) % 2 ^ 64 : Nat) : Int) := by
      rw [Int.natCast_emod]
      simp [IntKind.wrap, IntKind.bits, IntKind.signed]
    rw [e1, e2, e3]
    congr 1
    rw [show 2 ^ 64 = 2 ^ k * 2 ^ (64 - k) by rw [← Nat.pow_add]; congr 1; omega, Nat.mul_mod_mul_right]
theorem rest_lt (m k : Nat) (k1 : k ≤ 64) : ((9223372036854775808 : Int) < ((m % 2 ^ k * 2 ^ (64 - k) : Nat) : Int) ↔ 2 ^ k < 2 * (m % 2 ^ k)) ∧ (((m % 2 ^ k * 2 ^ (64 - k) : Nat) : Int) = 9223372036854775808 ↔ 2 * (m % 2 ^ k) = 2 ^ k) := by
  have hp : 0 < 2 ^ (64 - k) := Nat.two_pow_pos _
  have e : 2 * 2 ^ 63 = 2 ^ k * 2 ^ (64 - k) := by rw [← Nat.pow_add, show k + (64 - k) = 64 by omega]
  have c : ((2 ^ 63 : Nat) : Int) = 9223372036854775808 := by decide
  rw [← c]
  generalize 2 ^ 63 = Z at *
  constructor
  · rw [Int.ofNat_lt]
    constructor
    · intro h
      have : 2 ^ k * 2 ^ (64 - k) < 2 * (m % 2 ^ k) * 2 ^ (64 - k) := by rw [← e, Nat.mul_assoc]; omega
      exact Nat.lt_of_mul_lt_mul_right this
    · intro h
      have := Nat.mul_lt_mul_of_pos_right h hp
      rw [← e, Nat.mul_assoc] at this
      omega
  · rw [Int.ofNat_inj]
    constructor
    · intro h
      have : 2 * (m % 2 ^ k) * 2 ^ (64 - k) = 2 ^ k * 2 ^ (64 - k) := by rw [← e, Nat.mul_assoc]; omega
      exact Nat.eq_of_mul_eq_mul_right hp this
    · intro h
      have : 2 * (m % 2 ^ k) * 2 ^ (64 - k) = 2 * Z := by rw [h, e]
      rw [Nat.mul_assoc] at this
      omega
theorem nwDown (m k : Nat) (w : World) (hm : (m : Int) ≤ 18446744073709551615) (k0 : 1 ≤ k) (k1 : k ≤ 64) (hb : ((Rnd.ne m (2 ^ k) : Nat) : Int) ≤ 4611686018427387904) : Calls Tryd.prog 48 #[.int .u64 m, .int .i64 (-(k : Int))] w fun e w' => e = .returned (.int .i64 (Rnd.ne m (2 ^ k) : Nat)) ∧ Below w.heap.size w w' := by
  have c : decide (0 ≤ -(k : Int)) = false := decide_eq_false (by omega)
  have c2 : decide (-(k : Int) < -64) = false := decide_eq_false (by omega)
  have c3 : (0 : Int) ≤ 64 + -(k : Int) := by omega
  have c4 : (0 : Int) ≤ - -(k : Int) := by omega
  obtain ⟨hq, hR⟩ := down_eq m k hm k0 k1
  obtain ⟨t1, t2⟩ := rest_lt m k k1
  have hq2 : ((m / 2 ^ k : Nat) : Int) ≤ 9223372036854775807 := by
    have h2 : m / 2 ^ k ≤ m / 2 := Nat.div_le_div_left (Nat.le_trans (by decide : 2 ≤ 2 ^ 1) (Nat.pow_le_pow_right (by omega) k0)) (by omega)
    have h3 : ((m / 2 ^ k : Nat) : Int) ≤ ((m / 2 : Nat) : Int) := Int.ofNat_le.2 h2
    omega
  have hq0 : (0 : Int) ≤ ((m / 2 ^ k : Nat) : Int) := Int.natCast_nonneg _
  have hne := hide (show Rnd.ne m (2 ^ k) = if 2 ^ k < 2 * (m % 2 ^ k) ∨ (2 * (m % 2 ^ k) = 2 ^ k ∧ m / 2 ^ k % 2 = 1) then m / 2 ^ k + 1 else m / 2 ^ k from rfl)
  have fin1 : (9223372036854775808 : Int) < ((m % 2 ^ k * 2 ^ (64 - k) : Nat) : Int) → ((Rnd.ne m (2 ^ k) : Nat) : Int) = ((m / 2 ^ k : Nat) : Int) + 1 := by
    intro h; rw [hne.out, if_pos (.inl (t1.1 h))]; rfl
  have fin2 : ((m % 2 ^ k * 2 ^ (64 - k) : Nat) : Int) = 9223372036854775808 → ((m / 2 ^ k : Nat) : Int) % 2 = 1 → ((Rnd.ne m (2 ^ k) : Nat) : Int) = ((m / 2 ^ k : Nat) : Int) + 1 := by
    intro h h'; rw [hne.out, if_pos (.inr ⟨t2.1 h, by omega⟩)]; rfl
  have fin3 : ¬ (9223372036854775808 : Int) < ((m % 2 ^ k * 2 ^ (64 - k) : Nat) : Int) → ¬ (((m % 2 ^ k * 2 ^ (64 - k) : Nat) : Int) = 9223372036854775808 ∧ ((m / 2 ^ k : Nat) : Int) % 2 = 1) → ((Rnd.ne m (2 ^ k) : Nat) : Int) = ((m / 2 ^ k : Nat) : Int) := by
    intro h h'
    rw [hne.out, if_neg]
    rintro (g | ⟨g1, g2⟩)
    · exact h (t1.2 g)
    · exact h' ⟨t2.2 g1, by omega⟩
  clear hne t1 t2
  generalize ((Rnd.ne m (2 ^ k) : Nat) : Int) = out at *
  generalize ((m % 2 ^ k * 2 ^ (64 - k) : Nat) : Int) = R at *
  generalize ((m / 2 ^ k : Nat) : Int) = q at *
  by_cases r1 : (9223372036854775808 : Int) < R
  · obtain rfl := fin1 r1
    clear fin1 fin2 fin3
    go_enter Tryd.func48, Tryd.ntmps48
    go_wp2_with fail
    go_quiet (fail)
    go_wp2_with fail
    go_ret
    exact ⟨rfl, Joins.below_draws _ _ _⟩
  · have r1' : decide ((9223372036854775808 : Int) < R) = false := decide_eq_false r1
    by_cases r2 : R = 9223372036854775808
    · by_cases r3 : q % 2 = 1
      · obtain rfl := fin2 r2 r3
        have r3' : q.tmod 2 = 1 := by rw [Int.tmod_eq_emod_of_nonneg hq0]; exact r3
        clear fin1 fin2 fin3 r1
        go_enter Tryd.func48, Tryd.ntmps48
        go_wp2_with fail
        go_quiet (fail)
        go_wp2_with fail
        go_ret
        exact ⟨rfl, Joins.below_draws _ _ _⟩
      · have r3' : q.tmod 2 = 0 := by rw [Int.tmod_eq_emod_of_nonneg hq0]; omega
        have r3'' : q % 2 = 0 := by omega
        obtain rfl := fin3 r1 (fun h => r3 h.2)
        clear fin1 fin2 fin3 r1
        go_enter Tryd.func48, Tryd.ntmps48
        go_wp2_with fail
        go_quiet (fail)
        go_wp2_with fail
        go_ret
        exact ⟨ret_int hq, Joins.below_draws _ _ _⟩
    · obtain rfl := fin3 r1 (fun h => r2 h.1)
      have r2' : (R == 9223372036854775808) = false := beq_eq_false_iff_ne.2 r2
      clear fin1 fin2 fin3 r1 r2
      go_enter Tryd.func48, Tryd.ntmps48
      go_wp2_with fail
      go_quiet (fail)
      go_wp2_with fail
      go_ret
      exact ⟨ret_int hq, Joins.below_draws _ _ _⟩
theorem infS (m : Int) (w : World) (h0 : 0 ≤ m) (h1 : m ≤ 1) : Calls Tryd.prog 30 #[.agg #[.int .u8 8, .int .u8 23], .int .u8 m] w fun e w' => e = .returned (.int .i64 (m * 2147483648 + 2139095040)) ∧ Below w.heap.size w w' := by
  have o := or31 m 2139095040 h0 h1 (by omega) (by omega)
  have hx : IntKind.i64.wrap (IntKind.i64.wrap (IntKind.i64.wrap 256 - 1) * 8388608) = 2139095040 := by decide
  have c0 : (w.alloc (.cells #[.int .u8 8, .int .u8 23] 36)).cell? ⟨w.heap.size, 0, none⟩ = some (.int .u8 8) := by simp [go_sem]
  have c1 : (w.alloc (.cells #[.int .u8 8, .int .u8 23] 36)).cell? ⟨w.heap.size, 1, none⟩ = some (.int .u8 23) := by simp [go_sem]
  have bW := below_alloc1 w (.cells #[.int .u8 8, .int .u8 23] 36)
  go_enter Tryd.func30, Tryd.ntmps30
  go_wp2_with fail
  generalize hW : w.alloc (.cells #[.int .u8 8, .int .u8 23] 36) = W at *
  have k0 := cell_regrown c0
  have k1 := cell_regrown c1
  have HZ := hide (fun q os => Calls.regrown_of (d := q) (os := os) (w := W) (FlP.zeroS m _ h0 h1))
  clear hW c0 c1
  refine wp_region_quiet_below (by kernel_rfl) (by kernel_rfl) ?_
  repeat (quiet_step (first | (go_at_call 25; exact HZ.out _ _)))
  refine wpQuiet_nil ?_
  intro _ hw'
  obtain ⟨⟨dq, osq⟩, hw''⟩ := hw'
  subst hw''
  go_wp2_with fail
  go_ret
  exact ⟨rfl, bW.trans ((below_regrown W dq osq).mono bW.size)⟩
theorem inf0S (w : World) : Calls Tryd.prog 30 #[.agg #[.int .u8 8, .int .u8 23], .int .u8 0] w fun e w' => e = .returned (.int .i64 2139095040) ∧ Below w.heap.size w w' :=
  (infS 0 w (by decide) (by decide)).mono fun e w' ⟨h1, h2⟩ => ⟨h1.trans (ret_int (by decide)), h2⟩

end FlR
end Go.Proofs.YtmghmcnihiepiaaDoor
