/- Rounded numbers, the model's side: a value put together as a float. -/
import Derived.Test.YtmghmcnihiepiaaDoorFlo
import Derived.Test.YtmghmcnihiepiaaDoorRnd
import Derived.WalkKit
import Derived.ProofKit
namespace Go.Proofs.YtmghmcnihiepiaaDoor
namespace FlM
open Go.ChangeShapes Go.WideShapes Go.ChangeAt Go.RowKit
open Flo (hide ret_int ret_bool)
set_option linter.unusedVariables false

theorem top_eqS (r u : Int) (h : 2139095040 < r + u * 8388608) : (2139095040 : Int) = min (r + u * 8388608) 2139095040 := by omega
theorem low_eqS (r u t : Int) (hr : r = 16777216) (ht : t = -149 + u) (h : r + u * 8388608 ≤ 2139095040) : (t + 1 + 149 + 1) * 8388608 = min (r + u * 8388608) 2139095040 := by omega
set_option maxHeartbeats 1000000 in
theorem closeRawS (neg more : Bool) (m L u r J : Nat) (e K out : Int) (w : World) (hL : L = Rnd.bl m) (L1 : L ≤ 63) (m1 : (m : Int) ≤ 4611686018427387904) (e0 : -1000 ≤ e) (e1 : e ≤ 1000)
    (hu : (e + (L : Int) - 24 < -149 ∧ u = 0) ∨ (e + (L : Int) - 24 = -149 + (u : Int))) (hJ : e - (J : Int) ≤ -149 + (u : Int)) (hJ2 : J = 0 ∨ e - (J : Int) = -149 + (u : Int)) (hM : ((m * 2 ^ J : Nat) : Int) ≤ 4611686018427387904)
    (hK : K = -149 + (u : Int) - (e - (J : Int))) (r2 : (r : Int) ≤ 16777216) (o1 : (r : Int) < 8388608 → out = r) (o2 : 8388608 ≤ (r : Int) → out = min ((r : Int) + u * 8388608) 2139095040)
    (hH : ∀ w, Calls Tryd.prog 55 #[.int .i64 ((m * 2 ^ J : Nat) : Int), .int .i64 K, .bool more] w fun e w' => e = .returned (.int .i64 r) ∧ w' = w) :
    Calls Tryd.prog 50 #[.bool neg, .int .i64 m, .int .i64 e, .bool more, .int .i64 23, .int .i64 127, .int .i64 255] w fun e w' => e = .returned (.int .i64 out) ∧ w' = w := by
  have H := hide hH
  have O1 := hide o1
  have O2 := hide o2
  clear o1 o2
  have hLL := hide hL
  have L1' : (L : Int) ≤ 63 := by omega
  have u1 : (u : Int) ≤ 1300 := by omega
  clear hH hL
  go_enter Tryd.func50, Tryd.ntmps50
  go_wp2_with fail
  go_loop [16, 17] (fun n x => ∃ i : Nat, i ≤ L ∧ n = .int .i64 (i : Int) ∧ x = .int .i64 ((m / 2 ^ i : Nat) : Int)) (fun n _ => L - (intOf n).toNat)
  case atStart => exact ⟨0, by omega, rfl, by simp⟩
  case round =>
    obtain ⟨i, hi, rfl, rfl⟩ := hrel
    have hle : ((m / 2 ^ i : Nat) : Int) ≤ 4611686018427387904 := by
      have := Nat.div_le_self m (2 ^ i); omega
    have hi' : (i : Int) ≤ 63 := by omega
    by_cases hlt : i < L
    · have hp : (0 : Int) < ((m / 2 ^ i : Nat) : Int) := by
        have h := mt (Rnd.div_pow_zero m i).1 (by rw [← hLL.out]; omega)
        exact Int.natCast_pos.2 (Nat.pos_of_ne_zero h)
      have hs : Hid (((m / 2 ^ i : Nat) : Int) / 2 = ((m / 2 ^ (i + 1) : Nat) : Int)) := by
        show _ = _
        rw [Nat.pow_succ, ← Nat.div_div_eq_div_mul]; rfl
      generalize ((m / 2 ^ i : Nat) : Int) = x at *
      go_wp2_with fail
      go_round
      case rel => exact ⟨i + 1, by omega, by go_num, by rw [← hs.out]⟩
      case measure => simp [intOf]; omega
    · obtain rfl : i = L := by omega
      have hz : ((m / 2 ^ i : Nat) : Int) = 0 := by
        have h := (Rnd.div_pow_zero m i).2 (by rw [← hLL.out]; omega)
        rw [h]; rfl
      rw [hz]
      clear hz hle hlt hi
      by_cases c : e + (i : Int) - 24 < -149
      · have c' : decide (e + (i : Int) - 1 - 23 < -149) = true := decide_eq_true (by omega)
        go_wp2_with fail
        go_loop [1, 2] (fun x y => ∃ j : Nat, j ≤ J ∧ x = .int .i64 ((m * 2 ^ j : Nat) : Int) ∧ y = .int .i64 (e - (j : Int))) (fun _ y => (intOf y + 100000).toNat)
        case atStart => exact ⟨0, by omega, by simp, by simp⟩
        case round =>
          obtain ⟨j, hj, rfl, rfl⟩ := hrel
          have hj' : (j : Int) ≤ 3000 := by omega
          by_cases hjlt : j < J
          · have g : decide ((-149) < e - (j : Int)) = true := decide_eq_true (by omega)
            have g1 : ((m * 2 ^ j * 2 : Nat) : Int) ≤ 4611686018427387904 := by
              have q1 : m * 2 ^ j * 2 = m * 2 ^ (j + 1) := by rw [Nat.pow_succ, Nat.mul_assoc]
              have q2 : m * 2 ^ (j + 1) ≤ m * 2 ^ J := Nat.mul_le_mul_left m (Nat.pow_le_pow_right (by omega) hjlt)
              omega
            have g0 : (0 : Int) ≤ ((m * 2 ^ j : Nat) : Int) := Int.natCast_nonneg _
            have hs : Hid (((m * 2 ^ j : Nat) : Int) * 2 = ((m * 2 ^ (j + 1) : Nat) : Int)) := by
              show _ = _
              rw [Nat.pow_succ, ← Nat.mul_assoc]; rfl
            have g2 : ((m * 2 ^ j : Nat) : Int) * 2 ≤ 4611686018427387904 := by omega
            clear g1
            generalize ((m * 2 ^ j : Nat) : Int) = x at *
            go_wp2_with fail
            go_round
            case rel => exact ⟨j + 1, by omega, by rw [← hs.out], by congr 1; omega⟩
            case measure => simp [intOf]; omega
          · obtain rfl : j = J := by omega
            have g : decide ((-149) < e - (j : Int)) = false := decide_eq_false (by omega)
            have gK : (-149) - (e - (j : Int)) = K := by omega
            clear hjlt hj hK
            generalize ((m * 2 ^ j : Nat) : Int) = x at *
            go_wp2_with fail
            refine (H.out _).mono ?_; rintro e' w1 ⟨rfl, rfl⟩
            have r0 : (0 : Int) ≤ (r : Int) := Int.natCast_nonneg _
            clear H hLL
            have u0 : u = 0 := by omega
            by_cases k1 : (r : Int) = 16777216
            · obtain rfl := O2.out (by omega)
              clear O1 O2
              have b1 : ((r : Int) == 16777216) = true := by rw [beq_iff_eq]; omega
              have b2 : (r : Int) / 2 = 8388608 := by omega
              have b3 : decide ((2139095040 : Int) < ((-149) + 1 + 149 + 1) * 8388608) = false := decide_eq_false (by omega)
              go_wp2_with fail
              go_ret
              exact ⟨ret_int (by omega), rfl⟩
            · have b1 : ((r : Int) == 16777216) = false := by rw [beq_eq_false_iff_ne]; omega
              by_cases k3 : (r : Int) < 8388608
              · obtain rfl := O1.out k3
                clear O1 O2
                have b2 : decide (8388608 ≤ (r : Int)) = false := decide_eq_false (by omega)
                have b4 : decide ((2139095040 : Int) < (r : Int)) = false := decide_eq_false (by omega)
                go_wp2_with fail
                go_ret
                exact ⟨ret_int (by omega), rfl⟩
              · obtain rfl := O2.out (by omega)
                clear O1 O2
                have b2 : decide (8388608 ≤ (r : Int)) = true := decide_eq_true (by omega)
                have b3 : decide ((2139095040 : Int) < (r : Int) - 8388608 + ((-149) + 149 + 1) * 8388608) = false := decide_eq_false (by omega)
                go_wp2_with fail
                go_ret
                exact ⟨ret_int (by omega), rfl⟩
      · obtain ⟨t, ht⟩ : ∃ t : Int, e + (i : Int) - 1 - 23 = t := ⟨_, rfl⟩
        have c' : decide (t < -149) = false := decide_eq_false (by omega)
        go_wp2_with fail
        go_loop [1, 2] (fun x y => ∃ j : Nat, j ≤ J ∧ x = .int .i64 ((m * 2 ^ j : Nat) : Int) ∧ y = .int .i64 (e - (j : Int))) (fun _ y => (intOf y + 100000).toNat)
        case atStart => exact ⟨0, by omega, by simp, by simp⟩
        case round =>
          obtain ⟨j, hj, rfl, rfl⟩ := hrel
          have hj' : (j : Int) ≤ 3000 := by omega
          by_cases hjlt : j < J
          · have g : decide (t < e - (j : Int)) = true := decide_eq_true (by omega)
            have g1 : ((m * 2 ^ j * 2 : Nat) : Int) ≤ 4611686018427387904 := by
              have q1 : m * 2 ^ j * 2 = m * 2 ^ (j + 1) := by rw [Nat.pow_succ, Nat.mul_assoc]
              have q2 : m * 2 ^ (j + 1) ≤ m * 2 ^ J := Nat.mul_le_mul_left m (Nat.pow_le_pow_right (by omega) hjlt)
              omega
            have g0 : (0 : Int) ≤ ((m * 2 ^ j : Nat) : Int) := Int.natCast_nonneg _
            have hs : Hid (((m * 2 ^ j : Nat) : Int) * 2 = ((m * 2 ^ (j + 1) : Nat) : Int)) := by
              show _ = _
              rw [Nat.pow_succ, ← Nat.mul_assoc]; rfl
            have g2 : ((m * 2 ^ j : Nat) : Int) * 2 ≤ 4611686018427387904 := by omega
            clear g1
            generalize ((m * 2 ^ j : Nat) : Int) = x at *
            go_wp2_with fail
            go_round
            case rel => exact ⟨j + 1, by omega, by rw [← hs.out], by congr 1; omega⟩
            case measure => simp [intOf]; omega
          · obtain rfl : j = J := by omega
            have g : decide (t < e - (j : Int)) = false := decide_eq_false (by omega)
            have gK : t - (e - (j : Int)) = K := by omega
            clear hjlt hj hK
            generalize ((m * 2 ^ j : Nat) : Int) = x at *
            go_wp2_with fail
            refine (H.out _).mono ?_; rintro e' w1 ⟨rfl, rfl⟩
            have r0 : (0 : Int) ≤ (r : Int) := Int.natCast_nonneg _
            clear H hLL
            by_cases k1 : (r : Int) = 16777216
            · obtain rfl := O2.out (by omega)
              clear O1 O2
              have b1 : ((r : Int) == 16777216) = true := by rw [beq_iff_eq]; omega
              have b2 : (r : Int) / 2 = 8388608 := by omega
              by_cases k2 : (2139095040 : Int) < (r : Int) + u * 8388608
              · have b3 : decide ((2139095040 : Int) < (t + 1 + 149 + 1) * 8388608) = true := decide_eq_true (by omega)
                clear k1
                go_wp2_with fail
                go_ret
                exact ⟨ret_int (top_eqS r u k2), rfl⟩
              · have b3 : decide ((2139095040 : Int) < (t + 1 + 149 + 1) * 8388608) = false := decide_eq_false (by omega)
                have k1' := hide k1
                have k2' := hide (Int.not_lt.1 k2)
                have tu : Hid (t = -149 + (u : Int)) := by show _ = _; omega
                clear k1 k2
                go_wp2_with fail
                go_ret
                exact ⟨ret_int (low_eqS r u t k1'.out tu.out k2'.out), rfl⟩
            · have b1 : ((r : Int) == 16777216) = false := by rw [beq_eq_false_iff_ne]; omega
              by_cases k3 : (r : Int) < 8388608
              · obtain rfl := O1.out k3
                clear O1 O2
                have b2 : decide (8388608 ≤ (r : Int)) = false := decide_eq_false (by omega)
                have b4 : decide ((2139095040 : Int) < (r : Int)) = false := decide_eq_false (by omega)
                go_wp2_with fail
                go_ret
                exact ⟨ret_int (by omega), rfl⟩
              · obtain rfl := O2.out (by omega)
                clear O1 O2
                have b2 : decide (8388608 ≤ (r : Int)) = true := decide_eq_true (by omega)
                by_cases k2 : (2139095040 : Int) < (r : Int) + u * 8388608
                · have b3 : decide ((2139095040 : Int) < (r : Int) - 8388608 + (t + 149 + 1) * 8388608) = true := decide_eq_true (by omega)
                  go_wp2_with fail
                  go_ret
                  exact ⟨ret_int (by omega), rfl⟩
                · have b3 : decide ((2139095040 : Int) < (r : Int) - 8388608 + (t + 149 + 1) * 8388608) = false := decide_eq_false (by omega)
                  go_wp2_with fail
                  go_ret
                  exact ⟨ret_int (by omega), rfl⟩

end FlM
end Go.Proofs.YtmghmcnihiepiaaDoor
