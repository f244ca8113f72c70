/- SizeOf and DimsOk on both sides. -/
import Derived.Test.YtejfodkobfdelaaVl
import Derived.Test.YtejfodkobfdelaaVp
namespace Go.Proofs.Ytejfodkobfdelaa
namespace Vs
open Go.ChangeShapes Go.WideShapes Go.ChangeAt Go.RowKit Go.Joins
open Vl Vp
set_option linter.unusedVariables false

theorem l3Size (B : Nat) (a : Option Addr) (r cap : Nat) (D : Nat → Int) (w : World) (h : Ints B w a r D) (hr : (r : Int) ≤ 1048576) :
    Calls Try.prog 25 #[.slice a r cap] w fun e w' => e = .returned (.int .i64 (szR D r)) ∧ w' = w := by
  have H := hide h
  clear h
  go_enter Try.func25, Try.ntmps25
  go_wp2_with fail
  go_loop [3, 4] (fun n i => ∃ k : Nat, k ≤ r ∧ i = .int .i64 k ∧ n = .int .i64 (szR D k) ∧ 1 ≤ szR D k) (fun _ i => r - (intOf i).toNat)
  case atStart => exact ⟨0, Nat.zero_le _, rfl, rfl, by simp [szR]⟩
  case round =>
    obtain ⟨k, hk, rfl, rfl, hp⟩ := hrel
    have h4 := (szR_rng D k).2
    by_cases hlt : k < r
    · rcases H.out with h0 | ⟨b, off, rfl, hbB, hc⟩
      · omega
      have c1 := (hc k hlt).1
      clear hc
      by_cases q1 : D k < 1
      · have ez := hide (szR_bad hlt (.inl q1))
        go_wp2_with fail
        go_ret
        exact ⟨ret_int ez.out.symm, rfl⟩
      · have q1' : decide (D k < 1) = false := by rw [decide_eq_false_iff_not]; exact q1
        by_cases q2 : 4096 < D k
        · have ez := hide (szR_bad hlt (.inr (big_mul hp q2)))
          clear q1
          go_wp2_with fail
          go_ret
          exact ⟨ret_int ez.out.symm, rfl⟩
        · have q2' : decide (4096 < D k) = false := by rw [decide_eq_false_iff_not]; exact q2
          have lo : 0 ≤ szR D k * D k := Int.mul_nonneg (by omega) (by omega)
          have hi : szR D k * D k ≤ 16777216 := by
            have := Int.mul_le_mul h4 (show D k ≤ 4096 by omega) (by omega) (by omega)
            omega
          by_cases q3 : 4096 < szR D k * D k
          · have ez := hide (szR_bad hlt (.inr q3))
            go_wp2_with fail
            go_ret
            exact ⟨ret_int ez.out.symm, rfl⟩
          · have q3' : decide (4096 < szR D k * D k) = false := by rw [decide_eq_false_iff_not]; exact q3
            have en := hide (szR_next hp (show 1 ≤ D k by omega) (show szR D k * D k ≤ 4096 by omega))
            have e1 : 1 ≤ szR D (k + 1) := by
              rw [en.out]
              have := Int.mul_le_mul hp (show 1 ≤ D k by omega) (by omega) (by omega)
              omega
            clear q1 q2 q3
            go_wp2_with fail
            go_round
            case rel => exact ⟨k + 1, by omega, by go_num, by rw [en.out], e1⟩
            case measure => simp [intOf]; omega
    · have e : k = r := by omega
      subst e
      go_wp2_with fail
      go_ret
      exact ⟨rfl, rfl⟩
theorem specDimsOk (B : Nat) (a : Option Addr) (r cap : Nat) (D : Nat → Int) (w : World) (h : Ints B w a r D) (hr : (r : Int) ≤ 1048576) :
    Calls Try.prog 24 #[.slice a r cap] w fun e w' => e = .returned (.bool (dok r D)) ∧ w' = w := by
  have H := hide h
  clear h
  by_cases h6 : (r : Int) ≤ 6
  · have e := hide (show decide (0 < szR D r) = dok r D by unfold dok sz; rw [if_neg (by omega)])
    go_enter Try.func24, Try.ntmps24
    go_wp2_with fail
    refine (l3Size B a r cap D _ H.out hr).mono ?_; rintro e1 w1 ⟨rfl, rfl⟩
    go_wp2_with fail
    go_ret
    exact ⟨ret_bool e.out, rfl⟩
  · have h6' : decide ((r : Int) ≤ 6) = false := by rw [decide_eq_false_iff_not]; exact h6
    have e := hide (show dok r D = false by unfold dok sz; rw [if_pos (by omega)]; rfl)
    clear h6
    go_enter Try.func24, Try.ntmps24
    go_wp2_with fail
    go_ret
    exact ⟨ret_bool e.out.symm, rfl⟩
theorem sizeOf (B : Nat) (a : Option Addr) (r cap : Nat) (D : Nat → Int) (w : World) (h : Ints B w a r D) (hr : (r : Int) ≤ 1048576) :
    Calls Try.prog 69 #[.slice a r cap] w fun e w' => e = .returned (.int .i64 (sz r D)) ∧ w' = w := by
  have H := hide h
  clear h
  by_cases h6 : 6 < (r : Int)
  · have e := hide (show sz r D = 0 by unfold sz; rw [if_pos (by omega)])
    go_enter Try.func69, Try.ntmps69
    go_wp2_with fail
    go_ret
    exact ⟨ret_int e.out.symm, rfl⟩
  · have h6' : decide (6 < (r : Int)) = false := by rw [decide_eq_false_iff_not]; exact h6
    have e := hide (show sz r D = szR D r by unfold sz; rw [if_neg (by omega)])
    go_enter Try.func69, Try.ntmps69
    go_wp2_with fail
    go_loop [3, 11] (fun n i => ∃ k : Nat, k ≤ r ∧ i = .int .i64 k ∧ n = .int .i64 (szR D k) ∧ 1 ≤ szR D k) (fun _ i => r - (intOf i).toNat)
    case atStart => exact ⟨0, Nat.zero_le _, rfl, rfl, by simp [szR]⟩
    case round =>
      obtain ⟨k, hk, rfl, rfl, hp⟩ := hrel
      have h4 := (szR_rng D k).2
      by_cases hlt : k < r
      · rcases H.out with h0 | ⟨b, off, rfl, hbB, hc⟩
        · omega
        have c1 := (hc k hlt).1
        clear hc
        by_cases q1 : D k < 1
        · have ez := hide (szR_bad hlt (.inl q1))
          go_wp2_with fail
          go_ret
          exact ⟨ret_int (by rw [e.out, ez.out]), rfl⟩
        · have q1' : decide (D k < 1) = false := by rw [decide_eq_false_iff_not]; exact q1
          by_cases q2 : 4096 / szR D k < D k
          · have ez := hide (szR_bad hlt (.inr (quo_lt hp q2)))
            clear q1
            go_wp2_with fail
            go_ret
            exact ⟨ret_int (by rw [e.out, ez.out]), rfl⟩
          · have q2' : decide (4096 / szR D k < D k) = false := by rw [decide_eq_false_iff_not]; exact q2
            have hm := quo_ge hp (show D k ≤ 4096 / szR D k by omega)
            have en := hide (szR_next hp (show 1 ≤ D k by omega) hm)
            have e1 : 1 ≤ szR D (k + 1) := by
              rw [en.out]
              have := Int.mul_le_mul hp (show 1 ≤ D k by omega) (by omega) (by omega)
              omega
            have lo : 0 ≤ szR D k * D k := Int.mul_nonneg (by omega) (by omega)
            clear q1 q2
            go_wp2_with fail
            go_round
            case rel => exact ⟨k + 1, by omega, by go_num, by rw [en.out], e1⟩
            case measure => simp [intOf]; omega
      · have ek : k = r := by omega
        subst ek
        go_wp2_with fail
        go_ret
        exact ⟨ret_int e.out.symm, rfl⟩
theorem dimsOk (B : Nat) (a : Option Addr) (r cap : Nat) (D : Nat → Int) (w : World) (h : Ints B w a r D) (hr : (r : Int) ≤ 1048576) :
    Calls Try.prog 65 #[.slice a r cap] w fun e w' => e = .returned (.bool (dok r D)) ∧ w' = w := by
  have H := hide h
  clear h
  go_enter Try.func65, Try.ntmps65
  go_wp2_with fail
  refine (sizeOf B a r cap D _ H.out hr).mono ?_; rintro e1 w1 ⟨rfl, rfl⟩
  go_wp2_with fail
  go_ret
  exact ⟨rfl, rfl⟩
end Vs
end Go.Proofs.Ytejfodkobfdelaa
