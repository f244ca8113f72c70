/- Powers modulo the prime on both sides: the model's halving recursion, the program's squaring loop; inverses, quotients, powers, signs. -/
import Derived.Test.YtldcacdopijfdabBase
namespace Go.Proofs.Ytldcacdopijfdab
namespace Base
open Go.ChangeShapes Go.WideShapes Go.ChangeAt Go.RowKit
set_option linter.unusedVariables false

theorem emod_self {a : Int} (h0 : 0 ≤ a) (h1 : a < 2147483647) : a % 2147483647 = a := by omega

theorem specTimesR (a b : Int) (w : World) (a0 : 0 ≤ a) (a1 : a < 2147483647) (b0 : 0 ≤ b) (b1 : b < 2147483647) :
    Calls Try.prog 71 #[.int .i64 a, .int .i64 b] w fun e w' => e = .returned (.int .i64 ((a * b) % 2147483647)) ∧ w' = w := by
  have h := specTimes a b w (by omega) (by omega) (by omega) (by omega)
  rw [emod_self a0 a1, emod_self b0 b1] at h
  exact h

theorem raise (k : Nat) : ∀ (a n : Int) (w : World), n ≤ k → 0 ≤ n → n ≤ 2147483647 → 0 ≤ a → a < 2147483647 →
    Calls Try.prog 113 #[.int .i64 a, .int .i64 n] w fun e w' => e = .returned (.int .i64 (Num.pw a n.toNat)) ∧ w' = w := by
  induction k with
  | zero =>
    intro a n w hk n0 n1 a0 a1
    obtain rfl : n = 0 := by omega
    go_enter Try.func113, Try.ntmps113
    go_wp2_with fail
    go_ret
    exact ⟨ret_int (Num.pw_zero a).symm, rfl⟩
  | succ k ih =>
    intro a n w hk n0 n1 a0 a1
    by_cases hn : n = 0
    · subst hn
      go_enter Try.func113, Try.ntmps113
      go_wp2_with fail
      go_ret
      exact ⟨ret_int (Num.pw_zero a).symm, rfl⟩
    · have ih := hide ih
      have b := Num.pw_bd a (n / 2).toNat
      obtain ⟨b0, b1⟩ := b
      have e2 : Hid ((n / 2).toNat = n.toNat / 2) := by show _ = _; omega
      by_cases ho : n % 2 = 1
      · have e : Hid (Num.pw a n.toNat = ((Num.pw a (n / 2).toNat * Num.pw a (n / 2).toNat) % 2147483647 * a) % 2147483647) := by
          show _ = _
          rw [e2.out]; exact Num.pw_odd a n.toNat (by omega)
        have q := Num.mul_bd _ _ b0 b1 b0 b1
        clear e2
        go_enter Try.func113, Try.ntmps113
        go_wp2_with fail
        refine (ih.out a (n / 2) _ (by omega) (by omega) (by omega) a0 a1).mono ?_; rintro e w' ⟨rfl, rfl⟩
        generalize Num.pw a (n / 2).toNat = z at *
        go_wp2_with fail
        refine (specTimesR _ _ _ b0 b1 b0 b1).mono ?_; rintro e w' ⟨rfl, rfl⟩
        go_wp2_with fail
        refine (specTimesR _ _ _ (by omega) (by omega) a0 a1).mono ?_; rintro e w' ⟨rfl, rfl⟩
        go_wp2_with fail
        go_ret
        exact ⟨ret_int e.out.symm, rfl⟩
      · have e : Hid (Num.pw a n.toNat = ((Num.pw a (n / 2).toNat * Num.pw a (n / 2).toNat) % 2147483647)) := by
          show _ = _
          rw [e2.out]; exact Num.pw_even a n.toNat (by omega)
        clear e2
        go_enter Try.func113, Try.ntmps113
        go_wp2_with fail
        refine (ih.out a (n / 2) _ (by omega) (by omega) (by omega) a0 a1).mono ?_; rintro e w' ⟨rfl, rfl⟩
        generalize Num.pw a (n / 2).toNat = z at *
        go_wp2_with fail
        refine (specTimesR _ _ _ b0 b1 b0 b1).mono ?_; rintro e w' ⟨rfl, rfl⟩
        go_wp2_with fail
        go_ret
        exact ⟨ret_int e.out.symm, rfl⟩

/-- the inverse by Fermat's power: both sides reckon the same power -/
theorem specInverse (a : Int) (w : World) (a0 : -9223372036854775808 ≤ a) (a1 : a ≤ 9223372036854775807) :
    Calls Try.prog 99 #[.int .i64 a] w fun e w' => e = .returned (.int .i64 (Num.pw (a % 2147483647) 2147483645)) ∧ w' = w := by
  go_enter Try.func99, Try.ntmps99
  go_wp2_with fail
  refine (specMod _ _ a0 a1).mono ?_; rintro e w' ⟨rfl, rfl⟩
  go_wp2_with fail
  refine (raise 2147483645 _ _ _ (by omega) (by omega) (by omega) (by omega) (by omega)).mono ?_; rintro e w' ⟨rfl, rfl⟩
  go_wp2_with fail
  go_ret
  exact ⟨rfl, rfl⟩

theorem power (a n : Int) (w : World) (a0 : 0 ≤ a) (a1 : a < 2147483647) (n0 : 0 ≤ n) (n1 : n ≤ 2147483647) :
    Calls Try.prog 114 #[.int .i64 a, .int .i64 n] w fun e w' => e = .returned (.int .i64 (Num.pw a n.toNat)) ∧ w' = w := by
  have hs := hide (Num.rest_start a n.toNat)
  go_enter Try.func114, Try.ntmps114
  go_wp2_with fail
  go_loop [0, 1, 5] (fun x m p => ∃ x' m' p' : Int, 0 ≤ x' ∧ x' < 2147483647 ∧ 0 ≤ p' ∧ p' < 2147483647 ∧ 0 ≤ m' ∧ m' ≤ 2147483647 ∧ x = .int .i64 x' ∧ m = .int .i64 m' ∧ p = .int .i64 p' ∧ Hid (Num.rest p' x' m'.toNat = Num.pw a n.toNat)) (fun _ m _ => (intOf m).toNat)
  case atStart => exact ⟨a, n, 1, a0, a1, by omega, by omega, n0, n1, rfl, rfl, rfl, hs⟩
  case round =>
    clear hs
    obtain ⟨x, m, p, x0, x1, p0, p1, m0, m1, rfl, rfl, rfl, hr⟩ := hrel
    by_cases hm : 0 < m
    · have q1 := Num.mul_bd x x x0 x1 x0 x1
      have e2 : Hid ((m / 2).toNat = m.toNat / 2) := by show _ = _; omega
      by_cases ho : m % 2 = 1
      · have hr' : Hid (Num.rest (p * x % 2147483647) (x * x % 2147483647) (m / 2).toNat = Num.pw a n.toNat) := by
          show _ = _
          rw [e2.out, Num.rest_odd p x m.toNat (by omega)]; exact hr
        clear hr e2
        go_wp2_with fail
        refine (times _ _ _ p0 p1 x0 x1).mono ?_; rintro e w' ⟨rfl, rfl⟩
        go_wp2_with fail
        refine (times _ _ _ x0 x1 x0 x1).mono ?_; rintro e w' ⟨rfl, rfl⟩
        go_wp2_with fail
        go_round
        case rel => exact ⟨_, _, _, by omega, by omega, by omega, by omega, by omega, by omega, rfl, rfl, rfl, hr'⟩
        case measure => simp [intOf]; omega
      · have hr' : Hid (Num.rest p (x * x % 2147483647) (m / 2).toNat = Num.pw a n.toNat) := by
          show _ = _
          rw [e2.out, Num.rest_even p x m.toNat (by omega)]; exact hr
        clear hr e2
        go_wp2_with fail
        refine (times _ _ _ x0 x1 x0 x1).mono ?_; rintro e w' ⟨rfl, rfl⟩
        go_wp2_with fail
        go_round
        case rel => exact ⟨_, _, _, by omega, by omega, by omega, by omega, by omega, by omega, rfl, rfl, rfl, hr'⟩
        case measure => simp [intOf]; omega
    · obtain rfl : m = 0 := by omega
      have hr' : Hid (p = Num.pw a n.toNat) := by
        show _ = _
        rw [← hr.out]; exact (Num.rest_end p x p0 p1).symm
      clear hr
      go_wp2_with fail
      go_ret
      exact ⟨ret_int hr'.out, rfl⟩

theorem inverse (a : Int) (w : World) (a0 : 0 ≤ a) (a1 : a < 2147483647) :
    Calls Try.prog 102 #[.int .i64 a] w fun e w' => e = .returned (.int .i64 (Num.pw a 2147483645)) ∧ w' = w := by
  go_enter Try.func102, Try.ntmps102
  go_wp2_with fail
  refine (power _ _ _ a0 a1 (by omega) (by omega)).mono ?_; rintro e w' ⟨rfl, rfl⟩
  go_wp2_with fail
  go_ret
  exact ⟨rfl, rfl⟩


theorem specOver (a b : Int) (w : World) (a0 : -9223372036854775808 ≤ a) (a1 : a ≤ 9223372036854775807) (b0 : -9223372036854775808 ≤ b) (b1 : b ≤ 9223372036854775807) :
    Calls Try.prog 72 #[.int .i64 a, .int .i64 b] w fun e w' => e = .returned (.int .i64 ((a % 2147483647 * Num.pw (b % 2147483647) 2147483645) % 2147483647)) ∧ w' = w := by
  have q := Num.pw_bd (b % 2147483647) 2147483645
  have e : Hid (a % 2147483647 * (Num.pw (b % 2147483647) 2147483645 % 2147483647) % 2147483647 = (a % 2147483647 * Num.pw (b % 2147483647) 2147483645) % 2147483647) := by
    show _ = _
    rw [emod_self q.1 q.2]
  go_enter Try.func72, Try.ntmps72
  go_wp2_with fail
  refine (specInverse _ _ b0 b1).mono ?_; rintro e w' ⟨rfl, rfl⟩
  go_wp2_with fail
  refine (specTimes _ _ _ a0 a1 (by have := q.1; omega) (by have := q.2; omega)).mono ?_; rintro e w' ⟨rfl, rfl⟩
  go_wp2_with fail
  go_ret
  exact ⟨ret_int e.out, rfl⟩

theorem implOver (a b : Int) (w : World) (a0 : -9223372036854775808 ≤ a) (a1 : a ≤ 9223372036854775807) (b0 : -9223372036854775808 ≤ b) (b1 : b ≤ 9223372036854775807) :
    Calls Try.prog 75 #[.int .i64 a, .int .i64 b] w fun e w' => e = .returned (.int .i64 ((a % 2147483647 * Num.pw (b % 2147483647) 2147483645) % 2147483647)) ∧ w' = w := by
  have q := Num.pw_bd (b % 2147483647) 2147483645
  go_enter Try.func75, Try.ntmps75
  go_wp2_with fail
  refine (residueOf _ _ a0 a1).mono ?_; rintro e w' ⟨rfl, rfl⟩
  go_wp2_with fail
  refine (residueOf _ _ b0 b1).mono ?_; rintro e w' ⟨rfl, rfl⟩
  go_wp2_with fail
  refine (inverse _ _ (by omega) (by omega)).mono ?_; rintro e w' ⟨rfl, rfl⟩
  go_wp2_with fail
  refine (times _ _ _ (by omega) (by omega) q.1 q.2).mono ?_; rintro e w' ⟨rfl, rfl⟩
  go_wp2_with fail
  go_ret
  exact ⟨rfl, rfl⟩



/-- the number nearest to 0 -/
def sg (a : Int) : Int := if 1073741823 < a then a - 2147483647 else a
theorem sg_hi {a : Int} (h : 1073741823 < a) : a - 2147483647 = sg a := by unfold sg; rw [if_pos h]
theorem sg_lo {a : Int} (h : ¬ 1073741823 < a) : a = sg a := by unfold sg; rw [if_neg h]

theorem specSigned (a : Int) (w : World) (a0 : -9223372036854775808 ≤ a) (a1 : a ≤ 9223372036854775807) :
    Calls Try.prog 69 #[.int .i64 a] w fun e w' => e = .returned (.int .i64 (sg (a % 2147483647))) ∧ w' = w := by
  by_cases h : 1073741823 < a % 2147483647
  · have e := hide (sg_hi h)
    go_enter Try.func69, Try.ntmps69
    go_wp2_with fail
    refine (specMod _ _ a0 a1).mono ?_; rintro e w' ⟨rfl, rfl⟩
    go_wp2_with fail
    go_ret
    exact ⟨ret_int e.out, rfl⟩
  · have e := hide (sg_lo h)
    go_enter Try.func69, Try.ntmps69
    go_wp2_with fail
    refine (specMod _ _ a0 a1).mono ?_; rintro e w' ⟨rfl, rfl⟩
    go_wp2_with fail
    go_ret
    exact ⟨ret_int e.out, rfl⟩

theorem implSigned (a : Int) (w : World) (a0 : -9223372036854775808 ≤ a) (a1 : a ≤ 9223372036854775807) :
    Calls Try.prog 78 #[.int .i64 a] w fun e w' => e = .returned (.int .i64 (sg (a % 2147483647))) ∧ w' = w := by
  by_cases h : 1073741823 < a % 2147483647
  · have e := hide (sg_hi h)
    go_enter Try.func78, Try.ntmps78
    go_wp2_with fail
    refine (residueOf _ _ a0 a1).mono ?_; rintro e w' ⟨rfl, rfl⟩
    go_wp2
    go_ret
    exact ⟨ret_int e.out, rfl⟩
  · have e := hide (sg_lo h)
    go_enter Try.func78, Try.ntmps78
    go_wp2_with fail
    refine (residueOf _ _ a0 a1).mono ?_; rintro e w' ⟨rfl, rfl⟩
    go_wp2
    go_ret
    exact ⟨ret_int e.out, rfl⟩

end Base
end Go.Proofs.Ytldcacdopijfdab
