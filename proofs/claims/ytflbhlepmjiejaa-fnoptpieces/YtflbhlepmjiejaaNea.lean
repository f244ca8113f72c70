/- Whole numbers rounded: Near and Shift on both sides. -/
import Derived.Test.YtflbhlepmjiejaaRows
import Derived.WalkKit
import Derived.ProofKit
import Derived.OpenShut
import Derived.Below
import Derived.Lib.SmallJoins
import Derived.Deep.QuietTactic
import Derived.BigQuiet
import Derived.WalkSmall
import Derived.WalkSpells
import Derived.Laws.BitsLemmas
namespace Go.Proofs.Ytflbhlepmjiejaa
namespace Nea
open Go.ChangeShapes Go.WideShapes Go.ChangeAt Go.RowKit Go.Joins
set_option linter.unusedVariables false
theorem hide {p : Prop} (h : p) : Hid p := h
theorem ret_int {k : IntKind} {a b : Int} (h : a = b) : Ending.returned (.int k a) = .returned (.int k b) := by rw [h]
theorem mask1 (n : Int) : bits .and .i64 n 1 = n % 2 := by
  have key : (BitVec.ofInt 64 n &&& BitVec.ofInt 64 1).toNat = (n % ((2 ^ 64 : Nat) : Int)).toNat % 2 ^ 1 := by
    rw [BitVec.toNat_and, BitVec.toNat_ofInt, show (BitVec.ofInt 64 1).toNat = 2 ^ 1 - 1 by decide, Nat.and_two_pow_sub_one_eq_mod]
  show IntKind.i64.wrap ((BitVec.ofInt 64 n &&& BitVec.ofInt 64 1).toNat : Nat) = n % 2
  rw [key, IntKind.wrap_i64]
  omega

/-- the nearest of q and the next, where r of d is left over -/
def rd (q r d : Int) : Int := if d - r < r ∨ (r = d - r ∧ q % 2 = 1) then q + 1 else q

theorem round (q r d : Int) (w : World) (r0 : 0 ≤ r) (r1 : r < d) (d1 : d ≤ 4611686018427387904) (q0 : -9223372036854775808 ≤ q) (q1 : q ≤ 9223372036854775807) (q2 : d - r ≤ r → q < 9223372036854775807) :
    Calls Try.prog 54 #[.int .i64 q, .int .i64 r, .int .i64 d] w fun e w' => e = .returned (.int .i64 (rd q r d)) ∧ w' = w := by
  have mk := mask1
  by_cases c1 : d - r < r
  · have e := hide (show rd q r d = q + 1 by unfold rd; rw [if_pos (.inl c1)])
    have q3 := q2 (by omega)
    clear q2
    go_enter Try.func54, Try.ntmps54
    go_wp2_with fail
    go_ret
    exact ⟨ret_int e.out.symm, rfl⟩
  · have b1 : decide (d - r < r) = false := decide_eq_false c1
    by_cases c2 : r = d - r
    · have b2 : (r == d - r) = true := beq_iff_eq.2 c2
      have q3 := q2 (by omega)
      by_cases c3 : q % 2 = 1
      · have e := hide (show rd q r d = q + 1 by unfold rd; rw [if_pos (.inr ⟨c2, c3⟩)])
        clear q2 c1 c2
        go_enter Try.func54, Try.ntmps54
        go_wp2_with fail
        go_ret
        exact ⟨ret_int e.out.symm, rfl⟩
      · have e := hide (show rd q r d = q by unfold rd; rw [if_neg (by omega)])
        have b3 : (q % 2 == 1) = false := beq_eq_false_iff_ne.2 c3
        clear q2 c1 c2 c3
        go_enter Try.func54, Try.ntmps54
        go_wp2_with fail
        go_ret
        exact ⟨ret_int e.out.symm, rfl⟩
    · have b2 : (r == d - r) = false := beq_eq_false_iff_ne.2 c2
      have e := hide (show rd q r d = q by unfold rd; rw [if_neg (by omega)])
      clear q2 c1 c2
      go_enter Try.func54, Try.ntmps54
      go_wp2_with fail
      go_ret
      exact ⟨ret_int e.out.symm, rfl⟩

/-- the quotient and the rest, as both sides mend them -/
theorem parts (n d : Int) (n0 : -9223372036854775808 ≤ n) (n1 : n ≤ 9223372036854775807) (d0 : 1 ≤ d) :
    wrap64 (n.tdiv d) = n.tdiv d ∧ -9223372036854775808 ≤ n.tdiv d ∧ n.tdiv d ≤ 9223372036854775807 ∧ -d < n.tmod d ∧ n.tmod d < d ∧ (n.tmod d < 0 → -9223372036854775808 < n.tdiv d ∧ n.tdiv d ≤ 0) ∧ (2 ≤ d → n.tdiv d ≤ 4611686018427387904) := by
  have e := Int.mul_tdiv_add_tmod n d
  have m1 := Int.tmod_lt_of_pos n (by omega : 0 < d)
  have m2 : -d < n.tmod d := by
    have := Int.tmod_lt_of_pos (-n) (by omega : 0 < d)
    rw [Int.neg_tmod] at this; omega
  have t0 : -9223372036854775808 ≤ n.tdiv d ∧ n.tdiv d ≤ 9223372036854775807 ∧ (2 ≤ d → n.tdiv d ≤ 4611686018427387904) := by
    rcases Int.le_total 0 n with h | h
    · have a1 : 0 ≤ n.tdiv d := Int.tdiv_nonneg h (by omega)
      rw [Int.tdiv_eq_ediv_of_nonneg h] at a1 ⊢
      have a2 : n / d ≤ n := Int.ediv_le_self d h
      refine ⟨by omega, by omega, fun h2 => ?_⟩
      have a3 : n / d ≤ n / 2 := by
        obtain ⟨N, rfl⟩ := Int.eq_ofNat_of_zero_le h
        obtain ⟨D, rfl⟩ := Int.eq_ofNat_of_zero_le (by omega : 0 ≤ d)
        have := Nat.div_le_div_left (c := 2) (a := N) (b := D) (by omega) (by omega)
        exact_mod_cast this
      omega
    · have a1 : (-n).tdiv d = -(n.tdiv d) := Int.neg_tdiv n d
      have a2 : 0 ≤ (-n).tdiv d := Int.tdiv_nonneg (by omega) (by omega)
      rw [Int.tdiv_eq_ediv_of_nonneg (by omega : 0 ≤ -n)] at a1 a2
      have a3 : (-n) / d ≤ -n := Int.ediv_le_self d (by omega)
      refine ⟨by omega, by omega, fun h2 => by omega⟩
  refine ⟨?_, t0.1, t0.2.1, m2, m1, fun hp => ?_, t0.2.2⟩
  · obtain ⟨a, b, _⟩ := t0
    simp only [wrap64]; omega
  · have hn : n < 0 := by
      rcases Int.lt_or_le n 0 with h | h
      · exact h
      · have := Int.tmod_nonneg d h; omega
    have a1 : (-n).tdiv d = -(n.tdiv d) := Int.neg_tdiv n d
    have a2 : 0 ≤ (-n).tdiv d := Int.tdiv_nonneg (by omega) (by omega)
    have hd : 2 ≤ d := by omega
    rw [Int.tdiv_eq_ediv_of_nonneg (by omega : 0 ≤ -n)] at a1 a2
    have a3 : (-n) / d ≤ (-n) / 2 := by
      obtain ⟨N, hN⟩ := Int.eq_ofNat_of_zero_le (by omega : 0 ≤ -n)
      obtain ⟨D, rfl⟩ := Int.eq_ofNat_of_zero_le (by omega : 0 ≤ d)
      rw [hN]
      have := Nat.div_le_div_left (c := 2) (a := N) (b := D) (by omega) (by omega)
      exact_mod_cast this
    omega

theorem specNear (n d : Int) (w : World) (n0 : -9223372036854775808 ≤ n) (n1 : n ≤ 9223372036854775807) (d0 : 1 ≤ d) (d1 : d ≤ 4611686018427387904) :
    Calls Try.prog 33 #[.int .i64 n, .int .i64 d] w fun e w' => e = .returned (.int .i64 (if n.tmod d < 0 then rd (n.tdiv d - 1) (n.tmod d + d) d else rd (n.tdiv d) (n.tmod d) d)) ∧ w' = w := by
  obtain ⟨h1, h2, h3, h4, h5, h6, h7⟩ := parts n d n0 n1 d0
  have c1 : decide (d < 1) = false := decide_eq_false (by omega)
  have c2 : decide (4611686018427387904 < d) = false := decide_eq_false (by omega)
  generalize ht : n.tdiv d = t at *
  by_cases p0 : n.tmod d < 0
  · obtain ⟨g1, g2⟩ := h6 p0
    rw [if_pos p0]
    have e1 : wrap64 (t - 1) = t - 1 := by simp only [wrap64]; omega
    have e2 : wrap64 (n.tmod d + d) = n.tmod d + d := by simp only [wrap64]; omega
    have H := hide (fun w => round (t - 1) (n.tmod d + d) d w (by omega) (by omega) d1 (by omega) (by omega) (fun _ => by omega))
    have b1 : decide (n.tmod d < 0) = true := decide_eq_true p0
    clear h6 h7 p0
    generalize hp : n.tmod d = p at *
    go_enter Try.func33, Try.ntmps33
    go_wp2_with fail
    refine (H.out _).mono ?_; rintro e w1 ⟨rfl, rfl⟩
    go_wp2_with fail
    go_ret
    exact ⟨rfl, rfl⟩
  · rw [if_neg p0]
    have H := hide (fun w => round t (n.tmod d) d w (by omega) h5 d1 (by omega) (by omega) (fun h => by have := h7 (by omega); omega))
    have b1 : decide (n.tmod d < 0) = false := decide_eq_false p0
    clear h6 h7 p0
    generalize hp : n.tmod d = p at *
    go_enter Try.func33, Try.ntmps33
    go_wp2_with fail
    refine (H.out _).mono ?_; rintro e w1 ⟨rfl, rfl⟩
    go_wp2_with fail
    go_ret
    exact ⟨rfl, rfl⟩

set_option maxHeartbeats 1000000 in
theorem implNear (n d : Int) (w : World) (n0 : -9223372036854775808 ≤ n) (n1 : n ≤ 9223372036854775807) (d0 : 1 ≤ d) (d1 : d ≤ 4611686018427387904) :
    Calls Try.prog 68 #[.int .i64 n, .int .i64 d] w fun e w' => e = .returned (.int .i64 (if n.tmod d < 0 then rd (n.tdiv d - 1) (n.tmod d + d) d else rd (n.tdiv d) (n.tmod d) d)) ∧ Below w.heap.size w w' := by
  obtain ⟨h1, h2, h3, h4, h5, h6, h7⟩ := parts n d n0 n1 d0
  have c1 : decide (d < 1) = false := decide_eq_false (by omega)
  have c2 : decide (4611686018427387904 < d) = false := decide_eq_false (by omega)
  have dz : (d == 0) = false := by rw [beq_eq_false_iff_ne]; omega
  generalize ht : n.tdiv d = t at *
  by_cases p0 : n.tmod d < 0
  · obtain ⟨g1, g2⟩ := h6 p0
    rw [if_pos p0]
    have b1 : decide (n.tmod d < 0) = true := decide_eq_true p0
    have p1 := p0
    clear h6 h7 p0
    generalize hp : n.tmod d = p at *
    have e1 : wrap64 (t - 1) = t - 1 := by simp only [wrap64]; omega
    have e2 : wrap64 (p + d) = p + d := by simp only [wrap64]; omega
    by_cases c1' : d - (p + d) < (p + d)
    · have e := hide (show rd (t - 1) (p + d) d = (t - 1) + 1 by unfold rd; rw [if_pos (.inl c1')])
      have b2 : decide (d - (p + d) < (p + d)) = true := decide_eq_true c1'
      have q3 : (t - 1) < 9223372036854775807 := by omega
      clear c1'
      go_enter Try.func68, Try.ntmps68
      go_wp2_with fail
      go_quiet (fail)
      go_wp2_with fail
      go_ret
      exact ⟨ret_int (by rw [e.out] <;> omega), below_draws _ _ _⟩
    · have b2 : decide (d - (p + d) < (p + d)) = false := decide_eq_false c1'
      by_cases c2' : (p + d) = d - (p + d)
      · have b3 : ((p + d) == d - (p + d)) = true := beq_iff_eq.2 c2'
        have q3 : (t - 1) < 9223372036854775807 := by omega
        by_cases c3 : (t - 1) % 2 = 1
        · have e := hide (show rd (t - 1) (p + d) d = (t - 1) + 1 by unfold rd; rw [if_pos (.inr ⟨c2', c3⟩)])
          have b4 : (Int.tmod (t - 1) 2 != 0) = true := by rw [bne_iff_ne]; intro h; have := Int.mul_tdiv_add_tmod (t - 1) 2; omega
          clear c1' c2' c3
          go_enter Try.func68, Try.ntmps68
          go_wp2_with fail
          go_quiet (fail)
          go_wp2_with fail
          go_ret
          exact ⟨ret_int (by rw [e.out] <;> omega), below_draws _ _ _⟩
        · have e := hide (show rd (t - 1) (p + d) d = (t - 1) by unfold rd; rw [if_neg (by omega)])
          have b4 : Int.tmod (t - 1) 2 = 0 := by have h1 := Int.mul_tdiv_add_tmod (t - 1) 2; have h2 := Int.tmod_lt_of_pos (t - 1) (by decide : (0 : Int) < 2); have h3 := Int.tmod_lt_of_pos (-(t - 1)) (by decide : (0 : Int) < 2); rw [Int.neg_tmod] at h3; omega
          clear c1' c2' c3
          go_enter Try.func68, Try.ntmps68
          go_wp2_with fail
          go_quiet (fail)
          go_wp2_with fail
          go_ret
          exact ⟨ret_int (by rw [e.out] <;> omega), below_draws _ _ _⟩
      · have b3 : ((p + d) == d - (p + d)) = false := beq_eq_false_iff_ne.2 c2'
        have e := hide (show rd (t - 1) (p + d) d = (t - 1) by unfold rd; rw [if_neg (by omega)])
        clear c1' c2'
        go_enter Try.func68, Try.ntmps68
        go_wp2_with fail
        go_quiet (fail)
        go_wp2_with fail
        go_ret
        exact ⟨ret_int (by rw [e.out] <;> omega), below_draws _ _ _⟩
  · rw [if_neg p0]
    have b1 : decide (n.tmod d < 0) = false := decide_eq_false p0
    have p1 : 0 ≤ n.tmod d := by omega
    have h8 : 1 ≤ n.tmod d → t ≤ 4611686018427387904 := fun h => h7 (by omega)
    clear h6 h7 p0
    generalize hp : n.tmod d = p at *
    by_cases c1' : d - p < p
    · have e := hide (show rd t p d = t + 1 by unfold rd; rw [if_pos (.inl c1')])
      have b2 : decide (d - p < p) = true := decide_eq_true c1'
      have q3 : t < 9223372036854775807 := by have := h8 (by omega); omega
      clear c1'
      go_enter Try.func68, Try.ntmps68
      go_wp2_with fail
      go_quiet (fail)
      go_wp2_with fail
      go_ret
      exact ⟨ret_int (by rw [e.out] <;> omega), below_draws _ _ _⟩
    · have b2 : decide (d - p < p) = false := decide_eq_false c1'
      by_cases c2' : p = d - p
      · have b3 : (p == d - p) = true := beq_iff_eq.2 c2'
        have q3 : t < 9223372036854775807 := by have := h8 (by omega); omega
        by_cases c3 : t % 2 = 1
        · have e := hide (show rd t p d = t + 1 by unfold rd; rw [if_pos (.inr ⟨c2', c3⟩)])
          have b4 : (Int.tmod t 2 != 0) = true := by rw [bne_iff_ne]; intro h; have := Int.mul_tdiv_add_tmod t 2; omega
          clear c1' c2' c3
          go_enter Try.func68, Try.ntmps68
          go_wp2_with fail
          go_quiet (fail)
          go_wp2_with fail
          go_ret
          exact ⟨ret_int (by rw [e.out] <;> omega), below_draws _ _ _⟩
        · have e := hide (show rd t p d = t by unfold rd; rw [if_neg (by omega)])
          have b4 : Int.tmod t 2 = 0 := by have h1 := Int.mul_tdiv_add_tmod t 2; have h2 := Int.tmod_lt_of_pos t (by decide : (0 : Int) < 2); have h3 := Int.tmod_lt_of_pos (-t) (by decide : (0 : Int) < 2); rw [Int.neg_tmod] at h3; omega
          clear c1' c2' c3
          go_enter Try.func68, Try.ntmps68
          go_wp2_with fail
          go_quiet (fail)
          go_wp2_with fail
          go_ret
          exact ⟨ret_int (by rw [e.out] <;> omega), below_draws _ _ _⟩
      · have b3 : (p == d - p) = false := beq_eq_false_iff_ne.2 c2'
        have e := hide (show rd t p d = t by unfold rd; rw [if_neg (by omega)])
        clear c1' c2'
        go_enter Try.func68, Try.ntmps68
        go_wp2_with fail
        go_quiet (fail)
        go_wp2_with fail
        go_ret
        exact ⟨ret_int (by rw [e.out] <;> omega), below_draws _ _ _⟩

theorem near_rd (n d : Int) : ∃ r : Int, r = (if n.tmod d < 0 then rd (n.tdiv d - 1) (n.tmod d + d) d else rd (n.tdiv d) (n.tmod d) d) := ⟨_, rfl⟩
theorem nearBoth (n d : Int) (n0 : -9223372036854775808 ≤ n) (n1 : n ≤ 9223372036854775807) : ∃ r, (∀ w, Calls Try.prog 33 #[.int .i64 n, .int .i64 d] w fun e w' => e = .returned (.int .i64 r) ∧ w' = w) ∧
    (∀ w, Calls Try.prog 68 #[.int .i64 n, .int .i64 d] w fun e w' => e = .returned (.int .i64 r) ∧ Below w.heap.size w w') := by
  by_cases c : d < 1
  · refine ⟨0, fun w => ?_, fun w => ?_⟩
    · go_enter Try.func33, Try.ntmps33
      go_wp2_with fail
      go_ret
      exact ⟨rfl, rfl⟩
    · go_enter Try.func68, Try.ntmps68
      go_wp2_with fail
      go_ret
      exact ⟨rfl, Below.refl _ _⟩
  · have c1 : decide (d < 1) = false := decide_eq_false c
    by_cases c' : 4611686018427387904 < d
    · refine ⟨0, fun w => ?_, fun w => ?_⟩
      · clear c
        go_enter Try.func33, Try.ntmps33
        go_wp2_with fail
        go_ret
        exact ⟨rfl, rfl⟩
      · clear c
        go_enter Try.func68, Try.ntmps68
        go_wp2_with fail
        go_ret
        exact ⟨rfl, Below.refl _ _⟩
    · exact ⟨_, fun w => specNear n d w n0 n1 (by omega) (by omega), fun w => implNear n d w n0 n1 (by omega) (by omega)⟩

end Nea
end Go.Proofs.Ytflbhlepmjiejaa
