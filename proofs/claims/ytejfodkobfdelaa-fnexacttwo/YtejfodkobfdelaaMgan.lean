/- Lemmas for the proof of the law. -/
import Derived.Test.YtejfodkobfdelaaMgam
import Derived.Lib.QuietBelow
import Derived.Test.YtejfodkobfdelaaMgal
/- The model's l3Order, l4Get, l4With, l4Axis, l4Line. -/
namespace Go.Proofs.Ytejfodkobfdelaa
namespace Vo
open Go.ChangeShapes Go.WideShapes Go.ChangeAt Go.RowKit Go.Joins Go.Sort
open Vl Vp Vr
set_option linter.unusedVariables false
set_option linter.unusedSimpArgs false

theorem od_le {D I : Nat → Int} {r : Nat} (h : dok r D = true) (hi : ∀ j, j < r → 0 ≤ I j ∧ I j < D j) {m : Nat} (hm : m ≤ r) : 0 ≤ od D I m ∧ od D I m < 4096 := by
  have q := od_rng D I m (fun j hj => hi j (by omega))
  have := (dok_iff.1 h).2
  have h1 : szR D m ≠ 0 := fun e => by have := szR_zero e hm; omega
  rcases szR_cases D m with e | ⟨_, e, _, e4⟩
  · exact absurd e h1
  · omega
theorem l3Order (B : Nat) (a c : Option Addr) (r cap q cap' : Nat) (D I : Nat → Int) (w : World) (hB : B ≤ w.heap.size) (h : Ints B w a r D) (h' : Ints B w c q I) (hq : r ≤ q) (hd : dok r D = true) (hi : ∀ j, j < r → 0 ≤ I j ∧ I j < D j) :
    Calls Try.prog 79 #[.slice a r cap, .slice c q cap'] w fun e w' => e = .returned (.int .i64 (od D I r)) ∧ Below w.heap.size w w' := by
  have r6 : r ≤ 6 := (dok_iff.1 hd).1
  have H := hide h
  have H' := hide h'
  have HD := hide hd
  have HI := hide hi
  clear h h' hd hi
  go_enter Try.func79, Try.ntmps79
  go_wp2_with fail
  go_loopw [5, 6] (fun v i wx => ∃ m : Nat, m ≤ r ∧ i = .int .i64 m ∧ v = .int .i64 (od D I m) ∧ Below w.heap.size w wx) (fun _ i _ => r - (intOf i).toNat)
  case atStart => exact ⟨0, Nat.zero_le _, rfl, rfl, Below.refl _ _⟩
  case round =>
    obtain ⟨m, hm, rfl, rfl, hb⟩ := hrel
    have HB := hide hb
    clear hb
    by_cases hlt : m < r
    · have mI : (m : Int) < r := by omega
      have mQ : (m : Int) < q := by omega
      rcases H.out.below (HB.out.mono hB) with h0 | ⟨b1, o1, rfl, hb1, hc1⟩
      · omega
      rcases H'.out.below (HB.out.mono hB) with h0 | ⟨b2, o2, rfl, hb2, hc2⟩
      · omega
      have c1 := (hc1 m hlt).1
      have c2 := (hc2 m (by omega)).1
      have i1 := HI.out m hlt
      have o1' := od_le HD.out HI.out (m := m) (by omega)
      have o2' := od_le HD.out HI.out (m := m + 1) (by omega)
      have dl := dok_len HD.out hlt
      have es : od D I (m + 1) = od D I m * D m + I m := rfl
      obtain ⟨v, hv⟩ : ∃ v, od D I m = v := ⟨_, rfl⟩
      rw [hv] at es o1' ⊢
      obtain ⟨p, hp⟩ : ∃ p, v * D m = p := ⟨_, rfl⟩
      rw [hp] at es
      have p0 : 0 ≤ p := by rw [← hp]; exact Int.mul_nonneg (by omega) (by omega)
      have p1 : p ≤ 4096 := by omega
      have ES := hide es
      clear hc1 hc2 es
      go_wp2_with fail
      go_region
      all_goals (go_wp2_with fail)
      all_goals go_roundw
      all_goals first
        | exact ⟨m + 1, by omega, by go_num, by rw [ES.out], HB.out.drew⟩
        | (simp [intOf]; omega)
    · obtain rfl : m = r := by omega
      go_wp2_with fail
      go_ret
      exact ⟨rfl, HB.out⟩
set_option maxHeartbeats 1000000 in
theorem l4Get (B : Nat) (a b c : Option Addr) (r s cap dap q cap' : Nat) (D S I : Nat → Int) (w : World) (hB : B ≤ w.heap.size) (h : Ints B w a r D) (h1 : Ints B w b s S) (h' : Ints B w c q I) (hq : r ≤ q) (ht : tok r s D S = true) (hi : ∀ j, j < r → 0 ≤ I j ∧ I j < D j) :
    Calls Try.prog 53 #[.agg #[.slice a r cap, .slice b s dap], .slice c q cap'] w fun e w' => e = .returned (.int .i64 (S (od D I r).toNat)) ∧ Below w.heap.size w w' := by
  obtain ⟨td, ts, tw⟩ := tok_split ht
  have od1 := od_rng D I r hi
  have os : od D I r < s := by
    have := (dok_iff.1 td).2
    rcases szR_cases D r with e | ⟨_, e, _, _⟩
    · omega
    · omega
  have s4 : (s : Int) ≤ 4096 := by rw [← ts]; exact (szR_rng D r).2
  obtain ⟨W0, hW0⟩ : ∃ W0, w.alloc (.cells #[.slice a r cap, .slice b s dap] 38) = W0 := ⟨_, rfl⟩
  have bl : Below w.heap.size w W0 := by rw [← hW0]; exact (Below.refl _ _).alloc (Nat.le_refl _) _
  have n0 : Bx W0 w.heap.size (.slice a r cap) (.slice b s dap) := by rw [← hW0]; exact bx_new w _ _ _
  have OC := hide (l3Order B a c r cap q cap' D I W0 (Nat.le_trans hB bl.size) (h.below (bl.mono hB)) (h'.below (bl.mono hB)) hq td hi)
  obtain ⟨p, hp⟩ : ∃ p : Nat, od D I r = p := ⟨(od D I r).toNat, by omega⟩
  rw [hp] at OC ⊢
  rw [Int.toNat_natCast]
  have pI : (p : Int) < s := by omega
  have k0 := cell_regrown n0.1
  have k1 := cell_regrown n0.2
  rcases h1.below (bl.mono hB) with h0 | ⟨b1, o1, rfl, hb1, hc1⟩
  · omega
  have k2 := cell_regrown (hc1 p (by omega)).1
  have CF := hide (fun (q1 : Nat) (os : Array Obj) => show Calls Try.prog 79 #[.slice a r cap, .slice c q cap'] (Sort.grow (redrawn W0 q1) os) (fun e w'' => e = .returned (.int .i64 (p : Int)) ∧ ∃ p : Regrown, w'' = Sort.grow (redrawn W0 p.d) p.os) from Calls.regrown_of ((by
    have hbr : Below W0.heap.size W0 (Sort.grow (redrawn W0 q1) os) := below_regrown W0 q1 os
    have b2 : Below w.heap.size w (Sort.grow (redrawn W0 q1) os) := bl.trans (hbr.mono bl.size)
    have := l3Order B a c r cap q cap' D I (Sort.grow (redrawn W0 q1) os) (Nat.le_trans hB b2.size) (h.below (b2.mono hB)) (h'.below (b2.mono hB)) hq td hi
    rw [hp] at this
    exact this)))
  have BL := hide bl
  clear h h1 h' hi ht td ts tw od1 os hp hc1 n0 OC
  go_enter Try.func53, Try.ntmps53
  go_wp2_with fail
  clear hW0
  refine wp_region_quiet_below (by kernel_rfl) (by kernel_rfl) ?_
  repeat (quiet_step (exact CF.out _ _))
  refine wpQuiet_nil ?_
  intro _ hw'
  obtain ⟨⟨dq, osq⟩, hw''⟩ := hw'
  subst hw''
  go_wp2_with fail
  go_ret
  exact ⟨rfl, BL.out.trans ((below_regrown W0 dq osq).mono BL.out.size)⟩
end Vo
end Go.Proofs.Ytejfodkobfdelaa

/- Powers modulo the prime on both sides: the model's halving recursion, the program's squaring loop; inverses, quotients, powers, signs. -/
namespace Go.Proofs.Ytejfodkobfdelaa
namespace Base
open Go.ChangeShapes Go.WideShapes Go.ChangeAt Go.RowKit
set_option linter.unusedVariables false

theorem emod_self {a : Int} (h0 : 0 ≤ a) (h1 : a < 2147483647) : a % 2147483647 = a := by omega

theorem specTimesR (a b : Int) (w : World) (a0 : 0 ≤ a) (a1 : a < 2147483647) (b0 : 0 ≤ b) (b1 : b < 2147483647) :
    Calls Try.prog 51 #[.int .i64 a, .int .i64 b] w fun e w' => e = .returned (.int .i64 ((a * b) % 2147483647)) ∧ w' = w := by
  have h := specTimes a b w (by omega) (by omega) (by omega) (by omega)
  rw [emod_self a0 a1, emod_self b0 b1] at h
  exact h

theorem raise (k : Nat) : ∀ (a n : Int) (w : World), n ≤ k → 0 ≤ n → n ≤ 2147483647 → 0 ≤ a → a < 2147483647 →
    Calls Try.prog 96 #[.int .i64 a, .int .i64 n] w fun e w' => e = .returned (.int .i64 (Num.pw a n.toNat)) ∧ w' = w := by
  induction k with
  | zero =>
    intro a n w hk n0 n1 a0 a1
    obtain rfl : n = 0 := by omega
    go_enter Try.func96, Try.ntmps96
    go_wp2_with fail
    go_ret
    exact ⟨ret_int (Num.pw_zero a).symm, rfl⟩
  | succ k ih =>
    intro a n w hk n0 n1 a0 a1
    by_cases hn : n = 0
    · subst hn
      go_enter Try.func96, Try.ntmps96
      go_wp2_with fail
      go_ret
      exact ⟨ret_int (Num.pw_zero a).symm, rfl⟩
    · have ih := hide ih
      have b := Num.pw_bd a (n / 2).toNat
      obtain ⟨b0, b1⟩ := b
      have e2 : Hid ((n / 2).toNat = n.toNat / 2) := by show _ = _; omega
      by_cases ho : n % 2 = 1
      · have e : Hid (Num.pw a n.toNat = ((Num.pw a (n / 2).toNat * Num.pw a (n / 2).toNat) % 2147483647 * a) % 2147483647) := by
          show _ = _
          rw [e2.out]; exact Num.pw_odd a n.toNat (by omega)
        have q := Num.mul_bd _ _ b0 b1 b0 b1
        clear e2
        go_enter Try.func96, Try.ntmps96
        go_wp2_with fail
        refine (ih.out a (n / 2) _ (by omega) (by omega) (by omega) a0 a1).mono ?_; rintro e w' ⟨rfl, rfl⟩
        generalize Num.pw a (n / 2).toNat = z at *
        go_wp2_with fail
        refine (specTimesR _ _ _ b0 b1 b0 b1).mono ?_; rintro e w' ⟨rfl, rfl⟩
        go_wp2_with fail
        refine (specTimesR _ _ _ (by omega) (by omega) a0 a1).mono ?_; rintro e w' ⟨rfl, rfl⟩
        go_wp2_with fail
        go_ret
        exact ⟨ret_int e.out.symm, rfl⟩
      · have e : Hid (Num.pw a n.toNat = ((Num.pw a (n / 2).toNat * Num.pw a (n / 2).toNat) % 2147483647)) := by
          show _ = _
          rw [e2.out]; exact Num.pw_even a n.toNat (by omega)
        clear e2
        go_enter Try.func96, Try.ntmps96
        go_wp2_with fail
        refine (ih.out a (n / 2) _ (by omega) (by omega) (by omega) a0 a1).mono ?_; rintro e w' ⟨rfl, rfl⟩
        generalize Num.pw a (n / 2).toNat = z at *
        go_wp2_with fail
        refine (specTimesR _ _ _ b0 b1 b0 b1).mono ?_; rintro e w' ⟨rfl, rfl⟩
        go_wp2_with fail
        go_ret
        exact ⟨ret_int e.out.symm, rfl⟩

/-- the inverse by Fermat's power: both sides reckon the same power -/
theorem specInverse (a : Int) (w : World) (a0 : -9223372036854775808 ≤ a) (a1 : a ≤ 9223372036854775807) :
    Calls Try.prog 78 #[.int .i64 a] w fun e w' => e = .returned (.int .i64 (Num.pw (a % 2147483647) 2147483645)) ∧ w' = w := by
  go_enter Try.func78, Try.ntmps78
  go_wp2_with fail
  refine (specMod _ _ a0 a1).mono ?_; rintro e w' ⟨rfl, rfl⟩
  go_wp2_with fail
  refine (raise 2147483645 _ _ _ (by omega) (by omega) (by omega) (by omega) (by omega)).mono ?_; rintro e w' ⟨rfl, rfl⟩
  go_wp2_with fail
  go_ret
  exact ⟨rfl, rfl⟩

theorem power (a n : Int) (w : World) (a0 : 0 ≤ a) (a1 : a < 2147483647) (n0 : 0 ≤ n) (n1 : n ≤ 2147483647) :
    Calls Try.prog 97 #[.int .i64 a, .int .i64 n] w fun e w' => e = .returned (.int .i64 (Num.pw a n.toNat)) ∧ w' = w := by
  have hs := hide (Num.rest_start a n.toNat)
  go_enter Try.func97, Try.ntmps97
  go_wp2_with fail
  go_loop [0, 1, 5] (fun x m p => ∃ x' m' p' : Int, 0 ≤ x' ∧ x' < 2147483647 ∧ 0 ≤ p' ∧ p' < 2147483647 ∧ 0 ≤ m' ∧ m' ≤ 2147483647 ∧ x = .int .i64 x' ∧ m = .int .i64 m' ∧ p = .int .i64 p' ∧ Hid (Num.rest p' x' m'.toNat = Num.pw a n.toNat)) (fun _ m _ => (intOf m).toNat)
  case atStart => exact ⟨a, n, 1, a0, a1, by omega, by omega, n0, n1, rfl, rfl, rfl, hs⟩
  case round =>
    clear hs
    obtain ⟨x, m, p, x0, x1, p0, p1, m0, m1, rfl, rfl, rfl, hr⟩ := hrel
    by_cases hm : 0 < m
    · have q1 := Num.mul_bd x x x0 x1 x0 x1
      have e2 : Hid ((m / 2).toNat = m.toNat / 2) := by show _ = _; omega
      by_cases ho : m % 2 = 1
      · have hr' : Hid (Num.rest (p * x % 2147483647) (x * x % 2147483647) (m / 2).toNat = Num.pw a n.toNat) := by
          show _ = _
          rw [e2.out, Num.rest_odd p x m.toNat (by omega)]; exact hr
        clear hr e2
        go_wp2_with fail
        refine (times _ _ _ p0 p1 x0 x1).mono ?_; rintro e w' ⟨rfl, rfl⟩
        go_wp2_with fail
        refine (times _ _ _ x0 x1 x0 x1).mono ?_; rintro e w' ⟨rfl, rfl⟩
        go_wp2_with fail
        go_round
        case rel => exact ⟨_, _, _, by omega, by omega, by omega, by omega, by omega, by omega, rfl, rfl, rfl, hr'⟩
        case measure => simp [intOf]; omega
      · have hr' : Hid (Num.rest p (x * x % 2147483647) (m / 2).toNat = Num.pw a n.toNat) := by
          show _ = _
          rw [e2.out, Num.rest_even p x m.toNat (by omega)]; exact hr
        clear hr e2
        go_wp2_with fail
        refine (times _ _ _ x0 x1 x0 x1).mono ?_; rintro e w' ⟨rfl, rfl⟩
        go_wp2_with fail
        go_round
        case rel => exact ⟨_, _, _, by omega, by omega, by omega, by omega, by omega, by omega, rfl, rfl, rfl, hr'⟩
        case measure => simp [intOf]; omega
    · obtain rfl : m = 0 := by omega
      have hr' : Hid (p = Num.pw a n.toNat) := by
        show _ = _
        rw [← hr.out]; exact (Num.rest_end p x p0 p1).symm
      clear hr
      go_wp2_with fail
      go_ret
      exact ⟨ret_int hr'.out, rfl⟩

theorem inverse (a : Int) (w : World) (a0 : 0 ≤ a) (a1 : a < 2147483647) :
    Calls Try.prog 84 #[.int .i64 a] w fun e w' => e = .returned (.int .i64 (Num.pw a 2147483645)) ∧ w' = w := by
  go_enter Try.func84, Try.ntmps84
  go_wp2_with fail
  refine (power _ _ _ a0 a1 (by omega) (by omega)).mono ?_; rintro e w' ⟨rfl, rfl⟩
  go_wp2_with fail
  go_ret
  exact ⟨rfl, rfl⟩


theorem specOver (a b : Int) (w : World) (a0 : -9223372036854775808 ≤ a) (a1 : a ≤ 9223372036854775807) (b0 : -9223372036854775808 ≤ b) (b1 : b ≤ 9223372036854775807) :
    Calls Try.prog 52 #[.int .i64 a, .int .i64 b] w fun e w' => e = .returned (.int .i64 ((a % 2147483647 * Num.pw (b % 2147483647) 2147483645) % 2147483647)) ∧ w' = w := by
  have q := Num.pw_bd (b % 2147483647) 2147483645
  have e : Hid (a % 2147483647 * (Num.pw (b % 2147483647) 2147483645 % 2147483647) % 2147483647 = (a % 2147483647 * Num.pw (b % 2147483647) 2147483645) % 2147483647) := by
    show _ = _
    rw [emod_self q.1 q.2]
  go_enter Try.func52, Try.ntmps52
  go_wp2_with fail
  refine (specInverse _ _ b0 b1).mono ?_; rintro e w' ⟨rfl, rfl⟩
  go_wp2_with fail
  refine (specTimes _ _ _ a0 a1 (by have := q.1; omega) (by have := q.2; omega)).mono ?_; rintro e w' ⟨rfl, rfl⟩
  go_wp2_with fail
  go_ret
  exact ⟨ret_int e.out, rfl⟩

theorem implOver (a b : Int) (w : World) (a0 : -9223372036854775808 ≤ a) (a1 : a ≤ 9223372036854775807) (b0 : -9223372036854775808 ≤ b) (b1 : b ≤ 9223372036854775807) :
    Calls Try.prog 57 #[.int .i64 a, .int .i64 b] w fun e w' => e = .returned (.int .i64 ((a % 2147483647 * Num.pw (b % 2147483647) 2147483645) % 2147483647)) ∧ w' = w := by
  have q := Num.pw_bd (b % 2147483647) 2147483645
  go_enter Try.func57, Try.ntmps57
  go_wp2_with fail
  refine (residueOf _ _ a0 a1).mono ?_; rintro e w' ⟨rfl, rfl⟩
  go_wp2_with fail
  refine (residueOf _ _ b0 b1).mono ?_; rintro e w' ⟨rfl, rfl⟩
  go_wp2_with fail
  refine (inverse _ _ (by omega) (by omega)).mono ?_; rintro e w' ⟨rfl, rfl⟩
  go_wp2_with fail
  refine (times _ _ _ (by omega) (by omega) q.1 q.2).mono ?_; rintro e w' ⟨rfl, rfl⟩
  go_wp2_with fail
  go_ret
  exact ⟨rfl, rfl⟩



/-- the number nearest to 0 -/
def sg (a : Int) : Int := if 1073741823 < a then a - 2147483647 else a
theorem sg_hi {a : Int} (h : 1073741823 < a) : a - 2147483647 = sg a := by unfold sg; rw [if_pos h]
theorem sg_lo {a : Int} (h : ¬ 1073741823 < a) : a = sg a := by unfold sg; rw [if_neg h]

theorem specSigned (a : Int) (w : World) (a0 : -9223372036854775808 ≤ a) (a1 : a ≤ 9223372036854775807) :
    Calls Try.prog 48 #[.int .i64 a] w fun e w' => e = .returned (.int .i64 (sg (a % 2147483647))) ∧ w' = w := by
  by_cases h : 1073741823 < a % 2147483647
  · have e := hide (sg_hi h)
    go_enter Try.func48, Try.ntmps48
    go_wp2_with fail
    refine (specMod _ _ a0 a1).mono ?_; rintro e w' ⟨rfl, rfl⟩
    go_wp2_with fail
    go_ret
    exact ⟨ret_int e.out, rfl⟩
  · have e := hide (sg_lo h)
    go_enter Try.func48, Try.ntmps48
    go_wp2_with fail
    refine (specMod _ _ a0 a1).mono ?_; rintro e w' ⟨rfl, rfl⟩
    go_wp2_with fail
    go_ret
    exact ⟨ret_int e.out, rfl⟩

theorem implSigned (a : Int) (w : World) (a0 : -9223372036854775808 ≤ a) (a1 : a ≤ 9223372036854775807) :
    Calls Try.prog 60 #[.int .i64 a] w fun e w' => e = .returned (.int .i64 (sg (a % 2147483647))) ∧ w' = w := by
  by_cases h : 1073741823 < a % 2147483647
  · have e := hide (sg_hi h)
    go_enter Try.func60, Try.ntmps60
    go_wp2_with fail
    refine (residueOf _ _ a0 a1).mono ?_; rintro e w' ⟨rfl, rfl⟩
    go_wp2
    go_ret
    exact ⟨ret_int e.out, rfl⟩
  · have e := hide (sg_lo h)
    go_enter Try.func60, Try.ntmps60
    go_wp2_with fail
    refine (residueOf _ _ a0 a1).mono ?_; rintro e w' ⟨rfl, rfl⟩
    go_wp2
    go_ret
    exact ⟨ret_int e.out, rfl⟩

end Base
end Go.Proofs.Ytejfodkobfdelaa
