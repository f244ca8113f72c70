/- A quotient to the nearest whole number; the program's nearMult, wideTimes. -/
import Derived.Test.YtnnjkanmcfjblaaDx
import Derived.Test.YtnnjkanmcfjblaaIe
namespace Go.Proofs.Ytnnjkanmcfjblaa
namespace Vo
open Go.ChangeShapes Go.WideShapes Go.ChangeAt Go.RowKit Go.Joins Go.Sort
open Vl
set_option linter.unusedVariables false
set_option linter.unusedSimpArgs false
/-- up or down -/
def nup (q r d : Int) : Prop := d - r < r ∨ (r = d - r ∧ q % 2 = 1)
instance (q r d : Int) : Decidable (nup q r d) := by unfold nup; infer_instance
def nrd (q r d : Int) : Int := if nup q r d then q + 1 else q
/-- n / d to the nearest whole number, of two as near the even one -/
def nea (d n : Int) : Int := nrd (n / d) (n % d) d
theorem nea_ge (d n : Int) : n / d ≤ nea d n ∧ nea d n ≤ n / d + 1 := by unfold nea nrd; split <;> omega
theorem nea_mono {d n m : Int} (hd : 0 < d) (h : n ≤ m) : nea d n ≤ nea d m := by
  have h1 : n / d ≤ m / d := Int.ediv_le_ediv hd h
  have g1 := nea_ge d n
  have g2 := nea_ge d m
  by_cases c : n / d = m / d
  · have e1 := Int.emod_add_mul_ediv n d
    have e2 := Int.emod_add_mul_ediv m d
    rw [c] at e1
    have hr : n % d ≤ m % d := by omega
    unfold nea nrd
    rw [c]
    by_cases u1 : nup (m / d) (n % d) d
    · rw [if_pos u1]
      by_cases u2 : nup (m / d) (m % d) d
      · rw [if_pos u2]; omega
      · exfalso
        unfold nup at u1 u2
        omega
    · rw [if_neg u1]
      split <;> omega
  · omega
/-- what nearMult answers -/
def nmV (d n : Int) : Value := if nea d n ≤ 2147483648 then .tuple #[.int .i64 (nea d n), .bool true] else .tuple #[.int .i64 0, .bool false]
theorem nm_yes {d n : Int} (h : nea d n ≤ 2147483648) : nmV d n = .tuple #[.int .i64 (nea d n), .bool true] := if_pos h
theorem nm_no {d n : Int} (h : 2147483648 < nea d n) : nmV d n = .tuple #[.int .i64 0, .bool false] := if_neg (by omega)
set_option maxHeartbeats 4000000 in
theorem nearMultF (h l d : Nat) (w : World) (hl : l < 18446744073709551616) (hh : h < 18446744073709551616) (d0 : 0 < d) (d1 : d < 9223372036854775808) :
    Calls Try.prog 18 #[.agg #[.int .u64 h, .int .u64 l], .int .u64 d] w fun e w' => e = .returned (nmV d ((h : Int) * 18446744073709551616 + l)) ∧ Below w.heap.size w w' := by
  by_cases c : d ≤ h
  · have f := hide (nm_no (d := (d : Int)) (n := (h : Int) * 18446744073709551616 + l) (by
      have h1 : 18446744073709551616 ≤ ((h : Int) * 18446744073709551616 + l) / (d : Int) := (Int.le_ediv_iff_mul_le (by omega)).2 (by omega)
      have := nea_ge (d : Int) ((h : Int) * 18446744073709551616 + l)
      omega))
    have c' : decide ((d : Int) ≤ (h : Int)) = true := decide_eq_true (by omega)
    have c'' : decide (d ≤ h) = true := decide_eq_true c
    clear c
    rw [f.out]
    go_enter Try.func18, Try.ntmps18
    go_wp2_with fail
    go_ret2
    exact ⟨rfl, (Below.refl _ _).alloc (Nat.le_refl _) _⟩
  · have CD := hide (fun w => div64F h l d w hl (by omega) d1)
    obtain ⟨N, hN⟩ : ∃ N, (h : Int) * 18446744073709551616 + l = N := ⟨_, rfl⟩
    rw [hN] at CD ⊢
    have N0 : 0 ≤ N := by omega
    have r0 : 0 ≤ N % (d : Int) := Int.emod_nonneg _ (by omega)
    have r1 : N % (d : Int) < d := Int.emod_lt_of_pos _ (by omega)
    have q0 : 0 ≤ N / (d : Int) := Int.ediv_nonneg N0 (by omega)
    have q1 : N / (d : Int) < 18446744073709551616 := Int.ediv_lt_of_lt_mul (by omega) (by
      rw [← hN]
      have : ((h : Int) + 1) * 18446744073709551616 ≤ (d : Int) * 18446744073709551616 := by omega
      rw [Int.mul_comm 18446744073709551616]
      omega)
    have EN : Hid (nea d N = nrd (N / (d : Int)) (N % (d : Int)) d) := hide rfl
    have ED := hide (show ∀ v, nea d N ≤ 2147483648 → nea d N = v → nmV d N = .tuple #[.int .i64 v, .bool true] from fun v h1 h2 => by rw [nm_yes h1, h2])
    have EE := hide (show 2147483648 < nea d N → nmV d N = .tuple #[.int .i64 0, .bool false] from fun h1 => nm_no h1)
    have c' : decide ((d : Int) ≤ (h : Int)) = false := decide_eq_false (by omega)
    have c'' : decide (d ≤ h) = false := decide_eq_false c
    obtain ⟨P, hP⟩ : ∃ P, nmV d N = P := ⟨_, rfl⟩
    rw [hP] at ED EE ⊢
    clear hP
    obtain ⟨E, hE⟩ : ∃ E, nea d N = E := ⟨_, rfl⟩
    rw [hE] at EN ED EE
    clear hE hN N0 c hl hh
    generalize hQ : N / (d : Int) = Q at *
    generalize hR : N % (d : Int) = R at *
    clear hQ hR
    obtain ⟨D, hD⟩ : ∃ D, (d : Int) - R = D := ⟨_, rfl⟩
    have wD : IntKind.u64.wrap ((d : Int) - R) = D := by rw [hD, IntKind.wrap_u64]; omega
    have HD := hide hD
    clear hD
    by_cases c0 : 2147483649 < Q
    · skip
      by_cases k1 : D < R
      · skip
        have d1 : decide (D < R) = true := decide_eq_true k1
        have fe := hide (EE.out (by have h1 := EN.out; unfold nrd at h1; split at h1 <;> omega))
        clear EN HD k1
        go_enter Try.func18, Try.ntmps18
        go_wp2_with fail
        refine (CD.out _).mono ?_; rintro e w1 ⟨rfl, b1⟩
        have B1 := hide (((Below.refl _ _).alloc (Nat.le_refl _) _).trans (b1.mono (by simp)))
        clear b1
        go_wp2_with fail
        go_ret2
        exact ⟨by rw [fe.out]; rfl, B1.out⟩
      · by_cases k2 : R = D
        · skip
          obtain rfl : D = R := k2.symm
          have fe := hide (EE.out (by have h1 := EN.out; unfold nrd at h1; split at h1 <;> omega))
          clear EN HD k1
          go_enter Try.func18, Try.ntmps18
          go_wp2_with fail
          refine (CD.out _).mono ?_; rintro e w1 ⟨rfl, b1⟩
          have B1 := hide (((Below.refl _ _).alloc (Nat.le_refl _) _).trans (b1.mono (by simp)))
          clear b1
          go_wp2_with fail
          go_ret2
          exact ⟨by rw [fe.out]; rfl, B1.out⟩
        · skip
          have d1 : decide (D < R) = false := decide_eq_false k1
          have d2 : (R == D) = false := by rw [beq_eq_false_iff_ne]; exact k2
          have fe := hide (EE.out (by have h1 := EN.out; unfold nrd at h1; split at h1 <;> omega))
          clear EN HD k1 k2
          go_enter Try.func18, Try.ntmps18
          go_wp2_with fail
          refine (CD.out _).mono ?_; rintro e w1 ⟨rfl, b1⟩
          have B1 := hide (((Below.refl _ _).alloc (Nat.le_refl _) _).trans (b1.mono (by simp)))
          clear b1
          go_wp2_with fail
          go_ret2
          exact ⟨by rw [fe.out]; rfl, B1.out⟩
    · have x0 : Q ≤ 2147483649 := by omega
      have mn : min Q 2147483649 = Q := by omega
      by_cases k1 : D < R
      · skip
        have d1 : decide (D < R) = true := decide_eq_true k1
        have en := hide (show E = Q + 1 from EN.out.trans (if_pos (.inl (by have := HD.out; omega))))
        by_cases k9 : 2147483648 < Q + 1
        · have fe := hide (EE.out (by rw [en.out]; exact k9))
          have d9 : decide (2147483648 < Q + 1) = true := decide_eq_true k9
          clear EN HD k1
          go_enter Try.func18, Try.ntmps18
          go_wp2_with fail
          refine (CD.out _).mono ?_; rintro e w1 ⟨rfl, b1⟩
          have B1 := hide (((Below.refl _ _).alloc (Nat.le_refl _) _).trans (b1.mono (by simp)))
          clear b1
          go_wp2_with fail
          go_ret2
          exact ⟨by rw [fe.out]; rfl, B1.out⟩
        · have fe := hide (ED.out _ (by rw [en.out]; omega) en.out)
          have d9 : decide (2147483648 < Q + 1) = false := decide_eq_false k9
          clear EN HD k1
          go_enter Try.func18, Try.ntmps18
          go_wp2_with fail
          refine (CD.out _).mono ?_; rintro e w1 ⟨rfl, b1⟩
          have B1 := hide (((Below.refl _ _).alloc (Nat.le_refl _) _).trans (b1.mono (by simp)))
          clear b1
          go_wp2_with fail
          go_ret2
          exact ⟨by rw [fe.out]; rfl, B1.out⟩
      · by_cases k2 : R = D
        · by_cases k3 : Q % 2 = 1
          · skip
            obtain rfl : D = R := k2.symm
            have d3 : ((Q.tmod 2) == 1) = true := by rw [beq_iff_eq, Int.tmod_eq_emod_of_nonneg q0]; exact k3
            have en := hide (show E = Q + 1 from EN.out.trans (if_pos (.inr ⟨by have := HD.out; omega, k3⟩)))
            by_cases k9 : 2147483648 < Q + 1
            · have fe := hide (EE.out (by rw [en.out]; exact k9))
              have d9 : decide (2147483648 < Q + 1) = true := decide_eq_true k9
              clear EN HD k1
              go_enter Try.func18, Try.ntmps18
              go_wp2_with fail
              refine (CD.out _).mono ?_; rintro e w1 ⟨rfl, b1⟩
              have B1 := hide (((Below.refl _ _).alloc (Nat.le_refl _) _).trans (b1.mono (by simp)))
              clear b1
              go_wp2_with fail
              go_ret2
              exact ⟨by rw [fe.out]; rfl, B1.out⟩
            · have fe := hide (ED.out _ (by rw [en.out]; omega) en.out)
              have d9 : decide (2147483648 < Q + 1) = false := decide_eq_false k9
              clear EN HD k1
              go_enter Try.func18, Try.ntmps18
              go_wp2_with fail
              refine (CD.out _).mono ?_; rintro e w1 ⟨rfl, b1⟩
              have B1 := hide (((Below.refl _ _).alloc (Nat.le_refl _) _).trans (b1.mono (by simp)))
              clear b1
              go_wp2_with fail
              go_ret2
              exact ⟨by rw [fe.out]; rfl, B1.out⟩
          · skip
            obtain rfl : D = R := k2.symm
            have d3 : ((Q.tmod 2) == 1) = false := by rw [beq_eq_false_iff_ne, Int.tmod_eq_emod_of_nonneg q0]; exact k3
            have en := hide (show E = Q from EN.out.trans (if_neg (fun h => h.elim (fun h => by have := HD.out; omega) (fun h => k3 h.2))))
            by_cases k9 : 2147483648 < Q
            · exfalso; omega
            · have fe := hide (ED.out _ (by rw [en.out]; omega) en.out)
              have d9 : decide (2147483648 < Q) = false := decide_eq_false k9
              clear EN HD k1
              go_enter Try.func18, Try.ntmps18
              go_wp2_with fail
              refine (CD.out _).mono ?_; rintro e w1 ⟨rfl, b1⟩
              have B1 := hide (((Below.refl _ _).alloc (Nat.le_refl _) _).trans (b1.mono (by simp)))
              clear b1
              go_wp2_with fail
              go_ret2
              exact ⟨by rw [fe.out]; rfl, B1.out⟩
        · skip
          have d1 : decide (D < R) = false := decide_eq_false k1
          have d2 : (R == D) = false := by rw [beq_eq_false_iff_ne]; exact k2
          have en := hide (show E = Q from EN.out.trans (if_neg (fun h => h.elim (fun h => by have := HD.out; omega) (fun h => k2 (by have := HD.out; omega)))))
          by_cases k9 : 2147483648 < Q
          · have fe := hide (EE.out (by rw [en.out]; exact k9))
            have d9 : decide (2147483648 < Q) = true := decide_eq_true k9
            clear EN HD k1 k2
            go_enter Try.func18, Try.ntmps18
            go_wp2_with fail
            refine (CD.out _).mono ?_; rintro e w1 ⟨rfl, b1⟩
            have B1 := hide (((Below.refl _ _).alloc (Nat.le_refl _) _).trans (b1.mono (by simp)))
            clear b1
            go_wp2_with fail
            go_ret2
            exact ⟨by rw [fe.out]; rfl, B1.out⟩
          · have fe := hide (ED.out _ (by rw [en.out]; omega) en.out)
            have d9 : decide (2147483648 < Q) = false := decide_eq_false k9
            clear EN HD k1 k2
            go_enter Try.func18, Try.ntmps18
            go_wp2_with fail
            refine (CD.out _).mono ?_; rintro e w1 ⟨rfl, b1⟩
            have B1 := hide (((Below.refl _ _).alloc (Nat.le_refl _) _).trans (b1.mono (by simp)))
            clear b1
            go_wp2_with fail
            go_ret2
            exact ⟨by rw [fe.out]; rfl, B1.out⟩
theorem wideTimesF (x y : Nat) (w : World) (hx : x < 18446744073709551616) (hy : y < 18446744073709551616) :
    Calls Try.prog 17 #[.int .u64 x, .int .u64 y] w fun e w' => e = .returned (.agg #[.int .u64 ((x * y / 18446744073709551616 : Nat) : Int), .int .u64 ((x * y % 18446744073709551616 : Nat) : Int)]) ∧ Below w.heap.size w w' := by
  have C := hide (fun w => Try.bits_Mul64 x y hx hy w)
  obtain ⟨a, ha⟩ : ∃ a : Int, ((x * y / 18446744073709551616 : Nat) : Int) = a := ⟨_, rfl⟩
  obtain ⟨b, hb⟩ : ∃ b : Int, ((x * y % 18446744073709551616 : Nat) : Int) = b := ⟨_, rfl⟩
  rw [ha, hb] at C ⊢
  clear ha hb
  go_enter Try.func17, Try.ntmps17
  go_wp2_with fail
  refine (C.out _).mono ?_; rintro e w1 ⟨rfl, rfl⟩
  go_wp2_with fail
  exact bodyPost_ret (v := .agg #[.int .u64 a, .int .u64 b]) (by simp [results, Try.results17, go_sem]) rfl ⟨rfl, (Below.refl _ _).alloc (Nat.le_refl _) _⟩
end Vo
end Go.Proofs.Ytnnjkanmcfjblaa
