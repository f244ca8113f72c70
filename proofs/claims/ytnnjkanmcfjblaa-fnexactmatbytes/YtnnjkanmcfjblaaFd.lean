/- Factor of the model, where all is as it should be (tools/gen14.py writes this out of Fd.part). -/
import Derived.Test.YtnnjkanmcfjblaaFc
namespace Go.Proofs.Ytnnjkanmcfjblaa
namespace Vo
open Go.ChangeShapes Go.WideShapes Go.ChangeAt Go.RowKit Go.Joins Go.Sort
open Vl
set_option linter.unusedVariables false
set_option linter.unusedSimpArgs false
/-- where the search stands behind k rounds -/
def FSt (P d k : Nat) (q r m : Int) : Prop := q = qk P d k ∧ r = rk P d k ∧ m = mlt P d k ∧ ∀ j, j < k → fit P d j
theorem wid' {x : Int} (h : -9223372036854775808 ≤ x ∧ x ≤ 9223372036854775807) : IntKind.i64.wrap x = x := by rw [IntKind.wrap_i64]; omega
/-- what the model's Factor comes to -/
def FacE (P d : Nat) (w : World) (e : Ending) (w' : World) : Prop := ∃ m s b, e = .returned (.tuple #[.int .i64 m, .int .i64 s, .bool b]) ∧ FacR P d m s b ∧ Below w.heap.size w w'
set_option maxHeartbeats 2000000 in
theorem sFac_loop (sa za sb zb sc zc : Int) (P d : Nat) (dd p q0 r0 : Int) (w : World) (g1 : scOk sa za = true) (g2 : scOk sb zb = true) (g3 : scOk sc zc = true) (f4 : decide (16777216 < sa) = false) (f5 : decide (16777216 < sb) = false) (f6 : decide (16777216 < sc) = false)
    (h1 : IntKind.i64.wrap (65536 * sc) = dd) (h2 : IntKind.i64.wrap (sa * sb) = p) (h3 : p.tdiv dd = q0) (h4 : IntKind.i64.wrap q0 = q0) (h5 : p.tmod dd = r0) (dz : (dd == 0) = false) (d0 : 1 ≤ dd) (d1 : dd ≤ 1099511627776) (hd : (d : Int) = dd) (hP : P ≤ 281474976710656) (hs : FSt P d 0 q0 r0 0) :
    Calls Try.prog 5 #[.agg #[.int .i64 sa, .int .i64 za], .agg #[.int .i64 sb, .int .i64 zb], .agg #[.int .i64 sc, .int .i64 zc]] w (FacE P d w) := by
  have G1 := hide g1
  have G2 := hide g2
  have G3 := hide g3
  have HS := hide hs
  have HD := hide hd
  have HP := hide hP
  have d00 : Hid (0 < d) := hide (by omega)
  clear g1 g2 g3 hs hd hP
  obtain ⟨WA, hWA⟩ : ∃ WA, w.alloc (.cells #[.int .i64 sa, .int .i64 za] 26) = WA := ⟨_, rfl⟩
  have nWA : Below w.heap.size w WA := hWA ▸ (Below.refl _ _).alloc (Nat.le_refl _) _
  have mWA : Box2 WA w.heap.size sa za := hWA ▸ box2_new _ _ _ _
  obtain ⟨WB, hWB⟩ : ∃ WB, WA.alloc (.cells #[.int .i64 sb, .int .i64 zb] 26) = WB := ⟨_, rfl⟩
  have nWB : Below WA.heap.size WA WB := hWB ▸ (Below.refl _ _).alloc (Nat.le_refl _) _
  have mWB : Box2 WB WA.heap.size sb zb := hWB ▸ box2_new _ _ _ _
  obtain ⟨WC, hWC⟩ : ∃ WC, WB.alloc (.cells #[.int .i64 sc, .int .i64 zc] 26) = WC := ⟨_, rfl⟩
  have nWC : Below WB.heap.size WB WC := hWC ▸ (Below.refl _ _).alloc (Nat.le_refl _) _
  have mWC : Box2 WC WB.heap.size sc zc := hWC ▸ box2_new _ _ _ _
  have BL : Hid (Below w.heap.size w WC) := hide (((nWA).trans (nWB.mono (nWA).size)).trans (nWC.mono ((nWA).trans (nWB.mono (nWA).size)).size))
  have KA := hide (((mWA).below nWB).below nWC)
  have KB := hide ((mWB).below nWC)
  have KC := hide (mWC)
  clear nWA mWA
  clear nWB mWB
  clear nWC mWC
  obtain ⟨-, cA0, cA1⟩ := KA.out
  obtain ⟨-, cB0, cB1⟩ := KB.out
  obtain ⟨-, cC0, cC1⟩ := KC.out
  go_enter Try.func5, Try.ntmps5
  go_wp2_with fail
  refine (gScaleS sa za true G1.out _).mono ?_
  rintro e1 w1 ⟨rfl, q1⟩
  replace KA := hide (KA.out.below q1)
  clear cA0 cA1
  obtain ⟨-, cA0, cA1⟩ := KA.out
  replace KB := hide (KB.out.below q1)
  clear cB0 cB1
  obtain ⟨-, cB0, cB1⟩ := KB.out
  replace KC := hide (KC.out.below q1)
  clear cC0 cC1
  obtain ⟨-, cC0, cC1⟩ := KC.out
  replace BL := hide (BL.out.trans (q1.mono BL.out.size))
  clear q1
  go_wp2_with fail
  refine (gScaleS sb zb true G2.out _).mono ?_
  rintro e1 w2 ⟨rfl, q2⟩
  replace KA := hide (KA.out.below q2)
  clear cA0 cA1
  obtain ⟨-, cA0, cA1⟩ := KA.out
  replace KB := hide (KB.out.below q2)
  clear cB0 cB1
  obtain ⟨-, cB0, cB1⟩ := KB.out
  replace KC := hide (KC.out.below q2)
  clear cC0 cC1
  obtain ⟨-, cC0, cC1⟩ := KC.out
  replace BL := hide (BL.out.trans (q2.mono BL.out.size))
  clear q2
  go_wp2_with fail
  refine (gScaleS sc zc true G3.out _).mono ?_
  rintro e1 w3 ⟨rfl, q3⟩
  replace KA := hide (KA.out.below q3)
  clear cA0 cA1
  obtain ⟨-, cA0, cA1⟩ := KA.out
  replace KB := hide (KB.out.below q3)
  clear cB0 cB1
  obtain ⟨-, cB0, cB1⟩ := KB.out
  replace KC := hide (KC.out.below q3)
  clear cC0 cC1
  obtain ⟨-, cC0, cC1⟩ := KC.out
  replace BL := hide (BL.out.trans (q3.mono BL.out.size))
  clear q3
  go_wp2_with fail
  go_loopw [10, 11, 12, 13, 14] (fun q r m s k wx => ∃ (k' : Nat) (q' r' m' : Int), q = .int .i64 q' ∧ r = .int .i64 r' ∧ m = .int .i64 m' ∧ s = .int .i64 ((k' : Int) - 1) ∧ k = .int .i64 (k' : Int) ∧ k' ≤ 63 ∧ FSt P d k' q' r' m' ∧ wx = w3) (fun _ _ _ _ k _ => 63 - (intOf k).toNat)
  case atStart => exact ⟨0, q0, r0, 0, rfl, rfl, rfl, rfl, rfl, by omega, HS.out, rfl⟩
  case round =>
    obtain ⟨k, q, r, m0, rfl, rfl, rfl, rfl, rfl, hk, hst, hw3⟩ := hrel
    have hw3 := hw3.symm
    subst hw3
    have ST := hide hst
    clear hst h1 h2 h3 h4 h5 f4 f5 f6 cA0 cA1 cB0 cB1 cC0 cC1 HS
    by_cases c1 : k ≤ 62
    · have kI : (k : Int) ≤ 62 := by omega
      have RR := hide (show 0 ≤ r ∧ r < dd by
        obtain ⟨-, e2, -, -⟩ := ST.out
        have := rk_rng P d k d00.out
        rw [← e2, HD.out] at this
        exact this)
      have QR := hide (show 0 ≤ q ∧ q ≤ 281474976710656 by
        obtain ⟨e1, -, -, hf⟩ := ST.out
        have := qk_bd P d k d00.out HP.out hf
        rw [← e1] at this
        exact this)
      have CR := hide (fun w => Nea.round q r dd w RR.out.1 RR.out.2 (by omega) (by have := QR.out; omega) (by have := QR.out; omega) (by have := QR.out; omega))
      obtain ⟨m, hm⟩ : ∃ m, Nea.rd q r dd = m := ⟨_, rfl⟩
      have M1 := hide (show mlt P d (k + 1) = m by
        obtain ⟨e1, e2, -, -⟩ := ST.out
        show nea d (P * 2 ^ k : Nat) = m
        rw [nea_is, ← e1, ← e2, HD.out]; exact hm)
      have FI := hide (show fit P d k ↔ m ≤ 2147483648 by
        show nea d (P * 2 ^ k : Nat) ≤ 2147483648 ↔ _
        rw [show nea d (P * 2 ^ k : Nat) = m from M1.out])
      rw [hm] at CR
      clear hm
      by_cases c2 : m ≤ 2147483648
      · have NF := hide (show ∀ j, j < k + 1 → fit P d j from fun j hj => by
          by_cases ej : j = k
          · subst ej; exact FI.out.2 c2
          · exact ST.out.2.2.2 j (by omega))
        by_cases c3 : dd ≤ 2 * r
        · have NX := hide (show FSt P d (k + 1) (2 * q + 1) (2 * r - dd) m by
            obtain ⟨e1, e2, -, -⟩ := ST.out
            obtain ⟨x1, x2⟩ := (dbl P d k d00.out).1 (by rw [← e2, HD.out]; exact c3)
            exact ⟨by rw [x1, e1], by rw [x2, ← e2, HD.out], M1.out.symm, NF.out⟩)
          have w1 : IntKind.i64.wrap (2 * q) = 2 * q := wid' (by have := QR.out; omega)
          have w2 : IntKind.i64.wrap (2 * r) = 2 * r := wid' (by have := RR.out; omega)
          have w3 : IntKind.i64.wrap (2 * q + 1) = 2 * q + 1 := wid' (by have := QR.out; omega)
          have w4 : IntKind.i64.wrap (2 * r - dd) = 2 * r - dd := wid' (by have := RR.out; omega)
          clear ST FI M1 NF RR QR
          go_wp2_with fail
          refine (CR.out _).mono ?_; rintro e1' w5 ⟨rfl, hq⟩; have hq := hq.symm; subst hq
          go_wp2_with fail
          refine (CR.out _).mono ?_; rintro e1' w5 ⟨rfl, hq⟩; have hq := hq.symm; subst hq
          go_wp2_with fail
          go_roundw
          case rel => exact ⟨k + 1, 2 * q + 1, 2 * r - dd, m, rfl, rfl, rfl, by go_num, by go_num, by omega, NX.out, trivial⟩
          case measure => simp [intOf]; omega
        · have NX := hide (show FSt P d (k + 1) (2 * q) (2 * r) m by
            obtain ⟨e1, e2, -, -⟩ := ST.out
            obtain ⟨x1, x2⟩ := (dbl P d k d00.out).2 (by rw [← e2, HD.out]; exact c3)
            exact ⟨by rw [x1, e1], by rw [x2, ← e2], M1.out.symm, NF.out⟩)
          have w1 : IntKind.i64.wrap (2 * q) = 2 * q := wid' (by have := QR.out; omega)
          have w2 : IntKind.i64.wrap (2 * r) = 2 * r := wid' (by have := RR.out; omega)
          have d3 : decide (dd ≤ 2 * r) = false := decide_eq_false c3
          clear ST FI M1 NF RR QR c3
          go_wp2_with fail
          refine (CR.out _).mono ?_; rintro e1' w5 ⟨rfl, hq⟩; have hq := hq.symm; subst hq
          go_wp2_with fail
          refine (CR.out _).mono ?_; rintro e1' w5 ⟨rfl, hq⟩; have hq := hq.symm; subst hq
          go_wp2_with fail
          go_roundw
          case rel => exact ⟨k + 1, 2 * q, 2 * r, m, rfl, rfl, rfl, by go_num, by go_num, by omega, NX.out, trivial⟩
          case measure => simp [intOf]; omega
      · have d2 : decide (m ≤ 2147483648) = false := decide_eq_false c2
        have NF := hide (show ¬ fit P d k from fun h => c2 (FI.out.1 h))
        clear c2 FI M1 RR QR
        rcases k with _ | k
        · have FR := hide (show FacR P d 0 0 false from .inr ⟨rfl, rfl, rfl, NF.out⟩)
          clear NF ST
          go_wp2_with fail
          refine (CR.out _).mono ?_; rintro e1' w5 ⟨rfl, hq⟩; have hq := hq.symm; subst hq
          go_wp2_with fail
          exact bodyPost_ret (v := .tuple #[.int .i64 0, .int .i64 0, .bool false]) (by simp [results, Try.results5, go_sem]) rfl ⟨_, _, _, rfl, FR.out, BL.out⟩
        · have FR := hide (show FacR P d m0 k true from .inl ⟨k, by omega, rfl, ST.out.2.2.1, rfl, ST.out.2.2.2 k (by omega), fun j h1 h2 h3 => NF.out (fit_mono d00.out (by omega) h3)⟩)
          rw [show ((k + 1 : Nat) : Int) - 1 = (k : Int) by omega]
          have kz : decide ((k : Int) < 0) = false := decide_eq_false (by omega)
          have kc : ((k + 1 : Nat) : Int) = (k : Int) + 1 := by omega
          clear NF ST
          go_wp2_with fail
          refine (CR.out _).mono ?_; rintro e1' w5 ⟨rfl, hq⟩; have hq := hq.symm; subst hq
          go_wp2_with fail
          exact bodyPost_ret (v := .tuple #[.int .i64 m0, .int .i64 (k : Int), .bool true]) (by simp [results, Try.results5, go_sem]) rfl ⟨_, _, _, rfl, FR.out, BL.out⟩
    · obtain rfl : k = 63 := by omega
      have FR := hide (show FacR P d m0 62 true from .inl ⟨62, by omega, rfl, ST.out.2.2.1, rfl, ST.out.2.2.2 62 (by omega), fun j h1 h2 => by omega⟩)
      clear ST
      go_wp2_with fail
      exact bodyPost_ret (v := .tuple #[.int .i64 m0, .int .i64 62, .bool true]) (by simp [results, Try.results5, go_sem]) rfl ⟨_, _, _, rfl, FR.out, BL.out⟩
theorem sFac_yes (sa za sb zb sc zc : Int) (P d : Nat) (w : World) (g1 : scOk sa za = true) (g2 : scOk sb zb = true) (g3 : scOk sc zc = true) (g4 : sa ≤ 16777216) (g5 : sb ≤ 16777216) (g6 : sc ≤ 16777216) (hP : sa * sb = (P : Int)) (hd : 65536 * sc = (d : Int)) (P1 : P ≤ 281474976710656) (d0 : 0 < d) (d1 : d ≤ 1099511627776) :
    Calls Try.prog 5 #[.agg #[.int .i64 sa, .int .i64 za], .agg #[.int .i64 sb, .int .i64 zb], .agg #[.int .i64 sc, .int .i64 zc]] w (FacE P d w) := by
  have q0 : 0 ≤ (P : Int) / (d : Int) := Int.ediv_nonneg (by omega) (by omega)
  have q1 : (P : Int) / (d : Int) ≤ (P : Int) := Int.ediv_le_self _ (by omega)
  have e0 : ((P * 2 ^ 0 : Nat) : Int) = (P : Int) := by rw [Nat.pow_zero, Nat.mul_one]
  refine sFac_loop sa za sb zb sc zc P d (d : Int) (P : Int) (qk P d 0) (rk P d 0) w g1 g2 g3 (decide_eq_false (by omega)) (decide_eq_false (by omega)) (decide_eq_false (by omega)) (by rw [hd]; exact wid' (by omega)) (by rw [hP]; exact wid' (by omega)) ?_ ?_ ?_ (beq_eq_false_iff_ne.2 (by omega)) (by omega) (by omega) rfl P1 ⟨rfl, rfl, rfl, fun j hj => by omega⟩
  · rw [Int.tdiv_eq_ediv_of_nonneg (by omega)]; unfold qk; rw [e0]
  · unfold qk; rw [e0]; exact wid' (by omega)
  · rw [Int.tmod_eq_emod_of_nonneg (by omega)]; unfold rk; rw [e0]
end Vo
end Go.Proofs.Ytnnjkanmcfjblaa
