/- math/bits.Div64, walked. -/
import Derived.Test.YtnnjkanmcfjblaaDv
import Derived.Test.YtnnjkanmcfjblaaShelf
import Derived.BigQuiet
namespace Go.Proofs.Ytnnjkanmcfjblaa
namespace Vo
open Go.ChangeShapes Go.WideShapes Go.ChangeAt Go.RowKit Go.Joins Go.Sort
open Vl
set_option linter.unusedVariables false
set_option linter.unusedSimpArgs false
set_option maxHeartbeats 4000000 in
theorem divWalk (hi lo y L Y y1 y0 U u10 u1 u0 q10 m10 r10 Qa G1 G2 G3 R1 q20 m20 r20 Qb F1 QQ F3 F4 F5 F6 RR : Int) (w : World) (yz : ¬ y = 0) (hy : hi < y) (hz : ¬ hi = 0) (L0 : 0 ≤ L) (L1 : L ≤ 63)
    (hLz : ∀ w, Calls Try.prog 42 #[.int .u64 y] w fun e w' => e = .returned (.int .i64 L) ∧ w' = w)
    (h1 : IntKind.u64.wrap (y * 2 ^ L.toNat) = Y) (h2 : Y / 4294967296 = y1) (h3 : bits .and .u64 Y 4294967295 = y0)
    (h4 : bits .or .u64 (IntKind.u64.wrap (hi * 2 ^ L.toNat)) (lo / 2 ^ (64 - L).toNat) = U) (h5 : IntKind.u64.wrap (lo * 2 ^ L.toNat) = u10) (h6 : u10 / 4294967296 = u1) (h7 : bits .and .u64 u10 4294967295 = u0)
    (h8 : IntKind.u64.wrap (U.tdiv y1) = q10) (h9 : IntKind.u64.wrap (q10 * y1) = m10) (h10 : IntKind.u64.wrap (U - m10) = r10) (i1 : KI Y y1 U u1 q10 r10) (c1 : KC Y y1 y0 U u1) (eq1 : kq Y U u1 = Qa)
    (g1 : IntKind.u64.wrap (U * 4294967296) = G1) (g2 : IntKind.u64.wrap (G1 + u1) = G2) (g3 : IntKind.u64.wrap (Qa * Y) = G3) (g4 : IntKind.u64.wrap (G2 - G3) = R1)
    (h18 : IntKind.u64.wrap (R1.tdiv y1) = q20) (h19 : IntKind.u64.wrap (q20 * y1) = m20) (h20 : IntKind.u64.wrap (R1 - m20) = r20) (i2 : KI Y y1 R1 u0 q20 r20) (c2 : KC Y y1 y0 R1 u0) (eq2 : kq Y R1 u0 = Qb)
    (f1 : IntKind.u64.wrap (Qa * 4294967296) = F1) (f2 : IntKind.u64.wrap (F1 + Qb) = QQ) (f3 : IntKind.u64.wrap (R1 * 4294967296) = F3) (f4 : IntKind.u64.wrap (F3 + u0) = F4) (f5 : IntKind.u64.wrap (Qb * Y) = F5) (f6 : IntKind.u64.wrap (F4 - F5) = F6) (f7 : F6 / 2 ^ L.toNat = RR) (z1 : ¬ y1 = 0) :
    Calls Try.prog 35 #[.int .u64 hi, .int .u64 lo, .int .u64 y] w fun e w' => e = .returned (.tuple #[.int .u64 QQ, .int .u64 RR]) ∧ w' = w := by
  have HL := hide hLz
  have I1 := hide i1
  have C1 := hide c1
  have I2 := hide i2
  have C2 := hide c2
  have EQ1 := hide eq1
  have EQ2 := hide eq2
  clear hLz i1 c1 i2 c2 eq1 eq2
  have e1 : (y == 0) = false := by simpa using yz
  have e2 : decide (y ≤ hi) = false := decide_eq_false (by omega)
  have e3 : (hi == 0) = false := by simpa using hz
  clear hy yz hz
  go_enter Try.func35, Try.ntmps35
  go_wp2_with fail
  refine (HL.out _).mono ?_; rintro e wz ⟨rfl, hwz⟩
  subst wz
  go_wp2_with fail
  go_loopw [15, 16] (fun q r wx => ∃ q' r' : Int, q = .int .u64 q' ∧ r = .int .u64 r' ∧ Hid (KI Y y1 U u1 q' r') ∧ wx = w) (fun q _ _ => (intOf q).toNat)
  case atStart => exact ⟨_, _, rfl, rfl, I1, rfl⟩
  case round =>
    obtain ⟨q, r, rfl, rfl, hi', rfl⟩ := hrel
    have kk := C1.out
    obtain ⟨⟨t0, t1⟩, ⟨m0, m1⟩, ⟨v0, v1⟩⟩ := KI.fits kk hi'.out
    have q0 := hi'.out.c
    have q1 := hi'.out.d
    have r0 := hi'.out.a
    have r1 := hi'.out.b
    have g0 := kk.g
    have a0 := kk.a
    have a1 := kk.b
    have nn := kq_nn kk
    obtain ⟨T, hT⟩ : ∃ T, q * y0 = T := ⟨_, rfl⟩
    obtain ⟨M, hM⟩ : ∃ M, 4294967296 * r = M := ⟨_, rfl⟩
    obtain ⟨V, hV⟩ : ∃ V, M + u1 = V := ⟨_, rfl⟩
    rw [hT] at t0 t1
    rw [hM, hV] at m1
    rw [hM] at m0
    have w1 : IntKind.u64.wrap (q * y0) = T := by rw [hT, IntKind.wrap_u64]; omega
    have w2 : IntKind.u64.wrap (4294967296 * r) = M := by rw [hM, IntKind.wrap_u64]; omega
    have w3 : IntKind.u64.wrap (M + u1) = V := by rw [hV, IntKind.wrap_u64]; omega
    have w4 : 1 ≤ q → IntKind.u64.wrap (q - 1) = q - 1 := fun h => by rw [IntKind.wrap_u64]; omega
    have w5 : IntKind.u64.wrap (r + y1) = r + y1 := by rw [IntKind.wrap_u64]; omega
    have HT := hide hT
    have HV := hide (show 4294967296 * r + u1 = V by rw [hM]; exact hV)
    have CC := hide kk
    have W4 := hide w4
    have NN := hide nn
    have Q1 := hide q1
    clear hT hM hV kk w4 nn v0 v1 m0 m1 t0 t1 g0 a0 a1 q1
    by_cases c1 : 4294967296 ≤ q
    · have d1 : decide (4294967296 ≤ q) = true := decide_eq_true c1
      have dn := hide (KI.down CC.out hi'.out (.inl c1))
      have p1 : 1 ≤ q := by have := dn.out; have := NN.out; omega
      have w4 := W4.out p1
      by_cases b : 4294967296 ≤ r + y1
      · have ed := hide (KI.brk CC.out hi'.out dn.out b)
        obtain ⟨qq, hqq⟩ : ∃ qq, q - 1 = qq := ⟨_, rfl⟩
        replace w4 := w4.trans hqq
        rw [hqq] at ed
        obtain ⟨rr, hrr⟩ : ∃ rr, r + y1 = rr := ⟨_, rfl⟩
        replace w5 := w5.trans hrr
        rw [hrr] at b
        have BB : decide (4294967296 ≤ rr) = true := decide_eq_true b
        clear hqq hrr b p1
        obtain rfl : qq = Qa := ed.out.trans EQ1.out
        go_wp2_with fail
        go_loopw [18, 16] (fun q r wx => ∃ q' r' : Int, q = .int .u64 q' ∧ r = .int .u64 r' ∧ Hid (KI Y y1 R1 u0 q' r') ∧ wx = wr) (fun q _ _ => (intOf q).toNat)
        case atStart => exact ⟨_, _, rfl, rfl, I2, rfl⟩
        case round =>
          obtain ⟨q, r, rfl, rfl, hi', rfl⟩ := hrel
          have kk := C2.out
          obtain ⟨⟨t0, t1⟩, ⟨m0, m1⟩, ⟨v0, v1⟩⟩ := KI.fits kk hi'.out
          have q0 := hi'.out.c
          have q1 := hi'.out.d
          have r0 := hi'.out.a
          have r1 := hi'.out.b
          have g0 := kk.g
          have a0 := kk.a
          have a1 := kk.b
          have nn := kq_nn kk
          obtain ⟨T, hT⟩ : ∃ T, q * y0 = T := ⟨_, rfl⟩
          obtain ⟨M, hM⟩ : ∃ M, 4294967296 * r = M := ⟨_, rfl⟩
          obtain ⟨V, hV⟩ : ∃ V, M + u0 = V := ⟨_, rfl⟩
          rw [hT] at t0 t1
          rw [hM, hV] at m1
          rw [hM] at m0
          have w1 : IntKind.u64.wrap (q * y0) = T := by rw [hT, IntKind.wrap_u64]; omega
          have w2 : IntKind.u64.wrap (4294967296 * r) = M := by rw [hM, IntKind.wrap_u64]; omega
          have w3 : IntKind.u64.wrap (M + u0) = V := by rw [hV, IntKind.wrap_u64]; omega
          have w4 : 1 ≤ q → IntKind.u64.wrap (q - 1) = q - 1 := fun h => by rw [IntKind.wrap_u64]; omega
          have w5 : IntKind.u64.wrap (r + y1) = r + y1 := by rw [IntKind.wrap_u64]; omega
          have HT := hide hT
          have HV := hide (show 4294967296 * r + u0 = V by rw [hM]; exact hV)
          have CC := hide kk
          have W4 := hide w4
          have NN := hide nn
          have Q1 := hide q1
          clear hT hM hV kk w4 nn v0 v1 m0 m1 t0 t1 g0 a0 a1 q1
          by_cases c1 : 4294967296 ≤ q
          · have d1 : decide (4294967296 ≤ q) = true := decide_eq_true c1
            have dn := hide (KI.down CC.out hi'.out (.inl c1))
            have p1 : 1 ≤ q := by have := dn.out; have := NN.out; omega
            have w4 := W4.out p1
            by_cases b : 4294967296 ≤ r + y1
            · have ed := hide (KI.brk CC.out hi'.out dn.out b)
              obtain ⟨qq, hqq⟩ : ∃ qq, q - 1 = qq := ⟨_, rfl⟩
              replace w4 := w4.trans hqq
              rw [hqq] at ed
              obtain ⟨rr, hrr⟩ : ∃ rr, r + y1 = rr := ⟨_, rfl⟩
              replace w5 := w5.trans hrr
              rw [hrr] at b
              have BB : decide (4294967296 ≤ rr) = true := decide_eq_true b
              clear hqq hrr b p1
              obtain rfl : qq = Qb := ed.out.trans EQ2.out
              go_wp2_with fail
              go_ret2
              exact ⟨rfl, rfl⟩
            · have ni := hide (KI.next CC.out hi'.out dn.out (by omega))
              have ms := hide (show (q - 1).toNat < q.toNat by omega)
              obtain ⟨qq, hqq⟩ : ∃ qq, q - 1 = qq := ⟨_, rfl⟩
              replace w4 := w4.trans hqq
              rw [hqq] at ni ms
              obtain ⟨rr, hrr⟩ : ∃ rr, r + y1 = rr := ⟨_, rfl⟩
              replace w5 := w5.trans hrr
              rw [hrr] at ni b
              have BB : decide (4294967296 ≤ rr) = false := decide_eq_false b
              clear hqq hrr b p1
              go_wp2_with fail
              go_roundw
              case rel => exact ⟨_, _, rfl, rfl, ni, trivial⟩
              case measure => simpa [intOf] using ms.out
          · have d1 : decide (4294967296 ≤ q) = false := decide_eq_false c1
            by_cases c2 : V < T
            · have d2 : decide (V < T) = true := decide_eq_true c2
              have dn := hide (KI.down CC.out hi'.out (.inr (by have := HT.out; have := HV.out; omega)))
              have p1 : 1 ≤ q := by have := dn.out; have := NN.out; omega
              have w4 := W4.out p1
              by_cases b : 4294967296 ≤ r + y1
              · have ed := hide (KI.brk CC.out hi'.out dn.out b)
                obtain ⟨qq, hqq⟩ : ∃ qq, q - 1 = qq := ⟨_, rfl⟩
                replace w4 := w4.trans hqq
                rw [hqq] at ed
                obtain ⟨rr, hrr⟩ : ∃ rr, r + y1 = rr := ⟨_, rfl⟩
                replace w5 := w5.trans hrr
                rw [hrr] at b
                have BB : decide (4294967296 ≤ rr) = true := decide_eq_true b
                clear hqq hrr b p1
                obtain rfl : qq = Qb := ed.out.trans EQ2.out
                go_wp2_with fail
                go_ret2
                exact ⟨rfl, rfl⟩
              · have ni := hide (KI.next CC.out hi'.out dn.out (by omega))
                have ms := hide (show (q - 1).toNat < q.toNat by omega)
                obtain ⟨qq, hqq⟩ : ∃ qq, q - 1 = qq := ⟨_, rfl⟩
                replace w4 := w4.trans hqq
                rw [hqq] at ni ms
                obtain ⟨rr, hrr⟩ : ∃ rr, r + y1 = rr := ⟨_, rfl⟩
                replace w5 := w5.trans hrr
                rw [hrr] at ni b
                have BB : decide (4294967296 ≤ rr) = false := decide_eq_false b
                clear hqq hrr b p1
                go_wp2_with fail
                go_roundw
                case rel => exact ⟨_, _, rfl, rfl, ni, trivial⟩
                case measure => simpa [intOf] using ms.out
            · have d2 : decide (V < T) = false := decide_eq_false c2
              have ed := hide (KI.stop CC.out hi'.out (by have := HT.out; have := HV.out; omega))
              clear c1 c2
              obtain rfl : q = Qb := ed.out.trans EQ2.out
              go_wp2_with fail
              go_ret2
              exact ⟨rfl, rfl⟩
      · have ni := hide (KI.next CC.out hi'.out dn.out (by omega))
        have ms := hide (show (q - 1).toNat < q.toNat by omega)
        obtain ⟨qq, hqq⟩ : ∃ qq, q - 1 = qq := ⟨_, rfl⟩
        replace w4 := w4.trans hqq
        rw [hqq] at ni ms
        obtain ⟨rr, hrr⟩ : ∃ rr, r + y1 = rr := ⟨_, rfl⟩
        replace w5 := w5.trans hrr
        rw [hrr] at ni b
        have BB : decide (4294967296 ≤ rr) = false := decide_eq_false b
        clear hqq hrr b p1
        go_wp2_with fail
        go_roundw
        case rel => exact ⟨_, _, rfl, rfl, ni, trivial⟩
        case measure => simpa [intOf] using ms.out
    · have d1 : decide (4294967296 ≤ q) = false := decide_eq_false c1
      by_cases c2 : V < T
      · have d2 : decide (V < T) = true := decide_eq_true c2
        have dn := hide (KI.down CC.out hi'.out (.inr (by have := HT.out; have := HV.out; omega)))
        have p1 : 1 ≤ q := by have := dn.out; have := NN.out; omega
        have w4 := W4.out p1
        by_cases b : 4294967296 ≤ r + y1
        · have ed := hide (KI.brk CC.out hi'.out dn.out b)
          obtain ⟨qq, hqq⟩ : ∃ qq, q - 1 = qq := ⟨_, rfl⟩
          replace w4 := w4.trans hqq
          rw [hqq] at ed
          obtain ⟨rr, hrr⟩ : ∃ rr, r + y1 = rr := ⟨_, rfl⟩
          replace w5 := w5.trans hrr
          rw [hrr] at b
          have BB : decide (4294967296 ≤ rr) = true := decide_eq_true b
          clear hqq hrr b p1
          obtain rfl : qq = Qa := ed.out.trans EQ1.out
          go_wp2_with fail
          go_loopw [18, 16] (fun q r wx => ∃ q' r' : Int, q = .int .u64 q' ∧ r = .int .u64 r' ∧ Hid (KI Y y1 R1 u0 q' r') ∧ wx = wr) (fun q _ _ => (intOf q).toNat)
          case atStart => exact ⟨_, _, rfl, rfl, I2, rfl⟩
          case round =>
            obtain ⟨q, r, rfl, rfl, hi', rfl⟩ := hrel
            have kk := C2.out
            obtain ⟨⟨t0, t1⟩, ⟨m0, m1⟩, ⟨v0, v1⟩⟩ := KI.fits kk hi'.out
            have q0 := hi'.out.c
            have q1 := hi'.out.d
            have r0 := hi'.out.a
            have r1 := hi'.out.b
            have g0 := kk.g
            have a0 := kk.a
            have a1 := kk.b
            have nn := kq_nn kk
            obtain ⟨T, hT⟩ : ∃ T, q * y0 = T := ⟨_, rfl⟩
            obtain ⟨M, hM⟩ : ∃ M, 4294967296 * r = M := ⟨_, rfl⟩
            obtain ⟨V, hV⟩ : ∃ V, M + u0 = V := ⟨_, rfl⟩
            rw [hT] at t0 t1
            rw [hM, hV] at m1
            rw [hM] at m0
            have w1 : IntKind.u64.wrap (q * y0) = T := by rw [hT, IntKind.wrap_u64]; omega
            have w2 : IntKind.u64.wrap (4294967296 * r) = M := by rw [hM, IntKind.wrap_u64]; omega
            have w3 : IntKind.u64.wrap (M + u0) = V := by rw [hV, IntKind.wrap_u64]; omega
            have w4 : 1 ≤ q → IntKind.u64.wrap (q - 1) = q - 1 := fun h => by rw [IntKind.wrap_u64]; omega
            have w5 : IntKind.u64.wrap (r + y1) = r + y1 := by rw [IntKind.wrap_u64]; omega
            have HT := hide hT
            have HV := hide (show 4294967296 * r + u0 = V by rw [hM]; exact hV)
            have CC := hide kk
            have W4 := hide w4
            have NN := hide nn
            have Q1 := hide q1
            clear hT hM hV kk w4 nn v0 v1 m0 m1 t0 t1 g0 a0 a1 q1
            by_cases c1 : 4294967296 ≤ q
            · have d1 : decide (4294967296 ≤ q) = true := decide_eq_true c1
              have dn := hide (KI.down CC.out hi'.out (.inl c1))
              have p1 : 1 ≤ q := by have := dn.out; have := NN.out; omega
              have w4 := W4.out p1
              by_cases b : 4294967296 ≤ r + y1
              · have ed := hide (KI.brk CC.out hi'.out dn.out b)
                obtain ⟨qq, hqq⟩ : ∃ qq, q - 1 = qq := ⟨_, rfl⟩
                replace w4 := w4.trans hqq
                rw [hqq] at ed
                obtain ⟨rr, hrr⟩ : ∃ rr, r + y1 = rr := ⟨_, rfl⟩
                replace w5 := w5.trans hrr
                rw [hrr] at b
                have BB : decide (4294967296 ≤ rr) = true := decide_eq_true b
                clear hqq hrr b p1
                obtain rfl : qq = Qb := ed.out.trans EQ2.out
                go_wp2_with fail
                go_ret2
                exact ⟨rfl, rfl⟩
              · have ni := hide (KI.next CC.out hi'.out dn.out (by omega))
                have ms := hide (show (q - 1).toNat < q.toNat by omega)
                obtain ⟨qq, hqq⟩ : ∃ qq, q - 1 = qq := ⟨_, rfl⟩
                replace w4 := w4.trans hqq
                rw [hqq] at ni ms
                obtain ⟨rr, hrr⟩ : ∃ rr, r + y1 = rr := ⟨_, rfl⟩
                replace w5 := w5.trans hrr
                rw [hrr] at ni b
                have BB : decide (4294967296 ≤ rr) = false := decide_eq_false b
                clear hqq hrr b p1
                go_wp2_with fail
                go_roundw
                case rel => exact ⟨_, _, rfl, rfl, ni, trivial⟩
                case measure => simpa [intOf] using ms.out
            · have d1 : decide (4294967296 ≤ q) = false := decide_eq_false c1
              by_cases c2 : V < T
              · have d2 : decide (V < T) = true := decide_eq_true c2
                have dn := hide (KI.down CC.out hi'.out (.inr (by have := HT.out; have := HV.out; omega)))
                have p1 : 1 ≤ q := by have := dn.out; have := NN.out; omega
                have w4 := W4.out p1
                by_cases b : 4294967296 ≤ r + y1
                · have ed := hide (KI.brk CC.out hi'.out dn.out b)
                  obtain ⟨qq, hqq⟩ : ∃ qq, q - 1 = qq := ⟨_, rfl⟩
                  replace w4 := w4.trans hqq
                  rw [hqq] at ed
                  obtain ⟨rr, hrr⟩ : ∃ rr, r + y1 = rr := ⟨_, rfl⟩
                  replace w5 := w5.trans hrr
                  rw [hrr] at b
                  have BB : decide (4294967296 ≤ rr) = true := decide_eq_true b
                  clear hqq hrr b p1
                  obtain rfl : qq = Qb := ed.out.trans EQ2.out
                  go_wp2_with fail
                  go_ret2
                  exact ⟨rfl, rfl⟩
                · have ni := hide (KI.next CC.out hi'.out dn.out (by omega))
                  have ms := hide (show (q - 1).toNat < q.toNat by omega)
                  obtain ⟨qq, hqq⟩ : ∃ qq, q - 1 = qq := ⟨_, rfl⟩
                  replace w4 := w4.trans hqq
                  rw [hqq] at ni ms
                  obtain ⟨rr, hrr⟩ : ∃ rr, r + y1 = rr := ⟨_, rfl⟩
                  replace w5 := w5.trans hrr
                  rw [hrr] at ni b
                  have BB : decide (4294967296 ≤ rr) = false := decide_eq_false b
                  clear hqq hrr b p1
                  go_wp2_with fail
                  go_roundw
                  case rel => exact ⟨_, _, rfl, rfl, ni, trivial⟩
                  case measure => simpa [intOf] using ms.out
              · have d2 : decide (V < T) = false := decide_eq_false c2
                have ed := hide (KI.stop CC.out hi'.out (by have := HT.out; have := HV.out; omega))
                clear c1 c2
                obtain rfl : q = Qb := ed.out.trans EQ2.out
                go_wp2_with fail
                go_ret2
                exact ⟨rfl, rfl⟩
        · have ni := hide (KI.next CC.out hi'.out dn.out (by omega))
          have ms := hide (show (q - 1).toNat < q.toNat by omega)
          obtain ⟨qq, hqq⟩ : ∃ qq, q - 1 = qq := ⟨_, rfl⟩
          replace w4 := w4.trans hqq
          rw [hqq] at ni ms
          obtain ⟨rr, hrr⟩ : ∃ rr, r + y1 = rr := ⟨_, rfl⟩
          replace w5 := w5.trans hrr
          rw [hrr] at ni b
          have BB : decide (4294967296 ≤ rr) = false := decide_eq_false b
          clear hqq hrr b p1
          go_wp2_with fail
          go_roundw
          case rel => exact ⟨_, _, rfl, rfl, ni, trivial⟩
          case measure => simpa [intOf] using ms.out
      · have d2 : decide (V < T) = false := decide_eq_false c2
        have ed := hide (KI.stop CC.out hi'.out (by have := HT.out; have := HV.out; omega))
        clear c1 c2
        obtain rfl : q = Qa := ed.out.trans EQ1.out
        go_wp2_with fail
        go_loopw [18, 16] (fun q r wx => ∃ q' r' : Int, q = .int .u64 q' ∧ r = .int .u64 r' ∧ Hid (KI Y y1 R1 u0 q' r') ∧ wx = wr) (fun q _ _ => (intOf q).toNat)
        case atStart => exact ⟨_, _, rfl, rfl, I2, rfl⟩
        case round =>
          obtain ⟨q, r, rfl, rfl, hi', rfl⟩ := hrel
          have kk := C2.out
          obtain ⟨⟨t0, t1⟩, ⟨m0, m1⟩, ⟨v0, v1⟩⟩ := KI.fits kk hi'.out
          have q0 := hi'.out.c
          have q1 := hi'.out.d
          have r0 := hi'.out.a
          have r1 := hi'.out.b
          have g0 := kk.g
          have a0 := kk.a
          have a1 := kk.b
          have nn := kq_nn kk
          obtain ⟨T, hT⟩ : ∃ T, q * y0 = T := ⟨_, rfl⟩
          obtain ⟨M, hM⟩ : ∃ M, 4294967296 * r = M := ⟨_, rfl⟩
          obtain ⟨V, hV⟩ : ∃ V, M + u0 = V := ⟨_, rfl⟩
          rw [hT] at t0 t1
          rw [hM, hV] at m1
          rw [hM] at m0
          have w1 : IntKind.u64.wrap (q * y0) = T := by rw [hT, IntKind.wrap_u64]; omega
          have w2 : IntKind.u64.wrap (4294967296 * r) = M := by rw [hM, IntKind.wrap_u64]; omega
          have w3 : IntKind.u64.wrap (M + u0) = V := by rw [hV, IntKind.wrap_u64]; omega
          have w4 : 1 ≤ q → IntKind.u64.wrap (q - 1) = q - 1 := fun h => by rw [IntKind.wrap_u64]; omega
          have w5 : IntKind.u64.wrap (r + y1) = r + y1 := by rw [IntKind.wrap_u64]; omega
          have HT := hide hT
          have HV := hide (show 4294967296 * r + u0 = V by rw [hM]; exact hV)
          have CC := hide kk
          have W4 := hide w4
          have NN := hide nn
          have Q1 := hide q1
          clear hT hM hV kk w4 nn v0 v1 m0 m1 t0 t1 g0 a0 a1 q1
          by_cases c1 : 4294967296 ≤ q
          · have d1 : decide (4294967296 ≤ q) = true := decide_eq_true c1
            have dn := hide (KI.down CC.out hi'.out (.inl c1))
            have p1 : 1 ≤ q := by have := dn.out; have := NN.out; omega
            have w4 := W4.out p1
            by_cases b : 4294967296 ≤ r + y1
            · have ed := hide (KI.brk CC.out hi'.out dn.out b)
              obtain ⟨qq, hqq⟩ : ∃ qq, q - 1 = qq := ⟨_, rfl⟩
              replace w4 := w4.trans hqq
              rw [hqq] at ed
              obtain ⟨rr, hrr⟩ : ∃ rr, r + y1 = rr := ⟨_, rfl⟩
              replace w5 := w5.trans hrr
              rw [hrr] at b
              have BB : decide (4294967296 ≤ rr) = true := decide_eq_true b
              clear hqq hrr b p1
              obtain rfl : qq = Qb := ed.out.trans EQ2.out
              go_wp2_with fail
              go_ret2
              exact ⟨rfl, rfl⟩
            · have ni := hide (KI.next CC.out hi'.out dn.out (by omega))
              have ms := hide (show (q - 1).toNat < q.toNat by omega)
              obtain ⟨qq, hqq⟩ : ∃ qq, q - 1 = qq := ⟨_, rfl⟩
              replace w4 := w4.trans hqq
              rw [hqq] at ni ms
              obtain ⟨rr, hrr⟩ : ∃ rr, r + y1 = rr := ⟨_, rfl⟩
              replace w5 := w5.trans hrr
              rw [hrr] at ni b
              have BB : decide (4294967296 ≤ rr) = false := decide_eq_false b
              clear hqq hrr b p1
              go_wp2_with fail
              go_roundw
              case rel => exact ⟨_, _, rfl, rfl, ni, trivial⟩
              case measure => simpa [intOf] using ms.out
          · have d1 : decide (4294967296 ≤ q) = false := decide_eq_false c1
            by_cases c2 : V < T
            · have d2 : decide (V < T) = true := decide_eq_true c2
              have dn := hide (KI.down CC.out hi'.out (.inr (by have := HT.out; have := HV.out; omega)))
              have p1 : 1 ≤ q := by have := dn.out; have := NN.out; omega
              have w4 := W4.out p1
              by_cases b : 4294967296 ≤ r + y1
              · have ed := hide (KI.brk CC.out hi'.out dn.out b)
                obtain ⟨qq, hqq⟩ : ∃ qq, q - 1 = qq := ⟨_, rfl⟩
                replace w4 := w4.trans hqq
                rw [hqq] at ed
                obtain ⟨rr, hrr⟩ : ∃ rr, r + y1 = rr := ⟨_, rfl⟩
                replace w5 := w5.trans hrr
                rw [hrr] at b
                have BB : decide (4294967296 ≤ rr) = true := decide_eq_true b
                clear hqq hrr b p1
                obtain rfl : qq = Qb := ed.out.trans EQ2.out
                go_wp2_with fail
                go_ret2
                exact ⟨rfl, rfl⟩
              · have ni := hide (KI.next CC.out hi'.out dn.out (by omega))
                have ms := hide (show (q - 1).toNat < q.toNat by omega)
                obtain ⟨qq, hqq⟩ : ∃ qq, q - 1 = qq := ⟨_, rfl⟩
                replace w4 := w4.trans hqq
                rw [hqq] at ni ms
                obtain ⟨rr, hrr⟩ : ∃ rr, r + y1 = rr := ⟨_, rfl⟩
                replace w5 := w5.trans hrr
                rw [hrr] at ni b
                have BB : decide (4294967296 ≤ rr) = false := decide_eq_false b
                clear hqq hrr b p1
                go_wp2_with fail
                go_roundw
                case rel => exact ⟨_, _, rfl, rfl, ni, trivial⟩
                case measure => simpa [intOf] using ms.out
            · have d2 : decide (V < T) = false := decide_eq_false c2
              have ed := hide (KI.stop CC.out hi'.out (by have := HT.out; have := HV.out; omega))
              clear c1 c2
              obtain rfl : q = Qb := ed.out.trans EQ2.out
              go_wp2_with fail
              go_ret2
              exact ⟨rfl, rfl⟩
end Vo
end Go.Proofs.Ytnnjkanmcfjblaa
