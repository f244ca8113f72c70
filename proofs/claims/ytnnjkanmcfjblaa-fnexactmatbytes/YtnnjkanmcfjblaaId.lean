/- Requant on both sides (written by tools/gen14.py). -/
import Derived.Test.YtnnjkanmcfjblaaIc
namespace Go.Proofs.Ytnnjkanmcfjblaa
namespace Vo
open Go.ChangeShapes Go.WideShapes Go.ChangeAt Go.RowKit Go.Joins Go.Sort
open Vl
set_option linter.unusedVariables false
set_option linter.unusedSimpArgs false
theorem shiftB (n y K : Int) (n0 : -K ≤ n) (n1 : n ≤ K) (K1 : K ≤ 4611686018427387904) (y0 : 0 ≤ y) (y1 : y ≤ 62) : ∃ r : Int, (-K - 1 ≤ r ∧ r ≤ K + 1) ∧
    (∀ w, Calls Try.prog 36 #[.int .i64 n, .int .i64 y] w fun e w' => e = .returned (.int .i64 r) ∧ Below w.heap.size w w') ∧
    (∀ w, Calls Try.prog 40 #[.int .i64 n, .int .i64 y] w fun e w' => e = .returned (.int .i64 r) ∧ Below w.heap.size w w') := by
  obtain ⟨k, rfl⟩ := Int.eq_ofNat_of_zero_le y0
  obtain ⟨p1, p2⟩ := Nea.pow_i k (by omega)
  obtain ⟨r, hr, -, hs, hi⟩ := nearB n (2 ^ k) K n0 n1 K1 p1 p2
  have HS := hide hs
  have HI := hide hi
  have km : min k 64 = k := by omega
  have wr : IntKind.i64.wrap ((2 : Int) ^ k) = 2 ^ k := by rw [IntKind.wrap_i64]; generalize (2 : Int) ^ k = z at *; omega
  have wr2 : wrap64 ((2 : Int) ^ k) = 2 ^ k := by simp only [wrap64]; generalize (2 : Int) ^ k = z at *; omega
  have k0 : (0 : Int) ≤ (k : Int) := Int.natCast_nonneg _
  have k1 : (k : Int) ≤ 62 := by omega
  have c1 : decide ((k : Int) < 0) = false := decide_eq_false (by omega)
  have c2 : decide (62 < (k : Int)) = false := decide_eq_false (by omega)
  clear hs hi p1 p2 n0 n1 K1
  refine ⟨r, hr, fun w => ?_, fun w => ?_⟩
  · go_enter Try.func36, Try.ntmps36
    go_wp2_with fail
    refine (HS.out _).mono ?_; rintro e w1 ⟨rfl, b1⟩
    go_wp2_with fail
    go_ret
    exact ⟨rfl, b1⟩
  · go_enter Try.func40, Try.ntmps40
    go_wp2_with fail
    refine (HI.out _).mono ?_; rintro e w1 ⟨rfl, b1⟩
    go_wp2_with fail
    go_ret
    exact ⟨rfl, b1⟩
theorem mul_sm {u m : Int} (u0 : -1073741824 ≤ u) (u1 : u ≤ 1073741824) (m0 : 0 ≤ m) (m1 : m ≤ 2147483648) : -2305843009213693952 ≤ u * m ∧ u * m ≤ 2305843009213693952 := by
  have h : (u * m).natAbs ≤ 1073741824 * 2147483648 := by
    rw [Int.natAbs_mul]; exact Nat.mul_le_mul (by omega) (by omega)
  generalize u * m = z at *
  omega
set_option maxHeartbeats 1000000 in
theorem sReq_no1 (u m h s z : Int) (w : World) (hu : bd u) (hm : bd m) (hh : bd h) (hs : bd s) (hz : bd z) (g1 : scOk s z = false) :
    Calls Try.prog 22 #[.int .i64 u, .int .i64 m, .int .i64 h, .agg #[.int .i64 s, .int .i64 z]] w fun e w' => e = .returned (.int .i64 0) ∧ Below w.heap.size w w' := by
  have HU := hide hu
  have HM := hide hm
  have HH := hide hh
  have HS := hide hs
  have HZ := hide hz
  clear hu hm hh hs hz
  have G1 := hide g1
  clear g1
  obtain ⟨WA, hWA⟩ : ∃ WA, w.alloc (.cells #[.int .i64 s, .int .i64 z] 26) = WA := ⟨_, rfl⟩
  have nWA : Below w.heap.size w WA := hWA ▸ (Below.refl _ _).alloc (Nat.le_refl _) _
  have mWA : Box2 WA w.heap.size s z := hWA ▸ box2_new _ _ _ _
  have BL : Hid (Below w.heap.size w WA) := hide (nWA)
  have KA := hide (mWA)
  clear nWA mWA
  obtain ⟨-, cA0, cA1⟩ := KA.out
  go_enter Try.func22, Try.ntmps22
  go_wp2_with fail
  refine (gScaleS s z false G1.out _).mono ?_
  rintro e1 w1 ⟨rfl, q1⟩
  replace KA := hide (KA.out.below q1)
  clear cA0 cA1
  obtain ⟨-, cA0, cA1⟩ := KA.out
  replace BL := hide (BL.out.trans (q1.mono BL.out.size))
  clear q1
  go_wp2_with fail
  go_ret
  exact ⟨rfl, BL.out⟩
set_option maxHeartbeats 1000000 in
theorem sReq_no2 (u m h s z : Int) (w : World) (hu : bd u) (hm : bd m) (hh : bd h) (hs : bd s) (hz : bd z) (g1 : scOk s z = true) (g2 : decide (-1073741824 ≤ u ∧ u ≤ 1073741824) = false) :
    Calls Try.prog 22 #[.int .i64 u, .int .i64 m, .int .i64 h, .agg #[.int .i64 s, .int .i64 z]] w fun e w' => e = .returned (.int .i64 0) ∧ Below w.heap.size w w' := by
  have HU := hide hu
  have HM := hide hm
  have HH := hide hh
  have HS := hide hs
  have HZ := hide hz
  clear hu hm hh hs hz
  have G1 := hide g1
  have G2 := hide g2
  clear g1 g2
  obtain ⟨WA, hWA⟩ : ∃ WA, w.alloc (.cells #[.int .i64 s, .int .i64 z] 26) = WA := ⟨_, rfl⟩
  have nWA : Below w.heap.size w WA := hWA ▸ (Below.refl _ _).alloc (Nat.le_refl _) _
  have mWA : Box2 WA w.heap.size s z := hWA ▸ box2_new _ _ _ _
  have BL : Hid (Below w.heap.size w WA) := hide (nWA)
  have KA := hide (mWA)
  clear nWA mWA
  obtain ⟨-, cA0, cA1⟩ := KA.out
  go_enter Try.func22, Try.ntmps22
  go_wp2_with fail
  refine (gScaleS s z true G1.out _).mono ?_
  rintro e1 w1 ⟨rfl, q1⟩
  replace KA := hide (KA.out.below q1)
  clear cA0 cA1
  obtain ⟨-, cA0, cA1⟩ := KA.out
  replace BL := hide (BL.out.trans (q1.mono BL.out.size))
  clear q1
  go_wp2_with fail
  refine (gInS u (-1073741824) 1073741824 false G2.out _).mono ?_
  rintro e1 w2 ⟨rfl, q2⟩
  replace KA := hide (KA.out.below q2)
  clear cA0 cA1
  obtain ⟨-, cA0, cA1⟩ := KA.out
  replace BL := hide (BL.out.trans (q2.mono BL.out.size))
  clear q2
  go_wp2_with fail
  go_ret
  exact ⟨rfl, BL.out⟩
set_option maxHeartbeats 1000000 in
theorem sReq_no3 (u m h s z : Int) (w : World) (hu : bd u) (hm : bd m) (hh : bd h) (hs : bd s) (hz : bd z) (g1 : scOk s z = true) (g2 : decide (-1073741824 ≤ u ∧ u ≤ 1073741824) = true) (g3 : decide (0 ≤ m ∧ m ≤ 2147483648) = false) :
    Calls Try.prog 22 #[.int .i64 u, .int .i64 m, .int .i64 h, .agg #[.int .i64 s, .int .i64 z]] w fun e w' => e = .returned (.int .i64 0) ∧ Below w.heap.size w w' := by
  have HU := hide hu
  have HM := hide hm
  have HH := hide hh
  have HS := hide hs
  have HZ := hide hz
  clear hu hm hh hs hz
  have G1 := hide g1
  have G2 := hide g2
  have G3 := hide g3
  clear g1 g2 g3
  obtain ⟨WA, hWA⟩ : ∃ WA, w.alloc (.cells #[.int .i64 s, .int .i64 z] 26) = WA := ⟨_, rfl⟩
  have nWA : Below w.heap.size w WA := hWA ▸ (Below.refl _ _).alloc (Nat.le_refl _) _
  have mWA : Box2 WA w.heap.size s z := hWA ▸ box2_new _ _ _ _
  have BL : Hid (Below w.heap.size w WA) := hide (nWA)
  have KA := hide (mWA)
  clear nWA mWA
  obtain ⟨-, cA0, cA1⟩ := KA.out
  go_enter Try.func22, Try.ntmps22
  go_wp2_with fail
  refine (gScaleS s z true G1.out _).mono ?_
  rintro e1 w1 ⟨rfl, q1⟩
  replace KA := hide (KA.out.below q1)
  clear cA0 cA1
  obtain ⟨-, cA0, cA1⟩ := KA.out
  replace BL := hide (BL.out.trans (q1.mono BL.out.size))
  clear q1
  go_wp2_with fail
  refine (gInS u (-1073741824) 1073741824 true G2.out _).mono ?_
  rintro e1 w2 ⟨rfl, q2⟩
  replace KA := hide (KA.out.below q2)
  clear cA0 cA1
  obtain ⟨-, cA0, cA1⟩ := KA.out
  replace BL := hide (BL.out.trans (q2.mono BL.out.size))
  clear q2
  go_wp2_with fail
  refine (gInS m 0 2147483648 false G3.out _).mono ?_
  rintro e1 w3 ⟨rfl, q3⟩
  replace KA := hide (KA.out.below q3)
  clear cA0 cA1
  obtain ⟨-, cA0, cA1⟩ := KA.out
  replace BL := hide (BL.out.trans (q3.mono BL.out.size))
  clear q3
  go_wp2_with fail
  go_ret
  exact ⟨rfl, BL.out⟩
set_option maxHeartbeats 1000000 in
theorem sReq_no4 (u m h s z : Int) (w : World) (hu : bd u) (hm : bd m) (hh : bd h) (hs : bd s) (hz : bd z) (g1 : scOk s z = true) (g2 : decide (-1073741824 ≤ u ∧ u ≤ 1073741824) = true) (g3 : decide (0 ≤ m ∧ m ≤ 2147483648) = true) (g4 : decide (0 ≤ h ∧ h ≤ 62) = false) :
    Calls Try.prog 22 #[.int .i64 u, .int .i64 m, .int .i64 h, .agg #[.int .i64 s, .int .i64 z]] w fun e w' => e = .returned (.int .i64 0) ∧ Below w.heap.size w w' := by
  have HU := hide hu
  have HM := hide hm
  have HH := hide hh
  have HS := hide hs
  have HZ := hide hz
  clear hu hm hh hs hz
  have G1 := hide g1
  have G2 := hide g2
  have G3 := hide g3
  have G4 := hide g4
  clear g1 g2 g3 g4
  obtain ⟨WA, hWA⟩ : ∃ WA, w.alloc (.cells #[.int .i64 s, .int .i64 z] 26) = WA := ⟨_, rfl⟩
  have nWA : Below w.heap.size w WA := hWA ▸ (Below.refl _ _).alloc (Nat.le_refl _) _
  have mWA : Box2 WA w.heap.size s z := hWA ▸ box2_new _ _ _ _
  have BL : Hid (Below w.heap.size w WA) := hide (nWA)
  have KA := hide (mWA)
  clear nWA mWA
  obtain ⟨-, cA0, cA1⟩ := KA.out
  go_enter Try.func22, Try.ntmps22
  go_wp2_with fail
  refine (gScaleS s z true G1.out _).mono ?_
  rintro e1 w1 ⟨rfl, q1⟩
  replace KA := hide (KA.out.below q1)
  clear cA0 cA1
  obtain ⟨-, cA0, cA1⟩ := KA.out
  replace BL := hide (BL.out.trans (q1.mono BL.out.size))
  clear q1
  go_wp2_with fail
  refine (gInS u (-1073741824) 1073741824 true G2.out _).mono ?_
  rintro e1 w2 ⟨rfl, q2⟩
  replace KA := hide (KA.out.below q2)
  clear cA0 cA1
  obtain ⟨-, cA0, cA1⟩ := KA.out
  replace BL := hide (BL.out.trans (q2.mono BL.out.size))
  clear q2
  go_wp2_with fail
  refine (gInS m 0 2147483648 true G3.out _).mono ?_
  rintro e1 w3 ⟨rfl, q3⟩
  replace KA := hide (KA.out.below q3)
  clear cA0 cA1
  obtain ⟨-, cA0, cA1⟩ := KA.out
  replace BL := hide (BL.out.trans (q3.mono BL.out.size))
  clear q3
  go_wp2_with fail
  refine (gInS h 0 62 false G4.out _).mono ?_
  rintro e1 w4 ⟨rfl, q4⟩
  replace KA := hide (KA.out.below q4)
  clear cA0 cA1
  obtain ⟨-, cA0, cA1⟩ := KA.out
  replace BL := hide (BL.out.trans (q4.mono BL.out.size))
  clear q4
  go_wp2_with fail
  go_ret
  exact ⟨rfl, BL.out⟩
set_option maxHeartbeats 1000000 in
theorem sReq_yes (u m h s z : Int) (w : World) (hu : bd u) (hm : bd m) (hh : bd h) (hs : bd s) (hz : bd z) (r : Int) (z0 : 0 ≤ z) (z1 : z ≤ 255) (p0 : -2305843009213693952 ≤ u * m) (p1 : u * m ≤ 2305843009213693952) (r0 : -2305843009213693953 ≤ r) (r1 : r ≤ 2305843009213693953) (hN : ∀ w, Calls Try.prog 36 #[.int .i64 (u * m), .int .i64 h] w fun e w' => e = .returned (.int .i64 r) ∧ Below w.heap.size w w') (g1 : scOk s z = true) (g2 : decide (-1073741824 ≤ u ∧ u ≤ 1073741824) = true) (g3 : decide (0 ≤ m ∧ m ≤ 2147483648) = true) (g4 : decide (0 ≤ h ∧ h ≤ 62) = true) :
    Calls Try.prog 22 #[.int .i64 u, .int .i64 m, .int .i64 h, .agg #[.int .i64 s, .int .i64 z]] w fun e w' => e = .returned (.int .i64 (cl 0 255 (z + r))) ∧ Below w.heap.size w w' := by
  have HN := hide hN
  clear hN
  have HU := hide hu
  have HM := hide hm
  have HH := hide hh
  have HS := hide hs
  have HZ := hide hz
  clear hu hm hh hs hz
  have G1 := hide g1
  have G2 := hide g2
  have G3 := hide g3
  have G4 := hide g4
  clear g1 g2 g3 g4
  obtain ⟨WA, hWA⟩ : ∃ WA, w.alloc (.cells #[.int .i64 s, .int .i64 z] 26) = WA := ⟨_, rfl⟩
  have nWA : Below w.heap.size w WA := hWA ▸ (Below.refl _ _).alloc (Nat.le_refl _) _
  have mWA : Box2 WA w.heap.size s z := hWA ▸ box2_new _ _ _ _
  have BL : Hid (Below w.heap.size w WA) := hide (nWA)
  have KA := hide (mWA)
  clear nWA mWA
  obtain ⟨-, cA0, cA1⟩ := KA.out
  go_enter Try.func22, Try.ntmps22
  go_wp2_with fail
  refine (gScaleS s z true G1.out _).mono ?_
  rintro e1 w1 ⟨rfl, q1⟩
  replace KA := hide (KA.out.below q1)
  clear cA0 cA1
  obtain ⟨-, cA0, cA1⟩ := KA.out
  replace BL := hide (BL.out.trans (q1.mono BL.out.size))
  clear q1
  go_wp2_with fail
  refine (gInS u (-1073741824) 1073741824 true G2.out _).mono ?_
  rintro e1 w2 ⟨rfl, q2⟩
  replace KA := hide (KA.out.below q2)
  clear cA0 cA1
  obtain ⟨-, cA0, cA1⟩ := KA.out
  replace BL := hide (BL.out.trans (q2.mono BL.out.size))
  clear q2
  go_wp2_with fail
  refine (gInS m 0 2147483648 true G3.out _).mono ?_
  rintro e1 w3 ⟨rfl, q3⟩
  replace KA := hide (KA.out.below q3)
  clear cA0 cA1
  obtain ⟨-, cA0, cA1⟩ := KA.out
  replace BL := hide (BL.out.trans (q3.mono BL.out.size))
  clear q3
  go_wp2_with fail
  refine (gInS h 0 62 true G4.out _).mono ?_
  rintro e1 w4 ⟨rfl, q4⟩
  replace KA := hide (KA.out.below q4)
  clear cA0 cA1
  obtain ⟨-, cA0, cA1⟩ := KA.out
  replace BL := hide (BL.out.trans (q4.mono BL.out.size))
  clear q4
  have CN := hide (fun d os => Calls.regrown_of (d := d) (os := os) (w := w4) (HN.out _))
  have CC := hide (fun d os => Calls.regrown_of (d := d) (os := os) (w := w4) (clipB 0 255 (z + r) _))
  have kA0 := cell_regrown cA0
  have kA1 := cell_regrown cA1
  clear cA0 cA1
  go_wp2_with fail
  refine wp_region_quiet_below (by kernel_rfl) (by kernel_rfl) ?_
  repeat (go_big_quiet_step (first | (go_at_call 36; exact CN.out _ _) | (go_at_call 23; exact CC.out _ _)))
  refine wpQuiet_nil ?_
  intro _ hw'
  obtain ⟨⟨dq, osq⟩, hw''⟩ := hw'
  subst hw''
  go_wp2_with fail
  go_ret
  exact ⟨rfl, BL.out.trans ((below_regrown _ dq osq).mono BL.out.size)⟩
set_option maxHeartbeats 1000000 in
theorem iReq_no1 (u m h s z : Int) (w : World) (hu : bd u) (hm : bd m) (hh : bd h) (hs : bd s) (hz : bd z) (g1 : scOk s z = false) :
    Calls Try.prog 29 #[.int .i64 u, .int .i64 m, .int .i64 h, .agg #[.int .i64 s, .int .i64 z]] w fun e w' => e = .returned (.int .i64 0) ∧ Below w.heap.size w w' := by
  have HU := hide hu
  have HM := hide hm
  have HH := hide hh
  have HS := hide hs
  have HZ := hide hz
  clear hu hm hh hs hz
  have G1 := hide g1
  clear g1
  obtain ⟨WA, hWA⟩ : ∃ WA, w.alloc (.cells #[.int .i64 s, .int .i64 z] 26) = WA := ⟨_, rfl⟩
  have nWA : Below w.heap.size w WA := hWA ▸ (Below.refl _ _).alloc (Nat.le_refl _) _
  have mWA : Box2 WA w.heap.size s z := hWA ▸ box2_new _ _ _ _
  have BL : Hid (Below w.heap.size w WA) := hide (nWA)
  have KA := hide (mWA)
  clear nWA mWA
  obtain ⟨-, cA0, cA1⟩ := KA.out
  go_enter Try.func29, Try.ntmps29
  go_wp2_with fail
  refine (gScaleI s z false HS.out HZ.out G1.out _).mono ?_
  rintro e1 w1 ⟨rfl, q1⟩
  replace KA := hide (KA.out.below q1)
  clear cA0 cA1
  obtain ⟨-, cA0, cA1⟩ := KA.out
  replace BL := hide (BL.out.trans (q1.mono BL.out.size))
  clear q1
  go_wp2_with fail
  go_ret
  exact ⟨rfl, BL.out⟩
set_option maxHeartbeats 1000000 in
theorem iReq_no2 (u m h s z : Int) (w : World) (hu : bd u) (hm : bd m) (hh : bd h) (hs : bd s) (hz : bd z) (g1 : scOk s z = true) (g2 : decide (-1073741824 ≤ u ∧ u ≤ 1073741824) = false) :
    Calls Try.prog 29 #[.int .i64 u, .int .i64 m, .int .i64 h, .agg #[.int .i64 s, .int .i64 z]] w fun e w' => e = .returned (.int .i64 0) ∧ Below w.heap.size w w' := by
  have HU := hide hu
  have HM := hide hm
  have HH := hide hh
  have HS := hide hs
  have HZ := hide hz
  clear hu hm hh hs hz
  have G1 := hide g1
  have G2 := hide g2
  clear g1 g2
  obtain ⟨WA, hWA⟩ : ∃ WA, w.alloc (.cells #[.int .i64 s, .int .i64 z] 26) = WA := ⟨_, rfl⟩
  have nWA : Below w.heap.size w WA := hWA ▸ (Below.refl _ _).alloc (Nat.le_refl _) _
  have mWA : Box2 WA w.heap.size s z := hWA ▸ box2_new _ _ _ _
  have BL : Hid (Below w.heap.size w WA) := hide (nWA)
  have KA := hide (mWA)
  clear nWA mWA
  obtain ⟨-, cA0, cA1⟩ := KA.out
  go_enter Try.func29, Try.ntmps29
  go_wp2_with fail
  refine (gScaleI s z true HS.out HZ.out G1.out _).mono ?_
  rintro e1 w1 ⟨rfl, q1⟩
  replace KA := hide (KA.out.below q1)
  clear cA0 cA1
  obtain ⟨-, cA0, cA1⟩ := KA.out
  replace BL := hide (BL.out.trans (q1.mono BL.out.size))
  clear q1
  go_wp2_with fail
  refine (sums_one u false _ _ HU.out G2.out rfl).mono ?_
  rintro e1 w2 ⟨rfl, q2⟩
  replace KA := hide (KA.out.below q2)
  clear cA0 cA1
  obtain ⟨-, cA0, cA1⟩ := KA.out
  replace BL := hide (BL.out.trans (q2.mono BL.out.size))
  clear q2
  go_wp2_with fail
  go_ret
  exact ⟨rfl, BL.out⟩
set_option maxHeartbeats 1000000 in
theorem iReq_no3 (u m h s z : Int) (w : World) (hu : bd u) (hm : bd m) (hh : bd h) (hs : bd s) (hz : bd z) (g1 : scOk s z = true) (g2 : decide (-1073741824 ≤ u ∧ u ≤ 1073741824) = true) (g3 : decide (0 ≤ m ∧ m ≤ 2147483648) = false) :
    Calls Try.prog 29 #[.int .i64 u, .int .i64 m, .int .i64 h, .agg #[.int .i64 s, .int .i64 z]] w fun e w' => e = .returned (.int .i64 0) ∧ Below w.heap.size w w' := by
  have HU := hide hu
  have HM := hide hm
  have HH := hide hh
  have HS := hide hs
  have HZ := hide hz
  clear hu hm hh hs hz
  have G1 := hide g1
  have G2 := hide g2
  have G3 := hide g3
  clear g1 g2 g3
  obtain ⟨WA, hWA⟩ : ∃ WA, w.alloc (.cells #[.int .i64 s, .int .i64 z] 26) = WA := ⟨_, rfl⟩
  have nWA : Below w.heap.size w WA := hWA ▸ (Below.refl _ _).alloc (Nat.le_refl _) _
  have mWA : Box2 WA w.heap.size s z := hWA ▸ box2_new _ _ _ _
  have BL : Hid (Below w.heap.size w WA) := hide (nWA)
  have KA := hide (mWA)
  clear nWA mWA
  obtain ⟨-, cA0, cA1⟩ := KA.out
  go_enter Try.func29, Try.ntmps29
  go_wp2_with fail
  refine (gScaleI s z true HS.out HZ.out G1.out _).mono ?_
  rintro e1 w1 ⟨rfl, q1⟩
  replace KA := hide (KA.out.below q1)
  clear cA0 cA1
  obtain ⟨-, cA0, cA1⟩ := KA.out
  replace BL := hide (BL.out.trans (q1.mono BL.out.size))
  clear q1
  go_wp2_with fail
  refine (sums_one u true _ _ HU.out G2.out rfl).mono ?_
  rintro e1 w2 ⟨rfl, q2⟩
  replace KA := hide (KA.out.below q2)
  clear cA0 cA1
  obtain ⟨-, cA0, cA1⟩ := KA.out
  replace BL := hide (BL.out.trans (q2.mono BL.out.size))
  clear q2
  go_wp2_with fail
  refine (inB_one 0 2147483648 m false _ _ (by decide) HM.out G3.out rfl).mono ?_
  rintro e1 w3 ⟨rfl, q3⟩
  replace KA := hide (KA.out.below q3)
  clear cA0 cA1
  obtain ⟨-, cA0, cA1⟩ := KA.out
  replace BL := hide (BL.out.trans (q3.mono BL.out.size))
  clear q3
  go_wp2_with fail
  go_ret
  exact ⟨rfl, BL.out⟩
set_option maxHeartbeats 1000000 in
theorem iReq_no4 (u m h s z : Int) (w : World) (hu : bd u) (hm : bd m) (hh : bd h) (hs : bd s) (hz : bd z) (g1 : scOk s z = true) (g2 : decide (-1073741824 ≤ u ∧ u ≤ 1073741824) = true) (g3 : decide (0 ≤ m ∧ m ≤ 2147483648) = true) (g4 : decide (0 ≤ h ∧ h ≤ 62) = false) :
    Calls Try.prog 29 #[.int .i64 u, .int .i64 m, .int .i64 h, .agg #[.int .i64 s, .int .i64 z]] w fun e w' => e = .returned (.int .i64 0) ∧ Below w.heap.size w w' := by
  have HU := hide hu
  have HM := hide hm
  have HH := hide hh
  have HS := hide hs
  have HZ := hide hz
  clear hu hm hh hs hz
  have G1 := hide g1
  have G2 := hide g2
  have G3 := hide g3
  have G4 := hide g4
  clear g1 g2 g3 g4
  obtain ⟨WA, hWA⟩ : ∃ WA, w.alloc (.cells #[.int .i64 s, .int .i64 z] 26) = WA := ⟨_, rfl⟩
  have nWA : Below w.heap.size w WA := hWA ▸ (Below.refl _ _).alloc (Nat.le_refl _) _
  have mWA : Box2 WA w.heap.size s z := hWA ▸ box2_new _ _ _ _
  have BL : Hid (Below w.heap.size w WA) := hide (nWA)
  have KA := hide (mWA)
  clear nWA mWA
  obtain ⟨-, cA0, cA1⟩ := KA.out
  go_enter Try.func29, Try.ntmps29
  go_wp2_with fail
  refine (gScaleI s z true HS.out HZ.out G1.out _).mono ?_
  rintro e1 w1 ⟨rfl, q1⟩
  replace KA := hide (KA.out.below q1)
  clear cA0 cA1
  obtain ⟨-, cA0, cA1⟩ := KA.out
  replace BL := hide (BL.out.trans (q1.mono BL.out.size))
  clear q1
  go_wp2_with fail
  refine (sums_one u true _ _ HU.out G2.out rfl).mono ?_
  rintro e1 w2 ⟨rfl, q2⟩
  replace KA := hide (KA.out.below q2)
  clear cA0 cA1
  obtain ⟨-, cA0, cA1⟩ := KA.out
  replace BL := hide (BL.out.trans (q2.mono BL.out.size))
  clear q2
  go_wp2_with fail
  refine (inB_one 0 2147483648 m true _ _ (by decide) HM.out G3.out rfl).mono ?_
  rintro e1 w3 ⟨rfl, q3⟩
  replace KA := hide (KA.out.below q3)
  clear cA0 cA1
  obtain ⟨-, cA0, cA1⟩ := KA.out
  replace BL := hide (BL.out.trans (q3.mono BL.out.size))
  clear q3
  go_wp2_with fail
  refine (inB_one 0 62 h false _ _ (by decide) HH.out G4.out rfl).mono ?_
  rintro e1 w4 ⟨rfl, q4⟩
  replace KA := hide (KA.out.below q4)
  clear cA0 cA1
  obtain ⟨-, cA0, cA1⟩ := KA.out
  replace BL := hide (BL.out.trans (q4.mono BL.out.size))
  clear q4
  go_wp2_with fail
  go_ret
  exact ⟨rfl, BL.out⟩
set_option maxHeartbeats 1000000 in
theorem iReq_yes (u m h s z : Int) (w : World) (hu : bd u) (hm : bd m) (hh : bd h) (hs : bd s) (hz : bd z) (r : Int) (z0 : 0 ≤ z) (z1 : z ≤ 255) (p0 : -2305843009213693952 ≤ u * m) (p1 : u * m ≤ 2305843009213693952) (r0 : -2305843009213693953 ≤ r) (r1 : r ≤ 2305843009213693953) (hN : ∀ w, Calls Try.prog 40 #[.int .i64 (u * m), .int .i64 h] w fun e w' => e = .returned (.int .i64 r) ∧ Below w.heap.size w w') (g1 : scOk s z = true) (g2 : decide (-1073741824 ≤ u ∧ u ≤ 1073741824) = true) (g3 : decide (0 ≤ m ∧ m ≤ 2147483648) = true) (g4 : decide (0 ≤ h ∧ h ≤ 62) = true) :
    Calls Try.prog 29 #[.int .i64 u, .int .i64 m, .int .i64 h, .agg #[.int .i64 s, .int .i64 z]] w fun e w' => e = .returned (.int .i64 (cl 0 255 (z + r))) ∧ Below w.heap.size w w' := by
  have HN := hide hN
  clear hN
  have HU := hide hu
  have HM := hide hm
  have HH := hide hh
  have HS := hide hs
  have HZ := hide hz
  clear hu hm hh hs hz
  have G1 := hide g1
  have G2 := hide g2
  have G3 := hide g3
  have G4 := hide g4
  clear g1 g2 g3 g4
  obtain ⟨WA, hWA⟩ : ∃ WA, w.alloc (.cells #[.int .i64 s, .int .i64 z] 26) = WA := ⟨_, rfl⟩
  have nWA : Below w.heap.size w WA := hWA ▸ (Below.refl _ _).alloc (Nat.le_refl _) _
  have mWA : Box2 WA w.heap.size s z := hWA ▸ box2_new _ _ _ _
  have BL : Hid (Below w.heap.size w WA) := hide (nWA)
  have KA := hide (mWA)
  clear nWA mWA
  obtain ⟨-, cA0, cA1⟩ := KA.out
  go_enter Try.func29, Try.ntmps29
  go_wp2_with fail
  refine (gScaleI s z true HS.out HZ.out G1.out _).mono ?_
  rintro e1 w1 ⟨rfl, q1⟩
  replace KA := hide (KA.out.below q1)
  clear cA0 cA1
  obtain ⟨-, cA0, cA1⟩ := KA.out
  replace BL := hide (BL.out.trans (q1.mono BL.out.size))
  clear q1
  go_wp2_with fail
  refine (sums_one u true _ _ HU.out G2.out rfl).mono ?_
  rintro e1 w2 ⟨rfl, q2⟩
  replace KA := hide (KA.out.below q2)
  clear cA0 cA1
  obtain ⟨-, cA0, cA1⟩ := KA.out
  replace BL := hide (BL.out.trans (q2.mono BL.out.size))
  clear q2
  go_wp2_with fail
  refine (inB_one 0 2147483648 m true _ _ (by decide) HM.out G3.out rfl).mono ?_
  rintro e1 w3 ⟨rfl, q3⟩
  replace KA := hide (KA.out.below q3)
  clear cA0 cA1
  obtain ⟨-, cA0, cA1⟩ := KA.out
  replace BL := hide (BL.out.trans (q3.mono BL.out.size))
  clear q3
  go_wp2_with fail
  refine (inB_one 0 62 h true _ _ (by decide) HH.out G4.out rfl).mono ?_
  rintro e1 w4 ⟨rfl, q4⟩
  replace KA := hide (KA.out.below q4)
  clear cA0 cA1
  obtain ⟨-, cA0, cA1⟩ := KA.out
  replace BL := hide (BL.out.trans (q4.mono BL.out.size))
  clear q4
  have CN := hide (fun d os => Calls.regrown_of (d := d) (os := os) (w := w4) (HN.out _))
  have CC := hide (fun d os => Calls.regrown_of (d := d) (os := os) (w := w4) (byteAtF s z r _ z0 z1 (by omega) (by omega)))
  have kA0 := cell_regrown cA0
  have kA1 := cell_regrown cA1
  clear cA0 cA1
  go_wp2_with fail
  refine wp_region_quiet_below (by kernel_rfl) (by kernel_rfl) ?_
  repeat (go_big_quiet_step (first | (go_at_call 40; exact CN.out _ _) | (go_at_call 39; exact CC.out _ _)))
  refine wpQuiet_nil ?_
  intro _ hw'
  obtain ⟨⟨dq, osq⟩, hw''⟩ := hw'
  subst hw''
  go_wp2_with fail
  go_ret
  exact ⟨rfl, BL.out.trans ((below_regrown _ dq osq).mono BL.out.size)⟩
/-- a sum as a byte: both sides answer one number -/
theorem reqBoth (u m h s z : Int) (hu : bd u) (hm : bd m) (hh : bd h) (hs : bd s) (hz : bd z) : ∃ v : Int, (0 ≤ v ∧ v ≤ 255) ∧
    (∀ w, Calls Try.prog 22 #[.int .i64 u, .int .i64 m, .int .i64 h, .agg #[.int .i64 s, .int .i64 z]] w fun e w' => e = .returned (.int .i64 v) ∧ Below w.heap.size w w') ∧
    (∀ w, Calls Try.prog 29 #[.int .i64 u, .int .i64 m, .int .i64 h, .agg #[.int .i64 s, .int .i64 z]] w fun e w' => e = .returned (.int .i64 v) ∧ Below w.heap.size w w') := by
  cases g1 : scOk s z
  · exact ⟨0, by omega, fun w => sReq_no1 u m h s z w hu hm hh hs hz g1, fun w => iReq_no1 u m h s z w hu hm hh hs hz g1⟩
  cases g2 : decide (-1073741824 ≤ u ∧ u ≤ 1073741824)
  · exact ⟨0, by omega, fun w => sReq_no2 u m h s z w hu hm hh hs hz g1 g2, fun w => iReq_no2 u m h s z w hu hm hh hs hz g1 g2⟩
  cases g3 : decide (0 ≤ m ∧ m ≤ 2147483648)
  · exact ⟨0, by omega, fun w => sReq_no3 u m h s z w hu hm hh hs hz g1 g2 g3, fun w => iReq_no3 u m h s z w hu hm hh hs hz g1 g2 g3⟩
  cases g4 : decide (0 ≤ h ∧ h ≤ 62)
  · exact ⟨0, by omega, fun w => sReq_no4 u m h s z w hu hm hh hs hz g1 g2 g3 g4, fun w => iReq_no4 u m h s z w hu hm hh hs hz g1 g2 g3 g4⟩
  obtain ⟨⟨s0, s1⟩, z0, z1⟩ := sc_of g1
  obtain ⟨u0, u1⟩ := of_decide_eq_true g2
  obtain ⟨m0, m1⟩ := of_decide_eq_true g3
  obtain ⟨h0, h1⟩ := of_decide_eq_true g4
  obtain ⟨p0, p1⟩ := mul_sm u0 u1 m0 m1
  obtain ⟨r, ⟨r0, r1⟩, hS, hI⟩ := shiftB (u * m) h 2305843009213693952 p0 p1 (by decide) h0 h1
  exact ⟨cl 0 255 (z + r), cl_rng _ (by decide), fun w => sReq_yes u m h s z w hu hm hh hs hz r z0 z1 p0 p1 (by omega) r1 hS g1 g2 g3 g4, fun w => iReq_yes u m h s z w hu hm hh hs hz r z0 z1 p0 p1 (by omega) r1 hI g1 g2 g3 g4⟩
end Vo
end Go.Proofs.Ytnnjkanmcfjblaa
