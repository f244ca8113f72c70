/- Bound on both sides (written by tools/gen14.py). -/
import Derived.Test.YtepbchkljamacabIe
namespace Go.Proofs.Ytepbchkljamacab
namespace Vo
open Go.ChangeShapes Go.WideShapes Go.ChangeAt Go.RowKit Go.Joins Go.Sort
open Vl
set_option linter.unusedVariables false
set_option linter.unusedSimpArgs false
theorem mul_le2 {x y a b : Int} (x0 : 0 ≤ x) (x1 : x ≤ a) (y0 : 0 ≤ y) (y1 : y ≤ b) : 0 ≤ x * y ∧ x * y ≤ a * b :=
  ⟨Int.mul_nonneg x0 y0, Int.mul_le_mul x1 y1 y0 (by omega)⟩
theorem roundB (n : Int) (w : World) (n0 : 0 ≤ n) (n1 : n ≤ 4611686018427387904) :
    Calls Try.prog 20 #[.int .i64 n, .int .i64 65536] w fun e w' => e = .returned (.int .i64 ((n + 65535).tdiv 65536)) ∧ Below w.heap.size w w' := by
  rw [show n + 65535 = n + 65536 - 1 by omega]
  exact roundedUpF n 65536 w n0 n1 (by decide) (by decide)
set_option maxHeartbeats 1000000 in
theorem sBnd_no1 (n sa za sb zb sc zc p q : Int) (w : World) (hn : bd n) (hsa : bd sa) (hza : bd za) (hsb : bd sb) (hzb : bd zb) (hsc : bd sc) (hzc : bd zc) (hp : bd p) (hq : bd q) (g1 : decide (1 ≤ n ∧ n ≤ 4096) = false) :
    Calls Try.prog 8 #[.int .i64 n, .agg #[.int .i64 sa, .int .i64 za], .agg #[.int .i64 sb, .int .i64 zb], .agg #[.int .i64 sc, .int .i64 zc], .int .i64 p, .int .i64 q] w fun e w' => e = .returned (.int .i64 0) ∧ Below w.heap.size w w' := by
  have Hn := hide hn
  have Hsa := hide hsa
  have Hza := hide hza
  have Hsb := hide hsb
  have Hzb := hide hzb
  have Hsc := hide hsc
  have Hzc := hide hzc
  have Hp := hide hp
  have Hq := hide hq
  clear hn hsa hza hsb hzb hsc hzc hp hq
  have G1 := hide g1
  clear g1
  obtain ⟨WA, hWA⟩ : ∃ WA, w.alloc (.cells #[.int .i64 sa, .int .i64 za] 25) = WA := ⟨_, rfl⟩
  have nWA : Below w.heap.size w WA := hWA ▸ (Below.refl _ _).alloc (Nat.le_refl _) _
  have mWA : Box2 WA w.heap.size sa za := hWA ▸ box2_new _ _ _ _
  obtain ⟨WB, hWB⟩ : ∃ WB, WA.alloc (.cells #[.int .i64 sb, .int .i64 zb] 25) = WB := ⟨_, rfl⟩
  have nWB : Below WA.heap.size WA WB := hWB ▸ (Below.refl _ _).alloc (Nat.le_refl _) _
  have mWB : Box2 WB WA.heap.size sb zb := hWB ▸ box2_new _ _ _ _
  obtain ⟨WC, hWC⟩ : ∃ WC, WB.alloc (.cells #[.int .i64 sc, .int .i64 zc] 25) = WC := ⟨_, rfl⟩
  have nWC : Below WB.heap.size WB WC := hWC ▸ (Below.refl _ _).alloc (Nat.le_refl _) _
  have mWC : Box2 WC WB.heap.size sc zc := hWC ▸ box2_new _ _ _ _
  have BL : Hid (Below w.heap.size w WC) := hide (((nWA).trans (nWB.mono (nWA).size)).trans (nWC.mono ((nWA).trans (nWB.mono (nWA).size)).size))
  have KA := hide (((mWA).below nWB).below nWC)
  have KB := hide ((mWB).below nWC)
  have KC := hide (mWC)
  clear nWA mWA
  clear nWB mWB
  clear nWC mWC
  obtain ⟨-, cA0, cA1⟩ := KA.out
  obtain ⟨-, cB0, cB1⟩ := KB.out
  obtain ⟨-, cC0, cC1⟩ := KC.out
  go_enter Try.func8, Try.ntmps8
  go_wp2_with fail
  refine (gInS n 1 4096 false G1.out _).mono ?_
  rintro e1 w1 ⟨rfl, q1⟩
  replace KA := hide (KA.out.below q1)
  clear cA0 cA1
  obtain ⟨-, cA0, cA1⟩ := KA.out
  replace KB := hide (KB.out.below q1)
  clear cB0 cB1
  obtain ⟨-, cB0, cB1⟩ := KB.out
  replace KC := hide (KC.out.below q1)
  clear cC0 cC1
  obtain ⟨-, cC0, cC1⟩ := KC.out
  replace BL := hide (BL.out.trans (q1.mono BL.out.size))
  clear q1
  go_wp2_with fail
  go_ret
  exact ⟨rfl, BL.out⟩
set_option maxHeartbeats 1000000 in
theorem sBnd_no2 (n sa za sb zb sc zc p q : Int) (w : World) (hn : bd n) (hsa : bd sa) (hza : bd za) (hsb : bd sb) (hzb : bd zb) (hsc : bd sc) (hzc : bd zc) (hp : bd p) (hq : bd q) (g1 : decide (1 ≤ n ∧ n ≤ 4096) = true) (g2 : decide (0 ≤ p ∧ p ≤ 16777216) = false) :
    Calls Try.prog 8 #[.int .i64 n, .agg #[.int .i64 sa, .int .i64 za], .agg #[.int .i64 sb, .int .i64 zb], .agg #[.int .i64 sc, .int .i64 zc], .int .i64 p, .int .i64 q] w fun e w' => e = .returned (.int .i64 0) ∧ Below w.heap.size w w' := by
  have Hn := hide hn
  have Hsa := hide hsa
  have Hza := hide hza
  have Hsb := hide hsb
  have Hzb := hide hzb
  have Hsc := hide hsc
  have Hzc := hide hzc
  have Hp := hide hp
  have Hq := hide hq
  clear hn hsa hza hsb hzb hsc hzc hp hq
  have G1 := hide g1
  have G2 := hide g2
  clear g1 g2
  obtain ⟨WA, hWA⟩ : ∃ WA, w.alloc (.cells #[.int .i64 sa, .int .i64 za] 25) = WA := ⟨_, rfl⟩
  have nWA : Below w.heap.size w WA := hWA ▸ (Below.refl _ _).alloc (Nat.le_refl _) _
  have mWA : Box2 WA w.heap.size sa za := hWA ▸ box2_new _ _ _ _
  obtain ⟨WB, hWB⟩ : ∃ WB, WA.alloc (.cells #[.int .i64 sb, .int .i64 zb] 25) = WB := ⟨_, rfl⟩
  have nWB : Below WA.heap.size WA WB := hWB ▸ (Below.refl _ _).alloc (Nat.le_refl _) _
  have mWB : Box2 WB WA.heap.size sb zb := hWB ▸ box2_new _ _ _ _
  obtain ⟨WC, hWC⟩ : ∃ WC, WB.alloc (.cells #[.int .i64 sc, .int .i64 zc] 25) = WC := ⟨_, rfl⟩
  have nWC : Below WB.heap.size WB WC := hWC ▸ (Below.refl _ _).alloc (Nat.le_refl _) _
  have mWC : Box2 WC WB.heap.size sc zc := hWC ▸ box2_new _ _ _ _
  have BL : Hid (Below w.heap.size w WC) := hide (((nWA).trans (nWB.mono (nWA).size)).trans (nWC.mono ((nWA).trans (nWB.mono (nWA).size)).size))
  have KA := hide (((mWA).below nWB).below nWC)
  have KB := hide ((mWB).below nWC)
  have KC := hide (mWC)
  clear nWA mWA
  clear nWB mWB
  clear nWC mWC
  obtain ⟨-, cA0, cA1⟩ := KA.out
  obtain ⟨-, cB0, cB1⟩ := KB.out
  obtain ⟨-, cC0, cC1⟩ := KC.out
  go_enter Try.func8, Try.ntmps8
  go_wp2_with fail
  refine (gInS n 1 4096 true G1.out _).mono ?_
  rintro e1 w1 ⟨rfl, q1⟩
  replace KA := hide (KA.out.below q1)
  clear cA0 cA1
  obtain ⟨-, cA0, cA1⟩ := KA.out
  replace KB := hide (KB.out.below q1)
  clear cB0 cB1
  obtain ⟨-, cB0, cB1⟩ := KB.out
  replace KC := hide (KC.out.below q1)
  clear cC0 cC1
  obtain ⟨-, cC0, cC1⟩ := KC.out
  replace BL := hide (BL.out.trans (q1.mono BL.out.size))
  clear q1
  go_wp2_with fail
  refine (gInS p 0 16777216 false G2.out _).mono ?_
  rintro e1 w2 ⟨rfl, q2⟩
  replace KA := hide (KA.out.below q2)
  clear cA0 cA1
  obtain ⟨-, cA0, cA1⟩ := KA.out
  replace KB := hide (KB.out.below q2)
  clear cB0 cB1
  obtain ⟨-, cB0, cB1⟩ := KB.out
  replace KC := hide (KC.out.below q2)
  clear cC0 cC1
  obtain ⟨-, cC0, cC1⟩ := KC.out
  replace BL := hide (BL.out.trans (q2.mono BL.out.size))
  clear q2
  go_wp2_with fail
  go_ret
  exact ⟨rfl, BL.out⟩
set_option maxHeartbeats 1000000 in
theorem sBnd_no3 (n sa za sb zb sc zc p q : Int) (w : World) (hn : bd n) (hsa : bd sa) (hza : bd za) (hsb : bd sb) (hzb : bd zb) (hsc : bd sc) (hzc : bd zc) (hp : bd p) (hq : bd q) (g1 : decide (1 ≤ n ∧ n ≤ 4096) = true) (g2 : decide (0 ≤ p ∧ p ≤ 16777216) = true) (g3 : decide (0 ≤ q ∧ q ≤ 16777216) = false) :
    Calls Try.prog 8 #[.int .i64 n, .agg #[.int .i64 sa, .int .i64 za], .agg #[.int .i64 sb, .int .i64 zb], .agg #[.int .i64 sc, .int .i64 zc], .int .i64 p, .int .i64 q] w fun e w' => e = .returned (.int .i64 0) ∧ Below w.heap.size w w' := by
  have Hn := hide hn
  have Hsa := hide hsa
  have Hza := hide hza
  have Hsb := hide hsb
  have Hzb := hide hzb
  have Hsc := hide hsc
  have Hzc := hide hzc
  have Hp := hide hp
  have Hq := hide hq
  clear hn hsa hza hsb hzb hsc hzc hp hq
  have G1 := hide g1
  have G2 := hide g2
  have G3 := hide g3
  clear g1 g2 g3
  obtain ⟨WA, hWA⟩ : ∃ WA, w.alloc (.cells #[.int .i64 sa, .int .i64 za] 25) = WA := ⟨_, rfl⟩
  have nWA : Below w.heap.size w WA := hWA ▸ (Below.refl _ _).alloc (Nat.le_refl _) _
  have mWA : Box2 WA w.heap.size sa za := hWA ▸ box2_new _ _ _ _
  obtain ⟨WB, hWB⟩ : ∃ WB, WA.alloc (.cells #[.int .i64 sb, .int .i64 zb] 25) = WB := ⟨_, rfl⟩
  have nWB : Below WA.heap.size WA WB := hWB ▸ (Below.refl _ _).alloc (Nat.le_refl _) _
  have mWB : Box2 WB WA.heap.size sb zb := hWB ▸ box2_new _ _ _ _
  obtain ⟨WC, hWC⟩ : ∃ WC, WB.alloc (.cells #[.int .i64 sc, .int .i64 zc] 25) = WC := ⟨_, rfl⟩
  have nWC : Below WB.heap.size WB WC := hWC ▸ (Below.refl _ _).alloc (Nat.le_refl _) _
  have mWC : Box2 WC WB.heap.size sc zc := hWC ▸ box2_new _ _ _ _
  have BL : Hid (Below w.heap.size w WC) := hide (((nWA).trans (nWB.mono (nWA).size)).trans (nWC.mono ((nWA).trans (nWB.mono (nWA).size)).size))
  have KA := hide (((mWA).below nWB).below nWC)
  have KB := hide ((mWB).below nWC)
  have KC := hide (mWC)
  clear nWA mWA
  clear nWB mWB
  clear nWC mWC
  obtain ⟨-, cA0, cA1⟩ := KA.out
  obtain ⟨-, cB0, cB1⟩ := KB.out
  obtain ⟨-, cC0, cC1⟩ := KC.out
  go_enter Try.func8, Try.ntmps8
  go_wp2_with fail
  refine (gInS n 1 4096 true G1.out _).mono ?_
  rintro e1 w1 ⟨rfl, q1⟩
  replace KA := hide (KA.out.below q1)
  clear cA0 cA1
  obtain ⟨-, cA0, cA1⟩ := KA.out
  replace KB := hide (KB.out.below q1)
  clear cB0 cB1
  obtain ⟨-, cB0, cB1⟩ := KB.out
  replace KC := hide (KC.out.below q1)
  clear cC0 cC1
  obtain ⟨-, cC0, cC1⟩ := KC.out
  replace BL := hide (BL.out.trans (q1.mono BL.out.size))
  clear q1
  go_wp2_with fail
  refine (gInS p 0 16777216 true G2.out _).mono ?_
  rintro e1 w2 ⟨rfl, q2⟩
  replace KA := hide (KA.out.below q2)
  clear cA0 cA1
  obtain ⟨-, cA0, cA1⟩ := KA.out
  replace KB := hide (KB.out.below q2)
  clear cB0 cB1
  obtain ⟨-, cB0, cB1⟩ := KB.out
  replace KC := hide (KC.out.below q2)
  clear cC0 cC1
  obtain ⟨-, cC0, cC1⟩ := KC.out
  replace BL := hide (BL.out.trans (q2.mono BL.out.size))
  clear q2
  go_wp2_with fail
  refine (gInS q 0 16777216 false G3.out _).mono ?_
  rintro e1 w3 ⟨rfl, q3⟩
  replace KA := hide (KA.out.below q3)
  clear cA0 cA1
  obtain ⟨-, cA0, cA1⟩ := KA.out
  replace KB := hide (KB.out.below q3)
  clear cB0 cB1
  obtain ⟨-, cB0, cB1⟩ := KB.out
  replace KC := hide (KC.out.below q3)
  clear cC0 cC1
  obtain ⟨-, cC0, cC1⟩ := KC.out
  replace BL := hide (BL.out.trans (q3.mono BL.out.size))
  clear q3
  go_wp2_with fail
  go_ret
  exact ⟨rfl, BL.out⟩
set_option maxHeartbeats 1000000 in
theorem sBnd_no4 (n sa za sb zb sc zc p q : Int) (w : World) (hn : bd n) (hsa : bd sa) (hza : bd za) (hsb : bd sb) (hzb : bd zb) (hsc : bd sc) (hzc : bd zc) (hp : bd p) (hq : bd q) (g1 : decide (1 ≤ n ∧ n ≤ 4096) = true) (g2 : decide (0 ≤ p ∧ p ≤ 16777216) = true) (g3 : decide (0 ≤ q ∧ q ≤ 16777216) = true) (g4 : scOk sa za = false) :
    Calls Try.prog 8 #[.int .i64 n, .agg #[.int .i64 sa, .int .i64 za], .agg #[.int .i64 sb, .int .i64 zb], .agg #[.int .i64 sc, .int .i64 zc], .int .i64 p, .int .i64 q] w fun e w' => e = .returned (.int .i64 0) ∧ Below w.heap.size w w' := by
  have Hn := hide hn
  have Hsa := hide hsa
  have Hza := hide hza
  have Hsb := hide hsb
  have Hzb := hide hzb
  have Hsc := hide hsc
  have Hzc := hide hzc
  have Hp := hide hp
  have Hq := hide hq
  clear hn hsa hza hsb hzb hsc hzc hp hq
  have G1 := hide g1
  have G2 := hide g2
  have G3 := hide g3
  have G4 := hide g4
  clear g1 g2 g3 g4
  obtain ⟨WA, hWA⟩ : ∃ WA, w.alloc (.cells #[.int .i64 sa, .int .i64 za] 25) = WA := ⟨_, rfl⟩
  have nWA : Below w.heap.size w WA := hWA ▸ (Below.refl _ _).alloc (Nat.le_refl _) _
  have mWA : Box2 WA w.heap.size sa za := hWA ▸ box2_new _ _ _ _
  obtain ⟨WB, hWB⟩ : ∃ WB, WA.alloc (.cells #[.int .i64 sb, .int .i64 zb] 25) = WB := ⟨_, rfl⟩
  have nWB : Below WA.heap.size WA WB := hWB ▸ (Below.refl _ _).alloc (Nat.le_refl _) _
  have mWB : Box2 WB WA.heap.size sb zb := hWB ▸ box2_new _ _ _ _
  obtain ⟨WC, hWC⟩ : ∃ WC, WB.alloc (.cells #[.int .i64 sc, .int .i64 zc] 25) = WC := ⟨_, rfl⟩
  have nWC : Below WB.heap.size WB WC := hWC ▸ (Below.refl _ _).alloc (Nat.le_refl _) _
  have mWC : Box2 WC WB.heap.size sc zc := hWC ▸ box2_new _ _ _ _
  have BL : Hid (Below w.heap.size w WC) := hide (((nWA).trans (nWB.mono (nWA).size)).trans (nWC.mono ((nWA).trans (nWB.mono (nWA).size)).size))
  have KA := hide (((mWA).below nWB).below nWC)
  have KB := hide ((mWB).below nWC)
  have KC := hide (mWC)
  clear nWA mWA
  clear nWB mWB
  clear nWC mWC
  obtain ⟨-, cA0, cA1⟩ := KA.out
  obtain ⟨-, cB0, cB1⟩ := KB.out
  obtain ⟨-, cC0, cC1⟩ := KC.out
  go_enter Try.func8, Try.ntmps8
  go_wp2_with fail
  refine (gInS n 1 4096 true G1.out _).mono ?_
  rintro e1 w1 ⟨rfl, q1⟩
  replace KA := hide (KA.out.below q1)
  clear cA0 cA1
  obtain ⟨-, cA0, cA1⟩ := KA.out
  replace KB := hide (KB.out.below q1)
  clear cB0 cB1
  obtain ⟨-, cB0, cB1⟩ := KB.out
  replace KC := hide (KC.out.below q1)
  clear cC0 cC1
  obtain ⟨-, cC0, cC1⟩ := KC.out
  replace BL := hide (BL.out.trans (q1.mono BL.out.size))
  clear q1
  go_wp2_with fail
  refine (gInS p 0 16777216 true G2.out _).mono ?_
  rintro e1 w2 ⟨rfl, q2⟩
  replace KA := hide (KA.out.below q2)
  clear cA0 cA1
  obtain ⟨-, cA0, cA1⟩ := KA.out
  replace KB := hide (KB.out.below q2)
  clear cB0 cB1
  obtain ⟨-, cB0, cB1⟩ := KB.out
  replace KC := hide (KC.out.below q2)
  clear cC0 cC1
  obtain ⟨-, cC0, cC1⟩ := KC.out
  replace BL := hide (BL.out.trans (q2.mono BL.out.size))
  clear q2
  go_wp2_with fail
  refine (gInS q 0 16777216 true G3.out _).mono ?_
  rintro e1 w3 ⟨rfl, q3⟩
  replace KA := hide (KA.out.below q3)
  clear cA0 cA1
  obtain ⟨-, cA0, cA1⟩ := KA.out
  replace KB := hide (KB.out.below q3)
  clear cB0 cB1
  obtain ⟨-, cB0, cB1⟩ := KB.out
  replace KC := hide (KC.out.below q3)
  clear cC0 cC1
  obtain ⟨-, cC0, cC1⟩ := KC.out
  replace BL := hide (BL.out.trans (q3.mono BL.out.size))
  clear q3
  go_wp2_with fail
  refine (gScaleS sa za false G4.out _).mono ?_
  rintro e1 w4 ⟨rfl, q4⟩
  replace KA := hide (KA.out.below q4)
  clear cA0 cA1
  obtain ⟨-, cA0, cA1⟩ := KA.out
  replace KB := hide (KB.out.below q4)
  clear cB0 cB1
  obtain ⟨-, cB0, cB1⟩ := KB.out
  replace KC := hide (KC.out.below q4)
  clear cC0 cC1
  obtain ⟨-, cC0, cC1⟩ := KC.out
  replace BL := hide (BL.out.trans (q4.mono BL.out.size))
  clear q4
  go_wp2_with fail
  go_ret
  exact ⟨rfl, BL.out⟩
set_option maxHeartbeats 1000000 in
theorem sBnd_no5 (n sa za sb zb sc zc p q : Int) (w : World) (hn : bd n) (hsa : bd sa) (hza : bd za) (hsb : bd sb) (hzb : bd zb) (hsc : bd sc) (hzc : bd zc) (hp : bd p) (hq : bd q) (g1 : decide (1 ≤ n ∧ n ≤ 4096) = true) (g2 : decide (0 ≤ p ∧ p ≤ 16777216) = true) (g3 : decide (0 ≤ q ∧ q ≤ 16777216) = true) (g4 : scOk sa za = true) (g5 : scOk sb zb = false) :
    Calls Try.prog 8 #[.int .i64 n, .agg #[.int .i64 sa, .int .i64 za], .agg #[.int .i64 sb, .int .i64 zb], .agg #[.int .i64 sc, .int .i64 zc], .int .i64 p, .int .i64 q] w fun e w' => e = .returned (.int .i64 0) ∧ Below w.heap.size w w' := by
  have Hn := hide hn
  have Hsa := hide hsa
  have Hza := hide hza
  have Hsb := hide hsb
  have Hzb := hide hzb
  have Hsc := hide hsc
  have Hzc := hide hzc
  have Hp := hide hp
  have Hq := hide hq
  clear hn hsa hza hsb hzb hsc hzc hp hq
  have G1 := hide g1
  have G2 := hide g2
  have G3 := hide g3
  have G4 := hide g4
  have G5 := hide g5
  clear g1 g2 g3 g4 g5
  obtain ⟨WA, hWA⟩ : ∃ WA, w.alloc (.cells #[.int .i64 sa, .int .i64 za] 25) = WA := ⟨_, rfl⟩
  have nWA : Below w.heap.size w WA := hWA ▸ (Below.refl _ _).alloc (Nat.le_refl _) _
  have mWA : Box2 WA w.heap.size sa za := hWA ▸ box2_new _ _ _ _
  obtain ⟨WB, hWB⟩ : ∃ WB, WA.alloc (.cells #[.int .i64 sb, .int .i64 zb] 25) = WB := ⟨_, rfl⟩
  have nWB : Below WA.heap.size WA WB := hWB ▸ (Below.refl _ _).alloc (Nat.le_refl _) _
  have mWB : Box2 WB WA.heap.size sb zb := hWB ▸ box2_new _ _ _ _
  obtain ⟨WC, hWC⟩ : ∃ WC, WB.alloc (.cells #[.int .i64 sc, .int .i64 zc] 25) = WC := ⟨_, rfl⟩
  have nWC : Below WB.heap.size WB WC := hWC ▸ (Below.refl _ _).alloc (Nat.le_refl _) _
  have mWC : Box2 WC WB.heap.size sc zc := hWC ▸ box2_new _ _ _ _
  have BL : Hid (Below w.heap.size w WC) := hide (((nWA).trans (nWB.mono (nWA).size)).trans (nWC.mono ((nWA).trans (nWB.mono (nWA).size)).size))
  have KA := hide (((mWA).below nWB).below nWC)
  have KB := hide ((mWB).below nWC)
  have KC := hide (mWC)
  clear nWA mWA
  clear nWB mWB
  clear nWC mWC
  obtain ⟨-, cA0, cA1⟩ := KA.out
  obtain ⟨-, cB0, cB1⟩ := KB.out
  obtain ⟨-, cC0, cC1⟩ := KC.out
  go_enter Try.func8, Try.ntmps8
  go_wp2_with fail
  refine (gInS n 1 4096 true G1.out _).mono ?_
  rintro e1 w1 ⟨rfl, q1⟩
  replace KA := hide (KA.out.below q1)
  clear cA0 cA1
  obtain ⟨-, cA0, cA1⟩ := KA.out
  replace KB := hide (KB.out.below q1)
  clear cB0 cB1
  obtain ⟨-, cB0, cB1⟩ := KB.out
  replace KC := hide (KC.out.below q1)
  clear cC0 cC1
  obtain ⟨-, cC0, cC1⟩ := KC.out
  replace BL := hide (BL.out.trans (q1.mono BL.out.size))
  clear q1
  go_wp2_with fail
  refine (gInS p 0 16777216 true G2.out _).mono ?_
  rintro e1 w2 ⟨rfl, q2⟩
  replace KA := hide (KA.out.below q2)
  clear cA0 cA1
  obtain ⟨-, cA0, cA1⟩ := KA.out
  replace KB := hide (KB.out.below q2)
  clear cB0 cB1
  obtain ⟨-, cB0, cB1⟩ := KB.out
  replace KC := hide (KC.out.below q2)
  clear cC0 cC1
  obtain ⟨-, cC0, cC1⟩ := KC.out
  replace BL := hide (BL.out.trans (q2.mono BL.out.size))
  clear q2
  go_wp2_with fail
  refine (gInS q 0 16777216 true G3.out _).mono ?_
  rintro e1 w3 ⟨rfl, q3⟩
  replace KA := hide (KA.out.below q3)
  clear cA0 cA1
  obtain ⟨-, cA0, cA1⟩ := KA.out
  replace KB := hide (KB.out.below q3)
  clear cB0 cB1
  obtain ⟨-, cB0, cB1⟩ := KB.out
  replace KC := hide (KC.out.below q3)
  clear cC0 cC1
  obtain ⟨-, cC0, cC1⟩ := KC.out
  replace BL := hide (BL.out.trans (q3.mono BL.out.size))
  clear q3
  go_wp2_with fail
  refine (gScaleS sa za true G4.out _).mono ?_
  rintro e1 w4 ⟨rfl, q4⟩
  replace KA := hide (KA.out.below q4)
  clear cA0 cA1
  obtain ⟨-, cA0, cA1⟩ := KA.out
  replace KB := hide (KB.out.below q4)
  clear cB0 cB1
  obtain ⟨-, cB0, cB1⟩ := KB.out
  replace KC := hide (KC.out.below q4)
  clear cC0 cC1
  obtain ⟨-, cC0, cC1⟩ := KC.out
  replace BL := hide (BL.out.trans (q4.mono BL.out.size))
  clear q4
  go_wp2_with fail
  refine (gScaleS sb zb false G5.out _).mono ?_
  rintro e1 w5 ⟨rfl, q5⟩
  replace KA := hide (KA.out.below q5)
  clear cA0 cA1
  obtain ⟨-, cA0, cA1⟩ := KA.out
  replace KB := hide (KB.out.below q5)
  clear cB0 cB1
  obtain ⟨-, cB0, cB1⟩ := KB.out
  replace KC := hide (KC.out.below q5)
  clear cC0 cC1
  obtain ⟨-, cC0, cC1⟩ := KC.out
  replace BL := hide (BL.out.trans (q5.mono BL.out.size))
  clear q5
  go_wp2_with fail
  go_ret
  exact ⟨rfl, BL.out⟩
set_option maxHeartbeats 1000000 in
theorem sBnd_no6 (n sa za sb zb sc zc p q : Int) (w : World) (hn : bd n) (hsa : bd sa) (hza : bd za) (hsb : bd sb) (hzb : bd zb) (hsc : bd sc) (hzc : bd zc) (hp : bd p) (hq : bd q) (g1 : decide (1 ≤ n ∧ n ≤ 4096) = true) (g2 : decide (0 ≤ p ∧ p ≤ 16777216) = true) (g3 : decide (0 ≤ q ∧ q ≤ 16777216) = true) (g4 : scOk sa za = true) (g5 : scOk sb zb = true) (g6 : scOk sc zc = false) :
    Calls Try.prog 8 #[.int .i64 n, .agg #[.int .i64 sa, .int .i64 za], .agg #[.int .i64 sb, .int .i64 zb], .agg #[.int .i64 sc, .int .i64 zc], .int .i64 p, .int .i64 q] w fun e w' => e = .returned (.int .i64 0) ∧ Below w.heap.size w w' := by
  have Hn := hide hn
  have Hsa := hide hsa
  have Hza := hide hza
  have Hsb := hide hsb
  have Hzb := hide hzb
  have Hsc := hide hsc
  have Hzc := hide hzc
  have Hp := hide hp
  have Hq := hide hq
  clear hn hsa hza hsb hzb hsc hzc hp hq
  have G1 := hide g1
  have G2 := hide g2
  have G3 := hide g3
  have G4 := hide g4
  have G5 := hide g5
  have G6 := hide g6
  clear g1 g2 g3 g4 g5 g6
  obtain ⟨WA, hWA⟩ : ∃ WA, w.alloc (.cells #[.int .i64 sa, .int .i64 za] 25) = WA := ⟨_, rfl⟩
  have nWA : Below w.heap.size w WA := hWA ▸ (Below.refl _ _).alloc (Nat.le_refl _) _
  have mWA : Box2 WA w.heap.size sa za := hWA ▸ box2_new _ _ _ _
  obtain ⟨WB, hWB⟩ : ∃ WB, WA.alloc (.cells #[.int .i64 sb, .int .i64 zb] 25) = WB := ⟨_, rfl⟩
  have nWB : Below WA.heap.size WA WB := hWB ▸ (Below.refl _ _).alloc (Nat.le_refl _) _
  have mWB : Box2 WB WA.heap.size sb zb := hWB ▸ box2_new _ _ _ _
  obtain ⟨WC, hWC⟩ : ∃ WC, WB.alloc (.cells #[.int .i64 sc, .int .i64 zc] 25) = WC := ⟨_, rfl⟩
  have nWC : Below WB.heap.size WB WC := hWC ▸ (Below.refl _ _).alloc (Nat.le_refl _) _
  have mWC : Box2 WC WB.heap.size sc zc := hWC ▸ box2_new _ _ _ _
  have BL : Hid (Below w.heap.size w WC) := hide (((nWA).trans (nWB.mono (nWA).size)).trans (nWC.mono ((nWA).trans (nWB.mono (nWA).size)).size))
  have KA := hide (((mWA).below nWB).below nWC)
  have KB := hide ((mWB).below nWC)
  have KC := hide (mWC)
  clear nWA mWA
  clear nWB mWB
  clear nWC mWC
  obtain ⟨-, cA0, cA1⟩ := KA.out
  obtain ⟨-, cB0, cB1⟩ := KB.out
  obtain ⟨-, cC0, cC1⟩ := KC.out
  go_enter Try.func8, Try.ntmps8
  go_wp2_with fail
  refine (gInS n 1 4096 true G1.out _).mono ?_
  rintro e1 w1 ⟨rfl, q1⟩
  replace KA := hide (KA.out.below q1)
  clear cA0 cA1
  obtain ⟨-, cA0, cA1⟩ := KA.out
  replace KB := hide (KB.out.below q1)
  clear cB0 cB1
  obtain ⟨-, cB0, cB1⟩ := KB.out
  replace KC := hide (KC.out.below q1)
  clear cC0 cC1
  obtain ⟨-, cC0, cC1⟩ := KC.out
  replace BL := hide (BL.out.trans (q1.mono BL.out.size))
  clear q1
  go_wp2_with fail
  refine (gInS p 0 16777216 true G2.out _).mono ?_
  rintro e1 w2 ⟨rfl, q2⟩
  replace KA := hide (KA.out.below q2)
  clear cA0 cA1
  obtain ⟨-, cA0, cA1⟩ := KA.out
  replace KB := hide (KB.out.below q2)
  clear cB0 cB1
  obtain ⟨-, cB0, cB1⟩ := KB.out
  replace KC := hide (KC.out.below q2)
  clear cC0 cC1
  obtain ⟨-, cC0, cC1⟩ := KC.out
  replace BL := hide (BL.out.trans (q2.mono BL.out.size))
  clear q2
  go_wp2_with fail
  refine (gInS q 0 16777216 true G3.out _).mono ?_
  rintro e1 w3 ⟨rfl, q3⟩
  replace KA := hide (KA.out.below q3)
  clear cA0 cA1
  obtain ⟨-, cA0, cA1⟩ := KA.out
  replace KB := hide (KB.out.below q3)
  clear cB0 cB1
  obtain ⟨-, cB0, cB1⟩ := KB.out
  replace KC := hide (KC.out.below q3)
  clear cC0 cC1
  obtain ⟨-, cC0, cC1⟩ := KC.out
  replace BL := hide (BL.out.trans (q3.mono BL.out.size))
  clear q3
  go_wp2_with fail
  refine (gScaleS sa za true G4.out _).mono ?_
  rintro e1 w4 ⟨rfl, q4⟩
  replace KA := hide (KA.out.below q4)
  clear cA0 cA1
  obtain ⟨-, cA0, cA1⟩ := KA.out
  replace KB := hide (KB.out.below q4)
  clear cB0 cB1
  obtain ⟨-, cB0, cB1⟩ := KB.out
  replace KC := hide (KC.out.below q4)
  clear cC0 cC1
  obtain ⟨-, cC0, cC1⟩ := KC.out
  replace BL := hide (BL.out.trans (q4.mono BL.out.size))
  clear q4
  go_wp2_with fail
  refine (gScaleS sb zb true G5.out _).mono ?_
  rintro e1 w5 ⟨rfl, q5⟩
  replace KA := hide (KA.out.below q5)
  clear cA0 cA1
  obtain ⟨-, cA0, cA1⟩ := KA.out
  replace KB := hide (KB.out.below q5)
  clear cB0 cB1
  obtain ⟨-, cB0, cB1⟩ := KB.out
  replace KC := hide (KC.out.below q5)
  clear cC0 cC1
  obtain ⟨-, cC0, cC1⟩ := KC.out
  replace BL := hide (BL.out.trans (q5.mono BL.out.size))
  clear q5
  go_wp2_with fail
  refine (gScaleS sc zc false G6.out _).mono ?_
  rintro e1 w6 ⟨rfl, q6⟩
  replace KA := hide (KA.out.below q6)
  clear cA0 cA1
  obtain ⟨-, cA0, cA1⟩ := KA.out
  replace KB := hide (KB.out.below q6)
  clear cB0 cB1
  obtain ⟨-, cB0, cB1⟩ := KB.out
  replace KC := hide (KC.out.below q6)
  clear cC0 cC1
  obtain ⟨-, cC0, cC1⟩ := KC.out
  replace BL := hide (BL.out.trans (q6.mono BL.out.size))
  clear q6
  go_wp2_with fail
  go_ret
  exact ⟨rfl, BL.out⟩
set_option maxHeartbeats 1000000 in
theorem sBnd_no7 (n sa za sb zb sc zc p q : Int) (w : World) (hn : bd n) (hsa : bd sa) (hza : bd za) (hsb : bd sb) (hzb : bd zb) (hsc : bd sc) (hzc : bd zc) (hp : bd p) (hq : bd q) (g1 : decide (1 ≤ n ∧ n ≤ 4096) = true) (g2 : decide (0 ≤ p ∧ p ≤ 16777216) = true) (g3 : decide (0 ≤ q ∧ q ≤ 16777216) = true) (g4 : scOk sa za = true) (g5 : scOk sb zb = true) (g6 : scOk sc zc = true) (g7 : decide (sa ≤ 16777216) = false) :
    Calls Try.prog 8 #[.int .i64 n, .agg #[.int .i64 sa, .int .i64 za], .agg #[.int .i64 sb, .int .i64 zb], .agg #[.int .i64 sc, .int .i64 zc], .int .i64 p, .int .i64 q] w fun e w' => e = .returned (.int .i64 0) ∧ Below w.heap.size w w' := by
  have Hn := hide hn
  have Hsa := hide hsa
  have Hza := hide hza
  have Hsb := hide hsb
  have Hzb := hide hzb
  have Hsc := hide hsc
  have Hzc := hide hzc
  have Hp := hide hp
  have Hq := hide hq
  clear hn hsa hza hsb hzb hsc hzc hp hq
  have f7 : decide (16777216 < sa) = true := decide_eq_true (by have := of_decide_eq_false g7; omega)
  have G1 := hide g1
  have G2 := hide g2
  have G3 := hide g3
  have G4 := hide g4
  have G5 := hide g5
  have G6 := hide g6
  have G7 := hide g7
  clear g1 g2 g3 g4 g5 g6 g7
  obtain ⟨WA, hWA⟩ : ∃ WA, w.alloc (.cells #[.int .i64 sa, .int .i64 za] 25) = WA := ⟨_, rfl⟩
  have nWA : Below w.heap.size w WA := hWA ▸ (Below.refl _ _).alloc (Nat.le_refl _) _
  have mWA : Box2 WA w.heap.size sa za := hWA ▸ box2_new _ _ _ _
  obtain ⟨WB, hWB⟩ : ∃ WB, WA.alloc (.cells #[.int .i64 sb, .int .i64 zb] 25) = WB := ⟨_, rfl⟩
  have nWB : Below WA.heap.size WA WB := hWB ▸ (Below.refl _ _).alloc (Nat.le_refl _) _
  have mWB : Box2 WB WA.heap.size sb zb := hWB ▸ box2_new _ _ _ _
  obtain ⟨WC, hWC⟩ : ∃ WC, WB.alloc (.cells #[.int .i64 sc, .int .i64 zc] 25) = WC := ⟨_, rfl⟩
  have nWC : Below WB.heap.size WB WC := hWC ▸ (Below.refl _ _).alloc (Nat.le_refl _) _
  have mWC : Box2 WC WB.heap.size sc zc := hWC ▸ box2_new _ _ _ _
  have BL : Hid (Below w.heap.size w WC) := hide (((nWA).trans (nWB.mono (nWA).size)).trans (nWC.mono ((nWA).trans (nWB.mono (nWA).size)).size))
  have KA := hide (((mWA).below nWB).below nWC)
  have KB := hide ((mWB).below nWC)
  have KC := hide (mWC)
  clear nWA mWA
  clear nWB mWB
  clear nWC mWC
  obtain ⟨-, cA0, cA1⟩ := KA.out
  obtain ⟨-, cB0, cB1⟩ := KB.out
  obtain ⟨-, cC0, cC1⟩ := KC.out
  go_enter Try.func8, Try.ntmps8
  go_wp2_with fail
  refine (gInS n 1 4096 true G1.out _).mono ?_
  rintro e1 w1 ⟨rfl, q1⟩
  replace KA := hide (KA.out.below q1)
  clear cA0 cA1
  obtain ⟨-, cA0, cA1⟩ := KA.out
  replace KB := hide (KB.out.below q1)
  clear cB0 cB1
  obtain ⟨-, cB0, cB1⟩ := KB.out
  replace KC := hide (KC.out.below q1)
  clear cC0 cC1
  obtain ⟨-, cC0, cC1⟩ := KC.out
  replace BL := hide (BL.out.trans (q1.mono BL.out.size))
  clear q1
  go_wp2_with fail
  refine (gInS p 0 16777216 true G2.out _).mono ?_
  rintro e1 w2 ⟨rfl, q2⟩
  replace KA := hide (KA.out.below q2)
  clear cA0 cA1
  obtain ⟨-, cA0, cA1⟩ := KA.out
  replace KB := hide (KB.out.below q2)
  clear cB0 cB1
  obtain ⟨-, cB0, cB1⟩ := KB.out
  replace KC := hide (KC.out.below q2)
  clear cC0 cC1
  obtain ⟨-, cC0, cC1⟩ := KC.out
  replace BL := hide (BL.out.trans (q2.mono BL.out.size))
  clear q2
  go_wp2_with fail
  refine (gInS q 0 16777216 true G3.out _).mono ?_
  rintro e1 w3 ⟨rfl, q3⟩
  replace KA := hide (KA.out.below q3)
  clear cA0 cA1
  obtain ⟨-, cA0, cA1⟩ := KA.out
  replace KB := hide (KB.out.below q3)
  clear cB0 cB1
  obtain ⟨-, cB0, cB1⟩ := KB.out
  replace KC := hide (KC.out.below q3)
  clear cC0 cC1
  obtain ⟨-, cC0, cC1⟩ := KC.out
  replace BL := hide (BL.out.trans (q3.mono BL.out.size))
  clear q3
  go_wp2_with fail
  refine (gScaleS sa za true G4.out _).mono ?_
  rintro e1 w4 ⟨rfl, q4⟩
  replace KA := hide (KA.out.below q4)
  clear cA0 cA1
  obtain ⟨-, cA0, cA1⟩ := KA.out
  replace KB := hide (KB.out.below q4)
  clear cB0 cB1
  obtain ⟨-, cB0, cB1⟩ := KB.out
  replace KC := hide (KC.out.below q4)
  clear cC0 cC1
  obtain ⟨-, cC0, cC1⟩ := KC.out
  replace BL := hide (BL.out.trans (q4.mono BL.out.size))
  clear q4
  go_wp2_with fail
  refine (gScaleS sb zb true G5.out _).mono ?_
  rintro e1 w5 ⟨rfl, q5⟩
  replace KA := hide (KA.out.below q5)
  clear cA0 cA1
  obtain ⟨-, cA0, cA1⟩ := KA.out
  replace KB := hide (KB.out.below q5)
  clear cB0 cB1
  obtain ⟨-, cB0, cB1⟩ := KB.out
  replace KC := hide (KC.out.below q5)
  clear cC0 cC1
  obtain ⟨-, cC0, cC1⟩ := KC.out
  replace BL := hide (BL.out.trans (q5.mono BL.out.size))
  clear q5
  go_wp2_with fail
  refine (gScaleS sc zc true G6.out _).mono ?_
  rintro e1 w6 ⟨rfl, q6⟩
  replace KA := hide (KA.out.below q6)
  clear cA0 cA1
  obtain ⟨-, cA0, cA1⟩ := KA.out
  replace KB := hide (KB.out.below q6)
  clear cB0 cB1
  obtain ⟨-, cB0, cB1⟩ := KB.out
  replace KC := hide (KC.out.below q6)
  clear cC0 cC1
  obtain ⟨-, cC0, cC1⟩ := KC.out
  replace BL := hide (BL.out.trans (q6.mono BL.out.size))
  clear q6
  go_wp2_with fail
  go_ret
  exact ⟨rfl, BL.out⟩
set_option maxHeartbeats 1000000 in
theorem sBnd_no8 (n sa za sb zb sc zc p q : Int) (w : World) (hn : bd n) (hsa : bd sa) (hza : bd za) (hsb : bd sb) (hzb : bd zb) (hsc : bd sc) (hzc : bd zc) (hp : bd p) (hq : bd q) (g1 : decide (1 ≤ n ∧ n ≤ 4096) = true) (g2 : decide (0 ≤ p ∧ p ≤ 16777216) = true) (g3 : decide (0 ≤ q ∧ q ≤ 16777216) = true) (g4 : scOk sa za = true) (g5 : scOk sb zb = true) (g6 : scOk sc zc = true) (g7 : decide (sa ≤ 16777216) = true) (g8 : decide (sb ≤ 16777216) = false) :
    Calls Try.prog 8 #[.int .i64 n, .agg #[.int .i64 sa, .int .i64 za], .agg #[.int .i64 sb, .int .i64 zb], .agg #[.int .i64 sc, .int .i64 zc], .int .i64 p, .int .i64 q] w fun e w' => e = .returned (.int .i64 0) ∧ Below w.heap.size w w' := by
  have Hn := hide hn
  have Hsa := hide hsa
  have Hza := hide hza
  have Hsb := hide hsb
  have Hzb := hide hzb
  have Hsc := hide hsc
  have Hzc := hide hzc
  have Hp := hide hp
  have Hq := hide hq
  clear hn hsa hza hsb hzb hsc hzc hp hq
  have f7 : decide (16777216 < sa) = false := decide_eq_false (by have := of_decide_eq_true g7; omega)
  have f8 : decide (16777216 < sb) = true := decide_eq_true (by have := of_decide_eq_false g8; omega)
  have G1 := hide g1
  have G2 := hide g2
  have G3 := hide g3
  have G4 := hide g4
  have G5 := hide g5
  have G6 := hide g6
  have G7 := hide g7
  have G8 := hide g8
  clear g1 g2 g3 g4 g5 g6 g7 g8
  obtain ⟨WA, hWA⟩ : ∃ WA, w.alloc (.cells #[.int .i64 sa, .int .i64 za] 25) = WA := ⟨_, rfl⟩
  have nWA : Below w.heap.size w WA := hWA ▸ (Below.refl _ _).alloc (Nat.le_refl _) _
  have mWA : Box2 WA w.heap.size sa za := hWA ▸ box2_new _ _ _ _
  obtain ⟨WB, hWB⟩ : ∃ WB, WA.alloc (.cells #[.int .i64 sb, .int .i64 zb] 25) = WB := ⟨_, rfl⟩
  have nWB : Below WA.heap.size WA WB := hWB ▸ (Below.refl _ _).alloc (Nat.le_refl _) _
  have mWB : Box2 WB WA.heap.size sb zb := hWB ▸ box2_new _ _ _ _
  obtain ⟨WC, hWC⟩ : ∃ WC, WB.alloc (.cells #[.int .i64 sc, .int .i64 zc] 25) = WC := ⟨_, rfl⟩
  have nWC : Below WB.heap.size WB WC := hWC ▸ (Below.refl _ _).alloc (Nat.le_refl _) _
  have mWC : Box2 WC WB.heap.size sc zc := hWC ▸ box2_new _ _ _ _
  have BL : Hid (Below w.heap.size w WC) := hide (((nWA).trans (nWB.mono (nWA).size)).trans (nWC.mono ((nWA).trans (nWB.mono (nWA).size)).size))
  have KA := hide (((mWA).below nWB).below nWC)
  have KB := hide ((mWB).below nWC)
  have KC := hide (mWC)
  clear nWA mWA
  clear nWB mWB
  clear nWC mWC
  obtain ⟨-, cA0, cA1⟩ := KA.out
  obtain ⟨-, cB0, cB1⟩ := KB.out
  obtain ⟨-, cC0, cC1⟩ := KC.out
  go_enter Try.func8, Try.ntmps8
  go_wp2_with fail
  refine (gInS n 1 4096 true G1.out _).mono ?_
  rintro e1 w1 ⟨rfl, q1⟩
  replace KA := hide (KA.out.below q1)
  clear cA0 cA1
  obtain ⟨-, cA0, cA1⟩ := KA.out
  replace KB := hide (KB.out.below q1)
  clear cB0 cB1
  obtain ⟨-, cB0, cB1⟩ := KB.out
  replace KC := hide (KC.out.below q1)
  clear cC0 cC1
  obtain ⟨-, cC0, cC1⟩ := KC.out
  replace BL := hide (BL.out.trans (q1.mono BL.out.size))
  clear q1
  go_wp2_with fail
  refine (gInS p 0 16777216 true G2.out _).mono ?_
  rintro e1 w2 ⟨rfl, q2⟩
  replace KA := hide (KA.out.below q2)
  clear cA0 cA1
  obtain ⟨-, cA0, cA1⟩ := KA.out
  replace KB := hide (KB.out.below q2)
  clear cB0 cB1
  obtain ⟨-, cB0, cB1⟩ := KB.out
  replace KC := hide (KC.out.below q2)
  clear cC0 cC1
  obtain ⟨-, cC0, cC1⟩ := KC.out
  replace BL := hide (BL.out.trans (q2.mono BL.out.size))
  clear q2
  go_wp2_with fail
  refine (gInS q 0 16777216 true G3.out _).mono ?_
  rintro e1 w3 ⟨rfl, q3⟩
  replace KA := hide (KA.out.below q3)
  clear cA0 cA1
  obtain ⟨-, cA0, cA1⟩ := KA.out
  replace KB := hide (KB.out.below q3)
  clear cB0 cB1
  obtain ⟨-, cB0, cB1⟩ := KB.out
  replace KC := hide (KC.out.below q3)
  clear cC0 cC1
  obtain ⟨-, cC0, cC1⟩ := KC.out
  replace BL := hide (BL.out.trans (q3.mono BL.out.size))
  clear q3
  go_wp2_with fail
  refine (gScaleS sa za true G4.out _).mono ?_
  rintro e1 w4 ⟨rfl, q4⟩
  replace KA := hide (KA.out.below q4)
  clear cA0 cA1
  obtain ⟨-, cA0, cA1⟩ := KA.out
  replace KB := hide (KB.out.below q4)
  clear cB0 cB1
  obtain ⟨-, cB0, cB1⟩ := KB.out
  replace KC := hide (KC.out.below q4)
  clear cC0 cC1
  obtain ⟨-, cC0, cC1⟩ := KC.out
  replace BL := hide (BL.out.trans (q4.mono BL.out.size))
  clear q4
  go_wp2_with fail
  refine (gScaleS sb zb true G5.out _).mono ?_
  rintro e1 w5 ⟨rfl, q5⟩
  replace KA := hide (KA.out.below q5)
  clear cA0 cA1
  obtain ⟨-, cA0, cA1⟩ := KA.out
  replace KB := hide (KB.out.below q5)
  clear cB0 cB1
  obtain ⟨-, cB0, cB1⟩ := KB.out
  replace KC := hide (KC.out.below q5)
  clear cC0 cC1
  obtain ⟨-, cC0, cC1⟩ := KC.out
  replace BL := hide (BL.out.trans (q5.mono BL.out.size))
  clear q5
  go_wp2_with fail
  refine (gScaleS sc zc true G6.out _).mono ?_
  rintro e1 w6 ⟨rfl, q6⟩
  replace KA := hide (KA.out.below q6)
  clear cA0 cA1
  obtain ⟨-, cA0, cA1⟩ := KA.out
  replace KB := hide (KB.out.below q6)
  clear cB0 cB1
  obtain ⟨-, cB0, cB1⟩ := KB.out
  replace KC := hide (KC.out.below q6)
  clear cC0 cC1
  obtain ⟨-, cC0, cC1⟩ := KC.out
  replace BL := hide (BL.out.trans (q6.mono BL.out.size))
  clear q6
  go_wp2_with fail
  go_ret
  exact ⟨rfl, BL.out⟩
set_option maxHeartbeats 1000000 in
theorem sBnd_no9 (n sa za sb zb sc zc p q : Int) (w : World) (hn : bd n) (hsa : bd sa) (hza : bd za) (hsb : bd sb) (hzb : bd zb) (hsc : bd sc) (hzc : bd zc) (hp : bd p) (hq : bd q) (g1 : decide (1 ≤ n ∧ n ≤ 4096) = true) (g2 : decide (0 ≤ p ∧ p ≤ 16777216) = true) (g3 : decide (0 ≤ q ∧ q ≤ 16777216) = true) (g4 : scOk sa za = true) (g5 : scOk sb zb = true) (g6 : scOk sc zc = true) (g7 : decide (sa ≤ 16777216) = true) (g8 : decide (sb ≤ 16777216) = true) (g9 : decide (sc ≤ 16777216) = false) :
    Calls Try.prog 8 #[.int .i64 n, .agg #[.int .i64 sa, .int .i64 za], .agg #[.int .i64 sb, .int .i64 zb], .agg #[.int .i64 sc, .int .i64 zc], .int .i64 p, .int .i64 q] w fun e w' => e = .returned (.int .i64 0) ∧ Below w.heap.size w w' := by
  have Hn := hide hn
  have Hsa := hide hsa
  have Hza := hide hza
  have Hsb := hide hsb
  have Hzb := hide hzb
  have Hsc := hide hsc
  have Hzc := hide hzc
  have Hp := hide hp
  have Hq := hide hq
  clear hn hsa hza hsb hzb hsc hzc hp hq
  have f7 : decide (16777216 < sa) = false := decide_eq_false (by have := of_decide_eq_true g7; omega)
  have f8 : decide (16777216 < sb) = false := decide_eq_false (by have := of_decide_eq_true g8; omega)
  have f9 : decide (16777216 < sc) = true := decide_eq_true (by have := of_decide_eq_false g9; omega)
  have G1 := hide g1
  have G2 := hide g2
  have G3 := hide g3
  have G4 := hide g4
  have G5 := hide g5
  have G6 := hide g6
  have G7 := hide g7
  have G8 := hide g8
  have G9 := hide g9
  clear g1 g2 g3 g4 g5 g6 g7 g8 g9
  obtain ⟨WA, hWA⟩ : ∃ WA, w.alloc (.cells #[.int .i64 sa, .int .i64 za] 25) = WA := ⟨_, rfl⟩
  have nWA : Below w.heap.size w WA := hWA ▸ (Below.refl _ _).alloc (Nat.le_refl _) _
  have mWA : Box2 WA w.heap.size sa za := hWA ▸ box2_new _ _ _ _
  obtain ⟨WB, hWB⟩ : ∃ WB, WA.alloc (.cells #[.int .i64 sb, .int .i64 zb] 25) = WB := ⟨_, rfl⟩
  have nWB : Below WA.heap.size WA WB := hWB ▸ (Below.refl _ _).alloc (Nat.le_refl _) _
  have mWB : Box2 WB WA.heap.size sb zb := hWB ▸ box2_new _ _ _ _
  obtain ⟨WC, hWC⟩ : ∃ WC, WB.alloc (.cells #[.int .i64 sc, .int .i64 zc] 25) = WC := ⟨_, rfl⟩
  have nWC : Below WB.heap.size WB WC := hWC ▸ (Below.refl _ _).alloc (Nat.le_refl _) _
  have mWC : Box2 WC WB.heap.size sc zc := hWC ▸ box2_new _ _ _ _
  have BL : Hid (Below w.heap.size w WC) := hide (((nWA).trans (nWB.mono (nWA).size)).trans (nWC.mono ((nWA).trans (nWB.mono (nWA).size)).size))
  have KA := hide (((mWA).below nWB).below nWC)
  have KB := hide ((mWB).below nWC)
  have KC := hide (mWC)
  clear nWA mWA
  clear nWB mWB
  clear nWC mWC
  obtain ⟨-, cA0, cA1⟩ := KA.out
  obtain ⟨-, cB0, cB1⟩ := KB.out
  obtain ⟨-, cC0, cC1⟩ := KC.out
  go_enter Try.func8, Try.ntmps8
  go_wp2_with fail
  refine (gInS n 1 4096 true G1.out _).mono ?_
  rintro e1 w1 ⟨rfl, q1⟩
  replace KA := hide (KA.out.below q1)
  clear cA0 cA1
  obtain ⟨-, cA0, cA1⟩ := KA.out
  replace KB := hide (KB.out.below q1)
  clear cB0 cB1
  obtain ⟨-, cB0, cB1⟩ := KB.out
  replace KC := hide (KC.out.below q1)
  clear cC0 cC1
  obtain ⟨-, cC0, cC1⟩ := KC.out
  replace BL := hide (BL.out.trans (q1.mono BL.out.size))
  clear q1
  go_wp2_with fail
  refine (gInS p 0 16777216 true G2.out _).mono ?_
  rintro e1 w2 ⟨rfl, q2⟩
  replace KA := hide (KA.out.below q2)
  clear cA0 cA1
  obtain ⟨-, cA0, cA1⟩ := KA.out
  replace KB := hide (KB.out.below q2)
  clear cB0 cB1
  obtain ⟨-, cB0, cB1⟩ := KB.out
  replace KC := hide (KC.out.below q2)
  clear cC0 cC1
  obtain ⟨-, cC0, cC1⟩ := KC.out
  replace BL := hide (BL.out.trans (q2.mono BL.out.size))
  clear q2
  go_wp2_with fail
  refine (gInS q 0 16777216 true G3.out _).mono ?_
  rintro e1 w3 ⟨rfl, q3⟩
  replace KA := hide (KA.out.below q3)
  clear cA0 cA1
  obtain ⟨-, cA0, cA1⟩ := KA.out
  replace KB := hide (KB.out.below q3)
  clear cB0 cB1
  obtain ⟨-, cB0, cB1⟩ := KB.out
  replace KC := hide (KC.out.below q3)
  clear cC0 cC1
  obtain ⟨-, cC0, cC1⟩ := KC.out
  replace BL := hide (BL.out.trans (q3.mono BL.out.size))
  clear q3
  go_wp2_with fail
  refine (gScaleS sa za true G4.out _).mono ?_
  rintro e1 w4 ⟨rfl, q4⟩
  replace KA := hide (KA.out.below q4)
  clear cA0 cA1
  obtain ⟨-, cA0, cA1⟩ := KA.out
  replace KB := hide (KB.out.below q4)
  clear cB0 cB1
  obtain ⟨-, cB0, cB1⟩ := KB.out
  replace KC := hide (KC.out.below q4)
  clear cC0 cC1
  obtain ⟨-, cC0, cC1⟩ := KC.out
  replace BL := hide (BL.out.trans (q4.mono BL.out.size))
  clear q4
  go_wp2_with fail
  refine (gScaleS sb zb true G5.out _).mono ?_
  rintro e1 w5 ⟨rfl, q5⟩
  replace KA := hide (KA.out.below q5)
  clear cA0 cA1
  obtain ⟨-, cA0, cA1⟩ := KA.out
  replace KB := hide (KB.out.below q5)
  clear cB0 cB1
  obtain ⟨-, cB0, cB1⟩ := KB.out
  replace KC := hide (KC.out.below q5)
  clear cC0 cC1
  obtain ⟨-, cC0, cC1⟩ := KC.out
  replace BL := hide (BL.out.trans (q5.mono BL.out.size))
  clear q5
  go_wp2_with fail
  refine (gScaleS sc zc true G6.out _).mono ?_
  rintro e1 w6 ⟨rfl, q6⟩
  replace KA := hide (KA.out.below q6)
  clear cA0 cA1
  obtain ⟨-, cA0, cA1⟩ := KA.out
  replace KB := hide (KB.out.below q6)
  clear cB0 cB1
  obtain ⟨-, cB0, cB1⟩ := KB.out
  replace KC := hide (KC.out.below q6)
  clear cC0 cC1
  obtain ⟨-, cC0, cC1⟩ := KC.out
  replace BL := hide (BL.out.trans (q6.mono BL.out.size))
  clear q6
  go_wp2_with fail
  go_ret
  exact ⟨rfl, BL.out⟩
set_option maxHeartbeats 1000000 in
theorem sBnd_yes (n sa za sb zb sc zc p q : Int) (w : World) (hn : bd n) (hsa : bd sa) (hza : bd za) (hsb : bd sb) (hzb : bd zb) (hsc : bd sc) (hzc : bd zc) (hp : bd p) (hq : bd q) (a0 : 1 ≤ sa) (a1 : sa ≤ 16777216) (b0 : 1 ≤ sb) (b1 : sb ≤ 16777216) (d0 : 1 ≤ sc) (d1 : sc ≤ 16777216) (m0 : 0 ≤ p * (sb + 1)) (m1 : p * (sb + 1) ≤ 281474993487872) (m2 : 0 ≤ q * (sa + 1)) (m3 : q * (sa + 1) ≤ 281474993487872) (m4 : 0 ≤ (sa + 1) * (sb + 1)) (m5 : (sa + 1) * (sb + 1) ≤ 281475010265089) (m6 : 0 ≤ n * (p * (sb + 1) + q * (sa + 1) + (sa + 1) * (sb + 1))) (m7 : n * (p * (sb + 1) + q * (sa + 1) + (sa + 1) * (sb + 1)) ≤ 4611686018427387903) (m8 : 0 ≤ (n * (p * (sb + 1) + q * (sa + 1) + (sa + 1) * (sb + 1)) + 65535).tdiv 65536) (m9 : (n * (p * (sb + 1) + q * (sa + 1) + (sa + 1) * (sb + 1)) + 65535).tdiv 65536 ≤ 4611686018427453440) (g1 : decide (1 ≤ n ∧ n ≤ 4096) = true) (g2 : decide (0 ≤ p ∧ p ≤ 16777216) = true) (g3 : decide (0 ≤ q ∧ q ≤ 16777216) = true) (g4 : scOk sa za = true) (g5 : scOk sb zb = true) (g6 : scOk sc zc = true) (g7 : decide (sa ≤ 16777216) = true) (g8 : decide (sb ≤ 16777216) = true) (g9 : decide (sc ≤ 16777216) = true) :
    Calls Try.prog 8 #[.int .i64 n, .agg #[.int .i64 sa, .int .i64 za], .agg #[.int .i64 sb, .int .i64 zb], .agg #[.int .i64 sc, .int .i64 zc], .int .i64 p, .int .i64 q] w fun e w' => e = .returned (.int .i64 ((n * (p * (sb + 1) + q * (sa + 1) + (sa + 1) * (sb + 1)) + 65535).tdiv 65536 + 2 * sc + 2)) ∧ Below w.heap.size w w' := by
  have Hn := hide hn
  have Hsa := hide hsa
  have Hza := hide hza
  have Hsb := hide hsb
  have Hzb := hide hzb
  have Hsc := hide hsc
  have Hzc := hide hzc
  have Hp := hide hp
  have Hq := hide hq
  clear hn hsa hza hsb hzb hsc hzc hp hq
  have f7 : decide (16777216 < sa) = false := decide_eq_false (by have := of_decide_eq_true g7; omega)
  have f8 : decide (16777216 < sb) = false := decide_eq_false (by have := of_decide_eq_true g8; omega)
  have f9 : decide (16777216 < sc) = false := decide_eq_false (by have := of_decide_eq_true g9; omega)
  have G1 := hide g1
  have G2 := hide g2
  have G3 := hide g3
  have G4 := hide g4
  have G5 := hide g5
  have G6 := hide g6
  have G7 := hide g7
  have G8 := hide g8
  have G9 := hide g9
  clear g1 g2 g3 g4 g5 g6 g7 g8 g9
  obtain ⟨WA, hWA⟩ : ∃ WA, w.alloc (.cells #[.int .i64 sa, .int .i64 za] 25) = WA := ⟨_, rfl⟩
  have nWA : Below w.heap.size w WA := hWA ▸ (Below.refl _ _).alloc (Nat.le_refl _) _
  have mWA : Box2 WA w.heap.size sa za := hWA ▸ box2_new _ _ _ _
  obtain ⟨WB, hWB⟩ : ∃ WB, WA.alloc (.cells #[.int .i64 sb, .int .i64 zb] 25) = WB := ⟨_, rfl⟩
  have nWB : Below WA.heap.size WA WB := hWB ▸ (Below.refl _ _).alloc (Nat.le_refl _) _
  have mWB : Box2 WB WA.heap.size sb zb := hWB ▸ box2_new _ _ _ _
  obtain ⟨WC, hWC⟩ : ∃ WC, WB.alloc (.cells #[.int .i64 sc, .int .i64 zc] 25) = WC := ⟨_, rfl⟩
  have nWC : Below WB.heap.size WB WC := hWC ▸ (Below.refl _ _).alloc (Nat.le_refl _) _
  have mWC : Box2 WC WB.heap.size sc zc := hWC ▸ box2_new _ _ _ _
  have BL : Hid (Below w.heap.size w WC) := hide (((nWA).trans (nWB.mono (nWA).size)).trans (nWC.mono ((nWA).trans (nWB.mono (nWA).size)).size))
  have KA := hide (((mWA).below nWB).below nWC)
  have KB := hide ((mWB).below nWC)
  have KC := hide (mWC)
  clear nWA mWA
  clear nWB mWB
  clear nWC mWC
  obtain ⟨-, cA0, cA1⟩ := KA.out
  obtain ⟨-, cB0, cB1⟩ := KB.out
  obtain ⟨-, cC0, cC1⟩ := KC.out
  go_enter Try.func8, Try.ntmps8
  go_wp2_with fail
  refine (gInS n 1 4096 true G1.out _).mono ?_
  rintro e1 w1 ⟨rfl, q1⟩
  replace KA := hide (KA.out.below q1)
  clear cA0 cA1
  obtain ⟨-, cA0, cA1⟩ := KA.out
  replace KB := hide (KB.out.below q1)
  clear cB0 cB1
  obtain ⟨-, cB0, cB1⟩ := KB.out
  replace KC := hide (KC.out.below q1)
  clear cC0 cC1
  obtain ⟨-, cC0, cC1⟩ := KC.out
  replace BL := hide (BL.out.trans (q1.mono BL.out.size))
  clear q1
  go_wp2_with fail
  refine (gInS p 0 16777216 true G2.out _).mono ?_
  rintro e1 w2 ⟨rfl, q2⟩
  replace KA := hide (KA.out.below q2)
  clear cA0 cA1
  obtain ⟨-, cA0, cA1⟩ := KA.out
  replace KB := hide (KB.out.below q2)
  clear cB0 cB1
  obtain ⟨-, cB0, cB1⟩ := KB.out
  replace KC := hide (KC.out.below q2)
  clear cC0 cC1
  obtain ⟨-, cC0, cC1⟩ := KC.out
  replace BL := hide (BL.out.trans (q2.mono BL.out.size))
  clear q2
  go_wp2_with fail
  refine (gInS q 0 16777216 true G3.out _).mono ?_
  rintro e1 w3 ⟨rfl, q3⟩
  replace KA := hide (KA.out.below q3)
  clear cA0 cA1
  obtain ⟨-, cA0, cA1⟩ := KA.out
  replace KB := hide (KB.out.below q3)
  clear cB0 cB1
  obtain ⟨-, cB0, cB1⟩ := KB.out
  replace KC := hide (KC.out.below q3)
  clear cC0 cC1
  obtain ⟨-, cC0, cC1⟩ := KC.out
  replace BL := hide (BL.out.trans (q3.mono BL.out.size))
  clear q3
  go_wp2_with fail
  refine (gScaleS sa za true G4.out _).mono ?_
  rintro e1 w4 ⟨rfl, q4⟩
  replace KA := hide (KA.out.below q4)
  clear cA0 cA1
  obtain ⟨-, cA0, cA1⟩ := KA.out
  replace KB := hide (KB.out.below q4)
  clear cB0 cB1
  obtain ⟨-, cB0, cB1⟩ := KB.out
  replace KC := hide (KC.out.below q4)
  clear cC0 cC1
  obtain ⟨-, cC0, cC1⟩ := KC.out
  replace BL := hide (BL.out.trans (q4.mono BL.out.size))
  clear q4
  go_wp2_with fail
  refine (gScaleS sb zb true G5.out _).mono ?_
  rintro e1 w5 ⟨rfl, q5⟩
  replace KA := hide (KA.out.below q5)
  clear cA0 cA1
  obtain ⟨-, cA0, cA1⟩ := KA.out
  replace KB := hide (KB.out.below q5)
  clear cB0 cB1
  obtain ⟨-, cB0, cB1⟩ := KB.out
  replace KC := hide (KC.out.below q5)
  clear cC0 cC1
  obtain ⟨-, cC0, cC1⟩ := KC.out
  replace BL := hide (BL.out.trans (q5.mono BL.out.size))
  clear q5
  go_wp2_with fail
  refine (gScaleS sc zc true G6.out _).mono ?_
  rintro e1 w6 ⟨rfl, q6⟩
  replace KA := hide (KA.out.below q6)
  clear cA0 cA1
  obtain ⟨-, cA0, cA1⟩ := KA.out
  replace KB := hide (KB.out.below q6)
  clear cB0 cB1
  obtain ⟨-, cB0, cB1⟩ := KB.out
  replace KC := hide (KC.out.below q6)
  clear cC0 cC1
  obtain ⟨-, cC0, cC1⟩ := KC.out
  replace BL := hide (BL.out.trans (q6.mono BL.out.size))
  clear q6
  go_wp2_with fail
  go_ret
  exact ⟨rfl, BL.out⟩
set_option maxHeartbeats 1000000 in
theorem iBnd_no1 (n sa za sb zb sc zc p q : Int) (w : World) (hn : bd n) (hsa : bd sa) (hza : bd za) (hsb : bd sb) (hzb : bd zb) (hsc : bd sc) (hzc : bd zc) (hp : bd p) (hq : bd q) (g1 : decide (1 ≤ n ∧ n ≤ 4096) = false) :
    Calls Try.prog 9 #[.int .i64 n, .agg #[.int .i64 sa, .int .i64 za], .agg #[.int .i64 sb, .int .i64 zb], .agg #[.int .i64 sc, .int .i64 zc], .int .i64 p, .int .i64 q] w fun e w' => e = .returned (.int .i64 0) ∧ Below w.heap.size w w' := by
  have Hn := hide hn
  have Hsa := hide hsa
  have Hza := hide hza
  have Hsb := hide hsb
  have Hzb := hide hzb
  have Hsc := hide hsc
  have Hzc := hide hzc
  have Hp := hide hp
  have Hq := hide hq
  clear hn hsa hza hsb hzb hsc hzc hp hq
  have G1 := hide g1
  clear g1
  obtain ⟨WA, hWA⟩ : ∃ WA, w.alloc (.cells #[.int .i64 sa, .int .i64 za] 25) = WA := ⟨_, rfl⟩
  have nWA : Below w.heap.size w WA := hWA ▸ (Below.refl _ _).alloc (Nat.le_refl _) _
  have mWA : Box2 WA w.heap.size sa za := hWA ▸ box2_new _ _ _ _
  obtain ⟨WB, hWB⟩ : ∃ WB, WA.alloc (.cells #[.int .i64 sb, .int .i64 zb] 25) = WB := ⟨_, rfl⟩
  have nWB : Below WA.heap.size WA WB := hWB ▸ (Below.refl _ _).alloc (Nat.le_refl _) _
  have mWB : Box2 WB WA.heap.size sb zb := hWB ▸ box2_new _ _ _ _
  obtain ⟨WC, hWC⟩ : ∃ WC, WB.alloc (.cells #[.int .i64 sc, .int .i64 zc] 25) = WC := ⟨_, rfl⟩
  have nWC : Below WB.heap.size WB WC := hWC ▸ (Below.refl _ _).alloc (Nat.le_refl _) _
  have mWC : Box2 WC WB.heap.size sc zc := hWC ▸ box2_new _ _ _ _
  have BL : Hid (Below w.heap.size w WC) := hide (((nWA).trans (nWB.mono (nWA).size)).trans (nWC.mono ((nWA).trans (nWB.mono (nWA).size)).size))
  have KA := hide (((mWA).below nWB).below nWC)
  have KB := hide ((mWB).below nWC)
  have KC := hide (mWC)
  clear nWA mWA
  clear nWB mWB
  clear nWC mWC
  obtain ⟨-, cA0, cA1⟩ := KA.out
  obtain ⟨-, cB0, cB1⟩ := KB.out
  obtain ⟨-, cC0, cC1⟩ := KC.out
  go_enter Try.func9, Try.ntmps9
  go_wp2_with fail
  refine (inB_one 1 4096 n false _ _ (by decide) Hn.out G1.out rfl).mono ?_
  rintro e1 w1 ⟨rfl, q1⟩
  replace KA := hide (KA.out.below q1)
  clear cA0 cA1
  obtain ⟨-, cA0, cA1⟩ := KA.out
  replace KB := hide (KB.out.below q1)
  clear cB0 cB1
  obtain ⟨-, cB0, cB1⟩ := KB.out
  replace KC := hide (KC.out.below q1)
  clear cC0 cC1
  obtain ⟨-, cC0, cC1⟩ := KC.out
  replace BL := hide (BL.out.trans (q1.mono BL.out.size))
  clear q1
  go_wp2_with fail
  go_ret
  exact ⟨rfl, BL.out⟩
set_option maxHeartbeats 1000000 in
theorem iBnd_no2 (n sa za sb zb sc zc p q : Int) (w : World) (hn : bd n) (hsa : bd sa) (hza : bd za) (hsb : bd sb) (hzb : bd zb) (hsc : bd sc) (hzc : bd zc) (hp : bd p) (hq : bd q) (g1 : decide (1 ≤ n ∧ n ≤ 4096) = true) (g2 : decide ((0 ≤ p ∧ p ≤ 16777216) ∧ (0 ≤ q ∧ q ≤ 16777216)) = false) :
    Calls Try.prog 9 #[.int .i64 n, .agg #[.int .i64 sa, .int .i64 za], .agg #[.int .i64 sb, .int .i64 zb], .agg #[.int .i64 sc, .int .i64 zc], .int .i64 p, .int .i64 q] w fun e w' => e = .returned (.int .i64 0) ∧ Below w.heap.size w w' := by
  have Hn := hide hn
  have Hsa := hide hsa
  have Hza := hide hza
  have Hsb := hide hsb
  have Hzb := hide hzb
  have Hsc := hide hsc
  have Hzc := hide hzc
  have Hp := hide hp
  have Hq := hide hq
  clear hn hsa hza hsb hzb hsc hzc hp hq
  have G1 := hide g1
  have G2 := hide g2
  clear g1 g2
  obtain ⟨WA, hWA⟩ : ∃ WA, w.alloc (.cells #[.int .i64 sa, .int .i64 za] 25) = WA := ⟨_, rfl⟩
  have nWA : Below w.heap.size w WA := hWA ▸ (Below.refl _ _).alloc (Nat.le_refl _) _
  have mWA : Box2 WA w.heap.size sa za := hWA ▸ box2_new _ _ _ _
  obtain ⟨WB, hWB⟩ : ∃ WB, WA.alloc (.cells #[.int .i64 sb, .int .i64 zb] 25) = WB := ⟨_, rfl⟩
  have nWB : Below WA.heap.size WA WB := hWB ▸ (Below.refl _ _).alloc (Nat.le_refl _) _
  have mWB : Box2 WB WA.heap.size sb zb := hWB ▸ box2_new _ _ _ _
  obtain ⟨WC, hWC⟩ : ∃ WC, WB.alloc (.cells #[.int .i64 sc, .int .i64 zc] 25) = WC := ⟨_, rfl⟩
  have nWC : Below WB.heap.size WB WC := hWC ▸ (Below.refl _ _).alloc (Nat.le_refl _) _
  have mWC : Box2 WC WB.heap.size sc zc := hWC ▸ box2_new _ _ _ _
  have BL : Hid (Below w.heap.size w WC) := hide (((nWA).trans (nWB.mono (nWA).size)).trans (nWC.mono ((nWA).trans (nWB.mono (nWA).size)).size))
  have KA := hide (((mWA).below nWB).below nWC)
  have KB := hide ((mWB).below nWC)
  have KC := hide (mWC)
  clear nWA mWA
  clear nWB mWB
  clear nWC mWC
  obtain ⟨-, cA0, cA1⟩ := KA.out
  obtain ⟨-, cB0, cB1⟩ := KB.out
  obtain ⟨-, cC0, cC1⟩ := KC.out
  go_enter Try.func9, Try.ntmps9
  go_wp2_with fail
  refine (inB_one 1 4096 n true _ _ (by decide) Hn.out G1.out rfl).mono ?_
  rintro e1 w1 ⟨rfl, q1⟩
  replace KA := hide (KA.out.below q1)
  clear cA0 cA1
  obtain ⟨-, cA0, cA1⟩ := KA.out
  replace KB := hide (KB.out.below q1)
  clear cB0 cB1
  obtain ⟨-, cB0, cB1⟩ := KB.out
  replace KC := hide (KC.out.below q1)
  clear cC0 cC1
  obtain ⟨-, cC0, cC1⟩ := KC.out
  replace BL := hide (BL.out.trans (q1.mono BL.out.size))
  clear q1
  go_wp2_with fail
  refine (inB_two 0 16777216 p q false _ _ (by decide) Hp.out Hq.out G2.out rfl).mono ?_
  rintro e1 w2 ⟨rfl, q2⟩
  replace KA := hide (KA.out.below q2)
  clear cA0 cA1
  obtain ⟨-, cA0, cA1⟩ := KA.out
  replace KB := hide (KB.out.below q2)
  clear cB0 cB1
  obtain ⟨-, cB0, cB1⟩ := KB.out
  replace KC := hide (KC.out.below q2)
  clear cC0 cC1
  obtain ⟨-, cC0, cC1⟩ := KC.out
  replace BL := hide (BL.out.trans (q2.mono BL.out.size))
  clear q2
  go_wp2_with fail
  go_ret
  exact ⟨rfl, BL.out⟩
set_option maxHeartbeats 1000000 in
theorem iBnd_no3 (n sa za sb zb sc zc p q : Int) (w : World) (hn : bd n) (hsa : bd sa) (hza : bd za) (hsb : bd sb) (hzb : bd zb) (hsc : bd sc) (hzc : bd zc) (hp : bd p) (hq : bd q) (g1 : decide (1 ≤ n ∧ n ≤ 4096) = true) (g2 : decide ((0 ≤ p ∧ p ≤ 16777216) ∧ (0 ≤ q ∧ q ≤ 16777216)) = true) (g3 : sht3 sa za sb zb sc zc = false) :
    Calls Try.prog 9 #[.int .i64 n, .agg #[.int .i64 sa, .int .i64 za], .agg #[.int .i64 sb, .int .i64 zb], .agg #[.int .i64 sc, .int .i64 zc], .int .i64 p, .int .i64 q] w fun e w' => e = .returned (.int .i64 0) ∧ Below w.heap.size w w' := by
  have Hn := hide hn
  have Hsa := hide hsa
  have Hza := hide hza
  have Hsb := hide hsb
  have Hzb := hide hzb
  have Hsc := hide hsc
  have Hzc := hide hzc
  have Hp := hide hp
  have Hq := hide hq
  clear hn hsa hza hsb hzb hsc hzc hp hq
  have G1 := hide g1
  have G2 := hide g2
  have G3 := hide g3
  clear g1 g2 g3
  obtain ⟨WA, hWA⟩ : ∃ WA, w.alloc (.cells #[.int .i64 sa, .int .i64 za] 25) = WA := ⟨_, rfl⟩
  have nWA : Below w.heap.size w WA := hWA ▸ (Below.refl _ _).alloc (Nat.le_refl _) _
  have mWA : Box2 WA w.heap.size sa za := hWA ▸ box2_new _ _ _ _
  obtain ⟨WB, hWB⟩ : ∃ WB, WA.alloc (.cells #[.int .i64 sb, .int .i64 zb] 25) = WB := ⟨_, rfl⟩
  have nWB : Below WA.heap.size WA WB := hWB ▸ (Below.refl _ _).alloc (Nat.le_refl _) _
  have mWB : Box2 WB WA.heap.size sb zb := hWB ▸ box2_new _ _ _ _
  obtain ⟨WC, hWC⟩ : ∃ WC, WB.alloc (.cells #[.int .i64 sc, .int .i64 zc] 25) = WC := ⟨_, rfl⟩
  have nWC : Below WB.heap.size WB WC := hWC ▸ (Below.refl _ _).alloc (Nat.le_refl _) _
  have mWC : Box2 WC WB.heap.size sc zc := hWC ▸ box2_new _ _ _ _
  have BL : Hid (Below w.heap.size w WC) := hide (((nWA).trans (nWB.mono (nWA).size)).trans (nWC.mono ((nWA).trans (nWB.mono (nWA).size)).size))
  have KA := hide (((mWA).below nWB).below nWC)
  have KB := hide ((mWB).below nWC)
  have KC := hide (mWC)
  clear nWA mWA
  clear nWB mWB
  clear nWC mWC
  obtain ⟨-, cA0, cA1⟩ := KA.out
  obtain ⟨-, cB0, cB1⟩ := KB.out
  obtain ⟨-, cC0, cC1⟩ := KC.out
  go_enter Try.func9, Try.ntmps9
  go_wp2_with fail
  refine (inB_one 1 4096 n true _ _ (by decide) Hn.out G1.out rfl).mono ?_
  rintro e1 w1 ⟨rfl, q1⟩
  replace KA := hide (KA.out.below q1)
  clear cA0 cA1
  obtain ⟨-, cA0, cA1⟩ := KA.out
  replace KB := hide (KB.out.below q1)
  clear cB0 cB1
  obtain ⟨-, cB0, cB1⟩ := KB.out
  replace KC := hide (KC.out.below q1)
  clear cC0 cC1
  obtain ⟨-, cC0, cC1⟩ := KC.out
  replace BL := hide (BL.out.trans (q1.mono BL.out.size))
  clear q1
  go_wp2_with fail
  refine (inB_two 0 16777216 p q true _ _ (by decide) Hp.out Hq.out G2.out rfl).mono ?_
  rintro e1 w2 ⟨rfl, q2⟩
  replace KA := hide (KA.out.below q2)
  clear cA0 cA1
  obtain ⟨-, cA0, cA1⟩ := KA.out
  replace KB := hide (KB.out.below q2)
  clear cB0 cB1
  obtain ⟨-, cB0, cB1⟩ := KB.out
  replace KC := hide (KC.out.below q2)
  clear cC0 cC1
  obtain ⟨-, cC0, cC1⟩ := KC.out
  replace BL := hide (BL.out.trans (q2.mono BL.out.size))
  clear q2
  go_wp2_with fail
  refine (short3 sa za sb zb sc zc false _ _ Hsa.out Hza.out Hsb.out Hzb.out Hsc.out Hzc.out G3.out rfl).mono ?_
  rintro e1 w3 ⟨rfl, q3⟩
  replace KA := hide (KA.out.below q3)
  clear cA0 cA1
  obtain ⟨-, cA0, cA1⟩ := KA.out
  replace KB := hide (KB.out.below q3)
  clear cB0 cB1
  obtain ⟨-, cB0, cB1⟩ := KB.out
  replace KC := hide (KC.out.below q3)
  clear cC0 cC1
  obtain ⟨-, cC0, cC1⟩ := KC.out
  replace BL := hide (BL.out.trans (q3.mono BL.out.size))
  clear q3
  go_wp2_with fail
  go_ret
  exact ⟨rfl, BL.out⟩
set_option maxHeartbeats 1000000 in
theorem iBnd_yes (n sa za sb zb sc zc p q : Int) (w : World) (hn : bd n) (hsa : bd sa) (hza : bd za) (hsb : bd sb) (hzb : bd zb) (hsc : bd sc) (hzc : bd zc) (hp : bd p) (hq : bd q) (a0 : 1 ≤ sa) (a1 : sa ≤ 16777216) (b0 : 1 ≤ sb) (b1 : sb ≤ 16777216) (d0 : 1 ≤ sc) (d1 : sc ≤ 16777216) (m0 : 0 ≤ p * (sb + 1)) (m1 : p * (sb + 1) ≤ 281474993487872) (m2 : 0 ≤ q * (sa + 1)) (m3 : q * (sa + 1) ≤ 281474993487872) (m4 : 0 ≤ (sa + 1) * (sb + 1)) (m5 : (sa + 1) * (sb + 1) ≤ 281475010265089) (m6 : 0 ≤ n * (p * (sb + 1) + q * (sa + 1) + (sa + 1) * (sb + 1))) (m7 : n * (p * (sb + 1) + q * (sa + 1) + (sa + 1) * (sb + 1)) ≤ 4611686018427387903) (m8 : 0 ≤ (n * (p * (sb + 1) + q * (sa + 1) + (sa + 1) * (sb + 1)) + 65535).tdiv 65536) (m9 : (n * (p * (sb + 1) + q * (sa + 1) + (sa + 1) * (sb + 1)) + 65535).tdiv 65536 ≤ 4611686018427453440) (g1 : decide (1 ≤ n ∧ n ≤ 4096) = true) (g2 : decide ((0 ≤ p ∧ p ≤ 16777216) ∧ (0 ≤ q ∧ q ≤ 16777216)) = true) (g3 : sht3 sa za sb zb sc zc = true) :
    Calls Try.prog 9 #[.int .i64 n, .agg #[.int .i64 sa, .int .i64 za], .agg #[.int .i64 sb, .int .i64 zb], .agg #[.int .i64 sc, .int .i64 zc], .int .i64 p, .int .i64 q] w fun e w' => e = .returned (.int .i64 ((n * (p * (sb + 1) + q * (sa + 1) + (sa + 1) * (sb + 1)) + 65535).tdiv 65536 + 2 * sc + 2)) ∧ Below w.heap.size w w' := by
  have Hn := hide hn
  have Hsa := hide hsa
  have Hza := hide hza
  have Hsb := hide hsb
  have Hzb := hide hzb
  have Hsc := hide hsc
  have Hzc := hide hzc
  have Hp := hide hp
  have Hq := hide hq
  clear hn hsa hza hsb hzb hsc hzc hp hq
  have G1 := hide g1
  have G2 := hide g2
  have G3 := hide g3
  clear g1 g2 g3
  obtain ⟨WA, hWA⟩ : ∃ WA, w.alloc (.cells #[.int .i64 sa, .int .i64 za] 25) = WA := ⟨_, rfl⟩
  have nWA : Below w.heap.size w WA := hWA ▸ (Below.refl _ _).alloc (Nat.le_refl _) _
  have mWA : Box2 WA w.heap.size sa za := hWA ▸ box2_new _ _ _ _
  obtain ⟨WB, hWB⟩ : ∃ WB, WA.alloc (.cells #[.int .i64 sb, .int .i64 zb] 25) = WB := ⟨_, rfl⟩
  have nWB : Below WA.heap.size WA WB := hWB ▸ (Below.refl _ _).alloc (Nat.le_refl _) _
  have mWB : Box2 WB WA.heap.size sb zb := hWB ▸ box2_new _ _ _ _
  obtain ⟨WC, hWC⟩ : ∃ WC, WB.alloc (.cells #[.int .i64 sc, .int .i64 zc] 25) = WC := ⟨_, rfl⟩
  have nWC : Below WB.heap.size WB WC := hWC ▸ (Below.refl _ _).alloc (Nat.le_refl _) _
  have mWC : Box2 WC WB.heap.size sc zc := hWC ▸ box2_new _ _ _ _
  have BL : Hid (Below w.heap.size w WC) := hide (((nWA).trans (nWB.mono (nWA).size)).trans (nWC.mono ((nWA).trans (nWB.mono (nWA).size)).size))
  have KA := hide (((mWA).below nWB).below nWC)
  have KB := hide ((mWB).below nWC)
  have KC := hide (mWC)
  clear nWA mWA
  clear nWB mWB
  clear nWC mWC
  obtain ⟨-, cA0, cA1⟩ := KA.out
  obtain ⟨-, cB0, cB1⟩ := KB.out
  obtain ⟨-, cC0, cC1⟩ := KC.out
  go_enter Try.func9, Try.ntmps9
  go_wp2_with fail
  refine (inB_one 1 4096 n true _ _ (by decide) Hn.out G1.out rfl).mono ?_
  rintro e1 w1 ⟨rfl, q1⟩
  replace KA := hide (KA.out.below q1)
  clear cA0 cA1
  obtain ⟨-, cA0, cA1⟩ := KA.out
  replace KB := hide (KB.out.below q1)
  clear cB0 cB1
  obtain ⟨-, cB0, cB1⟩ := KB.out
  replace KC := hide (KC.out.below q1)
  clear cC0 cC1
  obtain ⟨-, cC0, cC1⟩ := KC.out
  replace BL := hide (BL.out.trans (q1.mono BL.out.size))
  clear q1
  go_wp2_with fail
  refine (inB_two 0 16777216 p q true _ _ (by decide) Hp.out Hq.out G2.out rfl).mono ?_
  rintro e1 w2 ⟨rfl, q2⟩
  replace KA := hide (KA.out.below q2)
  clear cA0 cA1
  obtain ⟨-, cA0, cA1⟩ := KA.out
  replace KB := hide (KB.out.below q2)
  clear cB0 cB1
  obtain ⟨-, cB0, cB1⟩ := KB.out
  replace KC := hide (KC.out.below q2)
  clear cC0 cC1
  obtain ⟨-, cC0, cC1⟩ := KC.out
  replace BL := hide (BL.out.trans (q2.mono BL.out.size))
  clear q2
  go_wp2_with fail
  refine (short3 sa za sb zb sc zc true _ _ Hsa.out Hza.out Hsb.out Hzb.out Hsc.out Hzc.out G3.out rfl).mono ?_
  rintro e1 w3 ⟨rfl, q3⟩
  replace KA := hide (KA.out.below q3)
  clear cA0 cA1
  obtain ⟨-, cA0, cA1⟩ := KA.out
  replace KB := hide (KB.out.below q3)
  clear cB0 cB1
  obtain ⟨-, cB0, cB1⟩ := KB.out
  replace KC := hide (KC.out.below q3)
  clear cC0 cC1
  obtain ⟨-, cC0, cC1⟩ := KC.out
  replace BL := hide (BL.out.trans (q3.mono BL.out.size))
  clear q3
  have CN := hide (fun d os => Calls.regrown_of (d := d) (os := os) (w := w3) (roundB (n * (p * (sb + 1) + q * (sa + 1) + (sa + 1) * (sb + 1))) _ m6 (by omega)))
  go_wp2_with fail
  have kC0 := cell_regrown cC0
  clear cA0 cA1 cB0 cB1 cC0 cC1
  refine wp_region_quiet_below (by kernel_rfl) (by kernel_rfl) ?_
  repeat (go_big_quiet_step (first | (go_at_call 20; exact CN.out _ _)))
  refine wpQuiet_nil ?_
  intro _ hw'
  obtain ⟨⟨dq, osq⟩, hw''⟩ := hw'
  subst hw''
  go_wp2_with fail
  go_ret
  exact ⟨rfl, BL.out.trans ((below_regrown _ dq osq).mono BL.out.size)⟩
/-- both sides of Bound answer one number -/
theorem bndBoth (n sa za sb zb sc zc p q : Int) (hn : bd n) (hsa : bd sa) (hza : bd za) (hsb : bd sb) (hzb : bd zb) (hsc : bd sc) (hzc : bd zc) (hp : bd p) (hq : bd q) : ∃ v : Int,
    (∀ w, Calls Try.prog 8 #[.int .i64 n, .agg #[.int .i64 sa, .int .i64 za], .agg #[.int .i64 sb, .int .i64 zb], .agg #[.int .i64 sc, .int .i64 zc], .int .i64 p, .int .i64 q] w fun e w' => e = .returned (.int .i64 v) ∧ Below w.heap.size w w') ∧
    (∀ w, Calls Try.prog 9 #[.int .i64 n, .agg #[.int .i64 sa, .int .i64 za], .agg #[.int .i64 sb, .int .i64 zb], .agg #[.int .i64 sc, .int .i64 zc], .int .i64 p, .int .i64 q] w fun e w' => e = .returned (.int .i64 v) ∧ Below w.heap.size w w') := by
  cases g1 : decide (1 ≤ n ∧ n ≤ 4096)
  · exact ⟨0, fun w => sBnd_no1 n sa za sb zb sc zc p q w hn hsa hza hsb hzb hsc hzc hp hq g1, fun w => iBnd_no1 n sa za sb zb sc zc p q w hn hsa hza hsb hzb hsc hzc hp hq g1⟩
  cases g2 : decide (0 ≤ p ∧ p ≤ 16777216)
  · have i2 : decide ((0 ≤ p ∧ p ≤ 16777216) ∧ (0 ≤ q ∧ q ≤ 16777216)) = false := decide_eq_false (fun h => of_decide_eq_false g2 h.1)
    exact ⟨0, fun w => sBnd_no2 n sa za sb zb sc zc p q w hn hsa hza hsb hzb hsc hzc hp hq g1 g2, fun w => iBnd_no2 n sa za sb zb sc zc p q w hn hsa hza hsb hzb hsc hzc hp hq g1 i2⟩
  cases g3 : decide (0 ≤ q ∧ q ≤ 16777216)
  · have i2 : decide ((0 ≤ p ∧ p ≤ 16777216) ∧ (0 ≤ q ∧ q ≤ 16777216)) = false := decide_eq_false (fun h => of_decide_eq_false g3 h.2)
    exact ⟨0, fun w => sBnd_no3 n sa za sb zb sc zc p q w hn hsa hza hsb hzb hsc hzc hp hq g1 g2 g3, fun w => iBnd_no2 n sa za sb zb sc zc p q w hn hsa hza hsb hzb hsc hzc hp hq g1 i2⟩
  have i2 : decide ((0 ≤ p ∧ p ≤ 16777216) ∧ (0 ≤ q ∧ q ≤ 16777216)) = true := decide_eq_true ⟨of_decide_eq_true g2, of_decide_eq_true g3⟩
  have no3 : sht3 sa za sb zb sc zc = false → ∀ w, Calls Try.prog 9 #[.int .i64 n, .agg #[.int .i64 sa, .int .i64 za], .agg #[.int .i64 sb, .int .i64 zb], .agg #[.int .i64 sc, .int .i64 zc], .int .i64 p, .int .i64 q] w fun e w' => e = .returned (.int .i64 0) ∧ Below w.heap.size w w' := fun i3 w => iBnd_no3 n sa za sb zb sc zc p q w hn hsa hza hsb hzb hsc hzc hp hq g1 i2 i3
  cases g4 : scOk sa za
  · exact ⟨0, fun w => sBnd_no4 n sa za sb zb sc zc p q w hn hsa hza hsb hzb hsc hzc hp hq g1 g2 g3 g4, no3 (by unfold sht3; rw [sht_f (s := sa) (z := za) (fun h => by rw [g4] at h; exact absurd h.1 Bool.false_ne_true)]; simp)⟩
  cases g5 : scOk sb zb
  · exact ⟨0, fun w => sBnd_no5 n sa za sb zb sc zc p q w hn hsa hza hsb hzb hsc hzc hp hq g1 g2 g3 g4 g5, no3 (by unfold sht3; rw [sht_f (s := sb) (z := zb) (fun h => by rw [g5] at h; exact absurd h.1 Bool.false_ne_true)]; simp)⟩
  cases g6 : scOk sc zc
  · exact ⟨0, fun w => sBnd_no6 n sa za sb zb sc zc p q w hn hsa hza hsb hzb hsc hzc hp hq g1 g2 g3 g4 g5 g6, no3 (by unfold sht3; rw [sht_f (s := sc) (z := zc) (fun h => by rw [g6] at h; exact absurd h.1 Bool.false_ne_true)]; simp)⟩
  cases g7 : decide (sa ≤ 16777216)
  · exact ⟨0, fun w => sBnd_no7 n sa za sb zb sc zc p q w hn hsa hza hsb hzb hsc hzc hp hq g1 g2 g3 g4 g5 g6 g7, no3 (by unfold sht3; rw [sht_f (s := sa) (z := za) (fun h => of_decide_eq_false g7 h.2)]; simp)⟩
  cases g8 : decide (sb ≤ 16777216)
  · exact ⟨0, fun w => sBnd_no8 n sa za sb zb sc zc p q w hn hsa hza hsb hzb hsc hzc hp hq g1 g2 g3 g4 g5 g6 g7 g8, no3 (by unfold sht3; rw [sht_f (s := sb) (z := zb) (fun h => of_decide_eq_false g8 h.2)]; simp)⟩
  cases g9 : decide (sc ≤ 16777216)
  · exact ⟨0, fun w => sBnd_no9 n sa za sb zb sc zc p q w hn hsa hza hsb hzb hsc hzc hp hq g1 g2 g3 g4 g5 g6 g7 g8 g9, no3 (by unfold sht3; rw [sht_f (s := sc) (z := zc) (fun h => of_decide_eq_false g9 h.2)]; simp)⟩
  have i3 : sht3 sa za sb zb sc zc = true := by
    unfold sht3
    rw [sht_t g4 (of_decide_eq_true g7), sht_t g5 (of_decide_eq_true g8), sht_t g6 (of_decide_eq_true g9)]
    rfl
  obtain ⟨⟨a0, -⟩, -⟩ := sc_of g4
  obtain ⟨⟨b0, -⟩, -⟩ := sc_of g5
  obtain ⟨⟨d0, -⟩, -⟩ := sc_of g6
  have a1 := of_decide_eq_true g7
  have b1 := of_decide_eq_true g8
  have d1 := of_decide_eq_true g9
  obtain ⟨n0, n1⟩ := of_decide_eq_true g1
  obtain ⟨p0, p1⟩ := of_decide_eq_true g2
  obtain ⟨q0, q1⟩ := of_decide_eq_true g3
  obtain ⟨m0, m1⟩ := mul_le2 (x := p) (y := sb + 1) (a := 16777216) (b := 16777217) p0 p1 (by omega) (by omega)
  obtain ⟨m2, m3⟩ := mul_le2 (x := q) (y := sa + 1) (a := 16777216) (b := 16777217) q0 q1 (by omega) (by omega)
  obtain ⟨m4, m5⟩ := mul_le2 (x := sa + 1) (y := sb + 1) (a := 16777217) (b := 16777217) (by omega) (by omega) (by omega) (by omega)
  obtain ⟨m6, m7⟩ := mul_le2 (x := n) (y := (p * (sb + 1) + q * (sa + 1) + (sa + 1) * (sb + 1))) (a := 4096) (b := 844425030795267) (by omega) n1 (by omega) (by omega)
  have m8 : 0 ≤ (n * (p * (sb + 1) + q * (sa + 1) + (sa + 1) * (sb + 1)) + 65535).tdiv 65536 := Int.tdiv_nonneg (by omega) (by omega)
  have m9 : (n * (p * (sb + 1) + q * (sa + 1) + (sa + 1) * (sb + 1)) + 65535).tdiv 65536 ≤ 4611686018427453440 := by
    have := tdiv_abs (n * (p * (sb + 1) + q * (sa + 1) + (sa + 1) * (sb + 1)) + 65535) 65536
    omega
  exact ⟨_, fun w => sBnd_yes n sa za sb zb sc zc p q w hn hsa hza hsb hzb hsc hzc hp hq a0 a1 b0 b1 d0 d1 m0 m1 m2 m3 m4 m5 m6 (by omega) m8 m9 g1 g2 g3 g4 g5 g6 g7 g8 g9, fun w => iBnd_yes n sa za sb zb sc zc p q w hn hsa hza hsb hzb hsc hzc hp hq a0 a1 b0 b1 d0 d1 m0 m1 m2 m3 m4 m5 m6 (by omega) m8 m9 g1 i2 i3⟩
end Vo
end Go.Proofs.Ytepbchkljamacab
