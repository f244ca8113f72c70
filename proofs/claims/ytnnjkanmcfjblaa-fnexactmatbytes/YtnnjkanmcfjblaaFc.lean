/- Factor of the model (tools/gen14.py writes this out of Fc.part). -/
import Derived.Test.YtnnjkanmcfjblaaFb
namespace Go.Proofs.Ytnnjkanmcfjblaa
namespace Vo
open Go.ChangeShapes Go.WideShapes Go.ChangeAt Go.RowKit Go.Joins Go.Sort
open Vl
set_option linter.unusedVariables false
set_option linter.unusedSimpArgs false
def qk (P d k : Nat) : Int := ((P * 2 ^ k : Nat) : Int) / (d : Int)
def rk (P d k : Nat) : Int := ((P * 2 ^ k : Nat) : Int) % (d : Int)
theorem nea_is (P d k : Nat) : nea d (P * 2 ^ k : Nat) = Nea.rd (qk P d k) (rk P d k) d := rfl
theorem rk_rng (P d k : Nat) (hd : 0 < d) : 0 ≤ rk P d k ∧ rk P d k < d := ⟨Int.emod_nonneg _ (by omega), Int.emod_lt_of_pos _ (by omega)⟩
theorem dbl (P d k : Nat) (hd : 0 < d) : (d ≤ 2 * rk P d k → qk P d (k + 1) = 2 * qk P d k + 1 ∧ rk P d (k + 1) = 2 * rk P d k - d) ∧ (¬ (d : Int) ≤ 2 * rk P d k → qk P d (k + 1) = 2 * qk P d k ∧ rk P d (k + 1) = 2 * rk P d k) := by
  obtain ⟨r0, r1⟩ := rk_rng P d k hd
  have e : ((P * 2 ^ (k + 1) : Nat) : Int) = 2 * ((P * 2 ^ k : Nat) : Int) := by rw [Nat.pow_succ, ← Nat.mul_assoc]; omega
  have h := Int.emod_add_mul_ediv ((P * 2 ^ k : Nat) : Int) (d : Int)
  have hd' : (0 : Int) < (d : Int) := by omega
  unfold qk rk at *
  rw [e]
  generalize ((P * 2 ^ k : Nat) : Int) = N at *
  generalize N / (d : Int) = q at *
  generalize N % (d : Int) = r at *
  have key : ∀ q' r' : Int, 2 * N = r' + d * q' → 0 ≤ r' → r' < d → 2 * N / (d : Int) = q' ∧ 2 * N % (d : Int) = r' := fun q' r' h1 h2 h3 => (Int.ediv_emod_unique hd').2 ⟨h1.symm, h2, h3⟩
  refine ⟨fun c => key _ _ ?_ (by omega) (by omega), fun c => key _ _ ?_ (by omega) (by omega)⟩
  · rw [Int.mul_add, Int.mul_one, ← Int.mul_assoc, Int.mul_comm (d : Int) 2, Int.mul_assoc]; omega
  · rw [← Int.mul_assoc, Int.mul_comm (d : Int) 2, Int.mul_assoc]; omega
theorem qk_bd (P d k : Nat) (hd : 0 < d) (hP : P ≤ 281474976710656) (h : ∀ j, j < k → fit P d j) : 0 ≤ qk P d k ∧ qk P d k ≤ 281474976710656 := by
  refine ⟨Int.ediv_nonneg (by omega) (by omega), ?_⟩
  rcases k with _ | k
  · unfold qk
    have h1 : ((P * 2 ^ 0 : Nat) : Int) / (d : Int) ≤ ((P * 2 ^ 0 : Nat) : Int) := Int.ediv_le_self _ (by omega)
    rw [Nat.pow_zero, Nat.mul_one] at *
    omega
  · have h1 := h k (by omega)
    have h2 := nea_ge (d : Int) (P * 2 ^ k : Nat)
    obtain ⟨d1, d2⟩ := dbl P d k hd
    unfold fit at h1
    have h3 : qk P d k ≤ 2147483648 := by unfold qk; omega
    by_cases c : (d : Int) ≤ 2 * rk P d k
    · have := (d1 c).1; omega
    · have := (d2 c).1; omega
/-- mult when k shifts were taken -/
def mlt (P d : Nat) : Nat → Int
  | 0 => 0
  | k + 1 => nea d (P * 2 ^ k : Nat)
set_option maxHeartbeats 1000000 in
theorem sFac_no1 (sa za sb zb sc zc : Int) (w : World) (hsa : bd sa) (hza : bd za) (hsb : bd sb) (hzb : bd zb) (hsc : bd sc) (hzc : bd zc) (g1 : scOk sa za = false) :
    Calls Try.prog 5 #[.agg #[.int .i64 sa, .int .i64 za], .agg #[.int .i64 sb, .int .i64 zb], .agg #[.int .i64 sc, .int .i64 zc]] w fun e w' => e = .returned (.tuple #[.int .i64 0, .int .i64 0, .bool false]) ∧ Below w.heap.size w w' := by
  have Hsa := hide hsa
  have Hza := hide hza
  have Hsb := hide hsb
  have Hzb := hide hzb
  have Hsc := hide hsc
  have Hzc := hide hzc
  clear hsa hza hsb hzb hsc hzc
  have G1 := hide g1
  clear g1
  obtain ⟨WA, hWA⟩ : ∃ WA, w.alloc (.cells #[.int .i64 sa, .int .i64 za] 26) = WA := ⟨_, rfl⟩
  have nWA : Below w.heap.size w WA := hWA ▸ (Below.refl _ _).alloc (Nat.le_refl _) _
  have mWA : Box2 WA w.heap.size sa za := hWA ▸ box2_new _ _ _ _
  obtain ⟨WB, hWB⟩ : ∃ WB, WA.alloc (.cells #[.int .i64 sb, .int .i64 zb] 26) = WB := ⟨_, rfl⟩
  have nWB : Below WA.heap.size WA WB := hWB ▸ (Below.refl _ _).alloc (Nat.le_refl _) _
  have mWB : Box2 WB WA.heap.size sb zb := hWB ▸ box2_new _ _ _ _
  obtain ⟨WC, hWC⟩ : ∃ WC, WB.alloc (.cells #[.int .i64 sc, .int .i64 zc] 26) = WC := ⟨_, rfl⟩
  have nWC : Below WB.heap.size WB WC := hWC ▸ (Below.refl _ _).alloc (Nat.le_refl _) _
  have mWC : Box2 WC WB.heap.size sc zc := hWC ▸ box2_new _ _ _ _
  have BL : Hid (Below w.heap.size w WC) := hide (((nWA).trans (nWB.mono (nWA).size)).trans (nWC.mono ((nWA).trans (nWB.mono (nWA).size)).size))
  have KA := hide (((mWA).below nWB).below nWC)
  have KB := hide ((mWB).below nWC)
  have KC := hide (mWC)
  clear nWA mWA
  clear nWB mWB
  clear nWC mWC
  obtain ⟨-, cA0, cA1⟩ := KA.out
  obtain ⟨-, cB0, cB1⟩ := KB.out
  obtain ⟨-, cC0, cC1⟩ := KC.out
  go_enter Try.func5, Try.ntmps5
  go_wp2_with fail
  refine (gScaleS sa za false G1.out _).mono ?_
  rintro e1 w1 ⟨rfl, q1⟩
  replace KA := hide (KA.out.below q1)
  clear cA0 cA1
  obtain ⟨-, cA0, cA1⟩ := KA.out
  replace KB := hide (KB.out.below q1)
  clear cB0 cB1
  obtain ⟨-, cB0, cB1⟩ := KB.out
  replace KC := hide (KC.out.below q1)
  clear cC0 cC1
  obtain ⟨-, cC0, cC1⟩ := KC.out
  replace BL := hide (BL.out.trans (q1.mono BL.out.size))
  clear q1
  go_wp2_with fail
  exact bodyPost_ret (v := .tuple #[.int .i64 0, .int .i64 0, .bool false]) (by simp [results, Try.results5, go_sem]) rfl ⟨rfl, BL.out⟩
set_option maxHeartbeats 1000000 in
theorem sFac_no2 (sa za sb zb sc zc : Int) (w : World) (hsa : bd sa) (hza : bd za) (hsb : bd sb) (hzb : bd zb) (hsc : bd sc) (hzc : bd zc) (g1 : scOk sa za = true) (g2 : scOk sb zb = false) :
    Calls Try.prog 5 #[.agg #[.int .i64 sa, .int .i64 za], .agg #[.int .i64 sb, .int .i64 zb], .agg #[.int .i64 sc, .int .i64 zc]] w fun e w' => e = .returned (.tuple #[.int .i64 0, .int .i64 0, .bool false]) ∧ Below w.heap.size w w' := by
  have Hsa := hide hsa
  have Hza := hide hza
  have Hsb := hide hsb
  have Hzb := hide hzb
  have Hsc := hide hsc
  have Hzc := hide hzc
  clear hsa hza hsb hzb hsc hzc
  have G1 := hide g1
  have G2 := hide g2
  clear g1 g2
  obtain ⟨WA, hWA⟩ : ∃ WA, w.alloc (.cells #[.int .i64 sa, .int .i64 za] 26) = WA := ⟨_, rfl⟩
  have nWA : Below w.heap.size w WA := hWA ▸ (Below.refl _ _).alloc (Nat.le_refl _) _
  have mWA : Box2 WA w.heap.size sa za := hWA ▸ box2_new _ _ _ _
  obtain ⟨WB, hWB⟩ : ∃ WB, WA.alloc (.cells #[.int .i64 sb, .int .i64 zb] 26) = WB := ⟨_, rfl⟩
  have nWB : Below WA.heap.size WA WB := hWB ▸ (Below.refl _ _).alloc (Nat.le_refl _) _
  have mWB : Box2 WB WA.heap.size sb zb := hWB ▸ box2_new _ _ _ _
  obtain ⟨WC, hWC⟩ : ∃ WC, WB.alloc (.cells #[.int .i64 sc, .int .i64 zc] 26) = WC := ⟨_, rfl⟩
  have nWC : Below WB.heap.size WB WC := hWC ▸ (Below.refl _ _).alloc (Nat.le_refl _) _
  have mWC : Box2 WC WB.heap.size sc zc := hWC ▸ box2_new _ _ _ _
  have BL : Hid (Below w.heap.size w WC) := hide (((nWA).trans (nWB.mono (nWA).size)).trans (nWC.mono ((nWA).trans (nWB.mono (nWA).size)).size))
  have KA := hide (((mWA).below nWB).below nWC)
  have KB := hide ((mWB).below nWC)
  have KC := hide (mWC)
  clear nWA mWA
  clear nWB mWB
  clear nWC mWC
  obtain ⟨-, cA0, cA1⟩ := KA.out
  obtain ⟨-, cB0, cB1⟩ := KB.out
  obtain ⟨-, cC0, cC1⟩ := KC.out
  go_enter Try.func5, Try.ntmps5
  go_wp2_with fail
  refine (gScaleS sa za true G1.out _).mono ?_
  rintro e1 w1 ⟨rfl, q1⟩
  replace KA := hide (KA.out.below q1)
  clear cA0 cA1
  obtain ⟨-, cA0, cA1⟩ := KA.out
  replace KB := hide (KB.out.below q1)
  clear cB0 cB1
  obtain ⟨-, cB0, cB1⟩ := KB.out
  replace KC := hide (KC.out.below q1)
  clear cC0 cC1
  obtain ⟨-, cC0, cC1⟩ := KC.out
  replace BL := hide (BL.out.trans (q1.mono BL.out.size))
  clear q1
  go_wp2_with fail
  refine (gScaleS sb zb false G2.out _).mono ?_
  rintro e1 w2 ⟨rfl, q2⟩
  replace KA := hide (KA.out.below q2)
  clear cA0 cA1
  obtain ⟨-, cA0, cA1⟩ := KA.out
  replace KB := hide (KB.out.below q2)
  clear cB0 cB1
  obtain ⟨-, cB0, cB1⟩ := KB.out
  replace KC := hide (KC.out.below q2)
  clear cC0 cC1
  obtain ⟨-, cC0, cC1⟩ := KC.out
  replace BL := hide (BL.out.trans (q2.mono BL.out.size))
  clear q2
  go_wp2_with fail
  exact bodyPost_ret (v := .tuple #[.int .i64 0, .int .i64 0, .bool false]) (by simp [results, Try.results5, go_sem]) rfl ⟨rfl, BL.out⟩
set_option maxHeartbeats 1000000 in
theorem sFac_no3 (sa za sb zb sc zc : Int) (w : World) (hsa : bd sa) (hza : bd za) (hsb : bd sb) (hzb : bd zb) (hsc : bd sc) (hzc : bd zc) (g1 : scOk sa za = true) (g2 : scOk sb zb = true) (g3 : scOk sc zc = false) :
    Calls Try.prog 5 #[.agg #[.int .i64 sa, .int .i64 za], .agg #[.int .i64 sb, .int .i64 zb], .agg #[.int .i64 sc, .int .i64 zc]] w fun e w' => e = .returned (.tuple #[.int .i64 0, .int .i64 0, .bool false]) ∧ Below w.heap.size w w' := by
  have Hsa := hide hsa
  have Hza := hide hza
  have Hsb := hide hsb
  have Hzb := hide hzb
  have Hsc := hide hsc
  have Hzc := hide hzc
  clear hsa hza hsb hzb hsc hzc
  have G1 := hide g1
  have G2 := hide g2
  have G3 := hide g3
  clear g1 g2 g3
  obtain ⟨WA, hWA⟩ : ∃ WA, w.alloc (.cells #[.int .i64 sa, .int .i64 za] 26) = WA := ⟨_, rfl⟩
  have nWA : Below w.heap.size w WA := hWA ▸ (Below.refl _ _).alloc (Nat.le_refl _) _
  have mWA : Box2 WA w.heap.size sa za := hWA ▸ box2_new _ _ _ _
  obtain ⟨WB, hWB⟩ : ∃ WB, WA.alloc (.cells #[.int .i64 sb, .int .i64 zb] 26) = WB := ⟨_, rfl⟩
  have nWB : Below WA.heap.size WA WB := hWB ▸ (Below.refl _ _).alloc (Nat.le_refl _) _
  have mWB : Box2 WB WA.heap.size sb zb := hWB ▸ box2_new _ _ _ _
  obtain ⟨WC, hWC⟩ : ∃ WC, WB.alloc (.cells #[.int .i64 sc, .int .i64 zc] 26) = WC := ⟨_, rfl⟩
  have nWC : Below WB.heap.size WB WC := hWC ▸ (Below.refl _ _).alloc (Nat.le_refl _) _
  have mWC : Box2 WC WB.heap.size sc zc := hWC ▸ box2_new _ _ _ _
  have BL : Hid (Below w.heap.size w WC) := hide (((nWA).trans (nWB.mono (nWA).size)).trans (nWC.mono ((nWA).trans (nWB.mono (nWA).size)).size))
  have KA := hide (((mWA).below nWB).below nWC)
  have KB := hide ((mWB).below nWC)
  have KC := hide (mWC)
  clear nWA mWA
  clear nWB mWB
  clear nWC mWC
  obtain ⟨-, cA0, cA1⟩ := KA.out
  obtain ⟨-, cB0, cB1⟩ := KB.out
  obtain ⟨-, cC0, cC1⟩ := KC.out
  go_enter Try.func5, Try.ntmps5
  go_wp2_with fail
  refine (gScaleS sa za true G1.out _).mono ?_
  rintro e1 w1 ⟨rfl, q1⟩
  replace KA := hide (KA.out.below q1)
  clear cA0 cA1
  obtain ⟨-, cA0, cA1⟩ := KA.out
  replace KB := hide (KB.out.below q1)
  clear cB0 cB1
  obtain ⟨-, cB0, cB1⟩ := KB.out
  replace KC := hide (KC.out.below q1)
  clear cC0 cC1
  obtain ⟨-, cC0, cC1⟩ := KC.out
  replace BL := hide (BL.out.trans (q1.mono BL.out.size))
  clear q1
  go_wp2_with fail
  refine (gScaleS sb zb true G2.out _).mono ?_
  rintro e1 w2 ⟨rfl, q2⟩
  replace KA := hide (KA.out.below q2)
  clear cA0 cA1
  obtain ⟨-, cA0, cA1⟩ := KA.out
  replace KB := hide (KB.out.below q2)
  clear cB0 cB1
  obtain ⟨-, cB0, cB1⟩ := KB.out
  replace KC := hide (KC.out.below q2)
  clear cC0 cC1
  obtain ⟨-, cC0, cC1⟩ := KC.out
  replace BL := hide (BL.out.trans (q2.mono BL.out.size))
  clear q2
  go_wp2_with fail
  refine (gScaleS sc zc false G3.out _).mono ?_
  rintro e1 w3 ⟨rfl, q3⟩
  replace KA := hide (KA.out.below q3)
  clear cA0 cA1
  obtain ⟨-, cA0, cA1⟩ := KA.out
  replace KB := hide (KB.out.below q3)
  clear cB0 cB1
  obtain ⟨-, cB0, cB1⟩ := KB.out
  replace KC := hide (KC.out.below q3)
  clear cC0 cC1
  obtain ⟨-, cC0, cC1⟩ := KC.out
  replace BL := hide (BL.out.trans (q3.mono BL.out.size))
  clear q3
  go_wp2_with fail
  exact bodyPost_ret (v := .tuple #[.int .i64 0, .int .i64 0, .bool false]) (by simp [results, Try.results5, go_sem]) rfl ⟨rfl, BL.out⟩
set_option maxHeartbeats 1000000 in
theorem sFac_no4 (sa za sb zb sc zc : Int) (w : World) (hsa : bd sa) (hza : bd za) (hsb : bd sb) (hzb : bd zb) (hsc : bd sc) (hzc : bd zc) (g1 : scOk sa za = true) (g2 : scOk sb zb = true) (g3 : scOk sc zc = true) (g4 : decide (sa ≤ 16777216) = false) :
    Calls Try.prog 5 #[.agg #[.int .i64 sa, .int .i64 za], .agg #[.int .i64 sb, .int .i64 zb], .agg #[.int .i64 sc, .int .i64 zc]] w fun e w' => e = .returned (.tuple #[.int .i64 0, .int .i64 0, .bool false]) ∧ Below w.heap.size w w' := by
  have Hsa := hide hsa
  have Hza := hide hza
  have Hsb := hide hsb
  have Hzb := hide hzb
  have Hsc := hide hsc
  have Hzc := hide hzc
  clear hsa hza hsb hzb hsc hzc
  have f4 : decide (16777216 < sa) = true := decide_eq_true (by have := of_decide_eq_false g4; omega)
  have G1 := hide g1
  have G2 := hide g2
  have G3 := hide g3
  have G4 := hide g4
  clear g1 g2 g3 g4
  obtain ⟨WA, hWA⟩ : ∃ WA, w.alloc (.cells #[.int .i64 sa, .int .i64 za] 26) = WA := ⟨_, rfl⟩
  have nWA : Below w.heap.size w WA := hWA ▸ (Below.refl _ _).alloc (Nat.le_refl _) _
  have mWA : Box2 WA w.heap.size sa za := hWA ▸ box2_new _ _ _ _
  obtain ⟨WB, hWB⟩ : ∃ WB, WA.alloc (.cells #[.int .i64 sb, .int .i64 zb] 26) = WB := ⟨_, rfl⟩
  have nWB : Below WA.heap.size WA WB := hWB ▸ (Below.refl _ _).alloc (Nat.le_refl _) _
  have mWB : Box2 WB WA.heap.size sb zb := hWB ▸ box2_new _ _ _ _
  obtain ⟨WC, hWC⟩ : ∃ WC, WB.alloc (.cells #[.int .i64 sc, .int .i64 zc] 26) = WC := ⟨_, rfl⟩
  have nWC : Below WB.heap.size WB WC := hWC ▸ (Below.refl _ _).alloc (Nat.le_refl _) _
  have mWC : Box2 WC WB.heap.size sc zc := hWC ▸ box2_new _ _ _ _
  have BL : Hid (Below w.heap.size w WC) := hide (((nWA).trans (nWB.mono (nWA).size)).trans (nWC.mono ((nWA).trans (nWB.mono (nWA).size)).size))
  have KA := hide (((mWA).below nWB).below nWC)
  have KB := hide ((mWB).below nWC)
  have KC := hide (mWC)
  clear nWA mWA
  clear nWB mWB
  clear nWC mWC
  obtain ⟨-, cA0, cA1⟩ := KA.out
  obtain ⟨-, cB0, cB1⟩ := KB.out
  obtain ⟨-, cC0, cC1⟩ := KC.out
  go_enter Try.func5, Try.ntmps5
  go_wp2_with fail
  refine (gScaleS sa za true G1.out _).mono ?_
  rintro e1 w1 ⟨rfl, q1⟩
  replace KA := hide (KA.out.below q1)
  clear cA0 cA1
  obtain ⟨-, cA0, cA1⟩ := KA.out
  replace KB := hide (KB.out.below q1)
  clear cB0 cB1
  obtain ⟨-, cB0, cB1⟩ := KB.out
  replace KC := hide (KC.out.below q1)
  clear cC0 cC1
  obtain ⟨-, cC0, cC1⟩ := KC.out
  replace BL := hide (BL.out.trans (q1.mono BL.out.size))
  clear q1
  go_wp2_with fail
  refine (gScaleS sb zb true G2.out _).mono ?_
  rintro e1 w2 ⟨rfl, q2⟩
  replace KA := hide (KA.out.below q2)
  clear cA0 cA1
  obtain ⟨-, cA0, cA1⟩ := KA.out
  replace KB := hide (KB.out.below q2)
  clear cB0 cB1
  obtain ⟨-, cB0, cB1⟩ := KB.out
  replace KC := hide (KC.out.below q2)
  clear cC0 cC1
  obtain ⟨-, cC0, cC1⟩ := KC.out
  replace BL := hide (BL.out.trans (q2.mono BL.out.size))
  clear q2
  go_wp2_with fail
  refine (gScaleS sc zc true G3.out _).mono ?_
  rintro e1 w3 ⟨rfl, q3⟩
  replace KA := hide (KA.out.below q3)
  clear cA0 cA1
  obtain ⟨-, cA0, cA1⟩ := KA.out
  replace KB := hide (KB.out.below q3)
  clear cB0 cB1
  obtain ⟨-, cB0, cB1⟩ := KB.out
  replace KC := hide (KC.out.below q3)
  clear cC0 cC1
  obtain ⟨-, cC0, cC1⟩ := KC.out
  replace BL := hide (BL.out.trans (q3.mono BL.out.size))
  clear q3
  go_wp2_with fail
  exact bodyPost_ret (v := .tuple #[.int .i64 0, .int .i64 0, .bool false]) (by simp [results, Try.results5, go_sem]) rfl ⟨rfl, BL.out⟩
set_option maxHeartbeats 1000000 in
theorem sFac_no5 (sa za sb zb sc zc : Int) (w : World) (hsa : bd sa) (hza : bd za) (hsb : bd sb) (hzb : bd zb) (hsc : bd sc) (hzc : bd zc) (g1 : scOk sa za = true) (g2 : scOk sb zb = true) (g3 : scOk sc zc = true) (g4 : decide (sa ≤ 16777216) = true) (g5 : decide (sb ≤ 16777216) = false) :
    Calls Try.prog 5 #[.agg #[.int .i64 sa, .int .i64 za], .agg #[.int .i64 sb, .int .i64 zb], .agg #[.int .i64 sc, .int .i64 zc]] w fun e w' => e = .returned (.tuple #[.int .i64 0, .int .i64 0, .bool false]) ∧ Below w.heap.size w w' := by
  have Hsa := hide hsa
  have Hza := hide hza
  have Hsb := hide hsb
  have Hzb := hide hzb
  have Hsc := hide hsc
  have Hzc := hide hzc
  clear hsa hza hsb hzb hsc hzc
  have f4 : decide (16777216 < sa) = false := decide_eq_false (by have := of_decide_eq_true g4; omega)
  have f5 : decide (16777216 < sb) = true := decide_eq_true (by have := of_decide_eq_false g5; omega)
  have G1 := hide g1
  have G2 := hide g2
  have G3 := hide g3
  have G4 := hide g4
  have G5 := hide g5
  clear g1 g2 g3 g4 g5
  obtain ⟨WA, hWA⟩ : ∃ WA, w.alloc (.cells #[.int .i64 sa, .int .i64 za] 26) = WA := ⟨_, rfl⟩
  have nWA : Below w.heap.size w WA := hWA ▸ (Below.refl _ _).alloc (Nat.le_refl _) _
  have mWA : Box2 WA w.heap.size sa za := hWA ▸ box2_new _ _ _ _
  obtain ⟨WB, hWB⟩ : ∃ WB, WA.alloc (.cells #[.int .i64 sb, .int .i64 zb] 26) = WB := ⟨_, rfl⟩
  have nWB : Below WA.heap.size WA WB := hWB ▸ (Below.refl _ _).alloc (Nat.le_refl _) _
  have mWB : Box2 WB WA.heap.size sb zb := hWB ▸ box2_new _ _ _ _
  obtain ⟨WC, hWC⟩ : ∃ WC, WB.alloc (.cells #[.int .i64 sc, .int .i64 zc] 26) = WC := ⟨_, rfl⟩
  have nWC : Below WB.heap.size WB WC := hWC ▸ (Below.refl _ _).alloc (Nat.le_refl _) _
  have mWC : Box2 WC WB.heap.size sc zc := hWC ▸ box2_new _ _ _ _
  have BL : Hid (Below w.heap.size w WC) := hide (((nWA).trans (nWB.mono (nWA).size)).trans (nWC.mono ((nWA).trans (nWB.mono (nWA).size)).size))
  have KA := hide (((mWA).below nWB).below nWC)
  have KB := hide ((mWB).below nWC)
  have KC := hide (mWC)
  clear nWA mWA
  clear nWB mWB
  clear nWC mWC
  obtain ⟨-, cA0, cA1⟩ := KA.out
  obtain ⟨-, cB0, cB1⟩ := KB.out
  obtain ⟨-, cC0, cC1⟩ := KC.out
  go_enter Try.func5, Try.ntmps5
  go_wp2_with fail
  refine (gScaleS sa za true G1.out _).mono ?_
  rintro e1 w1 ⟨rfl, q1⟩
  replace KA := hide (KA.out.below q1)
  clear cA0 cA1
  obtain ⟨-, cA0, cA1⟩ := KA.out
  replace KB := hide (KB.out.below q1)
  clear cB0 cB1
  obtain ⟨-, cB0, cB1⟩ := KB.out
  replace KC := hide (KC.out.below q1)
  clear cC0 cC1
  obtain ⟨-, cC0, cC1⟩ := KC.out
  replace BL := hide (BL.out.trans (q1.mono BL.out.size))
  clear q1
  go_wp2_with fail
  refine (gScaleS sb zb true G2.out _).mono ?_
  rintro e1 w2 ⟨rfl, q2⟩
  replace KA := hide (KA.out.below q2)
  clear cA0 cA1
  obtain ⟨-, cA0, cA1⟩ := KA.out
  replace KB := hide (KB.out.below q2)
  clear cB0 cB1
  obtain ⟨-, cB0, cB1⟩ := KB.out
  replace KC := hide (KC.out.below q2)
  clear cC0 cC1
  obtain ⟨-, cC0, cC1⟩ := KC.out
  replace BL := hide (BL.out.trans (q2.mono BL.out.size))
  clear q2
  go_wp2_with fail
  refine (gScaleS sc zc true G3.out _).mono ?_
  rintro e1 w3 ⟨rfl, q3⟩
  replace KA := hide (KA.out.below q3)
  clear cA0 cA1
  obtain ⟨-, cA0, cA1⟩ := KA.out
  replace KB := hide (KB.out.below q3)
  clear cB0 cB1
  obtain ⟨-, cB0, cB1⟩ := KB.out
  replace KC := hide (KC.out.below q3)
  clear cC0 cC1
  obtain ⟨-, cC0, cC1⟩ := KC.out
  replace BL := hide (BL.out.trans (q3.mono BL.out.size))
  clear q3
  go_wp2_with fail
  exact bodyPost_ret (v := .tuple #[.int .i64 0, .int .i64 0, .bool false]) (by simp [results, Try.results5, go_sem]) rfl ⟨rfl, BL.out⟩
set_option maxHeartbeats 1000000 in
theorem sFac_no6 (sa za sb zb sc zc : Int) (w : World) (hsa : bd sa) (hza : bd za) (hsb : bd sb) (hzb : bd zb) (hsc : bd sc) (hzc : bd zc) (g1 : scOk sa za = true) (g2 : scOk sb zb = true) (g3 : scOk sc zc = true) (g4 : decide (sa ≤ 16777216) = true) (g5 : decide (sb ≤ 16777216) = true) (g6 : decide (sc ≤ 16777216) = false) :
    Calls Try.prog 5 #[.agg #[.int .i64 sa, .int .i64 za], .agg #[.int .i64 sb, .int .i64 zb], .agg #[.int .i64 sc, .int .i64 zc]] w fun e w' => e = .returned (.tuple #[.int .i64 0, .int .i64 0, .bool false]) ∧ Below w.heap.size w w' := by
  have Hsa := hide hsa
  have Hza := hide hza
  have Hsb := hide hsb
  have Hzb := hide hzb
  have Hsc := hide hsc
  have Hzc := hide hzc
  clear hsa hza hsb hzb hsc hzc
  have f4 : decide (16777216 < sa) = false := decide_eq_false (by have := of_decide_eq_true g4; omega)
  have f5 : decide (16777216 < sb) = false := decide_eq_false (by have := of_decide_eq_true g5; omega)
  have f6 : decide (16777216 < sc) = true := decide_eq_true (by have := of_decide_eq_false g6; omega)
  have G1 := hide g1
  have G2 := hide g2
  have G3 := hide g3
  have G4 := hide g4
  have G5 := hide g5
  have G6 := hide g6
  clear g1 g2 g3 g4 g5 g6
  obtain ⟨WA, hWA⟩ : ∃ WA, w.alloc (.cells #[.int .i64 sa, .int .i64 za] 26) = WA := ⟨_, rfl⟩
  have nWA : Below w.heap.size w WA := hWA ▸ (Below.refl _ _).alloc (Nat.le_refl _) _
  have mWA : Box2 WA w.heap.size sa za := hWA ▸ box2_new _ _ _ _
  obtain ⟨WB, hWB⟩ : ∃ WB, WA.alloc (.cells #[.int .i64 sb, .int .i64 zb] 26) = WB := ⟨_, rfl⟩
  have nWB : Below WA.heap.size WA WB := hWB ▸ (Below.refl _ _).alloc (Nat.le_refl _) _
  have mWB : Box2 WB WA.heap.size sb zb := hWB ▸ box2_new _ _ _ _
  obtain ⟨WC, hWC⟩ : ∃ WC, WB.alloc (.cells #[.int .i64 sc, .int .i64 zc] 26) = WC := ⟨_, rfl⟩
  have nWC : Below WB.heap.size WB WC := hWC ▸ (Below.refl _ _).alloc (Nat.le_refl _) _
  have mWC : Box2 WC WB.heap.size sc zc := hWC ▸ box2_new _ _ _ _
  have BL : Hid (Below w.heap.size w WC) := hide (((nWA).trans (nWB.mono (nWA).size)).trans (nWC.mono ((nWA).trans (nWB.mono (nWA).size)).size))
  have KA := hide (((mWA).below nWB).below nWC)
  have KB := hide ((mWB).below nWC)
  have KC := hide (mWC)
  clear nWA mWA
  clear nWB mWB
  clear nWC mWC
  obtain ⟨-, cA0, cA1⟩ := KA.out
  obtain ⟨-, cB0, cB1⟩ := KB.out
  obtain ⟨-, cC0, cC1⟩ := KC.out
  go_enter Try.func5, Try.ntmps5
  go_wp2_with fail
  refine (gScaleS sa za true G1.out _).mono ?_
  rintro e1 w1 ⟨rfl, q1⟩
  replace KA := hide (KA.out.below q1)
  clear cA0 cA1
  obtain ⟨-, cA0, cA1⟩ := KA.out
  replace KB := hide (KB.out.below q1)
  clear cB0 cB1
  obtain ⟨-, cB0, cB1⟩ := KB.out
  replace KC := hide (KC.out.below q1)
  clear cC0 cC1
  obtain ⟨-, cC0, cC1⟩ := KC.out
  replace BL := hide (BL.out.trans (q1.mono BL.out.size))
  clear q1
  go_wp2_with fail
  refine (gScaleS sb zb true G2.out _).mono ?_
  rintro e1 w2 ⟨rfl, q2⟩
  replace KA := hide (KA.out.below q2)
  clear cA0 cA1
  obtain ⟨-, cA0, cA1⟩ := KA.out
  replace KB := hide (KB.out.below q2)
  clear cB0 cB1
  obtain ⟨-, cB0, cB1⟩ := KB.out
  replace KC := hide (KC.out.below q2)
  clear cC0 cC1
  obtain ⟨-, cC0, cC1⟩ := KC.out
  replace BL := hide (BL.out.trans (q2.mono BL.out.size))
  clear q2
  go_wp2_with fail
  refine (gScaleS sc zc true G3.out _).mono ?_
  rintro e1 w3 ⟨rfl, q3⟩
  replace KA := hide (KA.out.below q3)
  clear cA0 cA1
  obtain ⟨-, cA0, cA1⟩ := KA.out
  replace KB := hide (KB.out.below q3)
  clear cB0 cB1
  obtain ⟨-, cB0, cB1⟩ := KB.out
  replace KC := hide (KC.out.below q3)
  clear cC0 cC1
  obtain ⟨-, cC0, cC1⟩ := KC.out
  replace BL := hide (BL.out.trans (q3.mono BL.out.size))
  clear q3
  go_wp2_with fail
  exact bodyPost_ret (v := .tuple #[.int .i64 0, .int .i64 0, .bool false]) (by simp [results, Try.results5, go_sem]) rfl ⟨rfl, BL.out⟩

end Vo
end Go.Proofs.Ytnnjkanmcfjblaa
