/- DotBytes on both sides (written by tools/gen14.py). -/
import Derived.Test.YtnnjkanmcfjblaaIg
namespace Go.Proofs.Ytnnjkanmcfjblaa
namespace Vo
open Go.ChangeShapes Go.WideShapes Go.ChangeAt Go.RowKit Go.Joins Go.Sort
open Vl
set_option linter.unusedVariables false
set_option linter.unusedSimpArgs false
/-- the sum of the first k products -/
def dsum (za zb : Int) (P Q : Nat → Int) : Nat → Int
  | 0 => 0
  | k + 1 => dsum za zb P Q k + (P k - za) * (Q k - zb)
theorem mul_b {x y : Int} (x0 : -255 ≤ x) (x1 : x ≤ 255) (y0 : -255 ≤ y) (y1 : y ≤ 255) : -65025 ≤ x * y ∧ x * y ≤ 65025 := by
  have h : (x * y).natAbs ≤ 255 * 255 := by
    rw [Int.natAbs_mul]; exact Nat.mul_le_mul (by omega) (by omega)
  generalize x * y = z at *
  omega
theorem dsum_bd {za zb : Int} {P Q : Nat → Int} (a0 : 0 ≤ za) (a1 : za ≤ 255) (b0 : 0 ≤ zb) (b1 : zb ≤ 255) : ∀ k, (∀ j, j < k → (0 ≤ P j ∧ P j ≤ 255) ∧ (0 ≤ Q j ∧ Q j ≤ 255)) → -65025 * (k : Int) ≤ dsum za zb P Q k ∧ dsum za zb P Q k ≤ 65025 * (k : Int)
  | 0, _ => ⟨by show -65025 * ((0 : Nat) : Int) ≤ 0; omega, by show (0 : Int) ≤ 65025 * ((0 : Nat) : Int); omega⟩
  | k + 1, h => by
    have ih := dsum_bd a0 a1 b0 b1 k (fun j hj => h j (by omega))
    obtain ⟨hp, hq⟩ := h k (by omega)
    have hm := mul_b (x := P k - za) (y := Q k - zb) (by omega) (by omega) (by omega) (by omega)
    show -65025 * ((k + 1 : Nat) : Int) ≤ dsum za zb P Q k + (P k - za) * (Q k - zb) ∧ dsum za zb P Q k + (P k - za) * (Q k - zb) ≤ 65025 * ((k + 1 : Nat) : Int)
    generalize (P k - za) * (Q k - zb) = z at *
    generalize dsum za zb P Q k = y at *
    omega
theorem dsum_same {za zb : Int} {P Q P' Q' : Nat → Int} : ∀ k, (∀ j, j < k → P' j = P j ∧ Q' j = Q j) → dsum za zb P' Q' k = dsum za zb P Q k
  | 0, _ => rfl
  | k + 1, h => by
    show dsum za zb P' Q' k + (P' k - za) * (Q' k - zb) = dsum za zb P Q k + (P k - za) * (Q k - zb)
    rw [dsum_same k (fun j hj => h j (by omega)), (h k (by omega)).1, (h k (by omega)).2]
theorem bys_ib {r : Nat} {S : Nat → Int} (h : bys r S = true) : (∀ j, j < r → 0 ≤ S j ∧ S j ≤ 255) ∧ (r : Int) ≤ 4096 := by
  unfold bys at h
  rw [Bool.and_eq_true] at h
  exact ⟨of_decide_eq_true h.1, of_decide_eq_true h.2⟩
theorem cast_bool {F : Nat} {args : Array Value} {X : World} {c b : Bool} (h : c = b) (hc : Calls Try.prog F args X fun e w' => e = .returned (.bool c) ∧ Below X.heap.size X w') : Calls Try.prog F args X fun e w' => e = .returned (.bool b) ∧ Below X.heap.size X w' := h ▸ hc
set_option maxHeartbeats 1000000 in
theorem sDot_no1 (sa za sb zb : Int) (a : Option Addr) (r cap : Nat) (P : Nat → Int) (b : Option Addr) (s dap : Nat) (Q : Nat → Int) (w : World) (hsa : bd sa) (hza : bd za) (hsb : bd sb) (hzb : bd zb) (hp : Ints w.heap.size w a r P) (hq : Ints w.heap.size w b s Q) (hr : (r : Int) ≤ 1048576) (hs : (s : Int) ≤ 1048576) (g1 : scOk sa za = false) :
    Calls Try.prog 21 #[.agg #[.int .i64 sa, .int .i64 za], .agg #[.int .i64 sb, .int .i64 zb], .slice a r cap, .slice b s dap] w fun e w' => e = .returned (.int .i64 0) ∧ Below w.heap.size w w' := by
  have Hsa := hide hsa
  have Hza := hide hza
  have Hsb := hide hsb
  have Hzb := hide hzb
  have HP := hide hp
  have HQ := hide hq
  clear hsa hza hsb hzb hp hq
  have G1 := hide g1
  clear g1
  obtain ⟨WA, hWA⟩ : ∃ WA, w.alloc (.cells #[.int .i64 sa, .int .i64 za] 26) = WA := ⟨_, rfl⟩
  have nWA : Below w.heap.size w WA := hWA ▸ (Below.refl _ _).alloc (Nat.le_refl _) _
  have mWA : Box2 WA w.heap.size sa za := hWA ▸ box2_new _ _ _ _
  obtain ⟨WB, hWB⟩ : ∃ WB, WA.alloc (.cells #[.int .i64 sb, .int .i64 zb] 26) = WB := ⟨_, rfl⟩
  have nWB : Below WA.heap.size WA WB := hWB ▸ (Below.refl _ _).alloc (Nat.le_refl _) _
  have mWB : Box2 WB WA.heap.size sb zb := hWB ▸ box2_new _ _ _ _
  have BL : Hid (Below w.heap.size w WB) := hide ((nWA).trans (nWB.mono (nWA).size))
  have KA := hide ((mWA).below nWB)
  have KB := hide (mWB)
  clear nWA mWA
  clear nWB mWB
  obtain ⟨-, cA0, cA1⟩ := KA.out
  obtain ⟨-, cB0, cB1⟩ := KB.out
  go_enter Try.func21, Try.ntmps21
  go_wp2_with fail
  refine (gScaleS sa za false G1.out _).mono ?_
  rintro e1 w1 ⟨rfl, q1⟩
  replace KA := hide (KA.out.below q1)
  clear cA0 cA1
  obtain ⟨-, cA0, cA1⟩ := KA.out
  replace KB := hide (KB.out.below q1)
  clear cB0 cB1
  obtain ⟨-, cB0, cB1⟩ := KB.out
  replace BL := hide (BL.out.trans (q1.mono BL.out.size))
  clear q1
  go_wp2_with fail
  go_ret
  exact ⟨rfl, BL.out⟩
set_option maxHeartbeats 1000000 in
theorem sDot_no2 (sa za sb zb : Int) (a : Option Addr) (r cap : Nat) (P : Nat → Int) (b : Option Addr) (s dap : Nat) (Q : Nat → Int) (w : World) (hsa : bd sa) (hza : bd za) (hsb : bd sb) (hzb : bd zb) (hp : Ints w.heap.size w a r P) (hq : Ints w.heap.size w b s Q) (hr : (r : Int) ≤ 1048576) (hs : (s : Int) ≤ 1048576) (g1 : scOk sa za = true) (g2 : scOk sb zb = false) :
    Calls Try.prog 21 #[.agg #[.int .i64 sa, .int .i64 za], .agg #[.int .i64 sb, .int .i64 zb], .slice a r cap, .slice b s dap] w fun e w' => e = .returned (.int .i64 0) ∧ Below w.heap.size w w' := by
  have Hsa := hide hsa
  have Hza := hide hza
  have Hsb := hide hsb
  have Hzb := hide hzb
  have HP := hide hp
  have HQ := hide hq
  clear hsa hza hsb hzb hp hq
  have G1 := hide g1
  have G2 := hide g2
  clear g1 g2
  obtain ⟨WA, hWA⟩ : ∃ WA, w.alloc (.cells #[.int .i64 sa, .int .i64 za] 26) = WA := ⟨_, rfl⟩
  have nWA : Below w.heap.size w WA := hWA ▸ (Below.refl _ _).alloc (Nat.le_refl _) _
  have mWA : Box2 WA w.heap.size sa za := hWA ▸ box2_new _ _ _ _
  obtain ⟨WB, hWB⟩ : ∃ WB, WA.alloc (.cells #[.int .i64 sb, .int .i64 zb] 26) = WB := ⟨_, rfl⟩
  have nWB : Below WA.heap.size WA WB := hWB ▸ (Below.refl _ _).alloc (Nat.le_refl _) _
  have mWB : Box2 WB WA.heap.size sb zb := hWB ▸ box2_new _ _ _ _
  have BL : Hid (Below w.heap.size w WB) := hide ((nWA).trans (nWB.mono (nWA).size))
  have KA := hide ((mWA).below nWB)
  have KB := hide (mWB)
  clear nWA mWA
  clear nWB mWB
  obtain ⟨-, cA0, cA1⟩ := KA.out
  obtain ⟨-, cB0, cB1⟩ := KB.out
  go_enter Try.func21, Try.ntmps21
  go_wp2_with fail
  refine (gScaleS sa za true G1.out _).mono ?_
  rintro e1 w1 ⟨rfl, q1⟩
  replace KA := hide (KA.out.below q1)
  clear cA0 cA1
  obtain ⟨-, cA0, cA1⟩ := KA.out
  replace KB := hide (KB.out.below q1)
  clear cB0 cB1
  obtain ⟨-, cB0, cB1⟩ := KB.out
  replace BL := hide (BL.out.trans (q1.mono BL.out.size))
  clear q1
  go_wp2_with fail
  refine (gScaleS sb zb false G2.out _).mono ?_
  rintro e1 w2 ⟨rfl, q2⟩
  replace KA := hide (KA.out.below q2)
  clear cA0 cA1
  obtain ⟨-, cA0, cA1⟩ := KA.out
  replace KB := hide (KB.out.below q2)
  clear cB0 cB1
  obtain ⟨-, cB0, cB1⟩ := KB.out
  replace BL := hide (BL.out.trans (q2.mono BL.out.size))
  clear q2
  go_wp2_with fail
  go_ret
  exact ⟨rfl, BL.out⟩
set_option maxHeartbeats 1000000 in
theorem sDot_no3 (sa za sb zb : Int) (a : Option Addr) (r cap : Nat) (P : Nat → Int) (b : Option Addr) (s dap : Nat) (Q : Nat → Int) (w : World) (hsa : bd sa) (hza : bd za) (hsb : bd sb) (hzb : bd zb) (hp : Ints w.heap.size w a r P) (hq : Ints w.heap.size w b s Q) (hr : (r : Int) ≤ 1048576) (hs : (s : Int) ≤ 1048576) (g1 : scOk sa za = true) (g2 : scOk sb zb = true) (g3 : decide (r = s) = false) :
    Calls Try.prog 21 #[.agg #[.int .i64 sa, .int .i64 za], .agg #[.int .i64 sb, .int .i64 zb], .slice a r cap, .slice b s dap] w fun e w' => e = .returned (.int .i64 0) ∧ Below w.heap.size w w' := by
  have Hsa := hide hsa
  have Hza := hide hza
  have Hsb := hide hsb
  have Hzb := hide hzb
  have HP := hide hp
  have HQ := hide hq
  clear hsa hza hsb hzb hp hq
  have f3 : ((r : Int) != (s : Int)) = true := bne_iff_ne.2 (by have := of_decide_eq_false g3; omega)
  have G1 := hide g1
  have G2 := hide g2
  have G3 := hide g3
  clear g1 g2 g3
  obtain ⟨WA, hWA⟩ : ∃ WA, w.alloc (.cells #[.int .i64 sa, .int .i64 za] 26) = WA := ⟨_, rfl⟩
  have nWA : Below w.heap.size w WA := hWA ▸ (Below.refl _ _).alloc (Nat.le_refl _) _
  have mWA : Box2 WA w.heap.size sa za := hWA ▸ box2_new _ _ _ _
  obtain ⟨WB, hWB⟩ : ∃ WB, WA.alloc (.cells #[.int .i64 sb, .int .i64 zb] 26) = WB := ⟨_, rfl⟩
  have nWB : Below WA.heap.size WA WB := hWB ▸ (Below.refl _ _).alloc (Nat.le_refl _) _
  have mWB : Box2 WB WA.heap.size sb zb := hWB ▸ box2_new _ _ _ _
  have BL : Hid (Below w.heap.size w WB) := hide ((nWA).trans (nWB.mono (nWA).size))
  have KA := hide ((mWA).below nWB)
  have KB := hide (mWB)
  clear nWA mWA
  clear nWB mWB
  obtain ⟨-, cA0, cA1⟩ := KA.out
  obtain ⟨-, cB0, cB1⟩ := KB.out
  go_enter Try.func21, Try.ntmps21
  go_wp2_with fail
  refine (gScaleS sa za true G1.out _).mono ?_
  rintro e1 w1 ⟨rfl, q1⟩
  replace KA := hide (KA.out.below q1)
  clear cA0 cA1
  obtain ⟨-, cA0, cA1⟩ := KA.out
  replace KB := hide (KB.out.below q1)
  clear cB0 cB1
  obtain ⟨-, cB0, cB1⟩ := KB.out
  replace BL := hide (BL.out.trans (q1.mono BL.out.size))
  clear q1
  go_wp2_with fail
  refine (gScaleS sb zb true G2.out _).mono ?_
  rintro e1 w2 ⟨rfl, q2⟩
  replace KA := hide (KA.out.below q2)
  clear cA0 cA1
  obtain ⟨-, cA0, cA1⟩ := KA.out
  replace KB := hide (KB.out.below q2)
  clear cB0 cB1
  obtain ⟨-, cB0, cB1⟩ := KB.out
  replace BL := hide (BL.out.trans (q2.mono BL.out.size))
  clear q2
  go_wp2_with fail
  go_ret
  exact ⟨rfl, BL.out⟩
set_option maxHeartbeats 1000000 in
theorem iDot_no1 (sa za sb zb : Int) (a : Option Addr) (r cap : Nat) (P : Nat → Int) (b : Option Addr) (s dap : Nat) (Q : Nat → Int) (w : World) (hsa : bd sa) (hza : bd za) (hsb : bd sb) (hzb : bd zb) (hp : Ints w.heap.size w a r P) (hq : Ints w.heap.size w b s Q) (hr : (r : Int) ≤ 1048576) (hs : (s : Int) ≤ 1048576) (g1 : scOk sa za = false) :
    Calls Try.prog 28 #[.agg #[.int .i64 sa, .int .i64 za], .agg #[.int .i64 sb, .int .i64 zb], .slice a r cap, .slice b s dap] w fun e w' => e = .returned (.int .i64 0) ∧ Below w.heap.size w w' := by
  have Hsa := hide hsa
  have Hza := hide hza
  have Hsb := hide hsb
  have Hzb := hide hzb
  have HP := hide hp
  have HQ := hide hq
  clear hsa hza hsb hzb hp hq
  have G1 := hide g1
  clear g1
  obtain ⟨WA, hWA⟩ : ∃ WA, w.alloc (.cells #[.int .i64 sa, .int .i64 za] 26) = WA := ⟨_, rfl⟩
  have nWA : Below w.heap.size w WA := hWA ▸ (Below.refl _ _).alloc (Nat.le_refl _) _
  have mWA : Box2 WA w.heap.size sa za := hWA ▸ box2_new _ _ _ _
  obtain ⟨WB, hWB⟩ : ∃ WB, WA.alloc (.cells #[.int .i64 sb, .int .i64 zb] 26) = WB := ⟨_, rfl⟩
  have nWB : Below WA.heap.size WA WB := hWB ▸ (Below.refl _ _).alloc (Nat.le_refl _) _
  have mWB : Box2 WB WA.heap.size sb zb := hWB ▸ box2_new _ _ _ _
  have BL : Hid (Below w.heap.size w WB) := hide ((nWA).trans (nWB.mono (nWA).size))
  have KA := hide ((mWA).below nWB)
  have KB := hide (mWB)
  clear nWA mWA
  clear nWB mWB
  obtain ⟨-, cA0, cA1⟩ := KA.out
  obtain ⟨-, cB0, cB1⟩ := KB.out
  go_enter Try.func28, Try.ntmps28
  go_wp2_with fail
  refine (gScaleI sa za false Hsa.out Hza.out G1.out _).mono ?_
  rintro e1 w1 ⟨rfl, q1⟩
  replace KA := hide (KA.out.below q1)
  clear cA0 cA1
  obtain ⟨-, cA0, cA1⟩ := KA.out
  replace KB := hide (KB.out.below q1)
  clear cB0 cB1
  obtain ⟨-, cB0, cB1⟩ := KB.out
  replace BL := hide (BL.out.trans (q1.mono BL.out.size))
  clear q1
  go_wp2_with fail
  go_ret
  exact ⟨rfl, BL.out⟩
set_option maxHeartbeats 1000000 in
theorem iDot_no2 (sa za sb zb : Int) (a : Option Addr) (r cap : Nat) (P : Nat → Int) (b : Option Addr) (s dap : Nat) (Q : Nat → Int) (w : World) (hsa : bd sa) (hza : bd za) (hsb : bd sb) (hzb : bd zb) (hp : Ints w.heap.size w a r P) (hq : Ints w.heap.size w b s Q) (hr : (r : Int) ≤ 1048576) (hs : (s : Int) ≤ 1048576) (g1 : scOk sa za = true) (g2 : scOk sb zb = false) :
    Calls Try.prog 28 #[.agg #[.int .i64 sa, .int .i64 za], .agg #[.int .i64 sb, .int .i64 zb], .slice a r cap, .slice b s dap] w fun e w' => e = .returned (.int .i64 0) ∧ Below w.heap.size w w' := by
  have Hsa := hide hsa
  have Hza := hide hza
  have Hsb := hide hsb
  have Hzb := hide hzb
  have HP := hide hp
  have HQ := hide hq
  clear hsa hza hsb hzb hp hq
  have G1 := hide g1
  have G2 := hide g2
  clear g1 g2
  obtain ⟨WA, hWA⟩ : ∃ WA, w.alloc (.cells #[.int .i64 sa, .int .i64 za] 26) = WA := ⟨_, rfl⟩
  have nWA : Below w.heap.size w WA := hWA ▸ (Below.refl _ _).alloc (Nat.le_refl _) _
  have mWA : Box2 WA w.heap.size sa za := hWA ▸ box2_new _ _ _ _
  obtain ⟨WB, hWB⟩ : ∃ WB, WA.alloc (.cells #[.int .i64 sb, .int .i64 zb] 26) = WB := ⟨_, rfl⟩
  have nWB : Below WA.heap.size WA WB := hWB ▸ (Below.refl _ _).alloc (Nat.le_refl _) _
  have mWB : Box2 WB WA.heap.size sb zb := hWB ▸ box2_new _ _ _ _
  have BL : Hid (Below w.heap.size w WB) := hide ((nWA).trans (nWB.mono (nWA).size))
  have KA := hide ((mWA).below nWB)
  have KB := hide (mWB)
  clear nWA mWA
  clear nWB mWB
  obtain ⟨-, cA0, cA1⟩ := KA.out
  obtain ⟨-, cB0, cB1⟩ := KB.out
  go_enter Try.func28, Try.ntmps28
  go_wp2_with fail
  refine (gScaleI sa za true Hsa.out Hza.out G1.out _).mono ?_
  rintro e1 w1 ⟨rfl, q1⟩
  replace KA := hide (KA.out.below q1)
  clear cA0 cA1
  obtain ⟨-, cA0, cA1⟩ := KA.out
  replace KB := hide (KB.out.below q1)
  clear cB0 cB1
  obtain ⟨-, cB0, cB1⟩ := KB.out
  replace BL := hide (BL.out.trans (q1.mono BL.out.size))
  clear q1
  go_wp2_with fail
  refine (gScaleI sb zb false Hsb.out Hzb.out G2.out _).mono ?_
  rintro e1 w2 ⟨rfl, q2⟩
  replace KA := hide (KA.out.below q2)
  clear cA0 cA1
  obtain ⟨-, cA0, cA1⟩ := KA.out
  replace KB := hide (KB.out.below q2)
  clear cB0 cB1
  obtain ⟨-, cB0, cB1⟩ := KB.out
  replace BL := hide (BL.out.trans (q2.mono BL.out.size))
  clear q2
  go_wp2_with fail
  go_ret
  exact ⟨rfl, BL.out⟩
set_option maxHeartbeats 1000000 in
theorem iDot_no3 (sa za sb zb : Int) (a : Option Addr) (r cap : Nat) (P : Nat → Int) (b : Option Addr) (s dap : Nat) (Q : Nat → Int) (w : World) (hsa : bd sa) (hza : bd za) (hsb : bd sb) (hzb : bd zb) (hp : Ints w.heap.size w a r P) (hq : Ints w.heap.size w b s Q) (hr : (r : Int) ≤ 1048576) (hs : (s : Int) ≤ 1048576) (g1 : scOk sa za = true) (g2 : scOk sb zb = true) (g3 : decide (r = s) = false) :
    Calls Try.prog 28 #[.agg #[.int .i64 sa, .int .i64 za], .agg #[.int .i64 sb, .int .i64 zb], .slice a r cap, .slice b s dap] w fun e w' => e = .returned (.int .i64 0) ∧ Below w.heap.size w w' := by
  have Hsa := hide hsa
  have Hza := hide hza
  have Hsb := hide hsb
  have Hzb := hide hzb
  have HP := hide hp
  have HQ := hide hq
  clear hsa hza hsb hzb hp hq
  have f3 : ((r : Int) != (s : Int)) = true := bne_iff_ne.2 (by have := of_decide_eq_false g3; omega)
  have G1 := hide g1
  have G2 := hide g2
  have G3 := hide g3
  clear g1 g2 g3
  obtain ⟨WA, hWA⟩ : ∃ WA, w.alloc (.cells #[.int .i64 sa, .int .i64 za] 26) = WA := ⟨_, rfl⟩
  have nWA : Below w.heap.size w WA := hWA ▸ (Below.refl _ _).alloc (Nat.le_refl _) _
  have mWA : Box2 WA w.heap.size sa za := hWA ▸ box2_new _ _ _ _
  obtain ⟨WB, hWB⟩ : ∃ WB, WA.alloc (.cells #[.int .i64 sb, .int .i64 zb] 26) = WB := ⟨_, rfl⟩
  have nWB : Below WA.heap.size WA WB := hWB ▸ (Below.refl _ _).alloc (Nat.le_refl _) _
  have mWB : Box2 WB WA.heap.size sb zb := hWB ▸ box2_new _ _ _ _
  have BL : Hid (Below w.heap.size w WB) := hide ((nWA).trans (nWB.mono (nWA).size))
  have KA := hide ((mWA).below nWB)
  have KB := hide (mWB)
  clear nWA mWA
  clear nWB mWB
  obtain ⟨-, cA0, cA1⟩ := KA.out
  obtain ⟨-, cB0, cB1⟩ := KB.out
  go_enter Try.func28, Try.ntmps28
  go_wp2_with fail
  refine (gScaleI sa za true Hsa.out Hza.out G1.out _).mono ?_
  rintro e1 w1 ⟨rfl, q1⟩
  replace KA := hide (KA.out.below q1)
  clear cA0 cA1
  obtain ⟨-, cA0, cA1⟩ := KA.out
  replace KB := hide (KB.out.below q1)
  clear cB0 cB1
  obtain ⟨-, cB0, cB1⟩ := KB.out
  replace BL := hide (BL.out.trans (q1.mono BL.out.size))
  clear q1
  go_wp2_with fail
  refine (gScaleI sb zb true Hsb.out Hzb.out G2.out _).mono ?_
  rintro e1 w2 ⟨rfl, q2⟩
  replace KA := hide (KA.out.below q2)
  clear cA0 cA1
  obtain ⟨-, cA0, cA1⟩ := KA.out
  replace KB := hide (KB.out.below q2)
  clear cB0 cB1
  obtain ⟨-, cB0, cB1⟩ := KB.out
  replace BL := hide (BL.out.trans (q2.mono BL.out.size))
  clear q2
  go_wp2_with fail
  go_ret
  exact ⟨rfl, BL.out⟩
set_option maxHeartbeats 1000000 in
theorem sDotR_no1 (sa za sb zb : Int) (a : Option Addr) (r cap : Nat) (P : Nat → Int) (b : Option Addr) (dap : Nat) (Q : Nat → Int) (w : World) (hsa : bd sa) (hza : bd za) (hsb : bd sb) (hzb : bd zb) (hp : Ints w.heap.size w a r P) (hq : Ints w.heap.size w b r Q) (hr : (r : Int) ≤ 1048576) (g1 : scOk sa za = false) :
    Calls Try.prog 21 #[.agg #[.int .i64 sa, .int .i64 za], .agg #[.int .i64 sb, .int .i64 zb], .slice a r cap, .slice b r dap] w fun e w' => e = .returned (.int .i64 0) ∧ Below w.heap.size w w' := by
  have Hsa := hide hsa
  have Hza := hide hza
  have Hsb := hide hsb
  have Hzb := hide hzb
  have HP := hide hp
  have HQ := hide hq
  clear hsa hza hsb hzb hp hq
  have G1 := hide g1
  clear g1
  obtain ⟨WA, hWA⟩ : ∃ WA, w.alloc (.cells #[.int .i64 sa, .int .i64 za] 26) = WA := ⟨_, rfl⟩
  have nWA : Below w.heap.size w WA := hWA ▸ (Below.refl _ _).alloc (Nat.le_refl _) _
  have mWA : Box2 WA w.heap.size sa za := hWA ▸ box2_new _ _ _ _
  obtain ⟨WB, hWB⟩ : ∃ WB, WA.alloc (.cells #[.int .i64 sb, .int .i64 zb] 26) = WB := ⟨_, rfl⟩
  have nWB : Below WA.heap.size WA WB := hWB ▸ (Below.refl _ _).alloc (Nat.le_refl _) _
  have mWB : Box2 WB WA.heap.size sb zb := hWB ▸ box2_new _ _ _ _
  have BL : Hid (Below w.heap.size w WB) := hide ((nWA).trans (nWB.mono (nWA).size))
  have KA := hide ((mWA).below nWB)
  have KB := hide (mWB)
  clear nWA mWA
  clear nWB mWB
  obtain ⟨-, cA0, cA1⟩ := KA.out
  obtain ⟨-, cB0, cB1⟩ := KB.out
  go_enter Try.func21, Try.ntmps21
  go_wp2_with fail
  refine (gScaleS sa za false G1.out _).mono ?_
  rintro e1 w1 ⟨rfl, q1⟩
  replace KA := hide (KA.out.below q1)
  clear cA0 cA1
  obtain ⟨-, cA0, cA1⟩ := KA.out
  replace KB := hide (KB.out.below q1)
  clear cB0 cB1
  obtain ⟨-, cB0, cB1⟩ := KB.out
  replace BL := hide (BL.out.trans (q1.mono BL.out.size))
  clear q1
  go_wp2_with fail
  go_ret
  exact ⟨rfl, BL.out⟩
set_option maxHeartbeats 1000000 in
theorem sDotR_no2 (sa za sb zb : Int) (a : Option Addr) (r cap : Nat) (P : Nat → Int) (b : Option Addr) (dap : Nat) (Q : Nat → Int) (w : World) (hsa : bd sa) (hza : bd za) (hsb : bd sb) (hzb : bd zb) (hp : Ints w.heap.size w a r P) (hq : Ints w.heap.size w b r Q) (hr : (r : Int) ≤ 1048576) (g1 : scOk sa za = true) (g2 : scOk sb zb = false) :
    Calls Try.prog 21 #[.agg #[.int .i64 sa, .int .i64 za], .agg #[.int .i64 sb, .int .i64 zb], .slice a r cap, .slice b r dap] w fun e w' => e = .returned (.int .i64 0) ∧ Below w.heap.size w w' := by
  have Hsa := hide hsa
  have Hza := hide hza
  have Hsb := hide hsb
  have Hzb := hide hzb
  have HP := hide hp
  have HQ := hide hq
  clear hsa hza hsb hzb hp hq
  have G1 := hide g1
  have G2 := hide g2
  clear g1 g2
  obtain ⟨WA, hWA⟩ : ∃ WA, w.alloc (.cells #[.int .i64 sa, .int .i64 za] 26) = WA := ⟨_, rfl⟩
  have nWA : Below w.heap.size w WA := hWA ▸ (Below.refl _ _).alloc (Nat.le_refl _) _
  have mWA : Box2 WA w.heap.size sa za := hWA ▸ box2_new _ _ _ _
  obtain ⟨WB, hWB⟩ : ∃ WB, WA.alloc (.cells #[.int .i64 sb, .int .i64 zb] 26) = WB := ⟨_, rfl⟩
  have nWB : Below WA.heap.size WA WB := hWB ▸ (Below.refl _ _).alloc (Nat.le_refl _) _
  have mWB : Box2 WB WA.heap.size sb zb := hWB ▸ box2_new _ _ _ _
  have BL : Hid (Below w.heap.size w WB) := hide ((nWA).trans (nWB.mono (nWA).size))
  have KA := hide ((mWA).below nWB)
  have KB := hide (mWB)
  clear nWA mWA
  clear nWB mWB
  obtain ⟨-, cA0, cA1⟩ := KA.out
  obtain ⟨-, cB0, cB1⟩ := KB.out
  go_enter Try.func21, Try.ntmps21
  go_wp2_with fail
  refine (gScaleS sa za true G1.out _).mono ?_
  rintro e1 w1 ⟨rfl, q1⟩
  replace KA := hide (KA.out.below q1)
  clear cA0 cA1
  obtain ⟨-, cA0, cA1⟩ := KA.out
  replace KB := hide (KB.out.below q1)
  clear cB0 cB1
  obtain ⟨-, cB0, cB1⟩ := KB.out
  replace BL := hide (BL.out.trans (q1.mono BL.out.size))
  clear q1
  go_wp2_with fail
  refine (gScaleS sb zb false G2.out _).mono ?_
  rintro e1 w2 ⟨rfl, q2⟩
  replace KA := hide (KA.out.below q2)
  clear cA0 cA1
  obtain ⟨-, cA0, cA1⟩ := KA.out
  replace KB := hide (KB.out.below q2)
  clear cB0 cB1
  obtain ⟨-, cB0, cB1⟩ := KB.out
  replace BL := hide (BL.out.trans (q2.mono BL.out.size))
  clear q2
  go_wp2_with fail
  go_ret
  exact ⟨rfl, BL.out⟩
set_option maxHeartbeats 1000000 in
theorem sDotR_no3 (sa za sb zb : Int) (a : Option Addr) (r cap : Nat) (P : Nat → Int) (b : Option Addr) (dap : Nat) (Q : Nat → Int) (w : World) (hsa : bd sa) (hza : bd za) (hsb : bd sb) (hzb : bd zb) (hp : Ints w.heap.size w a r P) (hq : Ints w.heap.size w b r Q) (hr : (r : Int) ≤ 1048576) (g1 : scOk sa za = true) (g2 : scOk sb zb = true) (g3 : bys r P = false) :
    Calls Try.prog 21 #[.agg #[.int .i64 sa, .int .i64 za], .agg #[.int .i64 sb, .int .i64 zb], .slice a r cap, .slice b r dap] w fun e w' => e = .returned (.int .i64 0) ∧ Below w.heap.size w w' := by
  have Hsa := hide hsa
  have Hza := hide hza
  have Hsb := hide hsb
  have Hzb := hide hzb
  have HP := hide hp
  have HQ := hide hq
  clear hsa hza hsb hzb hp hq
  have G1 := hide g1
  have G2 := hide g2
  have G3 := hide g3
  clear g1 g2 g3
  obtain ⟨WA, hWA⟩ : ∃ WA, w.alloc (.cells #[.int .i64 sa, .int .i64 za] 26) = WA := ⟨_, rfl⟩
  have nWA : Below w.heap.size w WA := hWA ▸ (Below.refl _ _).alloc (Nat.le_refl _) _
  have mWA : Box2 WA w.heap.size sa za := hWA ▸ box2_new _ _ _ _
  obtain ⟨WB, hWB⟩ : ∃ WB, WA.alloc (.cells #[.int .i64 sb, .int .i64 zb] 26) = WB := ⟨_, rfl⟩
  have nWB : Below WA.heap.size WA WB := hWB ▸ (Below.refl _ _).alloc (Nat.le_refl _) _
  have mWB : Box2 WB WA.heap.size sb zb := hWB ▸ box2_new _ _ _ _
  have BL : Hid (Below w.heap.size w WB) := hide ((nWA).trans (nWB.mono (nWA).size))
  have KA := hide ((mWA).below nWB)
  have KB := hide (mWB)
  clear nWA mWA
  clear nWB mWB
  obtain ⟨-, cA0, cA1⟩ := KA.out
  obtain ⟨-, cB0, cB1⟩ := KB.out
  go_enter Try.func21, Try.ntmps21
  go_wp2_with fail
  refine (gScaleS sa za true G1.out _).mono ?_
  rintro e1 w1 ⟨rfl, q1⟩
  replace KA := hide (KA.out.below q1)
  clear cA0 cA1
  obtain ⟨-, cA0, cA1⟩ := KA.out
  replace KB := hide (KB.out.below q1)
  clear cB0 cB1
  obtain ⟨-, cB0, cB1⟩ := KB.out
  replace BL := hide (BL.out.trans (q1.mono BL.out.size))
  clear q1
  go_wp2_with fail
  refine (gScaleS sb zb true G2.out _).mono ?_
  rintro e1 w2 ⟨rfl, q2⟩
  replace KA := hide (KA.out.below q2)
  clear cA0 cA1
  obtain ⟨-, cA0, cA1⟩ := KA.out
  replace KB := hide (KB.out.below q2)
  clear cB0 cB1
  obtain ⟨-, cB0, cB1⟩ := KB.out
  replace BL := hide (BL.out.trans (q2.mono BL.out.size))
  clear q2
  go_wp2_with fail
  refine (cast_bool G3.out (bytesS w.heap.size a r cap P _ BL.out.size (HP.out.below BL.out) hr)).mono ?_
  rintro e1 w3 ⟨rfl, q3⟩
  replace KA := hide (KA.out.below q3)
  clear cA0 cA1
  obtain ⟨-, cA0, cA1⟩ := KA.out
  replace KB := hide (KB.out.below q3)
  clear cB0 cB1
  obtain ⟨-, cB0, cB1⟩ := KB.out
  replace BL := hide (BL.out.trans (q3.mono BL.out.size))
  clear q3
  go_wp2_with fail
  go_ret
  exact ⟨rfl, BL.out⟩
set_option maxHeartbeats 1000000 in
theorem sDotR_no4 (sa za sb zb : Int) (a : Option Addr) (r cap : Nat) (P : Nat → Int) (b : Option Addr) (dap : Nat) (Q : Nat → Int) (w : World) (hsa : bd sa) (hza : bd za) (hsb : bd sb) (hzb : bd zb) (hp : Ints w.heap.size w a r P) (hq : Ints w.heap.size w b r Q) (hr : (r : Int) ≤ 1048576) (g1 : scOk sa za = true) (g2 : scOk sb zb = true) (g3 : bys r P = true) (g4 : bys r Q = false) :
    Calls Try.prog 21 #[.agg #[.int .i64 sa, .int .i64 za], .agg #[.int .i64 sb, .int .i64 zb], .slice a r cap, .slice b r dap] w fun e w' => e = .returned (.int .i64 0) ∧ Below w.heap.size w w' := by
  have Hsa := hide hsa
  have Hza := hide hza
  have Hsb := hide hsb
  have Hzb := hide hzb
  have HP := hide hp
  have HQ := hide hq
  clear hsa hza hsb hzb hp hq
  have G1 := hide g1
  have G2 := hide g2
  have G3 := hide g3
  have G4 := hide g4
  clear g1 g2 g3 g4
  obtain ⟨WA, hWA⟩ : ∃ WA, w.alloc (.cells #[.int .i64 sa, .int .i64 za] 26) = WA := ⟨_, rfl⟩
  have nWA : Below w.heap.size w WA := hWA ▸ (Below.refl _ _).alloc (Nat.le_refl _) _
  have mWA : Box2 WA w.heap.size sa za := hWA ▸ box2_new _ _ _ _
  obtain ⟨WB, hWB⟩ : ∃ WB, WA.alloc (.cells #[.int .i64 sb, .int .i64 zb] 26) = WB := ⟨_, rfl⟩
  have nWB : Below WA.heap.size WA WB := hWB ▸ (Below.refl _ _).alloc (Nat.le_refl _) _
  have mWB : Box2 WB WA.heap.size sb zb := hWB ▸ box2_new _ _ _ _
  have BL : Hid (Below w.heap.size w WB) := hide ((nWA).trans (nWB.mono (nWA).size))
  have KA := hide ((mWA).below nWB)
  have KB := hide (mWB)
  clear nWA mWA
  clear nWB mWB
  obtain ⟨-, cA0, cA1⟩ := KA.out
  obtain ⟨-, cB0, cB1⟩ := KB.out
  go_enter Try.func21, Try.ntmps21
  go_wp2_with fail
  refine (gScaleS sa za true G1.out _).mono ?_
  rintro e1 w1 ⟨rfl, q1⟩
  replace KA := hide (KA.out.below q1)
  clear cA0 cA1
  obtain ⟨-, cA0, cA1⟩ := KA.out
  replace KB := hide (KB.out.below q1)
  clear cB0 cB1
  obtain ⟨-, cB0, cB1⟩ := KB.out
  replace BL := hide (BL.out.trans (q1.mono BL.out.size))
  clear q1
  go_wp2_with fail
  refine (gScaleS sb zb true G2.out _).mono ?_
  rintro e1 w2 ⟨rfl, q2⟩
  replace KA := hide (KA.out.below q2)
  clear cA0 cA1
  obtain ⟨-, cA0, cA1⟩ := KA.out
  replace KB := hide (KB.out.below q2)
  clear cB0 cB1
  obtain ⟨-, cB0, cB1⟩ := KB.out
  replace BL := hide (BL.out.trans (q2.mono BL.out.size))
  clear q2
  go_wp2_with fail
  refine (cast_bool G3.out (bytesS w.heap.size a r cap P _ BL.out.size (HP.out.below BL.out) hr)).mono ?_
  rintro e1 w3 ⟨rfl, q3⟩
  replace KA := hide (KA.out.below q3)
  clear cA0 cA1
  obtain ⟨-, cA0, cA1⟩ := KA.out
  replace KB := hide (KB.out.below q3)
  clear cB0 cB1
  obtain ⟨-, cB0, cB1⟩ := KB.out
  replace BL := hide (BL.out.trans (q3.mono BL.out.size))
  clear q3
  go_wp2_with fail
  refine (cast_bool G4.out (bytesS w.heap.size b r dap Q _ BL.out.size (HQ.out.below BL.out) hr)).mono ?_
  rintro e1 w4 ⟨rfl, q4⟩
  replace KA := hide (KA.out.below q4)
  clear cA0 cA1
  obtain ⟨-, cA0, cA1⟩ := KA.out
  replace KB := hide (KB.out.below q4)
  clear cB0 cB1
  obtain ⟨-, cB0, cB1⟩ := KB.out
  replace BL := hide (BL.out.trans (q4.mono BL.out.size))
  clear q4
  go_wp2_with fail
  go_ret
  exact ⟨rfl, BL.out⟩
set_option maxHeartbeats 1000000 in
theorem sDotR_yes (sa za sb zb : Int) (a : Option Addr) (r cap : Nat) (P : Nat → Int) (b : Option Addr) (dap : Nat) (Q : Nat → Int) (w : World) (hsa : bd sa) (hza : bd za) (hsb : bd sb) (hzb : bd zb) (hp : Ints w.heap.size w a r P) (hq : Ints w.heap.size w b r Q) (hr : (r : Int) ≤ 1048576) (a0 : 0 ≤ za) (a1 : za ≤ 255) (b0 : 0 ≤ zb) (b1 : zb ≤ 255) (r4 : (r : Int) ≤ 4096) (hall : ∀ j, j < r → (0 ≤ P j ∧ P j ≤ 255) ∧ (0 ≤ Q j ∧ Q j ≤ 255)) (g1 : scOk sa za = true) (g2 : scOk sb zb = true) (g3 : bys r P = true) (g4 : bys r Q = true) :
    Calls Try.prog 21 #[.agg #[.int .i64 sa, .int .i64 za], .agg #[.int .i64 sb, .int .i64 zb], .slice a r cap, .slice b r dap] w fun e w' => e = .returned (.int .i64 (dsum za zb P Q r)) ∧ Below w.heap.size w w' := by
  have Hsa := hide hsa
  have Hza := hide hza
  have Hsb := hide hsb
  have Hzb := hide hzb
  have HP := hide hp
  have HQ := hide hq
  clear hsa hza hsb hzb hp hq
  have G1 := hide g1
  have G2 := hide g2
  have G3 := hide g3
  have G4 := hide g4
  clear g1 g2 g3 g4
  obtain ⟨WA, hWA⟩ : ∃ WA, w.alloc (.cells #[.int .i64 sa, .int .i64 za] 26) = WA := ⟨_, rfl⟩
  have nWA : Below w.heap.size w WA := hWA ▸ (Below.refl _ _).alloc (Nat.le_refl _) _
  have mWA : Box2 WA w.heap.size sa za := hWA ▸ box2_new _ _ _ _
  obtain ⟨WB, hWB⟩ : ∃ WB, WA.alloc (.cells #[.int .i64 sb, .int .i64 zb] 26) = WB := ⟨_, rfl⟩
  have nWB : Below WA.heap.size WA WB := hWB ▸ (Below.refl _ _).alloc (Nat.le_refl _) _
  have mWB : Box2 WB WA.heap.size sb zb := hWB ▸ box2_new _ _ _ _
  have BL : Hid (Below w.heap.size w WB) := hide ((nWA).trans (nWB.mono (nWA).size))
  have KA := hide ((mWA).below nWB)
  have KB := hide (mWB)
  clear nWA mWA
  clear nWB mWB
  obtain ⟨-, cA0, cA1⟩ := KA.out
  obtain ⟨-, cB0, cB1⟩ := KB.out
  go_enter Try.func21, Try.ntmps21
  go_wp2_with fail
  refine (gScaleS sa za true G1.out _).mono ?_
  rintro e1 w1 ⟨rfl, q1⟩
  replace KA := hide (KA.out.below q1)
  clear cA0 cA1
  obtain ⟨-, cA0, cA1⟩ := KA.out
  replace KB := hide (KB.out.below q1)
  clear cB0 cB1
  obtain ⟨-, cB0, cB1⟩ := KB.out
  replace BL := hide (BL.out.trans (q1.mono BL.out.size))
  clear q1
  go_wp2_with fail
  refine (gScaleS sb zb true G2.out _).mono ?_
  rintro e1 w2 ⟨rfl, q2⟩
  replace KA := hide (KA.out.below q2)
  clear cA0 cA1
  obtain ⟨-, cA0, cA1⟩ := KA.out
  replace KB := hide (KB.out.below q2)
  clear cB0 cB1
  obtain ⟨-, cB0, cB1⟩ := KB.out
  replace BL := hide (BL.out.trans (q2.mono BL.out.size))
  clear q2
  go_wp2_with fail
  refine (cast_bool G3.out (bytesS w.heap.size a r cap P _ BL.out.size (HP.out.below BL.out) hr)).mono ?_
  rintro e1 w3 ⟨rfl, q3⟩
  replace KA := hide (KA.out.below q3)
  clear cA0 cA1
  obtain ⟨-, cA0, cA1⟩ := KA.out
  replace KB := hide (KB.out.below q3)
  clear cB0 cB1
  obtain ⟨-, cB0, cB1⟩ := KB.out
  replace BL := hide (BL.out.trans (q3.mono BL.out.size))
  clear q3
  go_wp2_with fail
  refine (cast_bool G4.out (bytesS w.heap.size b r dap Q _ BL.out.size (HQ.out.below BL.out) hr)).mono ?_
  rintro e1 w4 ⟨rfl, q4⟩
  replace KA := hide (KA.out.below q4)
  clear cA0 cA1
  obtain ⟨-, cA0, cA1⟩ := KA.out
  replace KB := hide (KB.out.below q4)
  clear cB0 cB1
  obtain ⟨-, cB0, cB1⟩ := KB.out
  replace BL := hide (BL.out.trans (q4.mono BL.out.size))
  clear q4
  have HL := hide hall
  clear hall
  clear cA0 cA1 cB0 cB1
  have BW := BL
  clear BL
  go_wp2_with fail
  go_loopw [9, 10] (fun m i wx => ∃ k : Nat, k ≤ r ∧ i = .int .i64 k ∧ m = .int .i64 (dsum za zb P Q k) ∧ Below w4.heap.size w4 wx) (fun _ i _ => r - (intOf i).toNat)
  case atStart => exact ⟨0, Nat.zero_le _, rfl, rfl, Below.refl _ _⟩
  case round =>
    obtain ⟨k, hk, rfl, rfl, hb⟩ := hrel
    have HB := hide hb
    by_cases hlt : k < r
    · have kI : (k : Int) < (r : Int) := by omega
      obtain hz | ⟨bp, fp, rfl, -, hcp⟩ := (HP.out.below BW.out).below (hb.mono BW.out.size)
      · omega
      obtain hz | ⟨bq, fq, rfl, -, hcq⟩ := (HQ.out.below BW.out).below (hb.mono BW.out.size)
      · omega
      have c1 := cell_regrown (hcp k hlt).1
      have c2 := cell_regrown (hcq k (by omega)).1
      obtain ⟨-, -, y1⟩ := KA.out.below hb
      obtain ⟨-, -, y2⟩ := KB.out.below hb
      replace y1 := cell_regrown y1
      replace y2 := cell_regrown y2
      obtain ⟨⟨p0, p1⟩, q0, q1⟩ := HL.out k hlt
      obtain ⟨e0, e1⟩ := mul_b (x := P k - za) (y := Q k - zb) (by omega) (by omega) (by omega) (by omega)
      obtain ⟨d0, d1⟩ := dsum_bd a0 a1 b0 b1 k (fun j hj => HL.out j (by omega))
      have E1 : Hid (dsum za zb P Q (k + 1) = dsum za zb P Q k + (P k - za) * (Q k - zb)) := hide rfl
      obtain ⟨m, hm⟩ : ∃ m, dsum za zb P Q k = m := ⟨_, rfl⟩
      rw [hm] at E1 d0 d1 ⊢
      clear hm hcp hcq hb
      go_wp2_with fail
      refine wp_region_quiet_below (by kernel_rfl) (by kernel_rfl) ?_
      repeat (go_big_quiet_step (fail))
      refine wpQuiet_nil ?_
      intro _ hw'
      obtain ⟨⟨dq, osq⟩, hw''⟩ := hw'
      subst hw''
      have H3 := hide (HB.out.trans ((below_regrown wr dq osq).mono HB.out.size))
      clear c1 c2 y1 y2
      go_wp2_with fail
      go_roundw
      case rel => exact ⟨k + 1, by omega, by go_num, by rw [E1.out], H3.out⟩
      case measure => simp [intOf]; omega
    · obtain rfl : k = r := by omega
      have lk : decide ((k : Int) < (k : Int)) = false := decide_eq_false (by omega)
      clear hb
      go_wp2_with fail
      go_ret
      exact ⟨rfl, BW.out.trans (HB.out.mono BW.out.size)⟩
set_option maxHeartbeats 1000000 in
theorem iDotR_no1 (sa za sb zb : Int) (a : Option Addr) (r cap : Nat) (P : Nat → Int) (b : Option Addr) (dap : Nat) (Q : Nat → Int) (w : World) (hsa : bd sa) (hza : bd za) (hsb : bd sb) (hzb : bd zb) (hp : Ints w.heap.size w a r P) (hq : Ints w.heap.size w b r Q) (hr : (r : Int) ≤ 1048576) (g1 : scOk sa za = false) :
    Calls Try.prog 28 #[.agg #[.int .i64 sa, .int .i64 za], .agg #[.int .i64 sb, .int .i64 zb], .slice a r cap, .slice b r dap] w fun e w' => e = .returned (.int .i64 0) ∧ Below w.heap.size w w' := by
  have Hsa := hide hsa
  have Hza := hide hza
  have Hsb := hide hsb
  have Hzb := hide hzb
  have HP := hide hp
  have HQ := hide hq
  clear hsa hza hsb hzb hp hq
  have G1 := hide g1
  clear g1
  obtain ⟨WA, hWA⟩ : ∃ WA, w.alloc (.cells #[.int .i64 sa, .int .i64 za] 26) = WA := ⟨_, rfl⟩
  have nWA : Below w.heap.size w WA := hWA ▸ (Below.refl _ _).alloc (Nat.le_refl _) _
  have mWA : Box2 WA w.heap.size sa za := hWA ▸ box2_new _ _ _ _
  obtain ⟨WB, hWB⟩ : ∃ WB, WA.alloc (.cells #[.int .i64 sb, .int .i64 zb] 26) = WB := ⟨_, rfl⟩
  have nWB : Below WA.heap.size WA WB := hWB ▸ (Below.refl _ _).alloc (Nat.le_refl _) _
  have mWB : Box2 WB WA.heap.size sb zb := hWB ▸ box2_new _ _ _ _
  have BL : Hid (Below w.heap.size w WB) := hide ((nWA).trans (nWB.mono (nWA).size))
  have KA := hide ((mWA).below nWB)
  have KB := hide (mWB)
  clear nWA mWA
  clear nWB mWB
  obtain ⟨-, cA0, cA1⟩ := KA.out
  obtain ⟨-, cB0, cB1⟩ := KB.out
  go_enter Try.func28, Try.ntmps28
  go_wp2_with fail
  refine (gScaleI sa za false Hsa.out Hza.out G1.out _).mono ?_
  rintro e1 w1 ⟨rfl, q1⟩
  replace KA := hide (KA.out.below q1)
  clear cA0 cA1
  obtain ⟨-, cA0, cA1⟩ := KA.out
  replace KB := hide (KB.out.below q1)
  clear cB0 cB1
  obtain ⟨-, cB0, cB1⟩ := KB.out
  replace BL := hide (BL.out.trans (q1.mono BL.out.size))
  clear q1
  go_wp2_with fail
  go_ret
  exact ⟨rfl, BL.out⟩
set_option maxHeartbeats 1000000 in
theorem iDotR_no2 (sa za sb zb : Int) (a : Option Addr) (r cap : Nat) (P : Nat → Int) (b : Option Addr) (dap : Nat) (Q : Nat → Int) (w : World) (hsa : bd sa) (hza : bd za) (hsb : bd sb) (hzb : bd zb) (hp : Ints w.heap.size w a r P) (hq : Ints w.heap.size w b r Q) (hr : (r : Int) ≤ 1048576) (g1 : scOk sa za = true) (g2 : scOk sb zb = false) :
    Calls Try.prog 28 #[.agg #[.int .i64 sa, .int .i64 za], .agg #[.int .i64 sb, .int .i64 zb], .slice a r cap, .slice b r dap] w fun e w' => e = .returned (.int .i64 0) ∧ Below w.heap.size w w' := by
  have Hsa := hide hsa
  have Hza := hide hza
  have Hsb := hide hsb
  have Hzb := hide hzb
  have HP := hide hp
  have HQ := hide hq
  clear hsa hza hsb hzb hp hq
  have G1 := hide g1
  have G2 := hide g2
  clear g1 g2
  obtain ⟨WA, hWA⟩ : ∃ WA, w.alloc (.cells #[.int .i64 sa, .int .i64 za] 26) = WA := ⟨_, rfl⟩
  have nWA : Below w.heap.size w WA := hWA ▸ (Below.refl _ _).alloc (Nat.le_refl _) _
  have mWA : Box2 WA w.heap.size sa za := hWA ▸ box2_new _ _ _ _
  obtain ⟨WB, hWB⟩ : ∃ WB, WA.alloc (.cells #[.int .i64 sb, .int .i64 zb] 26) = WB := ⟨_, rfl⟩
  have nWB : Below WA.heap.size WA WB := hWB ▸ (Below.refl _ _).alloc (Nat.le_refl _) _
  have mWB : Box2 WB WA.heap.size sb zb := hWB ▸ box2_new _ _ _ _
  have BL : Hid (Below w.heap.size w WB) := hide ((nWA).trans (nWB.mono (nWA).size))
  have KA := hide ((mWA).below nWB)
  have KB := hide (mWB)
  clear nWA mWA
  clear nWB mWB
  obtain ⟨-, cA0, cA1⟩ := KA.out
  obtain ⟨-, cB0, cB1⟩ := KB.out
  go_enter Try.func28, Try.ntmps28
  go_wp2_with fail
  refine (gScaleI sa za true Hsa.out Hza.out G1.out _).mono ?_
  rintro e1 w1 ⟨rfl, q1⟩
  replace KA := hide (KA.out.below q1)
  clear cA0 cA1
  obtain ⟨-, cA0, cA1⟩ := KA.out
  replace KB := hide (KB.out.below q1)
  clear cB0 cB1
  obtain ⟨-, cB0, cB1⟩ := KB.out
  replace BL := hide (BL.out.trans (q1.mono BL.out.size))
  clear q1
  go_wp2_with fail
  refine (gScaleI sb zb false Hsb.out Hzb.out G2.out _).mono ?_
  rintro e1 w2 ⟨rfl, q2⟩
  replace KA := hide (KA.out.below q2)
  clear cA0 cA1
  obtain ⟨-, cA0, cA1⟩ := KA.out
  replace KB := hide (KB.out.below q2)
  clear cB0 cB1
  obtain ⟨-, cB0, cB1⟩ := KB.out
  replace BL := hide (BL.out.trans (q2.mono BL.out.size))
  clear q2
  go_wp2_with fail
  go_ret
  exact ⟨rfl, BL.out⟩
set_option maxHeartbeats 1000000 in
theorem iDotR_no3 (sa za sb zb : Int) (a : Option Addr) (r cap : Nat) (P : Nat → Int) (b : Option Addr) (dap : Nat) (Q : Nat → Int) (w : World) (hsa : bd sa) (hza : bd za) (hsb : bd sb) (hzb : bd zb) (hp : Ints w.heap.size w a r P) (hq : Ints w.heap.size w b r Q) (hr : (r : Int) ≤ 1048576) (g1 : scOk sa za = true) (g2 : scOk sb zb = true) (g3 : decide ((r : Int) ≤ 4096) = false) :
    Calls Try.prog 28 #[.agg #[.int .i64 sa, .int .i64 za], .agg #[.int .i64 sb, .int .i64 zb], .slice a r cap, .slice b r dap] w fun e w' => e = .returned (.int .i64 0) ∧ Below w.heap.size w w' := by
  have Hsa := hide hsa
  have Hza := hide hza
  have Hsb := hide hsb
  have Hzb := hide hzb
  have HP := hide hp
  have HQ := hide hq
  clear hsa hza hsb hzb hp hq
  have f4 : decide (4096 < (r : Int)) = true := decide_eq_true (by have := of_decide_eq_false g3; omega)
  have G1 := hide g1
  have G2 := hide g2
  have G3 := hide g3
  clear g1 g2 g3
  obtain ⟨WA, hWA⟩ : ∃ WA, w.alloc (.cells #[.int .i64 sa, .int .i64 za] 26) = WA := ⟨_, rfl⟩
  have nWA : Below w.heap.size w WA := hWA ▸ (Below.refl _ _).alloc (Nat.le_refl _) _
  have mWA : Box2 WA w.heap.size sa za := hWA ▸ box2_new _ _ _ _
  obtain ⟨WB, hWB⟩ : ∃ WB, WA.alloc (.cells #[.int .i64 sb, .int .i64 zb] 26) = WB := ⟨_, rfl⟩
  have nWB : Below WA.heap.size WA WB := hWB ▸ (Below.refl _ _).alloc (Nat.le_refl _) _
  have mWB : Box2 WB WA.heap.size sb zb := hWB ▸ box2_new _ _ _ _
  have BL : Hid (Below w.heap.size w WB) := hide ((nWA).trans (nWB.mono (nWA).size))
  have KA := hide ((mWA).below nWB)
  have KB := hide (mWB)
  clear nWA mWA
  clear nWB mWB
  obtain ⟨-, cA0, cA1⟩ := KA.out
  obtain ⟨-, cB0, cB1⟩ := KB.out
  go_enter Try.func28, Try.ntmps28
  go_wp2_with fail
  refine (gScaleI sa za true Hsa.out Hza.out G1.out _).mono ?_
  rintro e1 w1 ⟨rfl, q1⟩
  replace KA := hide (KA.out.below q1)
  clear cA0 cA1
  obtain ⟨-, cA0, cA1⟩ := KA.out
  replace KB := hide (KB.out.below q1)
  clear cB0 cB1
  obtain ⟨-, cB0, cB1⟩ := KB.out
  replace BL := hide (BL.out.trans (q1.mono BL.out.size))
  clear q1
  go_wp2_with fail
  refine (gScaleI sb zb true Hsb.out Hzb.out G2.out _).mono ?_
  rintro e1 w2 ⟨rfl, q2⟩
  replace KA := hide (KA.out.below q2)
  clear cA0 cA1
  obtain ⟨-, cA0, cA1⟩ := KA.out
  replace KB := hide (KB.out.below q2)
  clear cB0 cB1
  obtain ⟨-, cB0, cB1⟩ := KB.out
  replace BL := hide (BL.out.trans (q2.mono BL.out.size))
  clear q2
  go_wp2_with fail
  go_ret
  exact ⟨rfl, BL.out⟩
set_option maxHeartbeats 1000000 in
theorem iDotR_no4 (sa za sb zb : Int) (a : Option Addr) (r cap : Nat) (P : Nat → Int) (b : Option Addr) (dap : Nat) (Q : Nat → Int) (w : World) (hsa : bd sa) (hza : bd za) (hsb : bd sb) (hzb : bd zb) (hp : Ints w.heap.size w a r P) (hq : Ints w.heap.size w b r Q) (hr : (r : Int) ≤ 1048576) (g1 : scOk sa za = true) (g2 : scOk sb zb = true) (g3 : decide ((r : Int) ≤ 4096) = true) (g4 : ib 0 255 r P = false) :
    Calls Try.prog 28 #[.agg #[.int .i64 sa, .int .i64 za], .agg #[.int .i64 sb, .int .i64 zb], .slice a r cap, .slice b r dap] w fun e w' => e = .returned (.int .i64 0) ∧ Below w.heap.size w w' := by
  have Hsa := hide hsa
  have Hza := hide hza
  have Hsb := hide hsb
  have Hzb := hide hzb
  have HP := hide hp
  have HQ := hide hq
  clear hsa hza hsb hzb hp hq
  have f4 : decide (4096 < (r : Int)) = false := decide_eq_false (by have := of_decide_eq_true g3; omega)
  have G1 := hide g1
  have G2 := hide g2
  have G3 := hide g3
  have G4 := hide g4
  clear g1 g2 g3 g4
  obtain ⟨WA, hWA⟩ : ∃ WA, w.alloc (.cells #[.int .i64 sa, .int .i64 za] 26) = WA := ⟨_, rfl⟩
  have nWA : Below w.heap.size w WA := hWA ▸ (Below.refl _ _).alloc (Nat.le_refl _) _
  have mWA : Box2 WA w.heap.size sa za := hWA ▸ box2_new _ _ _ _
  obtain ⟨WB, hWB⟩ : ∃ WB, WA.alloc (.cells #[.int .i64 sb, .int .i64 zb] 26) = WB := ⟨_, rfl⟩
  have nWB : Below WA.heap.size WA WB := hWB ▸ (Below.refl _ _).alloc (Nat.le_refl _) _
  have mWB : Box2 WB WA.heap.size sb zb := hWB ▸ box2_new _ _ _ _
  have BL : Hid (Below w.heap.size w WB) := hide ((nWA).trans (nWB.mono (nWA).size))
  have KA := hide ((mWA).below nWB)
  have KB := hide (mWB)
  clear nWA mWA
  clear nWB mWB
  obtain ⟨-, cA0, cA1⟩ := KA.out
  obtain ⟨-, cB0, cB1⟩ := KB.out
  go_enter Try.func28, Try.ntmps28
  go_wp2_with fail
  refine (gScaleI sa za true Hsa.out Hza.out G1.out _).mono ?_
  rintro e1 w1 ⟨rfl, q1⟩
  replace KA := hide (KA.out.below q1)
  clear cA0 cA1
  obtain ⟨-, cA0, cA1⟩ := KA.out
  replace KB := hide (KB.out.below q1)
  clear cB0 cB1
  obtain ⟨-, cB0, cB1⟩ := KB.out
  replace BL := hide (BL.out.trans (q1.mono BL.out.size))
  clear q1
  go_wp2_with fail
  refine (gScaleI sb zb true Hsb.out Hzb.out G2.out _).mono ?_
  rintro e1 w2 ⟨rfl, q2⟩
  replace KA := hide (KA.out.below q2)
  clear cA0 cA1
  obtain ⟨-, cA0, cA1⟩ := KA.out
  replace KB := hide (KB.out.below q2)
  clear cB0 cB1
  obtain ⟨-, cB0, cB1⟩ := KB.out
  replace BL := hide (BL.out.trans (q2.mono BL.out.size))
  clear q2
  go_wp2_with fail
  refine (cast_bool G4.out (areBytesF w.heap.size a r cap P _ BL.out.size (HP.out.below BL.out) hr)).mono ?_
  rintro e1 w4 ⟨rfl, q4⟩
  replace KA := hide (KA.out.below q4)
  clear cA0 cA1
  obtain ⟨-, cA0, cA1⟩ := KA.out
  replace KB := hide (KB.out.below q4)
  clear cB0 cB1
  obtain ⟨-, cB0, cB1⟩ := KB.out
  replace BL := hide (BL.out.trans (q4.mono BL.out.size))
  clear q4
  go_wp2_with fail
  go_ret
  exact ⟨rfl, BL.out⟩
set_option maxHeartbeats 1000000 in
theorem iDotR_no5 (sa za sb zb : Int) (a : Option Addr) (r cap : Nat) (P : Nat → Int) (b : Option Addr) (dap : Nat) (Q : Nat → Int) (w : World) (hsa : bd sa) (hza : bd za) (hsb : bd sb) (hzb : bd zb) (hp : Ints w.heap.size w a r P) (hq : Ints w.heap.size w b r Q) (hr : (r : Int) ≤ 1048576) (g1 : scOk sa za = true) (g2 : scOk sb zb = true) (g3 : decide ((r : Int) ≤ 4096) = true) (g4 : ib 0 255 r P = true) (g5 : ib 0 255 r Q = false) :
    Calls Try.prog 28 #[.agg #[.int .i64 sa, .int .i64 za], .agg #[.int .i64 sb, .int .i64 zb], .slice a r cap, .slice b r dap] w fun e w' => e = .returned (.int .i64 0) ∧ Below w.heap.size w w' := by
  have Hsa := hide hsa
  have Hza := hide hza
  have Hsb := hide hsb
  have Hzb := hide hzb
  have HP := hide hp
  have HQ := hide hq
  clear hsa hza hsb hzb hp hq
  have f4 : decide (4096 < (r : Int)) = false := decide_eq_false (by have := of_decide_eq_true g3; omega)
  have G1 := hide g1
  have G2 := hide g2
  have G3 := hide g3
  have G4 := hide g4
  have G5 := hide g5
  clear g1 g2 g3 g4 g5
  obtain ⟨WA, hWA⟩ : ∃ WA, w.alloc (.cells #[.int .i64 sa, .int .i64 za] 26) = WA := ⟨_, rfl⟩
  have nWA : Below w.heap.size w WA := hWA ▸ (Below.refl _ _).alloc (Nat.le_refl _) _
  have mWA : Box2 WA w.heap.size sa za := hWA ▸ box2_new _ _ _ _
  obtain ⟨WB, hWB⟩ : ∃ WB, WA.alloc (.cells #[.int .i64 sb, .int .i64 zb] 26) = WB := ⟨_, rfl⟩
  have nWB : Below WA.heap.size WA WB := hWB ▸ (Below.refl _ _).alloc (Nat.le_refl _) _
  have mWB : Box2 WB WA.heap.size sb zb := hWB ▸ box2_new _ _ _ _
  have BL : Hid (Below w.heap.size w WB) := hide ((nWA).trans (nWB.mono (nWA).size))
  have KA := hide ((mWA).below nWB)
  have KB := hide (mWB)
  clear nWA mWA
  clear nWB mWB
  obtain ⟨-, cA0, cA1⟩ := KA.out
  obtain ⟨-, cB0, cB1⟩ := KB.out
  go_enter Try.func28, Try.ntmps28
  go_wp2_with fail
  refine (gScaleI sa za true Hsa.out Hza.out G1.out _).mono ?_
  rintro e1 w1 ⟨rfl, q1⟩
  replace KA := hide (KA.out.below q1)
  clear cA0 cA1
  obtain ⟨-, cA0, cA1⟩ := KA.out
  replace KB := hide (KB.out.below q1)
  clear cB0 cB1
  obtain ⟨-, cB0, cB1⟩ := KB.out
  replace BL := hide (BL.out.trans (q1.mono BL.out.size))
  clear q1
  go_wp2_with fail
  refine (gScaleI sb zb true Hsb.out Hzb.out G2.out _).mono ?_
  rintro e1 w2 ⟨rfl, q2⟩
  replace KA := hide (KA.out.below q2)
  clear cA0 cA1
  obtain ⟨-, cA0, cA1⟩ := KA.out
  replace KB := hide (KB.out.below q2)
  clear cB0 cB1
  obtain ⟨-, cB0, cB1⟩ := KB.out
  replace BL := hide (BL.out.trans (q2.mono BL.out.size))
  clear q2
  go_wp2_with fail
  refine (cast_bool G4.out (areBytesF w.heap.size a r cap P _ BL.out.size (HP.out.below BL.out) hr)).mono ?_
  rintro e1 w4 ⟨rfl, q4⟩
  replace KA := hide (KA.out.below q4)
  clear cA0 cA1
  obtain ⟨-, cA0, cA1⟩ := KA.out
  replace KB := hide (KB.out.below q4)
  clear cB0 cB1
  obtain ⟨-, cB0, cB1⟩ := KB.out
  replace BL := hide (BL.out.trans (q4.mono BL.out.size))
  clear q4
  go_wp2_with fail
  refine (cast_bool G5.out (areBytesF w.heap.size b r dap Q _ BL.out.size (HQ.out.below BL.out) hr)).mono ?_
  rintro e1 w5 ⟨rfl, q5⟩
  replace KA := hide (KA.out.below q5)
  clear cA0 cA1
  obtain ⟨-, cA0, cA1⟩ := KA.out
  replace KB := hide (KB.out.below q5)
  clear cB0 cB1
  obtain ⟨-, cB0, cB1⟩ := KB.out
  replace BL := hide (BL.out.trans (q5.mono BL.out.size))
  clear q5
  go_wp2_with fail
  go_ret
  exact ⟨rfl, BL.out⟩
set_option maxHeartbeats 1000000 in
theorem iDotR_yes (sa za sb zb : Int) (a : Option Addr) (r cap : Nat) (P : Nat → Int) (b : Option Addr) (dap : Nat) (Q : Nat → Int) (w : World) (hsa : bd sa) (hza : bd za) (hsb : bd sb) (hzb : bd zb) (hp : Ints w.heap.size w a r P) (hq : Ints w.heap.size w b r Q) (hr : (r : Int) ≤ 1048576) (a0 : 0 ≤ za) (a1 : za ≤ 255) (b0 : 0 ≤ zb) (b1 : zb ≤ 255) (r4 : (r : Int) ≤ 4096) (hall : ∀ j, j < r → (0 ≤ P j ∧ P j ≤ 255) ∧ (0 ≤ Q j ∧ Q j ≤ 255)) (g1 : scOk sa za = true) (g2 : scOk sb zb = true) (g3 : decide ((r : Int) ≤ 4096) = true) (g4 : ib 0 255 r P = true) (g5 : ib 0 255 r Q = true) :
    Calls Try.prog 28 #[.agg #[.int .i64 sa, .int .i64 za], .agg #[.int .i64 sb, .int .i64 zb], .slice a r cap, .slice b r dap] w fun e w' => e = .returned (.int .i64 (dsum za zb P Q r)) ∧ Below w.heap.size w w' := by
  have Hsa := hide hsa
  have Hza := hide hza
  have Hsb := hide hsb
  have Hzb := hide hzb
  have HP := hide hp
  have HQ := hide hq
  clear hsa hza hsb hzb hp hq
  have f4 : decide (4096 < (r : Int)) = false := decide_eq_false (by have := of_decide_eq_true g3; omega)
  have G1 := hide g1
  have G2 := hide g2
  have G3 := hide g3
  have G4 := hide g4
  have G5 := hide g5
  clear g1 g2 g3 g4 g5
  obtain ⟨WA, hWA⟩ : ∃ WA, w.alloc (.cells #[.int .i64 sa, .int .i64 za] 26) = WA := ⟨_, rfl⟩
  have nWA : Below w.heap.size w WA := hWA ▸ (Below.refl _ _).alloc (Nat.le_refl _) _
  have mWA : Box2 WA w.heap.size sa za := hWA ▸ box2_new _ _ _ _
  obtain ⟨WB, hWB⟩ : ∃ WB, WA.alloc (.cells #[.int .i64 sb, .int .i64 zb] 26) = WB := ⟨_, rfl⟩
  have nWB : Below WA.heap.size WA WB := hWB ▸ (Below.refl _ _).alloc (Nat.le_refl _) _
  have mWB : Box2 WB WA.heap.size sb zb := hWB ▸ box2_new _ _ _ _
  have BL : Hid (Below w.heap.size w WB) := hide ((nWA).trans (nWB.mono (nWA).size))
  have KA := hide ((mWA).below nWB)
  have KB := hide (mWB)
  clear nWA mWA
  clear nWB mWB
  obtain ⟨-, cA0, cA1⟩ := KA.out
  obtain ⟨-, cB0, cB1⟩ := KB.out
  go_enter Try.func28, Try.ntmps28
  go_wp2_with fail
  refine (gScaleI sa za true Hsa.out Hza.out G1.out _).mono ?_
  rintro e1 w1 ⟨rfl, q1⟩
  replace KA := hide (KA.out.below q1)
  clear cA0 cA1
  obtain ⟨-, cA0, cA1⟩ := KA.out
  replace KB := hide (KB.out.below q1)
  clear cB0 cB1
  obtain ⟨-, cB0, cB1⟩ := KB.out
  replace BL := hide (BL.out.trans (q1.mono BL.out.size))
  clear q1
  go_wp2_with fail
  refine (gScaleI sb zb true Hsb.out Hzb.out G2.out _).mono ?_
  rintro e1 w2 ⟨rfl, q2⟩
  replace KA := hide (KA.out.below q2)
  clear cA0 cA1
  obtain ⟨-, cA0, cA1⟩ := KA.out
  replace KB := hide (KB.out.below q2)
  clear cB0 cB1
  obtain ⟨-, cB0, cB1⟩ := KB.out
  replace BL := hide (BL.out.trans (q2.mono BL.out.size))
  clear q2
  go_wp2_with fail
  refine (cast_bool G4.out (areBytesF w.heap.size a r cap P _ BL.out.size (HP.out.below BL.out) hr)).mono ?_
  rintro e1 w4 ⟨rfl, q4⟩
  replace KA := hide (KA.out.below q4)
  clear cA0 cA1
  obtain ⟨-, cA0, cA1⟩ := KA.out
  replace KB := hide (KB.out.below q4)
  clear cB0 cB1
  obtain ⟨-, cB0, cB1⟩ := KB.out
  replace BL := hide (BL.out.trans (q4.mono BL.out.size))
  clear q4
  go_wp2_with fail
  refine (cast_bool G5.out (areBytesF w.heap.size b r dap Q _ BL.out.size (HQ.out.below BL.out) hr)).mono ?_
  rintro e1 w5 ⟨rfl, q5⟩
  replace KA := hide (KA.out.below q5)
  clear cA0 cA1
  obtain ⟨-, cA0, cA1⟩ := KA.out
  replace KB := hide (KB.out.below q5)
  clear cB0 cB1
  obtain ⟨-, cB0, cB1⟩ := KB.out
  replace BL := hide (BL.out.trans (q5.mono BL.out.size))
  clear q5
  have HL := hide hall
  clear hall
  clear cA0 cA1 cB0 cB1
  have BW := BL
  clear BL
  go_wp2_with fail
  go_loopw [9, 44] (fun m i wx => ∃ k : Nat, k ≤ r ∧ i = .int .i64 k ∧ m = .int .i64 (dsum za zb P Q k) ∧ Below w5.heap.size w5 wx) (fun _ i _ => r - (intOf i).toNat)
  case atStart => exact ⟨0, Nat.zero_le _, rfl, rfl, Below.refl _ _⟩
  case round =>
    obtain ⟨k, hk, rfl, rfl, hb⟩ := hrel
    have HB := hide hb
    by_cases hlt : k < r
    · have kI : (k : Int) < (r : Int) := by omega
      obtain hz | ⟨bp, fp, rfl, -, hcp⟩ := (HP.out.below BW.out).below (hb.mono BW.out.size)
      · omega
      obtain hz | ⟨bq, fq, rfl, -, hcq⟩ := (HQ.out.below BW.out).below (hb.mono BW.out.size)
      · omega
      have c1 := (hcp k hlt).1
      have c2 := cell_regrown (hcq k (by omega)).1
      obtain ⟨-, -, y1⟩ := KA.out.below hb
      obtain ⟨-, -, y2⟩ := KB.out.below hb
      replace y1 := cell_regrown y1
      replace y2 := cell_regrown y2
      obtain ⟨⟨p0, p1⟩, q0, q1⟩ := HL.out k hlt
      obtain ⟨e0, e1⟩ := mul_b (x := P k - za) (y := Q k - zb) (by omega) (by omega) (by omega) (by omega)
      obtain ⟨d0, d1⟩ := dsum_bd a0 a1 b0 b1 k (fun j hj => HL.out j (by omega))
      have E1 : Hid (dsum za zb P Q (k + 1) = dsum za zb P Q k + (P k - za) * (Q k - zb)) := hide rfl
      obtain ⟨m, hm⟩ : ∃ m, dsum za zb P Q k = m := ⟨_, rfl⟩
      rw [hm] at E1 d0 d1 ⊢
      clear hm hcp hcq hb
      go_wp2_with fail
      refine wp_region_quiet_below (by kernel_rfl) (by kernel_rfl) ?_
      repeat (go_big_quiet_step (fail))
      refine wpQuiet_nil ?_
      intro _ hw'
      obtain ⟨⟨dq, osq⟩, hw''⟩ := hw'
      subst hw''
      have H3 := hide (HB.out.trans ((below_regrown wr dq osq).mono HB.out.size))
      clear c1 c2 y1 y2
      go_wp2_with fail
      go_roundw
      case rel => exact ⟨k + 1, by omega, by go_num, by rw [E1.out], H3.out⟩
      case measure => simp [intOf]; omega
    · obtain rfl : k = r := by omega
      have lk : decide ((k : Int) < (k : Int)) = false := decide_eq_false (by omega)
      clear hb
      go_wp2_with fail
      go_ret
      exact ⟨rfl, BW.out.trans (HB.out.mono BW.out.size)⟩
/-- when the product is asked in earnest -/
def dotOk (sa za sb zb : Int) (r s : Nat) (P Q : Nat → Int) : Prop := (scOk sa za = true ∧ scOk sb zb = true) ∧ r = s ∧ bys r P = true ∧ bys s Q = true
instance (sa za sb zb : Int) (r s : Nat) (P Q : Nat → Int) : Decidable (dotOk sa za sb zb r s P Q) := by unfold dotOk; infer_instance
def dotV (sa za sb zb : Int) (r s : Nat) (P Q : Nat → Int) : Int := if dotOk sa za sb zb r s P Q then dsum za zb P Q r else 0
theorem specDot (sa za sb zb : Int) (a : Option Addr) (r cap : Nat) (P : Nat → Int) (b : Option Addr) (s dap : Nat) (Q : Nat → Int) (w : World) (hsa : bd sa) (hza : bd za) (hsb : bd sb) (hzb : bd zb) (hp : Ints w.heap.size w a r P) (hq : Ints w.heap.size w b s Q) (hr : (r : Int) ≤ 1048576) (hs : (s : Int) ≤ 1048576) :
    Calls Try.prog 21 #[.agg #[.int .i64 sa, .int .i64 za], .agg #[.int .i64 sb, .int .i64 zb], .slice a r cap, .slice b s dap] w fun e w' => e = .returned (.int .i64 (dotV sa za sb zb r s P Q)) ∧ Below w.heap.size w w' := by
  cases g1 : scOk sa za
  · rw [show dotV sa za sb zb r s P Q = 0 from if_neg (fun h => absurd h.1.1 (by rw [g1]; exact Bool.false_ne_true))]
    exact sDot_no1 sa za sb zb a r cap P b s dap Q w hsa hza hsb hzb hp hq hr hs g1
  cases g2 : scOk sb zb
  · rw [show dotV sa za sb zb r s P Q = 0 from if_neg (fun h => absurd h.1.2 (by rw [g2]; exact Bool.false_ne_true))]
    exact sDot_no2 sa za sb zb a r cap P b s dap Q w hsa hza hsb hzb hp hq hr hs g1 g2
  cases g3 : decide (r = s)
  · rw [show dotV sa za sb zb r s P Q = 0 from if_neg (fun h => of_decide_eq_false g3 h.2.1)]
    exact sDot_no3 sa za sb zb a r cap P b s dap Q w hsa hza hsb hzb hp hq hr hs g1 g2 g3
  obtain rfl := of_decide_eq_true g3
  cases g4 : bys r P
  · rw [show dotV sa za sb zb r r P Q = 0 from if_neg (fun h => absurd h.2.2.1 (by rw [g4]; exact Bool.false_ne_true))]
    exact sDotR_no3 sa za sb zb a r cap P b dap Q w hsa hza hsb hzb hp hq hr g1 g2 g4
  cases g5 : bys r Q
  · rw [show dotV sa za sb zb r r P Q = 0 from if_neg (fun h => absurd h.2.2.2 (by rw [g5]; exact Bool.false_ne_true))]
    exact sDotR_no4 sa za sb zb a r cap P b dap Q w hsa hza hsb hzb hp hq hr g1 g2 g4 g5
  obtain ⟨-, a0, a1⟩ := sc_of g1
  obtain ⟨-, b0, b1⟩ := sc_of g2
  obtain ⟨h1, r4⟩ := bys_ib g4
  obtain ⟨h2, -⟩ := bys_ib g5
  rw [show dotV sa za sb zb r r P Q = dsum za zb P Q r from if_pos ⟨⟨g1, g2⟩, rfl, g4, g5⟩]
  exact sDotR_yes sa za sb zb a r cap P b dap Q w hsa hza hsb hzb hp hq hr a0 a1 b0 b1 r4 (fun j hj => ⟨h1 j hj, h2 j hj⟩) g1 g2 g4 g5
theorem implDot (sa za sb zb : Int) (a : Option Addr) (r cap : Nat) (P : Nat → Int) (b : Option Addr) (s dap : Nat) (Q : Nat → Int) (w : World) (hsa : bd sa) (hza : bd za) (hsb : bd sb) (hzb : bd zb) (hp : Ints w.heap.size w a r P) (hq : Ints w.heap.size w b s Q) (hr : (r : Int) ≤ 1048576) (hs : (s : Int) ≤ 1048576) :
    Calls Try.prog 28 #[.agg #[.int .i64 sa, .int .i64 za], .agg #[.int .i64 sb, .int .i64 zb], .slice a r cap, .slice b s dap] w fun e w' => e = .returned (.int .i64 (dotV sa za sb zb r s P Q)) ∧ Below w.heap.size w w' := by
  cases g1 : scOk sa za
  · rw [show dotV sa za sb zb r s P Q = 0 from if_neg (fun h => absurd h.1.1 (by rw [g1]; exact Bool.false_ne_true))]
    exact iDot_no1 sa za sb zb a r cap P b s dap Q w hsa hza hsb hzb hp hq hr hs g1
  cases g2 : scOk sb zb
  · rw [show dotV sa za sb zb r s P Q = 0 from if_neg (fun h => absurd h.1.2 (by rw [g2]; exact Bool.false_ne_true))]
    exact iDot_no2 sa za sb zb a r cap P b s dap Q w hsa hza hsb hzb hp hq hr hs g1 g2
  cases g3 : decide (r = s)
  · rw [show dotV sa za sb zb r s P Q = 0 from if_neg (fun h => of_decide_eq_false g3 h.2.1)]
    exact iDot_no3 sa za sb zb a r cap P b s dap Q w hsa hza hsb hzb hp hq hr hs g1 g2 g3
  obtain rfl := of_decide_eq_true g3
  cases g4 : decide ((r : Int) ≤ 4096)
  · rw [show dotV sa za sb zb r r P Q = 0 from if_neg (fun h => of_decide_eq_false g4 (bys_ib h.2.2.1).2)]
    exact iDotR_no3 sa za sb zb a r cap P b dap Q w hsa hza hsb hzb hp hq hr g1 g2 g4
  cases g5 : ib 0 255 r P
  · rw [show dotV sa za sb zb r r P Q = 0 from if_neg (fun h => absurd (decide_eq_true (bys_ib h.2.2.1).1) (by show ¬ ib 0 255 r P = true; rw [g5]; exact Bool.false_ne_true))]
    exact iDotR_no4 sa za sb zb a r cap P b dap Q w hsa hza hsb hzb hp hq hr g1 g2 g4 g5
  cases g6 : ib 0 255 r Q
  · rw [show dotV sa za sb zb r r P Q = 0 from if_neg (fun h => absurd (decide_eq_true (bys_ib h.2.2.2).1) (by show ¬ ib 0 255 r Q = true; rw [g6]; exact Bool.false_ne_true))]
    exact iDotR_no5 sa za sb zb a r cap P b dap Q w hsa hza hsb hzb hp hq hr g1 g2 g4 g5 g6
  obtain ⟨-, a0, a1⟩ := sc_of g1
  obtain ⟨-, b0, b1⟩ := sc_of g2
  have r4 := of_decide_eq_true g4
  have h1 := of_decide_eq_true g5
  have h2 := of_decide_eq_true g6
  have e1 : bys r P = true := by unfold bys; rw [g5, decide_eq_true r4]; rfl
  have e2 : bys r Q = true := by unfold bys; rw [g6, decide_eq_true r4]; rfl
  rw [show dotV sa za sb zb r r P Q = dsum za zb P Q r from if_pos ⟨⟨g1, g2⟩, rfl, e1, e2⟩]
  exact iDotR_yes sa za sb zb a r cap P b dap Q w hsa hza hsb hzb hp hq hr a0 a1 b0 b1 r4 (fun j hj => ⟨h1 j hj, h2 j hj⟩) g1 g2 g4 g5 g6
end Vo
end Go.Proofs.Ytnnjkanmcfjblaa
