/-
  Proved: whatever the arguments, 'FnRootClip' returns true: the landed function answers as its model, and what came in reads as it did. No condition.
-/
import Derived.Test.YtmcaklmgcfojnaaRows
import Derived.Test.YtmcaklmgcfojnaaVl
import Derived.Test.YtmcaklmgcfojnaaIa
import Derived.Test.YtmcaklmgcfojnaaNea
import Derived.Test.YtmcaklmgcfojnaaIb
import Derived.Test.YtmcaklmgcfojnaaIc
import Derived.Test.YtmcaklmgcfojnaaIe
import Derived.Test.YtmcaklmgcfojnaaEb
import Derived.Test.YtmcaklmgcfojnaaEg
import Derived.Test.YtmcaklmgcfojnaaVp
import Derived.Test.YtmcaklmgcfojnaaVs
import Derived.Test.YtmcaklmgcfojnaaVq
import Derived.Test.YtmcaklmgcfojnaaVo
import Derived.Test.YtmcaklmgcfojnaaVm
import Derived.Test.YtmcaklmgcfojnaaVn
import Derived.Test.YtmcaklmgcfojnaaVc
import Derived.Test.YtmcaklmgcfojnaaEh
import Derived.Test.YtmcaklmgcfojnaaEa
import Derived.Test.YtmcaklmgcfojnaaEr
import Derived.Test.YtmcaklmgcfojnaaNum
import Derived.Test.YtmcaklmgcfojnaaBase
import Derived.Test.YtmcaklmgcfojnaaPow
import Derived.Test.YtmcaklmgcfojnaaDraw
import Derived.Test.YtmcaklmgcfojnaaNef
import Derived.Test.YtmcaklmgcfojnaaEs
import Derived.Test.YtmcaklmgcfojnaaEv
import Derived.Test.YtmcaklmgcfojnaaEc
import Derived.Test.YtmcaklmgcfojnaaEi
import Derived.Test.YtmcaklmgcfojnaaEu
import Derived.Test.YtmcaklmgcfojnaaEw
import Derived.WalkKit
import Derived.ProofKit
import Derived.OpenShut
import Derived.ShutString
import Derived.ChangeOld
import Derived.Below
import Derived.Lib.SmallJoins
import Derived.OpenVars
import Derived.ChangeVars
import Derived.Deep.RegionHeld3
namespace Go.Proofs.Ytmcaklmgcfojnaa.fnRootClip
open Go.ChangeShapes Go.WideShapes Go.ChangeAt Go.RowKit Go.Joins
open Go.ChangeMaps (open_string shut_string)
set_option linter.unusedVariables false
set_option linter.unusedSimpArgs false

theorem own : ownKnob Try.prog.godebug = none := by kernel_rfl
theorem laidOut : laidOutB Try.prog = true := by kernel_rfl

set_option maxRecDepth 100000 in
set_option maxHeartbeats 4000000 in
theorem walk (a0 : Option Addr) (len0 cap0 : Nat) (w : World) (w0 : Base.Code w.heap.size w a0 len0) :
    Calls Try.prog 3 #[.slice a0 len0 cap0] w fun e w' => e = .returned (.bool true) ∧ Below w.heap.size w w' := by
  have L0 := w0.1
  have l0 : (len0 : Int) ≤ 9223372036854775807 := by omega
  have HW := Base.hide w0
  clear w0 L0
  by_cases g0 : (1048576 : Int) < (len0 : Int)
  · have e0 := Base.hide (decide_eq_true g0)
    clear g0
    go_enter Try.func3, Try.ntmps3
    go_wp2_with fail
    refine (Base.big a0 len0 cap0 true _ l0 e0.out).mono ?_; rintro e w' ⟨rfl, rfl⟩
    go_wp2_with fail
    go_ret
    exact ⟨rfl, Below.refl _ _⟩
  have e0 := Base.hide (decide_eq_false g0)
  have n0 := Base.hide (show len0 ≤ 1048576 by omega)
  clear g0
  go_enter Try.func3, Try.ntmps3
  go_wp2_with fail
  refine (Base.big a0 len0 cap0 false _ l0 e0.out).mono ?_; rintro e w' ⟨rfl, hq⟩; have hq := hq.symm; subst hq
  clear e0 l0
  go_wp2_with fail
  refine (Vo.drawRoot a0 len0 cap0 _ HW.out n0.out).mono ?_; rintro e u1 ⟨n, rfl, bn, bb⟩
  have BW := Base.hide bb
  obtain ⟨v, ⟨v0, v1⟩, hv, -, hi⟩ := Vo.rootBoth n bn
  have HI := Base.hide hi
  obtain ⟨x, -, hx, -, hi10⟩ := Vo.rootBoth 10 ⟨by decide, by decide⟩
  obtain rfl : x = 3 := Vo.rt_one (hx (by decide) (by decide)) ⟨by decide, by decide, by decide⟩
  have HT := Base.hide hi10
  have sq1 : (v + 1) * (v + 1) ≤ 2147483649 * 2147483649 := Int.mul_le_mul (by omega) (by omega) (by omega) (by omega)
  have sq0 : v * v ≤ 2147483648 * 2147483648 := Int.mul_le_mul (by omega) (by omega) (by omega) (by omega)
  have sq2 : 0 ≤ v * v := Int.mul_nonneg v0 v0
  have sq3 : 0 ≤ (v + 1) * (v + 1) := Int.mul_nonneg (by omega) (by omega)
  have HG := Base.hide (show (decide (0 ≤ n) = false) ∨ (decide (0 ≤ n) = true ∧ decide (n ≤ 4611686018427387904) = false) ∨ (decide (0 ≤ n) = true ∧ decide (n ≤ 4611686018427387904) = true ∧ decide (n < v * v) = false ∧ decide ((v + 1) * (v + 1) ≤ n) = false) by
    by_cases c0 : 0 ≤ n
    · by_cases c1 : n ≤ 4611686018427387904
      · obtain ⟨_, r1, r2⟩ := hv c0 c1
        exact .inr (.inr ⟨decide_eq_true c0, decide_eq_true c1, decide_eq_false (by omega), decide_eq_false (by omega)⟩)
      · exact .inr (.inl ⟨decide_eq_true c0, decide_eq_false c1⟩)
    · exact .inl (decide_eq_false c0))
  obtain ⟨A, hA⟩ : ∃ A, v * v = A := ⟨_, rfl⟩
  obtain ⟨C, hC⟩ : ∃ C, (v + 1) * (v + 1) = C := ⟨_, rfl⟩
  obtain ⟨V, hV⟩ : ∃ V, v + 1 = V := ⟨_, rfl⟩
  rw [hA, hC] at HG
  rw [hV] at hC
  have wV : IntKind.i64.wrap (v + 1) = V := by rw [hV]; exact Vo.wid (by omega)
  have wA : IntKind.i64.wrap (v * v) = A := by rw [hA]; exact Vo.wid (by omega)
  have wC : IntKind.i64.wrap (V * V) = C := by rw [hC]; refine Vo.wid ?_; rw [← hC, ← hV]; omega
  clear bb hv hi bn hi10 hx hA hC hV sq0 sq1 sq2 sq3 v0 v1
  go_wp2_with fail
  refine (HI.out _).mono ?_; rintro e u2 ⟨rfl, q2⟩
  replace BW := Base.hide (BW.out.trans (q2.mono BW.out.size))
  clear q2 HI
  go_wp2_with fail
  refine (HT.out _).mono ?_; rintro e u3 ⟨rfl, q3⟩
  replace BW := Base.hide (BW.out.trans (q3.mono BW.out.size))
  clear q3 HT
  go_upto_region 7 with fail
  go_cut [37] (fun c wx => c = .bool false ∧ wx = u3)
  case first =>
    rcases HG.out with h | ⟨h0, h1⟩ | ⟨h0, h1, h2, h3⟩
    all_goals
      (go_wp2_with fail
       go_meet
       exact ⟨rfl, rfl⟩)
  case rest =>
  obtain ⟨rfl, hw⟩ := hcut
  have hw := hw.symm
  subst hw
  clear HG wA wC wV
  go_wp2_with fail
  refine (Vo.drawClip a0 len0 cap0 _ ((HW.out.below BW.out).mono BW.out.size) n0.out).mono ?_; rintro e u4 ⟨b, k, c, D, m, rfl, k8, hb, hO, bm, q4⟩
  replace BW := Base.hide (BW.out.trans (q4.mono BW.out.size))
  have HO := Base.hide hO.ints
  have HB := Base.hide hb
  have HM := Base.hide bm
  have K8 := Base.hide k8
  have KR := Base.hide (show (k : Int) ≤ 1048576 by omega)
  clear q4 hO hb bm HW n0 k8
  cases g : Vo.grd k D
  · have G := Base.hide g
    clear g
    go_wp2_with fail
    refine (Vo.iClip_no1 _ b k c D m _ (Nat.le_refl _) HO.out KR.out G.out (fun _ => 0)).mono ?_; rintro e u5 ⟨a5, c5, rfl, -, q5⟩
    have H5 := Base.hide (HO.out.below q5)
    have Z5 := Base.hide q5.size
    replace BW := Base.hide (BW.out.trans (q5.mono BW.out.size))
    clear q5
    go_wp2_with fail
    refine (Vo.sClip_no1 _ b k c D m _ Z5.out H5.out KR.out G.out (fun _ => 0)).mono ?_; rintro e u6 ⟨a6, c6, rfl, -, q6⟩
    replace BW := Base.hide (BW.out.trans (q6.mono BW.out.size))
    clear q6 H5 Z5
    go_wp2_with fail
    go_ret
    exact ⟨rfl, BW.out⟩
  cases g2 : decide (0 ≤ m ∧ m ≤ 1073741824)
  · have G := Base.hide g
    have G2 := Base.hide g2
    clear g g2
    go_wp2_with fail
    refine (Vo.iClip_no2 _ b k c D m _ (Nat.le_refl _) HO.out KR.out HM.out G.out G2.out (fun _ => 0)).mono ?_; rintro e u5 ⟨a5, c5, rfl, -, q5⟩
    have H5 := Base.hide (HO.out.below q5)
    have Z5 := Base.hide q5.size
    replace BW := Base.hide (BW.out.trans (q5.mono BW.out.size))
    clear q5
    go_wp2_with fail
    refine (Vo.sClip_no2 _ b k c D m _ Z5.out H5.out KR.out G.out G2.out (fun _ => 0)).mono ?_; rintro e u6 ⟨a6, c6, rfl, -, q6⟩
    replace BW := Base.hide (BW.out.trans (q6.mono BW.out.size))
    clear q6 H5 Z5
    go_wp2_with fail
    go_ret
    exact ⟨rfl, BW.out⟩
  obtain ⟨t, ⟨t0, t1⟩, ht, hs, hi⟩ := Vo.normBoth k D KR.out
  obtain ⟨m0, m1⟩ := of_decide_eq_true g2
  have g3 : Vo.grd k (Vo.clp D m t) = true := by
    obtain ⟨hall, r4⟩ := Vo.grd_of g
    refine Vo.grd_mk (fun j hj => ?_) r4
    obtain ⟨x0, x1⟩ := hall j hj
    unfold Vo.clp
    by_cases c : m < t
    · rw [if_pos c]; exact Vo.nrv_clip x0 x1 m0 c
    · rw [if_neg c]; exact ⟨x0, x1⟩
  obtain ⟨y, ⟨y0, y1⟩, hy, -, hiy⟩ := Vo.normBoth k (Vo.clp D m t) KR.out
  obtain ⟨R, ⟨R0, R1⟩, hR, -, hiR⟩ := Vo.rootBoth (k : Int) ⟨by omega, by have := K8.out; omega⟩
  have FIN := Base.hide (show m < t → y ≤ m + R + 1 from fun c => by
    have h := Vo.clip_len k D m t R m0 c (ht g) (hR (by omega) (by have := K8.out; omega))
    refine Vo.rt_lt (hy g3) (by omega) ?_
    rw [show m + R + 1 + 1 = m + R + 2 by omega]
    exact h)
  have CI := Base.hide (fun B w a cap h1 h2 h3 => Vo.iClip_yes B a k cap D m t w h1 h2 HM.out h3 g g2 t1 hi)
  have CS := Base.hide (fun B w a cap h1 h2 => Vo.sClip_yes B a k cap D m t w h1 h2 g g2 t1 hs)
  have CN := Base.hide hi
  have CY := Base.hide hiy
  have CR := Base.hide hiR
  have wM : IntKind.i64.wrap (m + R) = m + R := Vo.wid (by omega)
  have wM2 : IntKind.i64.wrap (m + R + 1) = m + R + 1 := Vo.wid (by omega)
  clear hR ht hs hi hy hiy hiR g g2 g3 t0 t1 y0 y1 R0 R1 m0 m1
  go_wp2_with fail
  refine (CI.out _ _ b c (Nat.le_refl _) HO.out HB.out).mono ?_; rintro e u5 ⟨a5, c5, rfl, hO5, q5⟩
  have H5 := Base.hide (HO.out.below q5)
  have L5 := Base.hide hO5.ints
  have Z5 := Base.hide q5.size
  replace BW := Base.hide (BW.out.trans (q5.mono BW.out.size))
  clear q5 hO5 CI
  go_wp2_with fail
  refine (CS.out _ _ b c Z5.out H5.out).mono ?_; rintro e u6 ⟨a6, c6, rfl, -, q6⟩
  replace L5 := Base.hide (L5.out.below q6)
  replace H5 := Base.hide (H5.out.below (q6.mono Z5.out))
  have Z6 := Base.hide q6.size
  replace Z5 := Base.hide (Nat.le_trans Z5.out q6.size)
  replace BW := Base.hide (BW.out.trans (q6.mono BW.out.size))
  clear q6 CS HO
  by_cases k0 : k = 0
  · subst k0
    clear wM wM2
    go_wp2_with fail
    go_ret
    exact ⟨rfl, BW.out⟩
  have k1 : ((k : Int) == 0) = false := by simp; omega
  have k2 : (k == 0) = false := by simp [k0]
  go_wp2_with fail
  refine (CN.out _ _ b c Z5.out H5.out).mono ?_; rintro e u7 ⟨rfl, q7⟩
  replace L5 := Base.hide (L5.out.below (q7.mono Z6.out))
  replace H5 := Base.hide (H5.out.below (q7.mono Z5.out))
  replace Z6 := Base.hide (Nat.le_trans Z6.out q7.size)
  replace Z5 := Base.hide (Nat.le_trans Z5.out q7.size)
  replace BW := Base.hide (BW.out.trans (q7.mono BW.out.size))
  clear q7 CN k1 k2
  by_cases cv : m < t
  · have cv' : decide (t ≤ m) = false := decide_eq_false (by omega)
    have fin : decide (y ≤ m + R + 1) = true := decide_eq_true (FIN.out cv)
    clear cv FIN
    go_wp2_with fail
    refine (CY.out _ _ a5 c5 Z6.out L5.out).mono ?_; rintro e u8 ⟨rfl, q8⟩
    replace BW := Base.hide (BW.out.trans (q8.mono BW.out.size))
    clear q8 CY
    go_wp2_with fail
    refine (CR.out _).mono ?_; rintro e u9 ⟨rfl, q9⟩
    replace BW := Base.hide (BW.out.trans (q9.mono BW.out.size))
    clear q9 CR
    go_wp2_with fail
    go_ret
    exact ⟨rfl, BW.out⟩
  · have cv' : decide (t ≤ m) = true := decide_eq_true (by omega)
    have EX : Vo.clp D m t = D := by funext j; unfold Vo.clp; rw [if_neg cv]
    rw [EX] at L5
    clear cv FIN EX CY CR wM wM2
    go_wp2_with fail
    refine (Vo.sameIntsE _ a5 b k c5 c D _ (L5.out.mono Z6.out) (H5.out.mono Z5.out) KR.out).mono ?_; rintro e u8 ⟨rfl, q8⟩
    replace BW := Base.hide (BW.out.trans (q8.mono BW.out.size))
    clear q8
    go_wp2_with fail
    go_ret
    exact ⟨rfl, BW.out⟩

set_option maxRecDepth 100000 in
theorem lifted (os : Os) (started : os.Started) (H : Type) (enc : TypeId × Value → H) :
    ReturnsInHanded {} Try.checked os 3 .any (Rows.fnRootClipSpec.pre6 enc Try.prog Try.f3 Rows.fnRootClipRow.domain false) (Rows.fnRootClipSpec.post enc Try.prog Try.f3 false true false false) := by
  refine returnsInHanded_of_change (C := Try.checked) own started (by kernel_rfl) Try.func3
    (ChangeSpec.witness6 (enc := enc) (C := Try.checked) false ⟨#[], #[.slice none 0 0], []⟩ 8 (by kernel_rfl) (by kernel_rfl) (by kernel_rfl) (by kernel_rfl)) ?_
  intro W base args ds gs before hval0 hW hcnd _
  have hval : ∀ (j : Nat) t v, Try.f3.params[j]? = some t → args[j]? = some v → Value.okWide Try.prog W .any base t v := hval0
  have hW' := hW
  obtain ⟨p, q, hA0, hV, rfl, hfz, hnd⟩ := hW
  have hA : DataW.TrodAll enc Try.prog W 0 (fun _ => true) true Try.f3.params.toList args.toList ds p := hA0
  rw [Try.params3] at hA hval
  obtain ⟨v0, vs0, d0, ds0, p0, q0, hargs, rfl, rfl, h0, rst0⟩ := trodAll_cons hA
  obtain ⟨rfl, rfl, rfl⟩ := trodAll_nil rst0
  obtain rfl : args = #[v0] := by cases args; simp_all
  obtain ⟨rfl, rfl⟩ := trodVars_none hV
  have k0 := h0
  have lt0 : ∀ x ∈ p0, x.block < W.heap.size := by obtain ⟨m, hm⟩ := k0; exact DataW.trod_lt m _ _ _ hm
  obtain ⟨a0, len0, cap0, rfl⟩ := okWide_slice Try.underlying22 (hval 0 22 v0 rfl rfl)
  have w0 : Base.Code W.heap.size W a0 len0 := by
    obtain ⟨fuel, hf⟩ := h0
    rcases open_ints Try.underlying22 Try.underlying5 (by kernel_rfl) hf with ⟨hcs, _⟩ | ⟨x, l, c, zs, hcs, _, hl, hm, hz, _, hcell, hwz⟩
    · simp [Value.cells] at hcs
      obtain ⟨rfl, rfl, rfl⟩ := hcs
      exact ⟨by omega, .inl rfl⟩
    · simp [Value.cells] at hcs
      obtain ⟨rfl, rfl, rfl⟩ := hcs
      exact Base.code_of hl hm (by simpa using hz) hcell hwz
  clear hA0 hval0
  refine (walk a0 len0 cap0 W w0).mono fun e W' ⟨he, bel⟩ => ?_
  subst he
  exact ⟨_, rfl, _, _, _, [], _, [], hW', trodAll_mk1 (shut_bool Try.underlying4 _), (trodAll_cons_mk (Below.trod laidOut (by kernel_rfl) (of_decide_eq_true (by kernel_rfl)) k0 bel lt0) trodAll_mk0), rfl, bel.frame _, fun h => by cases h⟩

theorem over : Rows.fnRootClipRow.holds Try.pinned (OpenSpec.ofChange Rows.fnRootClipSpec) :=
  OpenClaim.holds_of_wide 3 Try.f3 rfl rfl rfl rfl rfl rfl rfl ⟨rfl, rfl, rfl, rfl, rfl⟩ rfl rfl rfl rfl rfl (by kernel_rfl) Try.func3 (by kernel_rfl)
    (of_decide_eq_true (by kernel_rfl)) (by unfold Func.isWrapper; first | (rw [if_pos (by decide +kernel)]; kernel_rfl) | (rw [if_neg (by decide +kernel)]; exact ⟨rfl, rfl⟩))
    (fun os started H enc _ => lifted os started H enc)

theorem proved : Rows.FnRootClipSaid := over
#print axioms proved
end Go.Proofs.Ytmcaklmgcfojnaa.fnRootClip
