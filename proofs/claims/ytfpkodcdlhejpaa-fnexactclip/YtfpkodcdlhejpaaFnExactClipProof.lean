/-
  Proved: whatever the arguments, 'FnExactClip' returns true: the landed function answers as its model, and what came in reads as it did. No condition.
-/
import Derived.Test.YtfpkodcdlhejpaaRows
import Derived.Test.YtfpkodcdlhejpaaVl
import Derived.Test.YtfpkodcdlhejpaaIa
import Derived.Test.YtfpkodcdlhejpaaNea
import Derived.Test.YtfpkodcdlhejpaaIb
import Derived.Test.YtfpkodcdlhejpaaIc
import Derived.Test.YtfpkodcdlhejpaaIe
import Derived.Test.YtfpkodcdlhejpaaEb
import Derived.Test.YtfpkodcdlhejpaaEg
import Derived.Test.YtfpkodcdlhejpaaVp
import Derived.Test.YtfpkodcdlhejpaaVs
import Derived.Test.YtfpkodcdlhejpaaVq
import Derived.Test.YtfpkodcdlhejpaaVo
import Derived.Test.YtfpkodcdlhejpaaVm
import Derived.Test.YtfpkodcdlhejpaaVn
import Derived.Test.YtfpkodcdlhejpaaVc
import Derived.Test.YtfpkodcdlhejpaaEh
import Derived.Test.YtfpkodcdlhejpaaEa
import Derived.Test.YtfpkodcdlhejpaaEc
import Derived.Test.YtfpkodcdlhejpaaEi
import Derived.WalkKit
import Derived.ProofKit
import Derived.OpenShut
import Derived.ShutString
import Derived.ChangeOld
import Derived.Below
import Derived.Lib.SmallJoins
import Derived.OpenVars
import Derived.ChangeVars
import Derived.Deep.RegionHeld3
namespace Go.Proofs.Ytfpkodcdlhejpaa.fnExactClip
open Go.ChangeShapes Go.WideShapes Go.ChangeAt Go.RowKit Go.Joins
open Go.ChangeMaps (open_string shut_string)
set_option linter.unusedVariables false

theorem own : ownKnob Try.prog.godebug = none := by kernel_rfl
theorem laidOut : laidOutB Try.prog = true := by kernel_rfl

theorem walk (a0 : Option Addr) (r0 cap0 : Nat) (a1 : Int) (w1 : (Lit.int .i64 a1).wf = true) (w : World) (w0 : Vl.Arg w a0 r0) :
    Calls Try.prog 7 #[.slice a0 r0 cap0, .int .i64 a1] w fun e w' => e = .returned (.bool true) ∧ Below w.heap.size w w' := by
  obtain ⟨hr, D, h0⟩ := w0
  have H := Vl.hide h0
  clear h0
  by_cases h20 : 1048576 < (r0 : Int)
  · go_enter Try.func7, Try.ntmps7
    go_wp2_with fail
    go_ret
    exact ⟨rfl, Below.refl _ _⟩
  have h20' : decide (1048576 < (r0 : Int)) = false := by rw [decide_eq_false_iff_not]; exact h20
  have hl : (r0 : Int) ≤ 1048576 := by omega
  obtain ⟨n, G, nr, -, hs, hi⟩ := Vo.clipBoth r0 D a1 hl (bounds_i64 w1)
  have HS := Vl.hide hs
  have HI := Vl.hide hi
  clear hs hi w1
  have ln : (n : Int) ≤ 1048576 := by omega
  clear h20 hr nr
  obtain ⟨W0, hW⟩ : ∃ W0, W0 = w := ⟨_, rfl⟩
  rw [← hW] at H ⊢
  clear hW
  have BW := Vl.hide (Below.refl W0.heap.size W0)
  go_enter Try.func7, Try.ntmps7
  go_wp2_with fail
  refine (Vl.toIntS W0.heap.size a0 r0 cap0 D _ (H.out.below BW.out) BW.out.size hl).mono ?_
  rintro e W1 ⟨rfl, q, s, bb⟩
  replace BW := Vl.hide (BW.out.trans (bb.mono BW.out.size))
  have sz1 : W0.heap.size ≤ W1.heap.size := bb.size
  have QX := Vl.hide (show Vl.OwnL W0.heap.size W1 (some ⟨W0.heap.size, 0, none⟩) r0 D from .inr ⟨_, rfl, Nat.le_refl _, q⟩)
  have UX := Vl.hide (fun k q => QX.out.blk (b := k) q)
  have SX := Vl.hide s
  clear q s bb
  have SA := SX
  go_wp2_with fail
  refine (HS.out _ _ _ _ (Nat.le_refl _) QX.out.ints).mono ?_
  rintro e W2 ⟨Sa, Sc, rfl, q, bb⟩
  replace QX := Vl.hide (QX.out.below bb)
  replace BW := Vl.hide (BW.out.trans (bb.mono BW.out.size))
  have sz2 : W1.heap.size ≤ W2.heap.size := bb.size
  have tz2 : W0.heap.size ≤ W2.heap.size := by omega
  have QS := Vl.hide (q)
  have US := Vl.hide (fun k q => QS.out.blk (b := k) q)
  clear q bb
  clear QX UX SX SA
  go_wp2_with fail
  refine (Vl.toIntS W0.heap.size a0 r0 cap0 D _ (H.out.below BW.out) BW.out.size hl).mono ?_
  rintro e W3 ⟨rfl, q, s, bb⟩
  replace QS := Vl.hide (QS.out.below bb)
  replace BW := Vl.hide (BW.out.trans (bb.mono BW.out.size))
  have sz3 : W2.heap.size ≤ W3.heap.size := bb.size
  have tz3 : W0.heap.size ≤ W3.heap.size := by omega
  have QX := Vl.hide (show Vl.OwnL W2.heap.size W3 (some ⟨W2.heap.size, 0, none⟩) r0 D from .inr ⟨_, rfl, Nat.le_refl _, q⟩)
  have UX := Vl.hide (fun k q => QX.out.blk (b := k) q)
  have SX := Vl.hide s
  clear q s bb
  go_wp2_with fail
  refine (HI.out _ _ _ _ (Nat.le_refl _) (fun e => by cases e) QX.out.ints).mono ?_
  rintro e W4 ⟨Ga, Gc, rfl, q, bb⟩
  replace QS := Vl.hide (QS.out.below bb)
  replace QX := Vl.hide (QX.out.below bb)
  replace BW := Vl.hide (BW.out.trans (bb.mono BW.out.size))
  have sz4 : W3.heap.size ≤ W4.heap.size := bb.size
  have tz4 : W0.heap.size ≤ W4.heap.size := by omega
  have QG := Vl.hide (q)
  have UG := Vl.hide (fun k q => QG.out.blk (b := k) q)
  clear q bb
  go_wp2_with fail
  refine (Vl.eqIntS _ _ _ n Gc Sc G G _ QG.out.ints QS.out.ints (fun _ _ => rfl) ln).mono ?_
  rintro e W5 ⟨rfl, bb⟩
  replace QS := Vl.hide (QS.out.below bb)
  replace QX := Vl.hide (QX.out.below bb)
  replace QG := Vl.hide (QG.out.below bb)
  replace BW := Vl.hide (BW.out.trans (bb.mono BW.out.size))
  have sz5 : W4.heap.size ≤ W5.heap.size := bb.size
  have tz5 : W0.heap.size ≤ W5.heap.size := by omega
  clear bb
  go_wp2_with fail
  refine (Vl.toIntS W0.heap.size a0 r0 cap0 D _ (H.out.below BW.out) BW.out.size hl).mono ?_
  rintro e W6 ⟨rfl, q, s, bb⟩
  replace QS := Vl.hide (QS.out.below bb)
  replace QX := Vl.hide (QX.out.below bb)
  replace QG := Vl.hide (QG.out.below bb)
  replace BW := Vl.hide (BW.out.trans (bb.mono BW.out.size))
  have sz6 : W5.heap.size ≤ W6.heap.size := bb.size
  have tz6 : W0.heap.size ≤ W6.heap.size := by omega
  have QY := Vl.hide (show Vl.OwnL W5.heap.size W6 (some ⟨W5.heap.size, 0, none⟩) r0 D from .inr ⟨_, rfl, Nat.le_refl _, q⟩)
  have UY := Vl.hide (fun k q => QY.out.blk (b := k) q)
  have SX := Vl.hide s
  clear q s bb
  go_wp2_with fail
  refine (Vl.eqIntS _ _ _ r0 _ _ D D _ QX.out.ints QY.out.ints (fun _ _ => rfl) hl).mono ?_
  rintro e W7 ⟨rfl, bb⟩
  replace QS := Vl.hide (QS.out.below bb)
  replace QX := Vl.hide (QX.out.below bb)
  replace QG := Vl.hide (QG.out.below bb)
  replace QY := Vl.hide (QY.out.below bb)
  replace BW := Vl.hide (BW.out.trans (bb.mono BW.out.size))
  have sz7 : W6.heap.size ≤ W7.heap.size := bb.size
  have tz7 : W0.heap.size ≤ W7.heap.size := by omega
  clear bb
  clear QY UY
  go_wp2_with fail
  refine (Vl.markIntS _ _ r0 _ D 1 _ QX.out hl (by omega) (by omega)).mono ?_
  rintro e W8 ⟨rfl, qs, bb⟩
  replace QS := Vl.hide (QS.out.kept bb (fun k q q' => by have := US.out _ q; have := UX.out _ q'; omega))
  replace QG := Vl.hide (QG.out.kept bb (fun k q q' => by have := UG.out _ q; have := UX.out _ q'; omega))
  replace BW := Vl.hide (BW.out.trans (Vl.Kept.below bb BW.out.size (fun k q => by have := UX.out _ q; omega)))
  have sz8 : W7.heap.size ≤ W8.heap.size := bb.size
  have tz8 : W0.heap.size ≤ W8.heap.size := by omega
  replace QX := Vl.hide qs
  clear qs bb
  have negX : decide ((1 : Int) + (r0 : Nat) < 0) = false := by rw [decide_eq_false_iff_not]; omega
  go_wp2_with fail
  refine (Vl.eqIntS _ _ _ n Gc Sc G G _ QG.out.ints QS.out.ints (fun _ _ => rfl) ln).mono ?_
  rintro e W9 ⟨rfl, bb⟩
  replace QS := Vl.hide (QS.out.below bb)
  replace QX := Vl.hide (QX.out.below bb)
  replace QG := Vl.hide (QG.out.below bb)
  replace BW := Vl.hide (BW.out.trans (bb.mono BW.out.size))
  have sz9 : W8.heap.size ≤ W9.heap.size := bb.size
  have tz9 : W0.heap.size ≤ W9.heap.size := by omega
  clear bb
  go_wp2_with fail
  refine (Vl.markIntS _ _ n Gc G 1 _ QG.out ln (by omega) (by omega)).mono ?_
  rintro e W10 ⟨rfl, qs, bb⟩
  replace QS := Vl.hide (QS.out.kept bb (fun k q q' => by have := US.out _ q; have := UG.out _ q'; omega))
  replace QX := Vl.hide (QX.out.kept bb (fun k q q' => by have := UX.out _ q; have := UG.out _ q'; omega))
  replace BW := Vl.hide (BW.out.trans (Vl.Kept.below bb BW.out.size (fun k q => by have := UG.out _ q; omega)))
  have sz10 : W9.heap.size ≤ W10.heap.size := bb.size
  have tz10 : W0.heap.size ≤ W10.heap.size := by omega
  replace QG := Vl.hide qs
  clear qs bb
  have negG : decide ((1 : Int) + (n : Nat) < 0) = false := by rw [decide_eq_false_iff_not]; omega
  go_wp2_with fail
  refine (Vl.heldIntS _ _ n _ 1 _ QG.out.ints ln (by omega) (by omega)).mono ?_
  rintro e w' ⟨rfl, hq⟩; have hq := hq.symm; subst hq
  clear QX UX SX
  go_wp2_with fail
  refine (Vl.toIntS W0.heap.size a0 r0 cap0 D _ (H.out.below BW.out) BW.out.size hl).mono ?_
  rintro e W11 ⟨rfl, q, s, bb⟩
  replace QS := Vl.hide (QS.out.below bb)
  replace QG := Vl.hide (QG.out.below bb)
  replace BW := Vl.hide (BW.out.trans (bb.mono BW.out.size))
  have sz11 : W10.heap.size ≤ W11.heap.size := bb.size
  have tz11 : W0.heap.size ≤ W11.heap.size := by omega
  have QX := Vl.hide (show Vl.OwnL W10.heap.size W11 (some ⟨W10.heap.size, 0, none⟩) r0 D from .inr ⟨_, rfl, Nat.le_refl _, q⟩)
  have UX := Vl.hide (fun k q => QX.out.blk (b := k) q)
  have SX := Vl.hide s
  clear q s bb
  go_wp2_with fail
  refine (HI.out _ _ _ _ (Nat.le_refl _) (fun e => by cases e) QX.out.ints).mono ?_
  rintro e W12 ⟨Ha, Hc, rfl, q, bb⟩
  replace QS := Vl.hide (QS.out.below bb)
  replace QG := Vl.hide (QG.out.below bb)
  replace QX := Vl.hide (QX.out.below bb)
  replace BW := Vl.hide (BW.out.trans (bb.mono BW.out.size))
  have sz12 : W11.heap.size ≤ W12.heap.size := bb.size
  have tz12 : W0.heap.size ≤ W12.heap.size := by omega
  have QH := Vl.hide (q)
  have UH := Vl.hide (fun k q => QH.out.blk (b := k) q)
  clear q bb
  go_wp2_with fail
  refine (Vl.eqIntS _ _ _ n Hc Sc G G _ QH.out.ints QS.out.ints (fun _ _ => rfl) ln).mono ?_
  rintro e W13 ⟨rfl, bb⟩
  replace QS := Vl.hide (QS.out.below bb)
  replace QG := Vl.hide (QG.out.below bb)
  replace QX := Vl.hide (QX.out.below bb)
  replace QH := Vl.hide (QH.out.below bb)
  replace BW := Vl.hide (BW.out.trans (bb.mono BW.out.size))
  have sz13 : W12.heap.size ≤ W13.heap.size := bb.size
  have tz13 : W0.heap.size ≤ W13.heap.size := by omega
  clear bb
  go_wp2_with fail
  refine (Vl.heldIntS _ _ n _ 1 _ QG.out.ints ln (by omega) (by omega)).mono ?_
  rintro e w' ⟨rfl, hq⟩; have hq := hq.symm; subst hq
  go_wp2_with fail
  go_ret
  exact ⟨rfl, BW.out⟩

set_option maxRecDepth 100000 in
theorem lifted (os : Os) (started : os.Started) (H : Type) (enc : TypeId × Value → H) :
    ReturnsInHanded {} Try.checked os 7 .any (Rows.fnExactClipSpec.pre6 enc Try.prog Try.f7 Rows.fnExactClipRow.domain false) (Rows.fnExactClipSpec.post enc Try.prog Try.f7 false true false false) := by
  refine returnsInHanded_of_change (C := Try.checked) own started (by kernel_rfl) Try.func7
    (ChangeSpec.witness6 (enc := enc) (C := Try.checked) false ⟨#[], #[.slice none 0 0, .int .i64 0], []⟩ 8 (by kernel_rfl) (by kernel_rfl) (by kernel_rfl) (by kernel_rfl)) ?_
  intro W base args ds gs before hval0 hW hcnd _
  have hval : ∀ (j : Nat) t v, Try.f7.params[j]? = some t → args[j]? = some v → Value.okWide Try.prog W .any base t v := hval0
  have hW' := hW
  obtain ⟨p, q, hA0, hV, rfl, hfz, hnd⟩ := hW
  have hA : DataW.TrodAll enc Try.prog W 0 (fun _ => true) true Try.f7.params.toList args.toList ds p := hA0
  rw [Try.params7] at hA hval
  obtain ⟨v0, vs0, d0, ds0, p0, q0, hargs, rfl, rfl, h0, rst0⟩ := trodAll_cons hA
  obtain ⟨v1, vs1, d1, ds1, p1, q1, rfl, rfl, rfl, h1, rst1⟩ := trodAll_cons rst0
  obtain ⟨rfl, rfl, rfl⟩ := trodAll_nil rst1
  obtain rfl : args = #[v0, v1] := by cases args; simp_all
  obtain ⟨rfl, rfl⟩ := trodVars_none hV
  have k0 := h0
  have lt0 : ∀ x ∈ p0, x.block < W.heap.size := by obtain ⟨m, hm⟩ := k0; exact DataW.trod_lt m _ _ _ hm
  obtain ⟨a0, r0, cap0, rfl⟩ := okWide_slice Try.underlying32 (hval 0 32 v0 rfl rfl)
  have w0 : Vl.Arg W a0 r0 := Vl.arg_at h0
  have k1 := h1
  have lt1 : ∀ x ∈ p1, x.block < W.heap.size := by obtain ⟨m, hm⟩ := k1; exact DataW.trod_lt m _ _ _ hm
  obtain ⟨a1, rfl, e1, _, w1⟩ := open_int Try.underlying3 (hval 1 3 v1 rfl rfl) h1
  clear hA0 hval0
  refine (walk a0 r0 cap0 a1 w1 W w0).mono fun e W' ⟨he, bel⟩ => ?_
  subst he
  exact ⟨_, rfl, _, _, _, [], _, [], hW', trodAll_mk1 (shut_bool Try.underlying4 _), (trodAll_cons_mk (Below.trod laidOut (by kernel_rfl) (of_decide_eq_true (by kernel_rfl)) k0 bel lt0) (trodAll_cons_mk (Below.trod laidOut (by kernel_rfl) (of_decide_eq_true (by kernel_rfl)) k1 bel lt1) trodAll_mk0)), rfl, bel.frame _, fun h => by cases h⟩

theorem over : Rows.fnExactClipRow.holds Try.pinned (OpenSpec.ofChange Rows.fnExactClipSpec) :=
  OpenClaim.holds_of_wide 7 Try.f7 rfl rfl rfl rfl rfl rfl rfl ⟨rfl, rfl, rfl, rfl, rfl⟩ rfl rfl rfl rfl rfl (by kernel_rfl) Try.func7 (by kernel_rfl)
    (of_decide_eq_true (by kernel_rfl)) (by unfold Func.isWrapper; first | (rw [if_pos (by decide +kernel)]; kernel_rfl) | (rw [if_neg (by decide +kernel)]; exact ⟨rfl, rfl⟩))
    (fun os started H enc _ => lifted os started H enc)

theorem proved : Rows.FnExactClipSaid := over
#print axioms proved
end Go.Proofs.Ytfpkodcdlhejpaa.fnExactClip
