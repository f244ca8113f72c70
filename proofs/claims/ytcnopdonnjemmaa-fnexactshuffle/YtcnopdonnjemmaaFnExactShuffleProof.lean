/-
  Proved: whatever the arguments, 'FnExactShuffle' returns true: the landed function answers as its model, and what came in reads as it did. No condition.
-/
import Derived.Test.YtcnopdonnjemmaaRows
import Derived.Test.YtcnopdonnjemmaaVl
import Derived.Test.YtcnopdonnjemmaaNea
import Derived.Test.YtcnopdonnjemmaaIa
import Derived.Test.YtcnopdonnjemmaaIb
import Derived.Test.YtcnopdonnjemmaaIc
import Derived.Test.YtcnopdonnjemmaaIe
import Derived.Test.YtcnopdonnjemmaaWg
import Derived.Test.YtcnopdonnjemmaaWj
import Derived.Test.YtcnopdonnjemmaaVp
import Derived.Test.YtcnopdonnjemmaaVs
import Derived.Test.YtcnopdonnjemmaaVq
import Derived.Test.YtcnopdonnjemmaaVo
import Derived.Test.YtcnopdonnjemmaaVm
import Derived.Test.YtcnopdonnjemmaaVn
import Derived.Test.YtcnopdonnjemmaaVc
import Derived.Test.YtcnopdonnjemmaaWk
import Derived.Test.YtcnopdonnjemmaaWl
import Derived.WalkKit
import Derived.ProofKit
import Derived.OpenShut
import Derived.ShutString
import Derived.ChangeOld
import Derived.Below
import Derived.Lib.SmallJoins
import Derived.OpenVars
import Derived.ChangeVars
import Derived.Deep.RegionHeld3
namespace Go.Proofs.Ytcnopdonnjemmaa.fnExactShuffle
open Go.ChangeShapes Go.WideShapes Go.ChangeAt Go.RowKit Go.Joins
open Go.ChangeMaps (open_string shut_string)
set_option linter.unusedVariables false

theorem own : ownKnob Try.prog.godebug = none := by kernel_rfl
theorem laidOut : laidOutB Try.prog = true := by kernel_rfl

theorem walk (a0 : Int) (w0 : (Lit.int .i64 a0).wf = true) (a1 : Int) (w1 : (Lit.int .i64 a1).wf = true) (w : World) :
    Calls Try.prog 5 #[.int .i64 a0, .int .i64 a1] w fun e w' => e = .returned (.bool true) ∧ Below w.heap.size w w' := by
  obtain ⟨n, G, nr, hs, hi⟩ := Wj.shuffleBoth a0 a1 (bounds_i64 w0) (bounds_i64 w1)
  have HS := Vl.hide hs
  have HI := Vl.hide hi
  clear hs hi w0 w1
  have ln : (n : Int) ≤ 1048576 := by omega
  clear nr
  obtain ⟨W0, hW⟩ : ∃ W0, W0 = w := ⟨_, rfl⟩
  rw [← hW]
  clear hW
  have BW := Vl.hide (Below.refl W0.heap.size W0)
  go_enter Try.func5, Try.ntmps5
  go_wp2_with fail
  refine (HS.out _).mono ?_
  rintro e W1 ⟨Sa, Sc, rfl, q, bb⟩
  replace BW := Vl.hide (BW.out.trans (bb.mono BW.out.size))
  have sz1 : W0.heap.size ≤ W1.heap.size := bb.size
  have QS := Vl.hide (q)
  have US := Vl.hide (fun k q => QS.out.blk (b := k) q)
  clear q bb
  go_wp2_with fail
  refine (HI.out _).mono ?_
  rintro e W2 ⟨Ga, Gc, rfl, q, bb⟩
  replace QS := Vl.hide (QS.out.below bb)
  replace BW := Vl.hide (BW.out.trans (bb.mono BW.out.size))
  have sz2 : W1.heap.size ≤ W2.heap.size := bb.size
  have tz2 : W0.heap.size ≤ W2.heap.size := by omega
  have QG := Vl.hide (q)
  have UG := Vl.hide (fun k q => QG.out.blk (b := k) q)
  clear q bb
  go_wp2_with fail
  refine (Vl.eqIntS _ _ _ n Gc Sc G G _ QG.out.ints QS.out.ints (fun _ _ => rfl) ln).mono ?_
  rintro e W3 ⟨rfl, bb⟩
  replace QS := Vl.hide (QS.out.below bb)
  replace QG := Vl.hide (QG.out.below bb)
  replace BW := Vl.hide (BW.out.trans (bb.mono BW.out.size))
  have sz3 : W2.heap.size ≤ W3.heap.size := bb.size
  have tz3 : W0.heap.size ≤ W3.heap.size := by omega
  clear bb
  go_wp2_with fail
  refine (Vl.markIntS _ _ n Gc G 1 _ QG.out ln (by omega) (by omega)).mono ?_
  rintro e W4 ⟨rfl, qs, bb⟩
  replace QS := Vl.hide (QS.out.kept bb (fun k q q' => by have := US.out _ q; have := UG.out _ q'; omega))
  replace BW := Vl.hide (BW.out.trans (Vl.Kept.below bb BW.out.size (fun k q => by have := UG.out _ q; omega)))
  have sz4 : W3.heap.size ≤ W4.heap.size := bb.size
  have tz4 : W0.heap.size ≤ W4.heap.size := by omega
  replace QG := Vl.hide qs
  clear qs bb
  have negG : decide ((1 : Int) + (n : Nat) < 0) = false := by rw [decide_eq_false_iff_not]; omega
  go_wp2_with fail
  refine (Vl.heldIntS _ _ n _ 1 _ QG.out.ints ln (by omega) (by omega)).mono ?_
  rintro e w' ⟨rfl, hq⟩; have hq := hq.symm; subst hq
  go_wp2_with fail
  refine (HI.out _).mono ?_
  rintro e W5 ⟨Ha, Hc, rfl, q, bb⟩
  replace QS := Vl.hide (QS.out.below bb)
  replace QG := Vl.hide (QG.out.below bb)
  replace BW := Vl.hide (BW.out.trans (bb.mono BW.out.size))
  have sz5 : W4.heap.size ≤ W5.heap.size := bb.size
  have tz5 : W0.heap.size ≤ W5.heap.size := by omega
  have QH := Vl.hide (q)
  have UH := Vl.hide (fun k q => QH.out.blk (b := k) q)
  clear q bb
  go_wp2_with fail
  refine (Vl.eqIntS _ _ _ n Hc Sc G G _ QH.out.ints QS.out.ints (fun _ _ => rfl) ln).mono ?_
  rintro e W6 ⟨rfl, bb⟩
  replace QS := Vl.hide (QS.out.below bb)
  replace QG := Vl.hide (QG.out.below bb)
  replace QH := Vl.hide (QH.out.below bb)
  replace BW := Vl.hide (BW.out.trans (bb.mono BW.out.size))
  have sz6 : W5.heap.size ≤ W6.heap.size := bb.size
  have tz6 : W0.heap.size ≤ W6.heap.size := by omega
  clear bb
  go_wp2_with fail
  refine (Vl.heldIntS _ _ n _ 1 _ QG.out.ints ln (by omega) (by omega)).mono ?_
  rintro e w' ⟨rfl, hq⟩; have hq := hq.symm; subst hq
  go_wp2_with fail
  go_ret
  exact ⟨rfl, BW.out⟩

set_option maxRecDepth 100000 in
theorem lifted (os : Os) (started : os.Started) (H : Type) (enc : TypeId × Value → H) :
    ReturnsInHanded {} Try.checked os 5 .any (Rows.fnExactShuffleSpec.pre6 enc Try.prog Try.f5 Rows.fnExactShuffleRow.domain false) (Rows.fnExactShuffleSpec.post enc Try.prog Try.f5 false true false false) := by
  refine returnsInHanded_of_change (C := Try.checked) own started (by kernel_rfl) Try.func5
    (ChangeSpec.witness6 (enc := enc) (C := Try.checked) false ⟨#[], #[.int .i64 0, .int .i64 0], []⟩ 8 (by kernel_rfl) (by kernel_rfl) (by kernel_rfl) (by kernel_rfl)) ?_
  intro W base args ds gs before hval0 hW hcnd _
  have hval : ∀ (j : Nat) t v, Try.f5.params[j]? = some t → args[j]? = some v → Value.okWide Try.prog W .any base t v := hval0
  have hW' := hW
  obtain ⟨p, q, hA0, hV, rfl, hfz, hnd⟩ := hW
  have hA : DataW.TrodAll enc Try.prog W 0 (fun _ => true) true Try.f5.params.toList args.toList ds p := hA0
  rw [Try.params5] at hA hval
  obtain ⟨v0, vs0, d0, ds0, p0, q0, hargs, rfl, rfl, h0, rst0⟩ := trodAll_cons hA
  obtain ⟨v1, vs1, d1, ds1, p1, q1, rfl, rfl, rfl, h1, rst1⟩ := trodAll_cons rst0
  obtain ⟨rfl, rfl, rfl⟩ := trodAll_nil rst1
  obtain rfl : args = #[v0, v1] := by cases args; simp_all
  obtain ⟨rfl, rfl⟩ := trodVars_none hV
  have k0 := h0
  have lt0 : ∀ x ∈ p0, x.block < W.heap.size := by obtain ⟨m, hm⟩ := k0; exact DataW.trod_lt m _ _ _ hm
  obtain ⟨a0, rfl, e0, _, w0⟩ := open_int Try.underlying3 (hval 0 3 v0 rfl rfl) h0
  have k1 := h1
  have lt1 : ∀ x ∈ p1, x.block < W.heap.size := by obtain ⟨m, hm⟩ := k1; exact DataW.trod_lt m _ _ _ hm
  obtain ⟨a1, rfl, e1, _, w1⟩ := open_int Try.underlying3 (hval 1 3 v1 rfl rfl) h1
  clear hA0 hval0
  refine (walk a0 w0 a1 w1 W).mono fun e W' ⟨he, bel⟩ => ?_
  subst he
  exact ⟨_, rfl, _, _, _, [], _, [], hW', trodAll_mk1 (shut_bool Try.underlying4 _), (trodAll_cons_mk (Below.trod laidOut (by kernel_rfl) (of_decide_eq_true (by kernel_rfl)) k0 bel lt0) (trodAll_cons_mk (Below.trod laidOut (by kernel_rfl) (of_decide_eq_true (by kernel_rfl)) k1 bel lt1) trodAll_mk0)), rfl, bel.frame _, fun h => by cases h⟩

theorem over : Rows.fnExactShuffleRow.holds Try.pinned (OpenSpec.ofChange Rows.fnExactShuffleSpec) :=
  OpenClaim.holds_of_wide 5 Try.f5 rfl rfl rfl rfl rfl rfl rfl ⟨rfl, rfl, rfl, rfl, rfl⟩ rfl rfl rfl rfl rfl (by kernel_rfl) Try.func5 (by kernel_rfl)
    (of_decide_eq_true (by kernel_rfl)) (by unfold Func.isWrapper; first | (rw [if_pos (by decide +kernel)]; kernel_rfl) | (rw [if_neg (by decide +kernel)]; exact ⟨rfl, rfl⟩))
    (fun os started H enc _ => lifted os started H enc)

theorem proved : Rows.FnExactShuffleSaid := over
#print axioms proved
end Go.Proofs.Ytcnopdonnjemmaa.fnExactShuffle
