/-
  Proved: whatever the arguments, 'FnExactParts' returns true: the landed function answers as its model, and what came in reads as it did. No condition.
-/
import Derived.Test.YtcmfglhjlifobaaRows
import Derived.Test.YtcmfglhjlifobaaVl
import Derived.Test.YtcmfglhjlifobaaVp
import Derived.Test.YtcmfglhjlifobaaVs
import Derived.Test.YtcmfglhjlifobaaVq
import Derived.Test.YtcmfglhjlifobaaVo
import Derived.Test.YtcmfglhjlifobaaVm
import Derived.Test.YtcmfglhjlifobaaVn
import Derived.Test.YtcmfglhjlifobaaPa
import Derived.Test.YtcmfglhjlifobaaPb
import Derived.Test.YtcmfglhjlifobaaPc
import Derived.Test.YtcmfglhjlifobaaVc
import Derived.Test.YtcmfglhjlifobaaPd
import Derived.Test.YtcmfglhjlifobaaPe
import Derived.Test.YtcmfglhjlifobaaPf
import Derived.Test.YtcmfglhjlifobaaPg
import Derived.Test.YtcmfglhjlifobaaPh
import Derived.Test.YtcmfglhjlifobaaPi
import Derived.Test.YtcmfglhjlifobaaPj
import Derived.Test.YtcmfglhjlifobaaPk
import Derived.WalkKit
import Derived.ProofKit
import Derived.OpenShut
import Derived.ShutString
import Derived.ChangeOld
import Derived.Below
import Derived.Lib.SmallJoins
import Derived.OpenVars
import Derived.ChangeVars
import Derived.Deep.RegionHeld3
namespace Go.Proofs.Ytcmfglhjlifobaa.fnExactParts
open Go.ChangeShapes Go.WideShapes Go.ChangeAt Go.RowKit Go.Joins
open Go.ChangeMaps (open_string shut_string)
set_option linter.unusedVariables false
set_option linter.unusedSimpArgs false

theorem own : ownKnob Try.prog.godebug = none := by kernel_rfl
theorem laidOut : laidOutB Try.prog = true := by kernel_rfl

set_option maxRecDepth 100000 in
set_option maxHeartbeats 4000000 in
theorem walk (a0 : ByteArray) (w0 : a0.size ≤ maxLen) (w : World) :
    Calls Try.prog 3 #[.string a0] w fun e w' => e = .returned (.bool true) ∧ Below w.heap.size w w' := by
  unfold maxLen at w0
  by_cases h : 1048576 < a0.size
  · go_enter Try.func3, Try.ntmps3
    go_wp2_with fail
    go_ret
    exact ⟨rfl, Below.refl _ _⟩
  · have hs : (a0.size : Int) ≤ 1048576 := by omega
    have c : decide ((1048576 : Int) < (a0.size : Int)) = false := by rw [decide_eq_false_iff_not]; omega
    have hL : ((Vo.pL a0).length : Int) ≤ 1048577 := by have := Vo.pL_len a0; omega
    have bo : ((Vo.pO a0).toList == (Vo.pO a0).toList) = true := (Lib.bytes_beq_iff _ _).2 rfl
    clear h
    go_enter Try.func3, Try.ntmps3
    go_wp2_with fail
    refine (Vo.specParts a0 hs w).mono ?_; rintro e w1 ⟨v1, rfl, o1, b1⟩
    obtain ⟨a1, c1, rfl, _⟩ := Vo.own_shape o1
    have S1 := Vl.hide (Vo.ownT_of o1).stL
    have B1 := Vl.hide b1
    clear o1 b1
    go_wp2_with fail
    refine (Vo.partsF a0 hs w1).mono ?_; rintro e w2 ⟨v2, rfl, o2, b2⟩
    obtain ⟨a2, c2, rfl, _⟩ := Vo.own_shape o2
    have O2 := Vl.hide (Vo.ownT_of o2)
    have Q2 := Vl.hide b2
    clear o2 b2
    go_wp2_with fail
    refine (Vo.eqStrings w2.heap.size a2 a1 (Vo.pL a0).length c2 c1 (Vo.grT a0 (Vo.pL a0)) w2 O2.out.stL ((S1.out.below Q2.out).more Q2.out.size) hL).mono ?_; rintro e w3 ⟨rfl, b3⟩
    have O3 := Vl.hide (O2.out.below b3)
    have Q3 := Vl.hide (Q2.out.trans (b3.mono Q2.out.size))
    clear O2 Q2 b3
    go_wp2_with fail
    refine (Vo.markStrings w1.heap.size a2 (Vo.pL a0).length c2 _ 1 w3 O3.out Q3.out.size hL (by omega) (by omega)).mono ?_; rintro e w4 ⟨rfl, o4, k4⟩
    have O4 := Vl.hide o4
    have Q4 := Vl.hide (Q3.out.trans (k4.below Q3.out.size (fun b hb => O3.out.blk hb)))
    clear O3 Q3 o4 k4
    go_wp2_with fail
    refine (Vo.heldStrings w4.heap.size a2 (Vo.pL a0).length c2 1 w4 O4.out.stL (Nat.le_refl _) hL (by omega) (by omega)).mono ?_; rintro e w5 ⟨rfl, b5⟩
    have O5 := Vl.hide (O4.out.below b5)
    have Q5 := Vl.hide (Q4.out.trans (b5.mono Q4.out.size))
    clear O4 Q4 b5
    have n0 : decide (1 + ((Vo.pL a0).length : Int) < 0) = false := decide_eq_false (by omega)
    go_wp2_with fail
    refine (Vo.partsF a0 hs w5).mono ?_; rintro e w6 ⟨v6, rfl, o6, b6⟩
    obtain ⟨a6, c6, rfl, _⟩ := Vo.own_shape o6
    have O6 := Vl.hide (Vo.ownT_of o6)
    have O5' := Vl.hide (O5.out.below b6)
    have Q6 := Vl.hide (Q5.out.trans (b6.mono Q5.out.size))
    clear o6 b6 O5 Q5
    go_wp2_with fail
    refine (Vo.eqStrings w6.heap.size a6 a1 (Vo.pL a0).length c6 c1 (Vo.grT a0 (Vo.pL a0)) w6 O6.out.stL ((S1.out.below Q6.out).more Q6.out.size) hL).mono ?_; rintro e w7 ⟨rfl, b7⟩
    have O7 := Vl.hide (O5'.out.below b7)
    have Q7 := Vl.hide (Q6.out.trans (b7.mono Q6.out.size))
    clear O5' Q6 b7
    go_wp2_with fail
    refine (Vo.heldStrings w7.heap.size a2 (Vo.pL a0).length c2 1 w7 O7.out.stL (Nat.le_refl _) hL (by omega) (by omega)).mono ?_; rintro e w8 ⟨rfl, b8⟩
    have Q8 := Vl.hide (Q7.out.trans (b8.mono Q7.out.size))
    clear O7 Q7 b8
    go_wp2_with fail
    go_ret
    exact ⟨rfl, B1.out.trans (Q8.out.mono B1.out.size)⟩

set_option maxRecDepth 100000 in
theorem lifted (os : Os) (started : os.Started) (H : Type) (enc : TypeId × Value → H) :
    ReturnsInHanded {} Try.checked os 3 .any (Rows.fnExactPartsSpec.pre6 enc Try.prog Try.f3 Rows.fnExactPartsRow.domain false) (Rows.fnExactPartsSpec.post enc Try.prog Try.f3 false true false false) := by
  refine returnsInHanded_of_change (C := Try.checked) own started (by kernel_rfl) Try.func3
    (ChangeSpec.witness6 (enc := enc) (C := Try.checked) false ⟨#[], #[.string ByteArray.empty], []⟩ 8 (by kernel_rfl) (by kernel_rfl) (by kernel_rfl) (by kernel_rfl)) ?_
  intro W base args ds gs before hval0 hW hcnd _
  have hval : ∀ (j : Nat) t v, Try.f3.params[j]? = some t → args[j]? = some v → Value.okWide Try.prog W .any base t v := hval0
  have hW' := hW
  obtain ⟨p, q, hA0, hV, rfl, hfz, hnd⟩ := hW
  have hA : DataW.TrodAll enc Try.prog W 0 (fun _ => true) true Try.f3.params.toList args.toList ds p := hA0
  rw [Try.params3] at hA hval
  obtain ⟨v0, vs0, d0, ds0, p0, q0, hargs, rfl, rfl, h0, rst0⟩ := trodAll_cons hA
  obtain ⟨rfl, rfl, rfl⟩ := trodAll_nil rst0
  obtain rfl : args = #[v0] := by cases args; simp_all
  obtain ⟨rfl, rfl⟩ := trodVars_none hV
  have k0 := h0
  have lt0 : ∀ x ∈ p0, x.block < W.heap.size := by obtain ⟨m, hm⟩ := k0; exact DataW.trod_lt m _ _ _ hm
  obtain ⟨a0, rfl, e0, _, w0⟩ := open_string Try.underlying9 (hval 0 9 v0 rfl rfl) h0
  clear hA0 hval0
  refine (walk a0 w0 W).mono fun e W' ⟨he, bel⟩ => ?_
  subst he
  exact ⟨_, rfl, _, _, _, [], _, [], hW', trodAll_mk1 (shut_bool Try.underlying4 _), (trodAll_cons_mk (Below.trod laidOut (by kernel_rfl) (of_decide_eq_true (by kernel_rfl)) k0 bel lt0) trodAll_mk0), rfl, bel.frame _, fun h => by cases h⟩

theorem over : Rows.fnExactPartsRow.holds Try.pinned (OpenSpec.ofChange Rows.fnExactPartsSpec) :=
  OpenClaim.holds_of_wide 3 Try.f3 rfl rfl rfl rfl rfl rfl rfl ⟨rfl, rfl, rfl, rfl, rfl⟩ rfl rfl rfl rfl rfl (by kernel_rfl) Try.func3 (by kernel_rfl)
    (of_decide_eq_true (by kernel_rfl)) (by unfold Func.isWrapper; first | (rw [if_pos (by decide +kernel)]; kernel_rfl) | (rw [if_neg (by decide +kernel)]; exact ⟨rfl, rfl⟩))
    (fun os started H enc _ => lifted os started H enc)

theorem proved : Rows.FnExactPartsSaid := over
#print axioms proved
end Go.Proofs.Ytcmfglhjlifobaa.fnExactParts
