/-
  Proved: whatever the arguments, 'FnExactValue' returns true: the landed function answers as its model, and what came in reads as it did. No condition.
-/
import Derived.Test.YtepbchkljamacaaRows
import Derived.Test.YtepbchkljamacaaVl
import Derived.Test.YtepbchkljamacaaNea
import Derived.Test.YtepbchkljamacaaIa
import Derived.Test.YtepbchkljamacaaIb
import Derived.Test.YtepbchkljamacaaIc
import Derived.WalkKit
import Derived.ProofKit
import Derived.OpenShut
import Derived.ShutString
import Derived.ChangeOld
import Derived.Below
import Derived.Lib.SmallJoins
import Derived.OpenVars
import Derived.ChangeVars
import Derived.Deep.RegionHeld3
namespace Go.Proofs.Ytepbchkljamacaa.fnExactValue
open Go.ChangeShapes Go.WideShapes Go.ChangeAt Go.RowKit Go.Joins
open Go.ChangeMaps (open_string shut_string)
set_option linter.unusedVariables false

theorem own : ownKnob Try.prog.godebug = none := by kernel_rfl
theorem laidOut : laidOutB Try.prog = true := by kernel_rfl

theorem walk (x0 z0 : Int) (wx0 : (Lit.int .i64 x0).wf = true) (wz0 : (Lit.int .i64 z0).wf = true) (a1 : Int) (w1 : (Lit.int .i64 a1).wf = true) (w : World) :
    Calls Try.prog 5 #[.agg #[.int .i64 x0, .int .i64 z0], .int .i64 a1] w fun e w' => e = .returned (.bool true) ∧ Below w.heap.size w w' := by
  obtain ⟨v, -, -, hs, hi⟩ := Vo.valueBoth x0 z0 a1 (bounds_i64 wx0) (bounds_i64 wz0) (bounds_i64 w1)
  have HS := Vl.hide (hs)
  have HI := Vl.hide (hi)
  clear hs hi wx0 wz0 w1
  obtain ⟨WA, hWA⟩ : ∃ WA, w.alloc (.cells #[.int .i64 x0, .int .i64 z0] 23) = WA := ⟨_, rfl⟩
  have nWA : Below w.heap.size w WA := hWA ▸ (Below.refl _ _).alloc (Nat.le_refl _) _
  have mWA : Vo.Box2 WA w.heap.size x0 z0 := hWA ▸ Vo.box2_new _ _ _ _
  have BL : Hid (Below w.heap.size w WA) := Vl.hide (nWA)
  have KA := Vl.hide (mWA)
  clear nWA mWA
  obtain ⟨-, cA0, cA1⟩ := KA.out
  go_enter Try.func5, Try.ntmps5
  go_wp2_with fail
  refine (Vo.toScale x0 z0 _).mono ?_
  rintro e1 w1 ⟨rfl, q1⟩
  replace KA := Vl.hide (KA.out.below q1)
  clear cA0 cA1
  obtain ⟨-, cA0, cA1⟩ := KA.out
  replace BL := Vl.hide (BL.out.trans (q1.mono BL.out.size))
  clear q1
  go_wp2_with fail
  refine (HS.out _).mono ?_
  rintro e1 w2 ⟨rfl, q2⟩
  replace KA := Vl.hide (KA.out.below q2)
  clear cA0 cA1
  obtain ⟨-, cA0, cA1⟩ := KA.out
  replace BL := Vl.hide (BL.out.trans (q2.mono BL.out.size))
  clear q2
  go_wp2_with fail
  refine (Vo.toScale x0 z0 _).mono ?_
  rintro e1 w3 ⟨rfl, q3⟩
  replace KA := Vl.hide (KA.out.below q3)
  clear cA0 cA1
  obtain ⟨-, cA0, cA1⟩ := KA.out
  replace BL := Vl.hide (BL.out.trans (q3.mono BL.out.size))
  clear q3
  go_wp2_with fail
  refine (HI.out _).mono ?_
  rintro e1 w4 ⟨rfl, q4⟩
  replace KA := Vl.hide (KA.out.below q4)
  clear cA0 cA1
  obtain ⟨-, cA0, cA1⟩ := KA.out
  replace BL := Vl.hide (BL.out.trans (q4.mono BL.out.size))
  clear q4
  go_wp2_with fail
  go_ret
  exact ⟨rfl, BL.out⟩

set_option maxRecDepth 100000 in
theorem lifted (os : Os) (started : os.Started) (H : Type) (enc : TypeId × Value → H) :
    ReturnsInHanded {} Try.checked os 5 .any (Rows.fnExactValueSpec.pre6 enc Try.prog Try.f5 Rows.fnExactValueRow.domain false) (Rows.fnExactValueSpec.post enc Try.prog Try.f5 false true false false) := by
  refine returnsInHanded_of_change (C := Try.checked) own started (by kernel_rfl) Try.func5
    (ChangeSpec.witness6 (enc := enc) (C := Try.checked) false ⟨#[], #[.agg #[.int .i64 0, .int .i64 0], .int .i64 0], []⟩ 8 (by kernel_rfl) (by kernel_rfl) (by kernel_rfl) (by kernel_rfl)) ?_
  intro W base args ds gs before hval0 hW hcnd _
  have hval : ∀ (j : Nat) t v, Try.f5.params[j]? = some t → args[j]? = some v → Value.okWide Try.prog W .any base t v := hval0
  have hW' := hW
  obtain ⟨p, q, hA0, hV, rfl, hfz, hnd⟩ := hW
  have hA : DataW.TrodAll enc Try.prog W 0 (fun _ => true) true Try.f5.params.toList args.toList ds p := hA0
  rw [Try.params5] at hA hval
  obtain ⟨v0, vs0, d0, ds0, p0, q0, hargs, rfl, rfl, h0, rst0⟩ := trodAll_cons hA
  obtain ⟨v1, vs1, d1, ds1, p1, q1, rfl, rfl, rfl, h1, rst1⟩ := trodAll_cons rst0
  obtain ⟨rfl, rfl, rfl⟩ := trodAll_nil rst1
  obtain rfl : args = #[v0, v1] := by cases args; simp_all
  obtain ⟨rfl, rfl⟩ := trodVars_none hV
  have k0 := h0
  have lt0 : ∀ x ∈ p0, x.block < W.heap.size := by obtain ⟨m, hm⟩ := k0; exact DataW.trod_lt m _ _ _ hm
  obtain ⟨c00, c01, u00, u01, m0, rfl, _, _, hy00, hy01⟩ := open_agg2 Try.underlying23 (by kernel_rfl) (by kernel_rfl) (hval 0 23 v0 rfl rfl) h0
  obtain ⟨x0, e00, _, wx0⟩ := DataW.trod_int Try.underlying3 hy00
  obtain ⟨z0, e01, _, wz0⟩ := DataW.trod_int Try.underlying3 hy01
  simp at e00 e01
  subst e00 e01
  have k1 := h1
  have lt1 : ∀ x ∈ p1, x.block < W.heap.size := by obtain ⟨m, hm⟩ := k1; exact DataW.trod_lt m _ _ _ hm
  obtain ⟨a1, rfl, e1, _, w1⟩ := open_int Try.underlying3 (hval 1 3 v1 rfl rfl) h1
  clear hA0 hval0
  refine (walk x0 z0 wx0 wz0 a1 w1 W).mono fun e W' ⟨he, bel⟩ => ?_
  subst he
  exact ⟨_, rfl, _, _, _, [], _, [], hW', trodAll_mk1 (shut_bool Try.underlying4 _), (trodAll_cons_mk (Below.trod laidOut (by kernel_rfl) (of_decide_eq_true (by kernel_rfl)) k0 bel lt0) (trodAll_cons_mk (Below.trod laidOut (by kernel_rfl) (of_decide_eq_true (by kernel_rfl)) k1 bel lt1) trodAll_mk0)), rfl, bel.frame _, fun h => by cases h⟩

theorem over : Rows.fnExactValueRow.holds Try.pinned (OpenSpec.ofChange Rows.fnExactValueSpec) :=
  OpenClaim.holds_of_wide 5 Try.f5 rfl rfl rfl rfl rfl rfl rfl ⟨rfl, rfl, rfl, rfl, rfl⟩ rfl rfl rfl rfl rfl (by kernel_rfl) Try.func5 (by kernel_rfl)
    (of_decide_eq_true (by kernel_rfl)) (by unfold Func.isWrapper; first | (rw [if_pos (by decide +kernel)]; kernel_rfl) | (rw [if_neg (by decide +kernel)]; exact ⟨rfl, rfl⟩))
    (fun os started H enc _ => lifted os started H enc)

theorem proved : Rows.FnExactValueSaid := over
#print axioms proved
end Go.Proofs.Ytepbchkljamacaa.fnExactValue
