/-
  Proved: whatever the arguments, 'FnExactRequant' returns true: the landed function answers as its model, and what came in reads as it did. No condition.
-/
import Derived.Test.YtepbchkljamacabRows
import Derived.Test.YtepbchkljamacabVl
import Derived.Test.YtepbchkljamacabNea
import Derived.Test.YtepbchkljamacabIa
import Derived.Test.YtepbchkljamacabIb
import Derived.Test.YtepbchkljamacabIc
import Derived.Test.YtepbchkljamacabId
import Derived.WalkKit
import Derived.ProofKit
import Derived.OpenShut
import Derived.ShutString
import Derived.ChangeOld
import Derived.Below
import Derived.Lib.SmallJoins
import Derived.OpenVars
import Derived.ChangeVars
import Derived.Deep.RegionHeld3
namespace Go.Proofs.Ytepbchkljamacab.fnExactRequant
open Go.ChangeShapes Go.WideShapes Go.ChangeAt Go.RowKit Go.Joins
open Go.ChangeMaps (open_string shut_string)
set_option linter.unusedVariables false

theorem own : ownKnob Try.prog.godebug = none := by kernel_rfl
theorem laidOut : laidOutB Try.prog = true := by kernel_rfl

theorem walk (a0 : Int) (w0 : (Lit.int .i64 a0).wf = true) (a1 : Int) (w1 : (Lit.int .i64 a1).wf = true) (a2 : Int) (w2 : (Lit.int .i64 a2).wf = true) (x3 z3 : Int) (wx3 : (Lit.int .i64 x3).wf = true) (wz3 : (Lit.int .i64 z3).wf = true) (w : World) :
    Calls Try.prog 3 #[.int .i64 a0, .int .i64 a1, .int .i64 a2, .agg #[.int .i64 x3, .int .i64 z3]] w fun e w' => e = .returned (.bool true) ∧ Below w.heap.size w w' := by
  obtain ⟨v, -, hs, hi⟩ := Vo.reqBoth a0 a1 a2 x3 z3 (bounds_i64 w0) (bounds_i64 w1) (bounds_i64 w2) (bounds_i64 wx3) (bounds_i64 wz3)
  have HS := Vl.hide (hs)
  have HI := Vl.hide (hi)
  clear hs hi wx3 wz3 w0 w1 w2
  obtain ⟨WA, hWA⟩ : ∃ WA, w.alloc (.cells #[.int .i64 x3, .int .i64 z3] 23) = WA := ⟨_, rfl⟩
  have nWA : Below w.heap.size w WA := hWA ▸ (Below.refl _ _).alloc (Nat.le_refl _) _
  have mWA : Vo.Box2 WA w.heap.size x3 z3 := hWA ▸ Vo.box2_new _ _ _ _
  have BL : Hid (Below w.heap.size w WA) := Vl.hide (nWA)
  have KA := Vl.hide (mWA)
  clear nWA mWA
  obtain ⟨-, cA0, cA1⟩ := KA.out
  go_enter Try.func3, Try.ntmps3
  go_wp2_with fail
  refine (Vo.toScale x3 z3 _).mono ?_
  rintro e1 w1 ⟨rfl, q1⟩
  replace KA := Vl.hide (KA.out.below q1)
  clear cA0 cA1
  obtain ⟨-, cA0, cA1⟩ := KA.out
  replace BL := Vl.hide (BL.out.trans (q1.mono BL.out.size))
  clear q1
  go_wp2_with fail
  refine (HS.out _).mono ?_
  rintro e1 w2 ⟨rfl, q2⟩
  replace KA := Vl.hide (KA.out.below q2)
  clear cA0 cA1
  obtain ⟨-, cA0, cA1⟩ := KA.out
  replace BL := Vl.hide (BL.out.trans (q2.mono BL.out.size))
  clear q2
  go_wp2_with fail
  refine (Vo.toScale x3 z3 _).mono ?_
  rintro e1 w3 ⟨rfl, q3⟩
  replace KA := Vl.hide (KA.out.below q3)
  clear cA0 cA1
  obtain ⟨-, cA0, cA1⟩ := KA.out
  replace BL := Vl.hide (BL.out.trans (q3.mono BL.out.size))
  clear q3
  go_wp2_with fail
  refine (HI.out _).mono ?_
  rintro e1 w4 ⟨rfl, q4⟩
  replace KA := Vl.hide (KA.out.below q4)
  clear cA0 cA1
  obtain ⟨-, cA0, cA1⟩ := KA.out
  replace BL := Vl.hide (BL.out.trans (q4.mono BL.out.size))
  clear q4
  go_wp2_with fail
  go_ret
  exact ⟨rfl, BL.out⟩

set_option maxRecDepth 100000 in
theorem lifted (os : Os) (started : os.Started) (H : Type) (enc : TypeId × Value → H) :
    ReturnsInHanded {} Try.checked os 3 .any (Rows.fnExactRequantSpec.pre6 enc Try.prog Try.f3 Rows.fnExactRequantRow.domain false) (Rows.fnExactRequantSpec.post enc Try.prog Try.f3 false true false false) := by
  refine returnsInHanded_of_change (C := Try.checked) own started (by kernel_rfl) Try.func3
    (ChangeSpec.witness6 (enc := enc) (C := Try.checked) false ⟨#[], #[.int .i64 0, .int .i64 0, .int .i64 0, .agg #[.int .i64 0, .int .i64 0]], []⟩ 8 (by kernel_rfl) (by kernel_rfl) (by kernel_rfl) (by kernel_rfl)) ?_
  intro W base args ds gs before hval0 hW hcnd _
  have hval : ∀ (j : Nat) t v, Try.f3.params[j]? = some t → args[j]? = some v → Value.okWide Try.prog W .any base t v := hval0
  have hW' := hW
  obtain ⟨p, q, hA0, hV, rfl, hfz, hnd⟩ := hW
  have hA : DataW.TrodAll enc Try.prog W 0 (fun _ => true) true Try.f3.params.toList args.toList ds p := hA0
  rw [Try.params3] at hA hval
  obtain ⟨v0, vs0, d0, ds0, p0, q0, hargs, rfl, rfl, h0, rst0⟩ := trodAll_cons hA
  obtain ⟨v1, vs1, d1, ds1, p1, q1, rfl, rfl, rfl, h1, rst1⟩ := trodAll_cons rst0
  obtain ⟨v2, vs2, d2, ds2, p2, q2, rfl, rfl, rfl, h2, rst2⟩ := trodAll_cons rst1
  obtain ⟨v3, vs3, d3, ds3, p3, q3, rfl, rfl, rfl, h3, rst3⟩ := trodAll_cons rst2
  obtain ⟨rfl, rfl, rfl⟩ := trodAll_nil rst3
  obtain rfl : args = #[v0, v1, v2, v3] := by cases args; simp_all
  obtain ⟨rfl, rfl⟩ := trodVars_none hV
  have k0 := h0
  have lt0 : ∀ x ∈ p0, x.block < W.heap.size := by obtain ⟨m, hm⟩ := k0; exact DataW.trod_lt m _ _ _ hm
  obtain ⟨a0, rfl, e0, _, w0⟩ := open_int Try.underlying3 (hval 0 3 v0 rfl rfl) h0
  have k1 := h1
  have lt1 : ∀ x ∈ p1, x.block < W.heap.size := by obtain ⟨m, hm⟩ := k1; exact DataW.trod_lt m _ _ _ hm
  obtain ⟨a1, rfl, e1, _, w1⟩ := open_int Try.underlying3 (hval 1 3 v1 rfl rfl) h1
  have k2 := h2
  have lt2 : ∀ x ∈ p2, x.block < W.heap.size := by obtain ⟨m, hm⟩ := k2; exact DataW.trod_lt m _ _ _ hm
  obtain ⟨a2, rfl, e2, _, w2⟩ := open_int Try.underlying3 (hval 2 3 v2 rfl rfl) h2
  have k3 := h3
  have lt3 : ∀ x ∈ p3, x.block < W.heap.size := by obtain ⟨m, hm⟩ := k3; exact DataW.trod_lt m _ _ _ hm
  obtain ⟨c30, c31, u30, u31, m3, rfl, _, _, hy30, hy31⟩ := open_agg2 Try.underlying23 (by kernel_rfl) (by kernel_rfl) (hval 3 23 v3 rfl rfl) h3
  obtain ⟨x3, e30, _, wx3⟩ := DataW.trod_int Try.underlying3 hy30
  obtain ⟨z3, e31, _, wz3⟩ := DataW.trod_int Try.underlying3 hy31
  simp at e30 e31
  subst e30 e31
  clear hA0 hval0
  refine (walk a0 w0 a1 w1 a2 w2 x3 z3 wx3 wz3 W).mono fun e W' ⟨he, bel⟩ => ?_
  subst he
  exact ⟨_, rfl, _, _, _, [], _, [], hW', trodAll_mk1 (shut_bool Try.underlying4 _), (trodAll_cons_mk (Below.trod laidOut (by kernel_rfl) (of_decide_eq_true (by kernel_rfl)) k0 bel lt0) (trodAll_cons_mk (Below.trod laidOut (by kernel_rfl) (of_decide_eq_true (by kernel_rfl)) k1 bel lt1) (trodAll_cons_mk (Below.trod laidOut (by kernel_rfl) (of_decide_eq_true (by kernel_rfl)) k2 bel lt2) (trodAll_cons_mk (Below.trod laidOut (by kernel_rfl) (of_decide_eq_true (by kernel_rfl)) k3 bel lt3) trodAll_mk0)))), rfl, bel.frame _, fun h => by cases h⟩

theorem over : Rows.fnExactRequantRow.holds Try.pinned (OpenSpec.ofChange Rows.fnExactRequantSpec) :=
  OpenClaim.holds_of_wide 3 Try.f3 rfl rfl rfl rfl rfl rfl rfl ⟨rfl, rfl, rfl, rfl, rfl⟩ rfl rfl rfl rfl rfl (by kernel_rfl) Try.func3 (by kernel_rfl)
    (of_decide_eq_true (by kernel_rfl)) (by unfold Func.isWrapper; first | (rw [if_pos (by decide +kernel)]; kernel_rfl) | (rw [if_neg (by decide +kernel)]; exact ⟨rfl, rfl⟩))
    (fun os started H enc _ => lifted os started H enc)

theorem proved : Rows.FnExactRequantSaid := over
#print axioms proved
end Go.Proofs.Ytepbchkljamacab.fnExactRequant
