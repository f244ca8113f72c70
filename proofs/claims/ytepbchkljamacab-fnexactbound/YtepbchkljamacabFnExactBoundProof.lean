/-
  Proved: whatever the arguments, 'FnExactBound' returns true: the landed function answers as its model, and what came in reads as it did. No condition.
-/
import Derived.Test.YtepbchkljamacabRows
import Derived.Test.YtepbchkljamacabVl
import Derived.Test.YtepbchkljamacabNea
import Derived.Test.YtepbchkljamacabIa
import Derived.Test.YtepbchkljamacabIb
import Derived.Test.YtepbchkljamacabIc
import Derived.Test.YtepbchkljamacabIe
import Derived.Test.YtepbchkljamacabIf
import Derived.WalkKit
import Derived.ProofKit
import Derived.OpenShut
import Derived.ShutString
import Derived.ChangeOld
import Derived.Below
import Derived.Lib.SmallJoins
import Derived.OpenVars
import Derived.ChangeVars
import Derived.Deep.RegionHeld3
namespace Go.Proofs.Ytepbchkljamacab.fnExactBound
open Go.ChangeShapes Go.WideShapes Go.ChangeAt Go.RowKit Go.Joins
open Go.ChangeMaps (open_string shut_string)
set_option linter.unusedVariables false

theorem own : ownKnob Try.prog.godebug = none := by kernel_rfl
theorem laidOut : laidOutB Try.prog = true := by kernel_rfl

theorem walk (a0 : Int) (w0 : (Lit.int .i64 a0).wf = true) (x1 z1 : Int) (wx1 : (Lit.int .i64 x1).wf = true) (wz1 : (Lit.int .i64 z1).wf = true) (x2 z2 : Int) (wx2 : (Lit.int .i64 x2).wf = true) (wz2 : (Lit.int .i64 z2).wf = true) (x3 z3 : Int) (wx3 : (Lit.int .i64 x3).wf = true) (wz3 : (Lit.int .i64 z3).wf = true) (a4 : Int) (w4 : (Lit.int .i64 a4).wf = true) (a5 : Int) (w5 : (Lit.int .i64 a5).wf = true) (w : World) :
    Calls Try.prog 4 #[.int .i64 a0, .agg #[.int .i64 x1, .int .i64 z1], .agg #[.int .i64 x2, .int .i64 z2], .agg #[.int .i64 x3, .int .i64 z3], .int .i64 a4, .int .i64 a5] w fun e w' => e = .returned (.bool true) ∧ Below w.heap.size w w' := by
  obtain ⟨v, hs, hi⟩ := Vo.bndBoth a0 x1 z1 x2 z2 x3 z3 a4 a5 (bounds_i64 w0) (bounds_i64 wx1) (bounds_i64 wz1) (bounds_i64 wx2) (bounds_i64 wz2) (bounds_i64 wx3) (bounds_i64 wz3) (bounds_i64 w4) (bounds_i64 w5)
  have HS := Vl.hide (hs)
  have HI := Vl.hide (hi)
  clear hs hi wx1 wz1 wx2 wz2 wx3 wz3 w0 w4 w5
  obtain ⟨WA, hWA⟩ : ∃ WA, w.alloc (.cells #[.int .i64 x1, .int .i64 z1] 23) = WA := ⟨_, rfl⟩
  have nWA : Below w.heap.size w WA := hWA ▸ (Below.refl _ _).alloc (Nat.le_refl _) _
  have mWA : Vo.Box2 WA w.heap.size x1 z1 := hWA ▸ Vo.box2_new _ _ _ _
  obtain ⟨WB, hWB⟩ : ∃ WB, WA.alloc (.cells #[.int .i64 x2, .int .i64 z2] 23) = WB := ⟨_, rfl⟩
  have nWB : Below WA.heap.size WA WB := hWB ▸ (Below.refl _ _).alloc (Nat.le_refl _) _
  have mWB : Vo.Box2 WB WA.heap.size x2 z2 := hWB ▸ Vo.box2_new _ _ _ _
  obtain ⟨WC, hWC⟩ : ∃ WC, WB.alloc (.cells #[.int .i64 x3, .int .i64 z3] 23) = WC := ⟨_, rfl⟩
  have nWC : Below WB.heap.size WB WC := hWC ▸ (Below.refl _ _).alloc (Nat.le_refl _) _
  have mWC : Vo.Box2 WC WB.heap.size x3 z3 := hWC ▸ Vo.box2_new _ _ _ _
  have BL : Hid (Below w.heap.size w WC) := Vl.hide (((nWA).trans (nWB.mono (nWA).size)).trans (nWC.mono ((nWA).trans (nWB.mono (nWA).size)).size))
  have KA := Vl.hide (((mWA).below nWB).below nWC)
  have KB := Vl.hide ((mWB).below nWC)
  have KC := Vl.hide (mWC)
  clear nWA mWA
  clear nWB mWB
  clear nWC mWC
  obtain ⟨-, cA0, cA1⟩ := KA.out
  obtain ⟨-, cB0, cB1⟩ := KB.out
  obtain ⟨-, cC0, cC1⟩ := KC.out
  go_enter Try.func4, Try.ntmps4
  have CA0 := Vl.hide (fun d os => Calls.regrown_of (d := d) (os := os) (w := WC) (Vo.toScale x1 z1 _))
  have CB0 := Vl.hide (fun d os => Calls.regrown_of (d := d) (os := os) (w := WC) (Vo.toScale x2 z2 _))
  have CC0 := Vl.hide (fun d os => Calls.regrown_of (d := d) (os := os) (w := WC) (Vo.toScale x3 z3 _))
  have CF0 := Vl.hide (fun d os => Calls.regrown_of (d := d) (os := os) (w := WC) (HS.out _))
  have kA0 := cell_regrown cA0
  have kA1 := cell_regrown cA1
  clear cA0 cA1
  have kB0 := cell_regrown cB0
  have kB1 := cell_regrown cB1
  clear cB0 cB1
  have kC0 := cell_regrown cC0
  have kC1 := cell_regrown cC1
  clear cC0 cC1
  go_wp2_with fail
  refine wp_region_quiet_below (by kernel_rfl) (by kernel_rfl) ?_
  repeat (go_big_quiet_step (first | (go_at_call_of 6 (Value.agg #[Value.int IntKind.i64 x1, Value.int IntKind.i64 z1]); exact CA0.out _ _) | (go_at_call_of 6 (Value.agg #[Value.int IntKind.i64 x2, Value.int IntKind.i64 z2]); exact CB0.out _ _) | (go_at_call_of 6 (Value.agg #[Value.int IntKind.i64 x3, Value.int IntKind.i64 z3]); exact CC0.out _ _) | (go_at_call 8; exact CF0.out _ _)))
  refine wpQuiet_nil ?_
  intro _ hw'
  obtain ⟨⟨dq0, osq0⟩, hw''⟩ := hw'
  subst hw''
  obtain ⟨Q0, hQ0⟩ : ∃ Q, Q = Sort.grow (redrawn WC dq0) osq0 := ⟨_, rfl⟩
  rw [← hQ0]
  have q1 : Below WC.heap.size WC Q0 := hQ0 ▸ below_regrown _ _ _
  clear hQ0 kA0 kA1 CA0 kB0 kB1 CB0 kC0 kC1 CC0 CF0
  replace KA := Vl.hide (KA.out.below q1)
  obtain ⟨-, cA0, cA1⟩ := KA.out
  replace KB := Vl.hide (KB.out.below q1)
  obtain ⟨-, cB0, cB1⟩ := KB.out
  replace KC := Vl.hide (KC.out.below q1)
  obtain ⟨-, cC0, cC1⟩ := KC.out
  replace BL := Vl.hide (BL.out.trans (q1.mono BL.out.size))
  clear q1
  have CA1 := Vl.hide (fun d os => Calls.regrown_of (d := d) (os := os) (w := Q0) (Vo.toScale x1 z1 _))
  have CB1 := Vl.hide (fun d os => Calls.regrown_of (d := d) (os := os) (w := Q0) (Vo.toScale x2 z2 _))
  have CC1 := Vl.hide (fun d os => Calls.regrown_of (d := d) (os := os) (w := Q0) (Vo.toScale x3 z3 _))
  have CF1 := Vl.hide (fun d os => Calls.regrown_of (d := d) (os := os) (w := Q0) (HI.out _))
  have kA0 := cell_regrown cA0
  have kA1 := cell_regrown cA1
  clear cA0 cA1
  have kB0 := cell_regrown cB0
  have kB1 := cell_regrown cB1
  clear cB0 cB1
  have kC0 := cell_regrown cC0
  have kC1 := cell_regrown cC1
  clear cC0 cC1
  go_wp2_with fail
  refine wp_region_quiet_below (by kernel_rfl) (by kernel_rfl) ?_
  repeat (go_big_quiet_step (first | (go_at_call_of 6 (Value.agg #[Value.int IntKind.i64 x1, Value.int IntKind.i64 z1]); exact CA1.out _ _) | (go_at_call_of 6 (Value.agg #[Value.int IntKind.i64 x2, Value.int IntKind.i64 z2]); exact CB1.out _ _) | (go_at_call_of 6 (Value.agg #[Value.int IntKind.i64 x3, Value.int IntKind.i64 z3]); exact CC1.out _ _) | (go_at_call 9; exact CF1.out _ _)))
  refine wpQuiet_nil ?_
  intro _ hw'
  obtain ⟨⟨dq1, osq1⟩, hw''⟩ := hw'
  subst hw''
  obtain ⟨Q1, hQ1⟩ : ∃ Q, Q = Sort.grow (redrawn Q0 dq1) osq1 := ⟨_, rfl⟩
  rw [← hQ1]
  have q2 : Below Q0.heap.size Q0 Q1 := hQ1 ▸ below_regrown _ _ _
  clear hQ1 kA0 kA1 CA1 kB0 kB1 CB1 kC0 kC1 CC1 CF1
  replace KA := Vl.hide (KA.out.below q2)
  obtain ⟨-, cA0, cA1⟩ := KA.out
  replace KB := Vl.hide (KB.out.below q2)
  obtain ⟨-, cB0, cB1⟩ := KB.out
  replace KC := Vl.hide (KC.out.below q2)
  obtain ⟨-, cC0, cC1⟩ := KC.out
  replace BL := Vl.hide (BL.out.trans (q2.mono BL.out.size))
  clear q2
  go_wp2_with fail
  go_ret
  exact ⟨rfl, BL.out⟩

set_option maxRecDepth 100000 in
theorem lifted (os : Os) (started : os.Started) (H : Type) (enc : TypeId × Value → H) :
    ReturnsInHanded {} Try.checked os 4 .any (Rows.fnExactBoundSpec.pre6 enc Try.prog Try.f4 Rows.fnExactBoundRow.domain false) (Rows.fnExactBoundSpec.post enc Try.prog Try.f4 false true false false) := by
  refine returnsInHanded_of_change (C := Try.checked) own started (by kernel_rfl) Try.func4
    (ChangeSpec.witness6 (enc := enc) (C := Try.checked) false ⟨#[], #[.int .i64 0, .agg #[.int .i64 0, .int .i64 0], .agg #[.int .i64 0, .int .i64 0], .agg #[.int .i64 0, .int .i64 0], .int .i64 0, .int .i64 0], []⟩ 8 (by kernel_rfl) (by kernel_rfl) (by kernel_rfl) (by kernel_rfl)) ?_
  intro W base args ds gs before hval0 hW hcnd _
  have hval : ∀ (j : Nat) t v, Try.f4.params[j]? = some t → args[j]? = some v → Value.okWide Try.prog W .any base t v := hval0
  have hW' := hW
  obtain ⟨p, q, hA0, hV, rfl, hfz, hnd⟩ := hW
  have hA : DataW.TrodAll enc Try.prog W 0 (fun _ => true) true Try.f4.params.toList args.toList ds p := hA0
  rw [Try.params4] at hA hval
  obtain ⟨v0, vs0, d0, ds0, p0, q0, hargs, rfl, rfl, h0, rst0⟩ := trodAll_cons hA
  obtain ⟨v1, vs1, d1, ds1, p1, q1, rfl, rfl, rfl, h1, rst1⟩ := trodAll_cons rst0
  obtain ⟨v2, vs2, d2, ds2, p2, q2, rfl, rfl, rfl, h2, rst2⟩ := trodAll_cons rst1
  obtain ⟨v3, vs3, d3, ds3, p3, q3, rfl, rfl, rfl, h3, rst3⟩ := trodAll_cons rst2
  obtain ⟨v4, vs4, d4, ds4, p4, q4, rfl, rfl, rfl, h4, rst4⟩ := trodAll_cons rst3
  obtain ⟨v5, vs5, d5, ds5, p5, q5, rfl, rfl, rfl, h5, rst5⟩ := trodAll_cons rst4
  obtain ⟨rfl, rfl, rfl⟩ := trodAll_nil rst5
  obtain rfl : args = #[v0, v1, v2, v3, v4, v5] := by cases args; simp_all
  obtain ⟨rfl, rfl⟩ := trodVars_none hV
  have k0 := h0
  have lt0 : ∀ x ∈ p0, x.block < W.heap.size := by obtain ⟨m, hm⟩ := k0; exact DataW.trod_lt m _ _ _ hm
  obtain ⟨a0, rfl, e0, _, w0⟩ := open_int Try.underlying3 (hval 0 3 v0 rfl rfl) h0
  have k1 := h1
  have lt1 : ∀ x ∈ p1, x.block < W.heap.size := by obtain ⟨m, hm⟩ := k1; exact DataW.trod_lt m _ _ _ hm
  obtain ⟨c10, c11, u10, u11, m1, rfl, _, _, hy10, hy11⟩ := open_agg2 Try.underlying23 (by kernel_rfl) (by kernel_rfl) (hval 1 23 v1 rfl rfl) h1
  obtain ⟨x1, e10, _, wx1⟩ := DataW.trod_int Try.underlying3 hy10
  obtain ⟨z1, e11, _, wz1⟩ := DataW.trod_int Try.underlying3 hy11
  simp at e10 e11
  subst e10 e11
  have k2 := h2
  have lt2 : ∀ x ∈ p2, x.block < W.heap.size := by obtain ⟨m, hm⟩ := k2; exact DataW.trod_lt m _ _ _ hm
  obtain ⟨c20, c21, u20, u21, m2, rfl, _, _, hy20, hy21⟩ := open_agg2 Try.underlying23 (by kernel_rfl) (by kernel_rfl) (hval 2 23 v2 rfl rfl) h2
  obtain ⟨x2, e20, _, wx2⟩ := DataW.trod_int Try.underlying3 hy20
  obtain ⟨z2, e21, _, wz2⟩ := DataW.trod_int Try.underlying3 hy21
  simp at e20 e21
  subst e20 e21
  have k3 := h3
  have lt3 : ∀ x ∈ p3, x.block < W.heap.size := by obtain ⟨m, hm⟩ := k3; exact DataW.trod_lt m _ _ _ hm
  obtain ⟨c30, c31, u30, u31, m3, rfl, _, _, hy30, hy31⟩ := open_agg2 Try.underlying23 (by kernel_rfl) (by kernel_rfl) (hval 3 23 v3 rfl rfl) h3
  obtain ⟨x3, e30, _, wx3⟩ := DataW.trod_int Try.underlying3 hy30
  obtain ⟨z3, e31, _, wz3⟩ := DataW.trod_int Try.underlying3 hy31
  simp at e30 e31
  subst e30 e31
  have k4 := h4
  have lt4 : ∀ x ∈ p4, x.block < W.heap.size := by obtain ⟨m, hm⟩ := k4; exact DataW.trod_lt m _ _ _ hm
  obtain ⟨a4, rfl, e4, _, w4⟩ := open_int Try.underlying3 (hval 4 3 v4 rfl rfl) h4
  have k5 := h5
  have lt5 : ∀ x ∈ p5, x.block < W.heap.size := by obtain ⟨m, hm⟩ := k5; exact DataW.trod_lt m _ _ _ hm
  obtain ⟨a5, rfl, e5, _, w5⟩ := open_int Try.underlying3 (hval 5 3 v5 rfl rfl) h5
  clear hA0 hval0
  refine (walk a0 w0 x1 z1 wx1 wz1 x2 z2 wx2 wz2 x3 z3 wx3 wz3 a4 w4 a5 w5 W).mono fun e W' ⟨he, bel⟩ => ?_
  subst he
  exact ⟨_, rfl, _, _, _, [], _, [], hW', trodAll_mk1 (shut_bool Try.underlying4 _), (trodAll_cons_mk (Below.trod laidOut (by kernel_rfl) (of_decide_eq_true (by kernel_rfl)) k0 bel lt0) (trodAll_cons_mk (Below.trod laidOut (by kernel_rfl) (of_decide_eq_true (by kernel_rfl)) k1 bel lt1) (trodAll_cons_mk (Below.trod laidOut (by kernel_rfl) (of_decide_eq_true (by kernel_rfl)) k2 bel lt2) (trodAll_cons_mk (Below.trod laidOut (by kernel_rfl) (of_decide_eq_true (by kernel_rfl)) k3 bel lt3) (trodAll_cons_mk (Below.trod laidOut (by kernel_rfl) (of_decide_eq_true (by kernel_rfl)) k4 bel lt4) (trodAll_cons_mk (Below.trod laidOut (by kernel_rfl) (of_decide_eq_true (by kernel_rfl)) k5 bel lt5) trodAll_mk0)))))), rfl, bel.frame _, fun h => by cases h⟩

theorem over : Rows.fnExactBoundRow.holds Try.pinned (OpenSpec.ofChange Rows.fnExactBoundSpec) :=
  OpenClaim.holds_of_wide 4 Try.f4 rfl rfl rfl rfl rfl rfl rfl ⟨rfl, rfl, rfl, rfl, rfl⟩ rfl rfl rfl rfl rfl (by kernel_rfl) Try.func4 (by kernel_rfl)
    (of_decide_eq_true (by kernel_rfl)) (by unfold Func.isWrapper; first | (rw [if_pos (by decide +kernel)]; kernel_rfl) | (rw [if_neg (by decide +kernel)]; exact ⟨rfl, rfl⟩))
    (fun os started H enc _ => lifted os started H enc)

theorem proved : Rows.FnExactBoundSaid := over
#print axioms proved
end Go.Proofs.Ytepbchkljamacab.fnExactBound
