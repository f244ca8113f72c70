/-
  Proved: whatever the arguments, 'FnExactFactor' returns true: the landed function answers as its model, and what came in reads as it did. No condition.
-/
import Derived.Test.YtnnjkanmcfjblaaRows
import Derived.Test.YtnnjkanmcfjblaaShelf
import Derived.Test.YtnnjkanmcfjblaaVl
import Derived.Test.YtnnjkanmcfjblaaDv
import Derived.Test.YtnnjkanmcfjblaaDw
import Derived.Test.YtnnjkanmcfjblaaDx
import Derived.Test.YtnnjkanmcfjblaaIa
import Derived.Test.YtnnjkanmcfjblaaNea
import Derived.Test.YtnnjkanmcfjblaaIb
import Derived.Test.YtnnjkanmcfjblaaIc
import Derived.Test.YtnnjkanmcfjblaaIe
import Derived.Test.YtnnjkanmcfjblaaFa
import Derived.Test.YtnnjkanmcfjblaaFb
import Derived.Test.YtnnjkanmcfjblaaFc
import Derived.Test.YtnnjkanmcfjblaaFd
import Derived.Test.YtnnjkanmcfjblaaFe
import Derived.WalkKit
import Derived.ProofKit
import Derived.OpenShut
import Derived.ShutString
import Derived.ChangeOld
import Derived.Below
import Derived.Lib.SmallJoins
import Derived.OpenVars
import Derived.ChangeVars
import Derived.Deep.RegionHeld3
namespace Go.Proofs.Ytnnjkanmcfjblaa.fnExactFactor
open Go.ChangeShapes Go.WideShapes Go.ChangeAt Go.RowKit Go.Joins
open Go.ChangeMaps (open_string shut_string)
set_option linter.unusedVariables false

theorem own : ownKnob Try.prog.godebug = none := by kernel_rfl
theorem laidOut : laidOutB Try.prog = true := by kernel_rfl

theorem walk (x0 z0 : Int) (wx0 : (Lit.int .i64 x0).wf = true) (wz0 : (Lit.int .i64 z0).wf = true) (x1 z1 : Int) (wx1 : (Lit.int .i64 x1).wf = true) (wz1 : (Lit.int .i64 z1).wf = true) (x2 z2 : Int) (wx2 : (Lit.int .i64 x2).wf = true) (wz2 : (Lit.int .i64 z2).wf = true) (w : World) :
    Calls Try.prog 3 #[.agg #[.int .i64 x0, .int .i64 z0], .agg #[.int .i64 x1, .int .i64 z1], .agg #[.int .i64 x2, .int .i64 z2]] w fun e w' => e = .returned (.bool true) ∧ Below w.heap.size w w' := by
  obtain ⟨m, s, b, -, -, hs, hi⟩ := Vo.facBoth x0 z0 x1 z1 x2 z2 (bounds_i64 wx0) (bounds_i64 wz0) (bounds_i64 wx1) (bounds_i64 wz1) (bounds_i64 wx2) (bounds_i64 wz2)
  have HS := Vl.hide (hs)
  have HI := Vl.hide (hi)
  clear hs hi wx0 wz0 wx1 wz1 wx2 wz2
  obtain ⟨WA, hWA⟩ : ∃ WA, w.alloc (.cells #[.int .i64 x0, .int .i64 z0] 23) = WA := ⟨_, rfl⟩
  have nWA : Below w.heap.size w WA := hWA ▸ (Below.refl _ _).alloc (Nat.le_refl _) _
  have mWA : Vo.Box2 WA w.heap.size x0 z0 := hWA ▸ Vo.box2_new _ _ _ _
  obtain ⟨WB, hWB⟩ : ∃ WB, WA.alloc (.cells #[.int .i64 x1, .int .i64 z1] 23) = WB := ⟨_, rfl⟩
  have nWB : Below WA.heap.size WA WB := hWB ▸ (Below.refl _ _).alloc (Nat.le_refl _) _
  have mWB : Vo.Box2 WB WA.heap.size x1 z1 := hWB ▸ Vo.box2_new _ _ _ _
  obtain ⟨WC, hWC⟩ : ∃ WC, WB.alloc (.cells #[.int .i64 x2, .int .i64 z2] 23) = WC := ⟨_, rfl⟩
  have nWC : Below WB.heap.size WB WC := hWC ▸ (Below.refl _ _).alloc (Nat.le_refl _) _
  have mWC : Vo.Box2 WC WB.heap.size x2 z2 := hWC ▸ Vo.box2_new _ _ _ _
  have BL : Hid (Below w.heap.size w WC) := Vl.hide (((nWA).trans (nWB.mono (nWA).size)).trans (nWC.mono ((nWA).trans (nWB.mono (nWA).size)).size))
  have KA := Vl.hide (((mWA).below nWB).below nWC)
  have KB := Vl.hide ((mWB).below nWC)
  have KC := Vl.hide (mWC)
  clear nWA mWA
  clear nWB mWB
  clear nWC mWC
  obtain ⟨-, cA0, cA1⟩ := KA.out
  obtain ⟨-, cB0, cB1⟩ := KB.out
  obtain ⟨-, cC0, cC1⟩ := KC.out
  go_enter Try.func3, Try.ntmps3
  have CA0 := Vl.hide (fun d os => Calls.regrown_of (d := d) (os := os) (w := WC) (Vo.toScale x0 z0 _))
  have CB0 := Vl.hide (fun d os => Calls.regrown_of (d := d) (os := os) (w := WC) (Vo.toScale x1 z1 _))
  have CC0 := Vl.hide (fun d os => Calls.regrown_of (d := d) (os := os) (w := WC) (Vo.toScale x2 z2 _))
  have CF0 := Vl.hide (fun d os => Calls.regrown_of (d := d) (os := os) (w := WC) (HS.out _))
  have kA0 := cell_regrown cA0
  have kA1 := cell_regrown cA1
  clear cA0 cA1
  have kB0 := cell_regrown cB0
  have kB1 := cell_regrown cB1
  clear cB0 cB1
  have kC0 := cell_regrown cC0
  have kC1 := cell_regrown cC1
  clear cC0 cC1
  go_wp2_with fail
  refine wp_region_quiet_below (by kernel_rfl) (by kernel_rfl) ?_
  repeat (go_big_quiet_step (first | (go_at_call_of 6 (Value.agg #[Value.int IntKind.i64 x0, Value.int IntKind.i64 z0]); exact CA0.out _ _) | (go_at_call_of 6 (Value.agg #[Value.int IntKind.i64 x1, Value.int IntKind.i64 z1]); exact CB0.out _ _) | (go_at_call_of 6 (Value.agg #[Value.int IntKind.i64 x2, Value.int IntKind.i64 z2]); exact CC0.out _ _) | (go_at_call 5; exact CF0.out _ _)))
  refine wpQuiet_nil ?_
  intro _ hw'
  obtain ⟨⟨dq0, osq0⟩, hw''⟩ := hw'
  subst hw''
  obtain ⟨Q0, hQ0⟩ : ∃ Q, Q = Sort.grow (redrawn WC dq0) osq0 := ⟨_, rfl⟩
  rw [← hQ0]
  have q1 : Below WC.heap.size WC Q0 := hQ0 ▸ below_regrown _ _ _
  clear hQ0 kA0 kA1 CA0 kB0 kB1 CB0 kC0 kC1 CC0 CF0
  replace KA := Vl.hide (KA.out.below q1)
  obtain ⟨-, cA0, cA1⟩ := KA.out
  replace KB := Vl.hide (KB.out.below q1)
  obtain ⟨-, cB0, cB1⟩ := KB.out
  replace KC := Vl.hide (KC.out.below q1)
  obtain ⟨-, cC0, cC1⟩ := KC.out
  replace BL := Vl.hide (BL.out.trans (q1.mono BL.out.size))
  clear q1
  have CA1 := Vl.hide (fun d os => Calls.regrown_of (d := d) (os := os) (w := Q0) (Vo.toScale x0 z0 _))
  have CB1 := Vl.hide (fun d os => Calls.regrown_of (d := d) (os := os) (w := Q0) (Vo.toScale x1 z1 _))
  have CC1 := Vl.hide (fun d os => Calls.regrown_of (d := d) (os := os) (w := Q0) (Vo.toScale x2 z2 _))
  have CF1 := Vl.hide (fun d os => Calls.regrown_of (d := d) (os := os) (w := Q0) (HI.out _))
  have kA0 := cell_regrown cA0
  have kA1 := cell_regrown cA1
  clear cA0 cA1
  have kB0 := cell_regrown cB0
  have kB1 := cell_regrown cB1
  clear cB0 cB1
  have kC0 := cell_regrown cC0
  have kC1 := cell_regrown cC1
  clear cC0 cC1
  go_wp2_with fail
  refine wp_region_quiet_below (by kernel_rfl) (by kernel_rfl) ?_
  repeat (go_big_quiet_step (first | (go_at_call_of 6 (Value.agg #[Value.int IntKind.i64 x0, Value.int IntKind.i64 z0]); exact CA1.out _ _) | (go_at_call_of 6 (Value.agg #[Value.int IntKind.i64 x1, Value.int IntKind.i64 z1]); exact CB1.out _ _) | (go_at_call_of 6 (Value.agg #[Value.int IntKind.i64 x2, Value.int IntKind.i64 z2]); exact CC1.out _ _) | (go_at_call 7; exact CF1.out _ _)))
  refine wpQuiet_nil ?_
  intro _ hw'
  obtain ⟨⟨dq1, osq1⟩, hw''⟩ := hw'
  subst hw''
  obtain ⟨Q1, hQ1⟩ : ∃ Q, Q = Sort.grow (redrawn Q0 dq1) osq1 := ⟨_, rfl⟩
  rw [← hQ1]
  have q2 : Below Q0.heap.size Q0 Q1 := hQ1 ▸ below_regrown _ _ _
  clear hQ1 kA0 kA1 CA1 kB0 kB1 CB1 kC0 kC1 CC1 CF1
  replace KA := Vl.hide (KA.out.below q2)
  obtain ⟨-, cA0, cA1⟩ := KA.out
  replace KB := Vl.hide (KB.out.below q2)
  obtain ⟨-, cB0, cB1⟩ := KB.out
  replace KC := Vl.hide (KC.out.below q2)
  obtain ⟨-, cC0, cC1⟩ := KC.out
  replace BL := Vl.hide (BL.out.trans (q2.mono BL.out.size))
  clear q2
  go_wp2_with fail
  go_ret
  exact ⟨rfl, BL.out⟩

set_option maxRecDepth 100000 in
theorem lifted (os : Os) (started : os.Started) (H : Type) (enc : TypeId × Value → H) :
    ReturnsInHanded {} Try.checked os 3 .any (Rows.fnExactFactorSpec.pre6 enc Try.prog Try.f3 Rows.fnExactFactorRow.domain false) (Rows.fnExactFactorSpec.post enc Try.prog Try.f3 false true false false) := by
  refine returnsInHanded_of_change (C := Try.checked) own started (by kernel_rfl) Try.func3
    (ChangeSpec.witness6 (enc := enc) (C := Try.checked) false ⟨#[], #[.agg #[.int .i64 0, .int .i64 0], .agg #[.int .i64 0, .int .i64 0], .agg #[.int .i64 0, .int .i64 0]], []⟩ 8 (by kernel_rfl) (by kernel_rfl) (by kernel_rfl) (by kernel_rfl)) ?_
  intro W base args ds gs before hval0 hW hcnd _
  have hval : ∀ (j : Nat) t v, Try.f3.params[j]? = some t → args[j]? = some v → Value.okWide Try.prog W .any base t v := hval0
  have hW' := hW
  obtain ⟨p, q, hA0, hV, rfl, hfz, hnd⟩ := hW
  have hA : DataW.TrodAll enc Try.prog W 0 (fun _ => true) true Try.f3.params.toList args.toList ds p := hA0
  rw [Try.params3] at hA hval
  obtain ⟨v0, vs0, d0, ds0, p0, q0, hargs, rfl, rfl, h0, rst0⟩ := trodAll_cons hA
  obtain ⟨v1, vs1, d1, ds1, p1, q1, rfl, rfl, rfl, h1, rst1⟩ := trodAll_cons rst0
  obtain ⟨v2, vs2, d2, ds2, p2, q2, rfl, rfl, rfl, h2, rst2⟩ := trodAll_cons rst1
  obtain ⟨rfl, rfl, rfl⟩ := trodAll_nil rst2
  obtain rfl : args = #[v0, v1, v2] := by cases args; simp_all
  obtain ⟨rfl, rfl⟩ := trodVars_none hV
  have k0 := h0
  have lt0 : ∀ x ∈ p0, x.block < W.heap.size := by obtain ⟨m, hm⟩ := k0; exact DataW.trod_lt m _ _ _ hm
  obtain ⟨c00, c01, u00, u01, m0, rfl, _, _, hy00, hy01⟩ := open_agg2 Try.underlying23 (by kernel_rfl) (by kernel_rfl) (hval 0 23 v0 rfl rfl) h0
  obtain ⟨x0, e00, _, wx0⟩ := DataW.trod_int Try.underlying3 hy00
  obtain ⟨z0, e01, _, wz0⟩ := DataW.trod_int Try.underlying3 hy01
  simp at e00 e01
  subst e00 e01
  have k1 := h1
  have lt1 : ∀ x ∈ p1, x.block < W.heap.size := by obtain ⟨m, hm⟩ := k1; exact DataW.trod_lt m _ _ _ hm
  obtain ⟨c10, c11, u10, u11, m1, rfl, _, _, hy10, hy11⟩ := open_agg2 Try.underlying23 (by kernel_rfl) (by kernel_rfl) (hval 1 23 v1 rfl rfl) h1
  obtain ⟨x1, e10, _, wx1⟩ := DataW.trod_int Try.underlying3 hy10
  obtain ⟨z1, e11, _, wz1⟩ := DataW.trod_int Try.underlying3 hy11
  simp at e10 e11
  subst e10 e11
  have k2 := h2
  have lt2 : ∀ x ∈ p2, x.block < W.heap.size := by obtain ⟨m, hm⟩ := k2; exact DataW.trod_lt m _ _ _ hm
  obtain ⟨c20, c21, u20, u21, m2, rfl, _, _, hy20, hy21⟩ := open_agg2 Try.underlying23 (by kernel_rfl) (by kernel_rfl) (hval 2 23 v2 rfl rfl) h2
  obtain ⟨x2, e20, _, wx2⟩ := DataW.trod_int Try.underlying3 hy20
  obtain ⟨z2, e21, _, wz2⟩ := DataW.trod_int Try.underlying3 hy21
  simp at e20 e21
  subst e20 e21
  clear hA0 hval0
  refine (walk x0 z0 wx0 wz0 x1 z1 wx1 wz1 x2 z2 wx2 wz2 W).mono fun e W' ⟨he, bel⟩ => ?_
  subst he
  exact ⟨_, rfl, _, _, _, [], _, [], hW', trodAll_mk1 (shut_bool Try.underlying4 _), (trodAll_cons_mk (Below.trod laidOut (by kernel_rfl) (of_decide_eq_true (by kernel_rfl)) k0 bel lt0) (trodAll_cons_mk (Below.trod laidOut (by kernel_rfl) (of_decide_eq_true (by kernel_rfl)) k1 bel lt1) (trodAll_cons_mk (Below.trod laidOut (by kernel_rfl) (of_decide_eq_true (by kernel_rfl)) k2 bel lt2) trodAll_mk0))), rfl, bel.frame _, fun h => by cases h⟩

theorem over : Rows.fnExactFactorRow.holds Try.pinned (OpenSpec.ofChange Rows.fnExactFactorSpec) :=
  OpenClaim.holds_of_wide 3 Try.f3 rfl rfl rfl rfl rfl rfl rfl ⟨rfl, rfl, rfl, rfl, rfl⟩ rfl rfl rfl rfl rfl (by kernel_rfl) Try.func3 (by kernel_rfl)
    (of_decide_eq_true (by kernel_rfl)) (by unfold Func.isWrapper; first | (rw [if_pos (by decide +kernel)]; kernel_rfl) | (rw [if_neg (by decide +kernel)]; exact ⟨rfl, rfl⟩))
    (fun os started H enc _ => lifted os started H enc)

theorem proved : Rows.FnExactFactorSaid := over
#print axioms proved
end Go.Proofs.Ytnnjkanmcfjblaa.fnExactFactor
