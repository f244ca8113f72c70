/-
  Proved: whatever the arguments, 'FnExactResize' returns true: the landed function answers as its model, and what came in reads as it did. No condition.
-/
import Derived.Test.YtcnopdonnjemmabRows
import Derived.Test.YtcnopdonnjemmabVl
import Derived.Test.YtcnopdonnjemmabNea
import Derived.Test.YtcnopdonnjemmabIa
import Derived.Test.YtcnopdonnjemmabIb
import Derived.Test.YtcnopdonnjemmabIc
import Derived.Test.YtcnopdonnjemmabIe
import Derived.Test.YtcnopdonnjemmabWg
import Derived.Test.YtcnopdonnjemmabQt
import Derived.Test.YtcnopdonnjemmabAr
import Derived.Test.YtcnopdonnjemmabWh
import Derived.Test.YtcnopdonnjemmabWi
import Derived.WalkKit
import Derived.ProofKit
import Derived.OpenShut
import Derived.ShutString
import Derived.ChangeOld
import Derived.Below
import Derived.Lib.SmallJoins
import Derived.OpenVars
import Derived.ChangeVars
import Derived.Deep.RegionHeld3
namespace Go.Proofs.Ytcnopdonnjemmab.fnExactResize
open Go.ChangeShapes Go.WideShapes Go.ChangeAt Go.RowKit Go.Joins
open Go.ChangeMaps (open_string shut_string)
set_option linter.unusedVariables false

theorem own : ownKnob Try.prog.godebug = none := by kernel_rfl
theorem laidOut : laidOutB Try.prog = true := by kernel_rfl

theorem walk (x0a x0b x0c x0d x0e x0f : Int) (bx0a : Vl.bd x0a) (bx0b : Vl.bd x0b) (bx0c : Vl.bd x0c) (bx0d : Vl.bd x0d) (bx0e : Vl.bd x0e) (bx0f : Vl.bd x0f) (a1 : Int) (w1 : (Lit.int .i64 a1).wf = true) (w : World) :
    Calls Try.prog 3 #[.agg #[.int .i64 x0a, .int .i64 x0b, .int .i64 x0c, .int .i64 x0d, .int .i64 x0e, .int .i64 x0f], .int .i64 a1] w fun e w' => e = .returned (.bool true) ∧ Below w.heap.size w w' := by
  obtain ⟨a', b', s', e', t', k', o, hs, hi⟩ := Vo.resizeBoth x0a x0b x0c x0d x0e x0f a1 bx0a bx0b bx0c bx0d bx0e bx0f (bounds_i64 w1)
  have HS := Vl.hide (hs)
  have HI := Vl.hide (hi)
  clear hs hi w1 bx0a bx0b bx0c bx0d bx0e bx0f
  obtain ⟨WA, hWA⟩ : ∃ WA, w.alloc (.cells #[.int .i64 x0a, .int .i64 x0b, .int .i64 x0c, .int .i64 x0d, .int .i64 x0e, .int .i64 x0f] 23) = WA := ⟨_, rfl⟩
  have nWA : Below w.heap.size w WA := hWA ▸ (Below.refl _ _).alloc (Nat.le_refl _) _
  have mWA : Vo.Box6 WA w.heap.size x0a x0b x0c x0d x0e x0f := hWA ▸ Vo.box6_new _ _ _ _ _ _ _ _
  have BL : Hid (Below w.heap.size w WA) := Vl.hide (nWA)
  have KA := Vl.hide (mWA)
  clear nWA mWA
  obtain ⟨-, cA0, cA1, cA2, cA3, cA4, cA5⟩ := KA.out
  go_enter Try.func3, Try.ntmps3
  go_wp2_with fail
  refine (Vo.toFeed x0a x0b x0c x0d x0e x0f _).mono ?_
  rintro e1 w1 ⟨rfl, q1⟩
  replace KA := Vl.hide (KA.out.below q1)
  clear cA0 cA1 cA2 cA3 cA4 cA5
  obtain ⟨-, cA0, cA1, cA2, cA3, cA4, cA5⟩ := KA.out
  replace BL := Vl.hide (BL.out.trans (q1.mono BL.out.size))
  clear q1
  go_wp2_with fail
  refine (HS.out _).mono ?_
  rintro e1 w2 ⟨rfl, q2⟩
  replace KA := Vl.hide (KA.out.below q2)
  clear cA0 cA1 cA2 cA3 cA4 cA5
  obtain ⟨-, cA0, cA1, cA2, cA3, cA4, cA5⟩ := KA.out
  replace BL := Vl.hide (BL.out.trans (q2.mono BL.out.size))
  clear q2
  obtain ⟨WB, hWB⟩ : ∃ WB, w2.alloc (.cells #[.int .i64 a', .int .i64 b', .int .i64 s', .int .i64 e', .int .i64 t', .int .i64 k'] 24) = WB := ⟨_, rfl⟩
  have nWB : Below w2.heap.size w2 WB := hWB ▸ (Below.refl _ _).alloc (Nat.le_refl _) _
  have KB := Vl.hide (show Vo.Box6 WB w2.heap.size a' b' s' e' t' k' from hWB ▸ Vo.box6_new _ _ _ _ _ _ _ _)
  replace KA := Vl.hide (KA.out.below nWB)
  clear cA0 cA1 cA2 cA3 cA4 cA5
  obtain ⟨-, cA0, cA1, cA2, cA3, cA4, cA5⟩ := KA.out
  obtain ⟨-, cB0, cB1, cB2, cB3, cB4, cB5⟩ := KB.out
  replace BL := Vl.hide (BL.out.trans (nWB.mono BL.out.size))
  clear nWB
  go_wp2_with fail
  refine (Vo.toFeed x0a x0b x0c x0d x0e x0f _).mono ?_
  rintro e1 w3 ⟨rfl, q3⟩
  replace KA := Vl.hide (KA.out.below q3)
  clear cA0 cA1 cA2 cA3 cA4 cA5
  obtain ⟨-, cA0, cA1, cA2, cA3, cA4, cA5⟩ := KA.out
  replace KB := Vl.hide (KB.out.below q3)
  clear cB0 cB1 cB2 cB3 cB4 cB5
  obtain ⟨-, cB0, cB1, cB2, cB3, cB4, cB5⟩ := KB.out
  replace BL := Vl.hide (BL.out.trans (q3.mono BL.out.size))
  clear q3
  clear hWB
  go_wp2_with fail
  refine (HI.out _).mono ?_
  rintro e1 w4 ⟨rfl, q4⟩
  replace KA := Vl.hide (KA.out.below q4)
  clear cA0 cA1 cA2 cA3 cA4 cA5
  obtain ⟨-, cA0, cA1, cA2, cA3, cA4, cA5⟩ := KA.out
  replace KB := Vl.hide (KB.out.below q4)
  clear cB0 cB1 cB2 cB3 cB4 cB5
  obtain ⟨-, cB0, cB1, cB2, cB3, cB4, cB5⟩ := KB.out
  replace BL := Vl.hide (BL.out.trans (q4.mono BL.out.size))
  clear q4
  obtain ⟨WC, hWC⟩ : ∃ WC, w4.alloc (.cells #[.int .i64 a', .int .i64 b', .int .i64 s', .int .i64 e', .int .i64 t', .int .i64 k'] 24) = WC := ⟨_, rfl⟩
  have nWC : Below w4.heap.size w4 WC := hWC ▸ (Below.refl _ _).alloc (Nat.le_refl _) _
  have KC := Vl.hide (show Vo.Box6 WC w4.heap.size a' b' s' e' t' k' from hWC ▸ Vo.box6_new _ _ _ _ _ _ _ _)
  replace KA := Vl.hide (KA.out.below nWC)
  clear cA0 cA1 cA2 cA3 cA4 cA5
  obtain ⟨-, cA0, cA1, cA2, cA3, cA4, cA5⟩ := KA.out
  replace KB := Vl.hide (KB.out.below nWC)
  clear cB0 cB1 cB2 cB3 cB4 cB5
  obtain ⟨-, cB0, cB1, cB2, cB3, cB4, cB5⟩ := KB.out
  obtain ⟨-, cC0, cC1, cC2, cC3, cC4, cC5⟩ := KC.out
  replace BL := Vl.hide (BL.out.trans (nWC.mono BL.out.size))
  clear nWC
  go_wp2_with fail
  refine (Vo.eqFeed a' b' s' e' t' k' _).mono ?_
  rintro e1 w5 ⟨rfl, q5⟩
  replace KA := Vl.hide (KA.out.below q5)
  clear cA0 cA1 cA2 cA3 cA4 cA5
  obtain ⟨-, cA0, cA1, cA2, cA3, cA4, cA5⟩ := KA.out
  replace KB := Vl.hide (KB.out.below q5)
  clear cB0 cB1 cB2 cB3 cB4 cB5
  obtain ⟨-, cB0, cB1, cB2, cB3, cB4, cB5⟩ := KB.out
  replace KC := Vl.hide (KC.out.below q5)
  clear cC0 cC1 cC2 cC3 cC4 cC5
  obtain ⟨-, cC0, cC1, cC2, cC3, cC4, cC5⟩ := KC.out
  replace BL := Vl.hide (BL.out.trans (q5.mono BL.out.size))
  clear q5
  go_wp2_with fail
  go_ret
  exact ⟨rfl, BL.out⟩

set_option maxRecDepth 100000 in
theorem lifted (os : Os) (started : os.Started) (H : Type) (enc : TypeId × Value → H) :
    ReturnsInHanded {} Try.checked os 3 .any (Rows.fnExactResizeSpec.pre6 enc Try.prog Try.f3 Rows.fnExactResizeRow.domain false) (Rows.fnExactResizeSpec.post enc Try.prog Try.f3 false true false false) := by
  refine returnsInHanded_of_change (C := Try.checked) own started (by kernel_rfl) Try.func3
    (ChangeSpec.witness6 (enc := enc) (C := Try.checked) false ⟨#[], #[.agg #[.int .i64 0, .int .i64 0, .int .i64 0, .int .i64 0, .int .i64 0, .int .i64 0], .int .i64 0], []⟩ 8 (by kernel_rfl) (by kernel_rfl) (by kernel_rfl) (by kernel_rfl)) ?_
  intro W base args ds gs before hval0 hW hcnd _
  have hval : ∀ (j : Nat) t v, Try.f3.params[j]? = some t → args[j]? = some v → Value.okWide Try.prog W .any base t v := hval0
  have hW' := hW
  obtain ⟨p, q, hA0, hV, rfl, hfz, hnd⟩ := hW
  have hA : DataW.TrodAll enc Try.prog W 0 (fun _ => true) true Try.f3.params.toList args.toList ds p := hA0
  rw [Try.params3] at hA hval
  obtain ⟨v0, vs0, d0, ds0, p0, q0, hargs, rfl, rfl, h0, rst0⟩ := trodAll_cons hA
  obtain ⟨v1, vs1, d1, ds1, p1, q1, rfl, rfl, rfl, h1, rst1⟩ := trodAll_cons rst0
  obtain ⟨rfl, rfl, rfl⟩ := trodAll_nil rst1
  obtain rfl : args = #[v0, v1] := by cases args; simp_all
  obtain ⟨rfl, rfl⟩ := trodVars_none hV
  have k0 := h0
  have lt0 : ∀ x ∈ p0, x.block < W.heap.size := by obtain ⟨m, hm⟩ := k0; exact DataW.trod_lt m _ _ _ hm
  obtain ⟨x0a, x0b, x0c, x0d, x0e, x0f, rfl, bx0a, bx0b, bx0c, bx0d, bx0e, bx0f⟩ := Vo.feed_at (hval 0 23 v0 rfl rfl) h0
  have k1 := h1
  have lt1 : ∀ x ∈ p1, x.block < W.heap.size := by obtain ⟨m, hm⟩ := k1; exact DataW.trod_lt m _ _ _ hm
  obtain ⟨a1, rfl, e1, _, w1⟩ := open_int Try.underlying3 (hval 1 3 v1 rfl rfl) h1
  clear hA0 hval0
  refine (walk x0a x0b x0c x0d x0e x0f bx0a bx0b bx0c bx0d bx0e bx0f a1 w1 W).mono fun e W' ⟨he, bel⟩ => ?_
  subst he
  exact ⟨_, rfl, _, _, _, [], _, [], hW', trodAll_mk1 (shut_bool Try.underlying4 _), (trodAll_cons_mk (Below.trod laidOut (by kernel_rfl) (of_decide_eq_true (by kernel_rfl)) k0 bel lt0) (trodAll_cons_mk (Below.trod laidOut (by kernel_rfl) (of_decide_eq_true (by kernel_rfl)) k1 bel lt1) trodAll_mk0)), rfl, bel.frame _, fun h => by cases h⟩

theorem over : Rows.fnExactResizeRow.holds Try.pinned (OpenSpec.ofChange Rows.fnExactResizeSpec) :=
  OpenClaim.holds_of_wide 3 Try.f3 rfl rfl rfl rfl rfl rfl rfl ⟨rfl, rfl, rfl, rfl, rfl⟩ rfl rfl rfl rfl rfl (by kernel_rfl) Try.func3 (by kernel_rfl)
    (of_decide_eq_true (by kernel_rfl)) (by unfold Func.isWrapper; first | (rw [if_pos (by decide +kernel)]; kernel_rfl) | (rw [if_neg (by decide +kernel)]; exact ⟨rfl, rfl⟩))
    (fun os started H enc _ => lifted os started H enc)

theorem proved : Rows.FnExactResizeSaid := over
#print axioms proved
end Go.Proofs.Ytcnopdonnjemmab.fnExactResize
