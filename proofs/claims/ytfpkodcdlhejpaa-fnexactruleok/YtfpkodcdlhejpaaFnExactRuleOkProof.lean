/-
  Proved: whatever the arguments, 'FnExactRuleOk' returns true: the landed function answers as its model, and what came in reads as it did. No condition.
-/
import Derived.Test.YtfpkodcdlhejpaaRows
import Derived.Test.YtfpkodcdlhejpaaVl
import Derived.Test.YtfpkodcdlhejpaaNea
import Derived.Test.YtfpkodcdlhejpaaIa
import Derived.Test.YtfpkodcdlhejpaaIb
import Derived.Test.YtfpkodcdlhejpaaIc
import Derived.Test.YtfpkodcdlhejpaaIe
import Derived.Test.YtfpkodcdlhejpaaEb
import Derived.Test.YtfpkodcdlhejpaaEa
import Derived.Test.YtfpkodcdlhejpaaEc
import Derived.Test.YtfpkodcdlhejpaaAr
import Derived.Test.YtfpkodcdlhejpaaEf
import Derived.WalkKit
import Derived.ProofKit
import Derived.OpenShut
import Derived.ShutString
import Derived.ChangeOld
import Derived.Below
import Derived.Lib.SmallJoins
import Derived.OpenVars
import Derived.ChangeVars
import Derived.Deep.RegionHeld3
namespace Go.Proofs.Ytfpkodcdlhejpaa.fnExactRuleOk
open Go.ChangeShapes Go.WideShapes Go.ChangeAt Go.RowKit Go.Joins
open Go.ChangeMaps (open_string shut_string)
set_option linter.unusedVariables false

theorem own : ownKnob Try.prog.godebug = none := by kernel_rfl
theorem laidOut : laidOutB Try.prog = true := by kernel_rfl

theorem walk (x0a x0b x0c x0d x0e x0f x0g x0h x0i x0j x0k : Int) (bx0a : Vl.bd x0a) (bx0b : Vl.bd x0b) (bx0c : Vl.bd x0c) (bx0d : Vl.bd x0d) (bx0e : Vl.bd x0e) (bx0f : Vl.bd x0f) (bx0g : Vl.bd x0g) (bx0h : Vl.bd x0h) (bx0i : Vl.bd x0i) (bx0j : Vl.bd x0j) (bx0k : Vl.bd x0k) (w : World) :
    Calls Try.prog 8 #[.agg #[.int .i64 x0a, .int .i64 x0b, .int .i64 x0c, .int .i64 x0d, .int .i64 x0e, .int .i64 x0f, .int .i64 x0g, .int .i64 x0h, .int .i64 x0i, .int .i64 x0j, .int .i64 x0k]] w fun e w' => e = .returned (.bool true) ∧ Below w.heap.size w w' := by
  obtain ⟨hs, hi⟩ : (∀ w, Calls Try.prog 24 #[.agg #[.int .i64 x0a, .int .i64 x0b, .int .i64 x0c, .int .i64 x0d, .int .i64 x0e, .int .i64 x0f, .int .i64 x0g, .int .i64 x0h, .int .i64 x0i, .int .i64 x0j, .int .i64 x0k]] w fun e w' => e = .returned (.bool (Vo.rulOk x0a x0b x0c x0d x0e x0f x0g x0h x0i x0j x0k)) ∧ Below w.heap.size w w') ∧ (∀ w, Calls Try.prog 26 #[.agg #[.int .i64 x0a, .int .i64 x0b, .int .i64 x0c, .int .i64 x0d, .int .i64 x0e, .int .i64 x0f, .int .i64 x0g, .int .i64 x0h, .int .i64 x0i, .int .i64 x0j, .int .i64 x0k]] w fun e w' => e = .returned (.bool (Vo.rulOk x0a x0b x0c x0d x0e x0f x0g x0h x0i x0j x0k)) ∧ Below w.heap.size w w') := ⟨fun w => Vo.specRule x0a x0b x0c x0d x0e x0f x0g x0h x0i x0j x0k w bx0a bx0b bx0c bx0d bx0e bx0f bx0g bx0h bx0i bx0j bx0k, fun w => Vo.implRule x0a x0b x0c x0d x0e x0f x0g x0h x0i x0j x0k w bx0a bx0b bx0c bx0d bx0e bx0f bx0g bx0h bx0i bx0j bx0k⟩
  obtain ⟨v, hv⟩ : ∃ v, v = Vo.rulOk x0a x0b x0c x0d x0e x0f x0g x0h x0i x0j x0k := ⟨_, rfl⟩
  rw [← hv] at hs hi
  have HS := Vl.hide (hs)
  have HI := Vl.hide (hi)
  clear hs hi hv
  obtain ⟨WA, hWA⟩ : ∃ WA, w.alloc (.cells #[.int .i64 x0a, .int .i64 x0b, .int .i64 x0c, .int .i64 x0d, .int .i64 x0e, .int .i64 x0f, .int .i64 x0g, .int .i64 x0h, .int .i64 x0i, .int .i64 x0j, .int .i64 x0k] 41) = WA := ⟨_, rfl⟩
  have nWA : Below w.heap.size w WA := hWA ▸ (Below.refl _ _).alloc (Nat.le_refl _) _
  have mWA : Vo.Box11 WA w.heap.size x0a x0b x0c x0d x0e x0f x0g x0h x0i x0j x0k := hWA ▸ Vo.box11_new _ _ _ _ _ _ _ _ _ _ _ _ _
  have BL : Hid (Below w.heap.size w WA) := Vl.hide (nWA)
  have KA := Vl.hide (mWA)
  clear nWA mWA
  obtain ⟨-, cA0, cA1, cA2, cA3, cA4, cA5, cA6, cA7, cA8, cA9, cA10⟩ := KA.out
  go_enter Try.func8, Try.ntmps8
  go_wp2_with fail
  refine (Vo.toRule x0a x0b x0c x0d x0e x0f x0g x0h x0i x0j x0k _).mono ?_
  rintro e1 w1 ⟨rfl, q1⟩
  replace KA := Vl.hide (KA.out.below q1)
  clear cA0 cA1 cA2 cA3 cA4 cA5 cA6 cA7 cA8 cA9 cA10
  obtain ⟨-, cA0, cA1, cA2, cA3, cA4, cA5, cA6, cA7, cA8, cA9, cA10⟩ := KA.out
  replace BL := Vl.hide (BL.out.trans (q1.mono BL.out.size))
  clear q1
  go_wp2_with fail
  refine (HS.out _).mono ?_
  rintro e1 w2 ⟨rfl, q2⟩
  replace KA := Vl.hide (KA.out.below q2)
  clear cA0 cA1 cA2 cA3 cA4 cA5 cA6 cA7 cA8 cA9 cA10
  obtain ⟨-, cA0, cA1, cA2, cA3, cA4, cA5, cA6, cA7, cA8, cA9, cA10⟩ := KA.out
  replace BL := Vl.hide (BL.out.trans (q2.mono BL.out.size))
  clear q2
  go_wp2_with fail
  refine (Vo.toRule x0a x0b x0c x0d x0e x0f x0g x0h x0i x0j x0k _).mono ?_
  rintro e1 w3 ⟨rfl, q3⟩
  replace KA := Vl.hide (KA.out.below q3)
  clear cA0 cA1 cA2 cA3 cA4 cA5 cA6 cA7 cA8 cA9 cA10
  obtain ⟨-, cA0, cA1, cA2, cA3, cA4, cA5, cA6, cA7, cA8, cA9, cA10⟩ := KA.out
  replace BL := Vl.hide (BL.out.trans (q3.mono BL.out.size))
  clear q3
  go_wp2_with fail
  refine (HI.out _).mono ?_
  rintro e1 w4 ⟨rfl, q4⟩
  replace KA := Vl.hide (KA.out.below q4)
  clear cA0 cA1 cA2 cA3 cA4 cA5 cA6 cA7 cA8 cA9 cA10
  obtain ⟨-, cA0, cA1, cA2, cA3, cA4, cA5, cA6, cA7, cA8, cA9, cA10⟩ := KA.out
  replace BL := Vl.hide (BL.out.trans (q4.mono BL.out.size))
  clear q4
  go_wp2_with fail
  go_ret
  exact ⟨rfl, BL.out⟩

set_option maxRecDepth 100000 in
theorem lifted (os : Os) (started : os.Started) (H : Type) (enc : TypeId × Value → H) :
    ReturnsInHanded {} Try.checked os 8 .any (Rows.fnExactRuleOkSpec.pre6 enc Try.prog Try.f8 Rows.fnExactRuleOkRow.domain false) (Rows.fnExactRuleOkSpec.post enc Try.prog Try.f8 false true false false) := by
  refine returnsInHanded_of_change (C := Try.checked) own started (by kernel_rfl) Try.func8
    (ChangeSpec.witness6 (enc := enc) (C := Try.checked) false ⟨#[], #[.agg #[.int .i64 0, .int .i64 0, .int .i64 0, .int .i64 0, .int .i64 0, .int .i64 0, .int .i64 0, .int .i64 0, .int .i64 0, .int .i64 0, .int .i64 0]], []⟩ 8 (by kernel_rfl) (by kernel_rfl) (by kernel_rfl) (by kernel_rfl)) ?_
  intro W base args ds gs before hval0 hW hcnd _
  have hval : ∀ (j : Nat) t v, Try.f8.params[j]? = some t → args[j]? = some v → Value.okWide Try.prog W .any base t v := hval0
  have hW' := hW
  obtain ⟨p, q, hA0, hV, rfl, hfz, hnd⟩ := hW
  have hA : DataW.TrodAll enc Try.prog W 0 (fun _ => true) true Try.f8.params.toList args.toList ds p := hA0
  rw [Try.params8] at hA hval
  obtain ⟨v0, vs0, d0, ds0, p0, q0, hargs, rfl, rfl, h0, rst0⟩ := trodAll_cons hA
  obtain ⟨rfl, rfl, rfl⟩ := trodAll_nil rst0
  obtain rfl : args = #[v0] := by cases args; simp_all
  obtain ⟨rfl, rfl⟩ := trodVars_none hV
  have k0 := h0
  have lt0 : ∀ x ∈ p0, x.block < W.heap.size := by obtain ⟨m, hm⟩ := k0; exact DataW.trod_lt m _ _ _ hm
  obtain ⟨x0a, x0b, x0c, x0d, x0e, x0f, x0g, x0h, x0i, x0j, x0k, rfl, bx0a, bx0b, bx0c, bx0d, bx0e, bx0f, bx0g, bx0h, bx0i, bx0j, bx0k⟩ := Vo.rule_at (hval 0 41 v0 rfl rfl) h0
  clear hA0 hval0
  refine (walk x0a x0b x0c x0d x0e x0f x0g x0h x0i x0j x0k bx0a bx0b bx0c bx0d bx0e bx0f bx0g bx0h bx0i bx0j bx0k W).mono fun e W' ⟨he, bel⟩ => ?_
  subst he
  exact ⟨_, rfl, _, _, _, [], _, [], hW', trodAll_mk1 (shut_bool Try.underlying4 _), (trodAll_cons_mk (Below.trod laidOut (by kernel_rfl) (of_decide_eq_true (by kernel_rfl)) k0 bel lt0) trodAll_mk0), rfl, bel.frame _, fun h => by cases h⟩

theorem over : Rows.fnExactRuleOkRow.holds Try.pinned (OpenSpec.ofChange Rows.fnExactRuleOkSpec) :=
  OpenClaim.holds_of_wide 8 Try.f8 rfl rfl rfl rfl rfl rfl rfl ⟨rfl, rfl, rfl, rfl, rfl⟩ rfl rfl rfl rfl rfl (by kernel_rfl) Try.func8 (by kernel_rfl)
    (of_decide_eq_true (by kernel_rfl)) (by unfold Func.isWrapper; first | (rw [if_pos (by decide +kernel)]; kernel_rfl) | (rw [if_neg (by decide +kernel)]; exact ⟨rfl, rfl⟩))
    (fun os started H enc _ => lifted os started H enc)

theorem proved : Rows.FnExactRuleOkSaid := over
#print axioms proved
end Go.Proofs.Ytfpkodcdlhejpaa.fnExactRuleOk
