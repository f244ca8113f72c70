/-
  Proved: whatever the arguments, 'FnExactCodeOk' returns true: the landed function answers as its model, and what came in reads as it did. No condition.
-/
import Derived.Test.YtpllbamldhgjkaaRows
import Derived.Test.YtpllbamldhgjkaaVl
import Derived.Test.YtpllbamldhgjkaaAr
import Derived.Test.YtpllbamldhgjkaaCa
import Derived.Test.YtpllbamldhgjkaaCb
import Derived.Test.YtpllbamldhgjkaaCc
import Derived.Test.YtpllbamldhgjkaaCd
import Derived.Test.YtpllbamldhgjkaaCe
import Derived.WalkKit
import Derived.ProofKit
import Derived.OpenShut
import Derived.ShutString
import Derived.ChangeOld
import Derived.Below
import Derived.Lib.SmallJoins
import Derived.OpenVars
import Derived.ChangeVars
import Derived.Deep.RegionHeld3
namespace Go.Proofs.Ytpllbamldhgjkaa.fnExactCodeOk
open Go.ChangeShapes Go.WideShapes Go.ChangeAt Go.RowKit Go.Joins
open Go.ChangeMaps (open_string shut_string)
set_option linter.unusedVariables false
set_option linter.unusedSimpArgs false

theorem own : ownKnob Try.prog.godebug = none := by kernel_rfl
theorem laidOut : laidOutB Try.prog = true := by kernel_rfl

set_option maxRecDepth 100000 in
set_option maxHeartbeats 4000000 in
theorem walk (a0 : Option Addr) (r0 cap0 : Nat) (w : World) (w0 : Vo.ArgI w a0 r0) :
    Calls Try.prog 3 #[.slice a0 r0 cap0] w fun e w' => e = .returned (.bool true) ∧ Below w.heap.size w w' := by
  obtain ⟨hr0, C0, hh0⟩ := w0
  have H0 := Vl.hide hh0
  clear hh0
  go_enter Try.func3, Try.ntmps3
  go_wp2_with fail
  refine (Vo.szInstrS a0 r0 cap0 1048576 _ (by omega) (by omega) hr0).mono ?_
  rintro e W1 ⟨x0, rfl, hx0, rfl⟩
  by_cases hn0 : x0 < 0
  · clear hx0
    go_wp2_with fail
    go_ret
    exact ⟨rfl, Below.refl _ _⟩
  have hm0 : decide (x0 < 0) = false := by rw [decide_eq_false_iff_not]; exact hn0
  have l0 : (r0 : Int) ≤ 1048576 := by unfold Vl.Sz at hx0; omega
  clear hn0 hx0
  have T0 := Vl.hide (fun (W : World) (hb : Below W1.heap.size W1 W) => Vo.toInstrS W1.heap.size a0 r0 cap0 C0 W hb.size (H0.out.below hb) l0)
  go_wp2_with fail
  refine (T0.out _ (Below.refl _ _)).mono ?_
  rintro e W2 ⟨U, rfl, o2, s2, b2⟩
  have B2 := Vl.hide b2
  have O2 := Vl.hide o2
  have S2 := Vl.hide s2
  clear b2 o2 s2
  go_wp2_with fail
  refine (Vo.specCodeOk _ _ r0 r0 U _ (Nat.le_refl _) O2.out.read l0).mono ?_
  rintro e W4 ⟨rfl, b4⟩
  rw [Vo.cde_same S2.out]
  have B4 := Vl.hide (B2.out.trans (b4.mono B2.out.size))
  clear b4 O2 S2
  go_wp2_with fail
  refine (T0.out _ B4.out).mono ?_
  rintro e W5 ⟨U5, rfl, o5, s5, b5⟩
  have B5 := Vl.hide (B4.out.trans (b5.mono B4.out.size))
  have O5 := Vl.hide o5
  have S5 := Vl.hide s5
  clear b5 o5 s5
  go_wp2_with fail
  refine (Vo.codeOkF _ _ r0 r0 U5 _ (Nat.le_refl _) O5.out.read l0).mono ?_
  rintro e W7 ⟨rfl, b7⟩
  rw [Vo.cde_same S5.out]
  have B7 := Vl.hide (B5.out.trans (b7.mono B5.out.size))
  have O7 := Vl.hide (O5.out.below b7)
  clear b7 O5
  generalize decide (Vo.CdeOk r0 C0) = ans
  go_wp2_with fail
  refine (T0.out _ B7.out).mono ?_
  rintro e W8 ⟨U8, rfl, o8, s8, b8⟩
  have B8 := Vl.hide (B7.out.trans (b8.mono B7.out.size))
  have O8 := Vl.hide (O7.out.below b8)
  have N8 := Vl.hide o8
  have S8 := Vl.hide s8
  clear o8 s8 O7
  go_wp2_with fail
  refine (Vo.eqInstrS W8.heap.size _ _ r0 r0 r0 U5 U8 _ (Nat.le_refl _) O8.out.read N8.out.read l0 (fun i hi => by rw [S8.out i hi, S5.out i hi])).mono ?_
  rintro e W9 ⟨rfl, b9⟩
  have B9 := Vl.hide (B8.out.trans (b9.mono B8.out.size))
  clear b9 b8
  go_wp2_with fail
  go_ret
  exact ⟨rfl, B9.out⟩

set_option maxRecDepth 100000 in
theorem lifted (os : Os) (started : os.Started) (H : Type) (enc : TypeId × Value → H) :
    ReturnsInHanded {} Try.checked os 3 .any (Rows.fnExactCodeOkSpec.pre6 enc Try.prog Try.f3 Rows.fnExactCodeOkRow.domain false) (Rows.fnExactCodeOkSpec.post enc Try.prog Try.f3 false true false false) := by
  refine returnsInHanded_of_change (C := Try.checked) own started (by kernel_rfl) Try.func3
    (ChangeSpec.witness6 (enc := enc) (C := Try.checked) false ⟨#[], #[.slice none 0 0], []⟩ 8 (by kernel_rfl) (by kernel_rfl) (by kernel_rfl) (by kernel_rfl)) ?_
  intro W base args ds gs before hval0 hW hcnd _
  have hval : ∀ (j : Nat) t v, Try.f3.params[j]? = some t → args[j]? = some v → Value.okWide Try.prog W .any base t v := hval0
  have hW' := hW
  obtain ⟨p, q, hA0, hV, rfl, hfz, hnd⟩ := hW
  have hA : DataW.TrodAll enc Try.prog W 0 (fun _ => true) true Try.f3.params.toList args.toList ds p := hA0
  rw [Try.params3] at hA hval
  obtain ⟨v0, vs0, d0, ds0, p0, q0, hargs, rfl, rfl, h0, rst0⟩ := trodAll_cons hA
  obtain ⟨rfl, rfl, rfl⟩ := trodAll_nil rst0
  obtain rfl : args = #[v0] := by cases args; simp_all
  obtain ⟨rfl, rfl⟩ := trodVars_none hV
  have k0 := h0
  have lt0 : ∀ x ∈ p0, x.block < W.heap.size := by obtain ⟨m, hm⟩ := k0; exact DataW.trod_lt m _ _ _ hm
  obtain ⟨a0, r0, cap0, rfl⟩ := okWide_slice Try.underlying22 (hval 0 22 v0 rfl rfl)
  have w0 : Vo.ArgI W a0 r0 := Vo.argI_at h0
  clear hA0 hval0
  refine (walk a0 r0 cap0 W w0).mono fun e W' ⟨he, bel⟩ => ?_
  subst he
  exact ⟨_, rfl, _, _, _, [], _, [], hW', trodAll_mk1 (shut_bool Try.underlying4 _), (trodAll_cons_mk (Below.trod laidOut (by kernel_rfl) (of_decide_eq_true (by kernel_rfl)) k0 bel lt0) trodAll_mk0), rfl, bel.frame _, fun h => by cases h⟩

theorem over : Rows.fnExactCodeOkRow.holds Try.pinned (OpenSpec.ofChange Rows.fnExactCodeOkSpec) :=
  OpenClaim.holds_of_wide 3 Try.f3 rfl rfl rfl rfl rfl rfl rfl ⟨rfl, rfl, rfl, rfl, rfl⟩ rfl rfl rfl rfl rfl (by kernel_rfl) Try.func3 (by kernel_rfl)
    (of_decide_eq_true (by kernel_rfl)) (by unfold Func.isWrapper; first | (rw [if_pos (by decide +kernel)]; kernel_rfl) | (rw [if_neg (by decide +kernel)]; exact ⟨rfl, rfl⟩))
    (fun os started H enc _ => lifted os started H enc)

theorem proved : Rows.FnExactCodeOkSaid := over
#print axioms proved
end Go.Proofs.Ytpllbamldhgjkaa.fnExactCodeOk
