/-
  Proved: whatever the arguments, 'FnExactDimsOk' returns true: the landed function answers as its model, and what came in reads as it did. No condition.
-/
import Derived.Test.YtbepgcdfdaeecaaRows
import Derived.Test.YtbepgcdfdaeecaaVl
import Derived.Test.YtbepgcdfdaeecaaVp
import Derived.Test.YtbepgcdfdaeecaaVs
import Derived.WalkKit
import Derived.ProofKit
import Derived.OpenShut
import Derived.ShutString
import Derived.ChangeOld
import Derived.Below
import Derived.Lib.SmallJoins
import Derived.OpenVars
import Derived.ChangeVars
namespace Go.Proofs.Ytbepgcdfdaeecaa.fnExactDimsOk
open Go.ChangeShapes Go.WideShapes Go.ChangeAt Go.RowKit Go.Joins
open Go.ChangeMaps (open_string shut_string)
set_option linter.unusedVariables false

theorem own : ownKnob Try.prog.godebug = none := by kernel_rfl
theorem laidOut : laidOutB Try.prog = true := by kernel_rfl

theorem walk (a0 : Option Addr) (r0 cap0 : Nat) (w : World) (w0 : Vl.Arg w a0 r0) :
    Calls Try.prog 3 #[.slice a0 r0 cap0] w fun e w' => e = .returned (.bool true) ∧ Below w.heap.size w w' := by
  obtain ⟨hr, D, h0⟩ := w0
  have H := Vl.hide h0
  clear h0
  by_cases h20 : 1048576 < (r0 : Int)
  · go_enter Try.func3, Try.ntmps3
    go_wp2_with fail
    go_ret
    exact ⟨rfl, Below.refl _ _⟩
  · have h20' : decide (1048576 < (r0 : Int)) = false := by rw [decide_eq_false_iff_not]; exact h20
    have hl : (r0 : Int) ≤ 1048576 := by omega
    clear h20
    go_enter Try.func3, Try.ntmps3
    go_wp2_with fail
    refine (Vl.toIntS w.heap.size a0 r0 cap0 D _ H.out (Nat.le_refl _) hl).mono ?_; rintro e w1 ⟨rfl, q1, s1, b1⟩
    have B1 := Vl.hide b1
    have Q1 := Vl.hide (q1.ints (B := w1.heap.size) s1)
    clear q1
    go_wp2_with fail
    refine (Vs.specDimsOk w1.heap.size _ r0 r0 D _ Q1.out hl).mono ?_; rintro e w2 ⟨rfl, rfl⟩
    go_wp2_with fail
    refine (Vl.toIntS w.heap.size a0 r0 cap0 D _ (H.out.below B1.out) B1.out.size hl).mono ?_; rintro e w3 ⟨rfl, q3, s3, b3⟩
    have B3 := Vl.hide b3
    have Q3 := Vl.hide q3
    clear q3 Q1 b1 b3
    go_wp2_with fail
    refine (Vs.dimsOk w3.heap.size _ r0 r0 D _ (Q3.out.ints s3) hl).mono ?_; rintro e w4 ⟨rfl, rfl⟩
    go_wp2_with fail
    refine (Vl.toIntS w.heap.size a0 r0 cap0 D _ ((H.out.below B1.out).below (B3.out.mono B1.out.size)) (Nat.le_trans B1.out.size B3.out.size) hl).mono ?_; rintro e w5 ⟨rfl, q5, s5, b5⟩
    have B5 := Vl.hide b5
    have Q5 := Vl.hide q5
    clear q5 b5
    go_wp2_with fail
    refine (Vl.eqIntS w5.heap.size _ _ r0 r0 r0 D D _ ((Q3.out.below B5.out s3).ints (by omega)) (Q5.out.ints s5) (fun _ _ => rfl) hl).mono ?_; rintro e w6 ⟨rfl, b6⟩
    go_wp2_with fail
    go_ret
    have B6 := b6
    exact ⟨rfl, ((B1.out.trans (B3.out.mono B1.out.size)).trans (B5.out.mono (Nat.le_trans B1.out.size B3.out.size))).trans (b6.mono (Nat.le_trans (Nat.le_trans B1.out.size B3.out.size) B5.out.size))⟩

set_option maxRecDepth 100000 in
theorem lifted (os : Os) (started : os.Started) (H : Type) (enc : TypeId × Value → H) :
    ReturnsInHanded {} Try.checked os 3 .any (Rows.fnExactDimsOkSpec.pre6 enc Try.prog Try.f3 Rows.fnExactDimsOkRow.domain false) (Rows.fnExactDimsOkSpec.post enc Try.prog Try.f3 false true false false) := by
  refine returnsInHanded_of_change (C := Try.checked) own started (by kernel_rfl) Try.func3
    (ChangeSpec.witness6 (enc := enc) (C := Try.checked) false ⟨#[], #[.slice none 0 0], []⟩ 8 (by kernel_rfl) (by kernel_rfl) (by kernel_rfl) (by kernel_rfl)) ?_
  intro W base args ds gs before hval0 hW hcnd _
  have hval : ∀ (j : Nat) t v, Try.f3.params[j]? = some t → args[j]? = some v → Value.okWide Try.prog W .any base t v := hval0
  have hW' := hW
  obtain ⟨p, q, hA0, hV, rfl, hfz, hnd⟩ := hW
  have hA : DataW.TrodAll enc Try.prog W 0 (fun _ => true) true Try.f3.params.toList args.toList ds p := hA0
  rw [Try.params3] at hA hval
  obtain ⟨v0, vs0, d0, ds0, p0, q0, hargs, rfl, rfl, h0, r0⟩ := trodAll_cons hA
  obtain ⟨rfl, rfl, rfl⟩ := trodAll_nil r0
  obtain rfl : args = #[v0] := by cases args; simp_all
  obtain ⟨rfl, rfl⟩ := trodVars_none hV
  have k0 := h0
  have lt0 : ∀ x ∈ p0, x.block < W.heap.size := by obtain ⟨m, hm⟩ := k0; exact DataW.trod_lt m _ _ _ hm
  obtain ⟨a0, r0, cap0, rfl⟩ := okWide_slice Try.underlying22 (hval 0 22 v0 rfl rfl)
  have w0 : Vl.Arg W a0 r0 := Vl.arg_at h0
  clear hA0 hval0
  refine (walk a0 r0 cap0 W w0).mono fun e W' ⟨he, bel⟩ => ?_
  subst he
  exact ⟨_, rfl, _, _, _, [], _, [], hW', trodAll_mk1 (shut_bool Try.underlying4 _), (trodAll_cons_mk (Below.trod laidOut (by kernel_rfl) (of_decide_eq_true (by kernel_rfl)) k0 bel lt0) trodAll_mk0), rfl, bel.frame _, fun h => by cases h⟩

theorem over : Rows.fnExactDimsOkRow.holds Try.pinned (OpenSpec.ofChange Rows.fnExactDimsOkSpec) :=
  OpenClaim.holds_of_wide 3 Try.f3 rfl rfl rfl rfl rfl rfl rfl ⟨rfl, rfl, rfl, rfl, rfl⟩ rfl rfl rfl rfl rfl (by kernel_rfl) Try.func3 (by kernel_rfl)
    (of_decide_eq_true (by kernel_rfl)) (by unfold Func.isWrapper; first | (rw [if_pos (by decide +kernel)]; kernel_rfl) | (rw [if_neg (by decide +kernel)]; exact ⟨rfl, rfl⟩))
    (fun os started H enc _ => lifted os started H enc)

theorem proved : Rows.FnExactDimsOkSaid := over
#print axioms proved
end Go.Proofs.Ytbepgcdfdaeecaa.fnExactDimsOk
