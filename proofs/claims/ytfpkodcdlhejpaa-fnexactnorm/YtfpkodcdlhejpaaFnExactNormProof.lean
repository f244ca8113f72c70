/-
  Proved: whatever the arguments, 'FnExactNorm' returns true: the landed function answers as its model, and what came in reads as it did. No condition.
-/
import Derived.Test.YtfpkodcdlhejpaaRows
import Derived.Test.YtfpkodcdlhejpaaVl
import Derived.Test.YtfpkodcdlhejpaaNea
import Derived.Test.YtfpkodcdlhejpaaIa
import Derived.Test.YtfpkodcdlhejpaaIb
import Derived.Test.YtfpkodcdlhejpaaIc
import Derived.Test.YtfpkodcdlhejpaaIe
import Derived.Test.YtfpkodcdlhejpaaEb
import Derived.Test.YtfpkodcdlhejpaaEg
import Derived.WalkKit
import Derived.ProofKit
import Derived.OpenShut
import Derived.ShutString
import Derived.ChangeOld
import Derived.Below
import Derived.Lib.SmallJoins
import Derived.OpenVars
import Derived.ChangeVars
import Derived.Deep.RegionHeld3
namespace Go.Proofs.Ytfpkodcdlhejpaa.fnExactNorm
open Go.ChangeShapes Go.WideShapes Go.ChangeAt Go.RowKit Go.Joins
open Go.ChangeMaps (open_string shut_string)
set_option linter.unusedVariables false

theorem own : ownKnob Try.prog.godebug = none := by kernel_rfl
theorem laidOut : laidOutB Try.prog = true := by kernel_rfl

theorem walk (a0 : Option Addr) (r0 cap0 : Nat) (w : World) (w0 : Vl.Arg w a0 r0) :
    Calls Try.prog 6 #[.slice a0 r0 cap0] w fun e w' => e = .returned (.bool true) ∧ Below w.heap.size w w' := by
  obtain ⟨hr, D, h0⟩ := w0
  have H := Vl.hide h0
  clear h0
  by_cases h20 : 1048576 < (r0 : Int)
  · go_enter Try.func6, Try.ntmps6
    go_wp2_with fail
    go_ret
    exact ⟨rfl, Below.refl _ _⟩
  · have h20' : decide (1048576 < (r0 : Int)) = false := by rw [decide_eq_false_iff_not]; exact h20
    have hl : (r0 : Int) ≤ 1048576 := by omega
    obtain ⟨v, -, -, hs, hi⟩ := Vo.normBoth r0 D hl
    have HS := Vl.hide hs
    have HI := Vl.hide hi
    clear h20 hs hi
    go_enter Try.func6, Try.ntmps6
    go_wp2_with fail
    refine (Vl.toIntS w.heap.size a0 r0 cap0 D _ H.out (Nat.le_refl _) hl).mono ?_; rintro e w1 ⟨rfl, q1, s1, b1⟩
    have B1 := Vl.hide b1
    have Q1 := Vl.hide (q1.ints (B := w1.heap.size) s1)
    clear q1 b1 s1
    go_wp2_with fail
    refine (HS.out w1.heap.size _ _ _ (Nat.le_refl _) Q1.out).mono ?_; rintro e w2 ⟨rfl, b2⟩
    have B2 := Vl.hide (B1.out.trans (b2.mono B1.out.size))
    clear b2 Q1
    go_wp2_with fail
    refine (Vl.toIntS w.heap.size a0 r0 cap0 D _ (H.out.below B2.out) B2.out.size hl).mono ?_; rintro e w3 ⟨rfl, q3, s3, b3⟩
    have Q3 := Vl.hide q3
    have S3 := Vl.hide s3
    have B3 := Vl.hide (B2.out.trans (b3.mono B2.out.size))
    clear q3 b3 s3
    go_wp2_with fail
    refine (HI.out w3.heap.size _ _ _ (Nat.le_refl _) (Q3.out.ints S3.out)).mono ?_; rintro e w4 ⟨rfl, b4⟩
    replace Q3 := Vl.hide (Q3.out.below b4 S3.out)
    have S4 := Vl.hide (Nat.lt_of_lt_of_le S3.out b4.size)
    have B4 := Vl.hide (B3.out.trans (b4.mono B3.out.size))
    clear b4 S3
    go_wp2_with fail
    refine (Vl.toIntS w.heap.size a0 r0 cap0 D _ (H.out.below B4.out) B4.out.size hl).mono ?_; rintro e w6 ⟨rfl, q6, s6, b6⟩
    have B6 := Vl.hide b6
    have Q3' := Vl.hide (Q3.out.below b6 S4.out)
    have S6 := Vl.hide (Nat.lt_of_lt_of_le S4.out b6.size)
    have Q6 := Vl.hide q6
    have S6' := Vl.hide s6
    clear b6 q6 s6
    go_wp2_with fail
    refine (Vl.eqIntS w6.heap.size _ _ r0 _ _ D D _ (Q3'.out.ints S6.out) (Q6.out.ints S6'.out) (fun _ _ => rfl) hl).mono ?_; rintro e w7 ⟨rfl, b7⟩
    go_wp2_with fail
    go_ret
    exact ⟨rfl, (B4.out.trans (B6.out.mono B4.out.size)).trans (b7.mono (Nat.le_trans B4.out.size B6.out.size))⟩

set_option maxRecDepth 100000 in
theorem lifted (os : Os) (started : os.Started) (H : Type) (enc : TypeId × Value → H) :
    ReturnsInHanded {} Try.checked os 6 .any (Rows.fnExactNormSpec.pre6 enc Try.prog Try.f6 Rows.fnExactNormRow.domain false) (Rows.fnExactNormSpec.post enc Try.prog Try.f6 false true false false) := by
  refine returnsInHanded_of_change (C := Try.checked) own started (by kernel_rfl) Try.func6
    (ChangeSpec.witness6 (enc := enc) (C := Try.checked) false ⟨#[], #[.slice none 0 0], []⟩ 8 (by kernel_rfl) (by kernel_rfl) (by kernel_rfl) (by kernel_rfl)) ?_
  intro W base args ds gs before hval0 hW hcnd _
  have hval : ∀ (j : Nat) t v, Try.f6.params[j]? = some t → args[j]? = some v → Value.okWide Try.prog W .any base t v := hval0
  have hW' := hW
  obtain ⟨p, q, hA0, hV, rfl, hfz, hnd⟩ := hW
  have hA : DataW.TrodAll enc Try.prog W 0 (fun _ => true) true Try.f6.params.toList args.toList ds p := hA0
  rw [Try.params6] at hA hval
  obtain ⟨v0, vs0, d0, ds0, p0, q0, hargs, rfl, rfl, h0, rst0⟩ := trodAll_cons hA
  obtain ⟨rfl, rfl, rfl⟩ := trodAll_nil rst0
  obtain rfl : args = #[v0] := by cases args; simp_all
  obtain ⟨rfl, rfl⟩ := trodVars_none hV
  have k0 := h0
  have lt0 : ∀ x ∈ p0, x.block < W.heap.size := by obtain ⟨m, hm⟩ := k0; exact DataW.trod_lt m _ _ _ hm
  obtain ⟨a0, r0, cap0, rfl⟩ := okWide_slice Try.underlying32 (hval 0 32 v0 rfl rfl)
  have w0 : Vl.Arg W a0 r0 := Vl.arg_at h0
  clear hA0 hval0
  refine (walk a0 r0 cap0 W w0).mono fun e W' ⟨he, bel⟩ => ?_
  subst he
  exact ⟨_, rfl, _, _, _, [], _, [], hW', trodAll_mk1 (shut_bool Try.underlying4 _), (trodAll_cons_mk (Below.trod laidOut (by kernel_rfl) (of_decide_eq_true (by kernel_rfl)) k0 bel lt0) trodAll_mk0), rfl, bel.frame _, fun h => by cases h⟩

theorem over : Rows.fnExactNormRow.holds Try.pinned (OpenSpec.ofChange Rows.fnExactNormSpec) :=
  OpenClaim.holds_of_wide 6 Try.f6 rfl rfl rfl rfl rfl rfl rfl ⟨rfl, rfl, rfl, rfl, rfl⟩ rfl rfl rfl rfl rfl (by kernel_rfl) Try.func6 (by kernel_rfl)
    (of_decide_eq_true (by kernel_rfl)) (by unfold Func.isWrapper; first | (rw [if_pos (by decide +kernel)]; kernel_rfl) | (rw [if_neg (by decide +kernel)]; exact ⟨rfl, rfl⟩))
    (fun os started H enc _ => lifted os started H enc)

theorem proved : Rows.FnExactNormSaid := over
#print axioms proved
end Go.Proofs.Ytfpkodcdlhejpaa.fnExactNorm
