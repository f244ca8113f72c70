/-
  Proved: whatever the arguments, 'FnExactPackOk' returns true: the landed function answers as its model, and what came in reads as it did. No condition.
-/
import Derived.Test.YtiidikfljaloiaaRows
import Derived.Test.YtiidikfljaloiaaVl
import Derived.Test.YtiidikfljaloiaaVp
import Derived.Test.YtiidikfljaloiaaVq
import Derived.Test.YtiidikfljaloiaaVs
import Derived.Test.YtiidikfljaloiaaVo
import Derived.Test.YtiidikfljaloiaaVv
import Derived.Test.YtiidikfljaloiaaTa
import Derived.Test.YtiidikfljaloiaaTb
import Derived.Test.YtiidikfljaloiaaAr
import Derived.Test.YtiidikfljaloiaaMa
import Derived.Test.YtiidikfljaloiaaMb
import Derived.Test.YtiidikfljaloiaaMc
import Derived.Test.YtiidikfljaloiaaMd
import Derived.WalkKit
import Derived.ProofKit
import Derived.OpenShut
import Derived.ShutString
import Derived.ChangeOld
import Derived.Below
import Derived.Lib.SmallJoins
import Derived.OpenVars
import Derived.ChangeVars
import Derived.Deep.RegionHeld3
namespace Go.Proofs.Ytiidikfljaloiaa.fnExactPackOk
open Go.ChangeShapes Go.WideShapes Go.ChangeAt Go.RowKit Go.Joins
open Go.ChangeMaps (open_string shut_string)
set_option linter.unusedVariables false
set_option linter.unusedSimpArgs false

theorem own : ownKnob Try.prog.godebug = none := by kernel_rfl
theorem laidOut : laidOutB Try.prog = true := by kernel_rfl

set_option maxRecDepth 100000 in
set_option maxHeartbeats 4000000 in
theorem walk (a0 : Option Addr) (r0 cap0 : Nat) (a1 : Option Addr) (r1 cap1 : Nat) (w : World) (w0 : Vo.ArgM w a0 r0) (w1 : Vl.Arg w a1 r1) :
    Calls Try.prog 3 #[.slice a0 r0 cap0, .slice a1 r1 cap1] w fun e w' => e = .returned (.bool true) ∧ Below w.heap.size w w' := by
  obtain ⟨hr0, C0, hh0⟩ := w0
  obtain ⟨hr1, D1, hh1⟩ := w1
  have H0 := Vl.hide hh0
  have H1 := Vl.hide hh1
  clear hh0 hh1
  go_enter Try.func3, Try.ntmps3
  by_cases c1 : 1048576 < (r1 : Int)
  · have c1' : decide (1048576 < r1) = true := decide_eq_true (by omega)
    go_wp2_with fail
    go_ret
    exact ⟨rfl, Below.refl _ _⟩
  have c1' : decide (1048576 < (r1 : Int)) = false := by rw [decide_eq_false_iff_not]; exact c1
  have c1'' : decide (1048576 < r1) = false := by rw [decide_eq_false_iff_not]; omega
  have l1 : (r1 : Int) ≤ 1048576 := by omega
  clear c1
  go_wp2_with fail
  refine (Vo.szLifeS a0 r0 cap0 1048576 _ (by omega) (by omega) hr0).mono ?_
  rintro e W1 ⟨x0, rfl, hx0, rfl⟩
  by_cases hn0 : x0 < 0
  · clear hx0
    go_wp2_with fail
    go_ret
    exact ⟨rfl, Below.refl _ _⟩
  have hm0 : decide (x0 < 0) = false := by rw [decide_eq_false_iff_not]; exact hn0
  have l0 : (r0 : Int) ≤ 1048576 := by unfold Vl.Sz at hx0; omega
  clear hn0 hx0
  have T0 := Vl.hide (fun (W : World) (hb : Below W1.heap.size W1 W) => Vo.toLifeS W1.heap.size a0 r0 cap0 C0 W hb.size (H0.out.below hb) l0)
  have T1 := Vl.hide (fun (W : World) (hb : Below W1.heap.size W1 W) => Vl.toIntS W1.heap.size a1 r1 cap1 D1 W (H1.out.below hb) hb.size l1)
  go_wp2_with fail
  refine (T0.out _ (Below.refl _ _)).mono ?_
  rintro e W2 ⟨U, rfl, o2, s2, b2⟩
  have B2 := Vl.hide b2
  have O2 := Vl.hide o2
  have S2 := Vl.hide s2
  clear b2 o2 s2
  go_wp2_with fail
  refine (T1.out _ B2.out).mono ?_
  rintro e W3 ⟨rfl, q3, z3, b3⟩
  have B3 := Vl.hide (B2.out.trans (b3.mono B2.out.size))
  have O3 := Vl.hide (O2.out.below b3)
  have Q3 := Vl.hide (q3.ints z3)
  clear b3 q3 O2
  go_wp2_with fail
  refine (Vo.specPackOk _ _ r0 r0 U _ r1 r1 D1 _ (Nat.le_refl _) O3.out.read Q3.out l0 l1).mono ?_
  rintro e W4 ⟨rfl, b4⟩
  rw [Vo.pok_same S2.out]
  have B4 := Vl.hide (B3.out.trans (b4.mono B3.out.size))
  clear b4 O3 Q3 S2
  go_wp2_with fail
  refine (T0.out _ B4.out).mono ?_
  rintro e W5 ⟨U5, rfl, o5, s5, b5⟩
  have B5 := Vl.hide (B4.out.trans (b5.mono B4.out.size))
  have O5 := Vl.hide o5
  have S5 := Vl.hide s5
  clear b5 o5 s5
  go_wp2_with fail
  refine (T1.out _ B5.out).mono ?_
  rintro e W6 ⟨rfl, q6, z6, b6⟩
  have B6 := Vl.hide (B5.out.trans (b6.mono B5.out.size))
  have O6 := Vl.hide (O5.out.below b6)
  have Q6 := Vl.hide (q6.ints z6)
  clear b6 q6 O5
  go_wp2_with fail
  refine (Vo.packOkF _ _ r0 r0 U5 _ r1 r1 D1 _ (Nat.le_refl _) O6.out.read Q6.out l0 l1 (Nat.le_refl _)).mono ?_
  rintro e W7 ⟨rfl, b7⟩
  rw [Vo.pok_same S5.out]
  have B7 := Vl.hide (B6.out.trans (b7.mono B6.out.size))
  have z7 : W6.heap.size ≤ W7.heap.size := b7.size
  have O7 := Vl.hide (O6.out.below b7)
  have Q7 := Vl.hide (Q6.out.below b7)
  clear b7 O6 Q6
  generalize decide (Vo.POk r0 C0 r1 D1) = ans
  go_wp2_with fail
  refine (T0.out _ B7.out).mono ?_
  rintro e W8 ⟨U8, rfl, o8, s8, b8⟩
  have B8 := Vl.hide (B7.out.trans (b8.mono B7.out.size))
  have O8 := Vl.hide (O7.out.below b8)
  have Q8 := Vl.hide (Q7.out.below (b8.mono z7))
  have N8 := Vl.hide o8
  have S8 := Vl.hide s8
  clear o8 s8 O7 Q7
  go_wp2_with fail
  refine (Vo.eqLifeS W8.heap.size _ _ r0 r0 r0 U5 U8 _ (Nat.le_refl _) O8.out.read N8.out.read l0 (fun i hi => by rw [S8.out i hi, S5.out i hi])).mono ?_
  rintro e W9 ⟨rfl, b9⟩
  have B9 := Vl.hide (B8.out.trans (b9.mono B8.out.size))
  have Q9 := Vl.hide (Q8.out.below (b9.mono (Nat.le_trans z7 b8.size)))
  have z9 : W6.heap.size ≤ W9.heap.size := Nat.le_trans z7 (Nat.le_trans b8.size b9.size)
  clear b9 b8 Q8
  go_wp2_with fail
  refine (T1.out _ B9.out).mono ?_
  rintro e W10 ⟨rfl, q10, z10, b10⟩
  have B10 := Vl.hide (B9.out.trans (b10.mono B9.out.size))
  have Q10 := Vl.hide (Q9.out.below (b10.mono z9))
  have E10 := Vl.hide (q10.ints z10)
  have z11 : W6.heap.size ≤ W10.heap.size := Nat.le_trans z9 b10.size
  clear b10 q10 Q9
  go_wp2_with fail
  refine (Vl.eqIntS W10.heap.size _ _ r1 r1 r1 D1 D1 _ (Q10.out.mono z11) E10.out (fun _ _ => rfl) l1).mono ?_
  rintro e W11 ⟨rfl, b11⟩
  have B11 := Vl.hide (B10.out.trans (b11.mono B10.out.size))
  go_wp2_with fail
  go_ret
  exact ⟨rfl, B11.out⟩

set_option maxRecDepth 100000 in
theorem lifted (os : Os) (started : os.Started) (H : Type) (enc : TypeId × Value → H) :
    ReturnsInHanded {} Try.checked os 3 .any (Rows.fnExactPackOkSpec.pre6 enc Try.prog Try.f3 Rows.fnExactPackOkRow.domain false) (Rows.fnExactPackOkSpec.post enc Try.prog Try.f3 false true false false) := by
  refine returnsInHanded_of_change (C := Try.checked) own started (by kernel_rfl) Try.func3
    (ChangeSpec.witness6 (enc := enc) (C := Try.checked) false ⟨#[], #[.slice none 0 0, .slice none 0 0], []⟩ 8 (by kernel_rfl) (by kernel_rfl) (by kernel_rfl) (by kernel_rfl)) ?_
  intro W base args ds gs before hval0 hW hcnd _
  have hval : ∀ (j : Nat) t v, Try.f3.params[j]? = some t → args[j]? = some v → Value.okWide Try.prog W .any base t v := hval0
  have hW' := hW
  obtain ⟨p, q, hA0, hV, rfl, hfz, hnd⟩ := hW
  have hA : DataW.TrodAll enc Try.prog W 0 (fun _ => true) true Try.f3.params.toList args.toList ds p := hA0
  rw [Try.params3] at hA hval
  obtain ⟨v0, vs0, d0, ds0, p0, q0, hargs, rfl, rfl, h0, rst0⟩ := trodAll_cons hA
  obtain ⟨v1, vs1, d1, ds1, p1, q1, rfl, rfl, rfl, h1, rst1⟩ := trodAll_cons rst0
  obtain ⟨rfl, rfl, rfl⟩ := trodAll_nil rst1
  obtain rfl : args = #[v0, v1] := by cases args; simp_all
  obtain ⟨rfl, rfl⟩ := trodVars_none hV
  have k0 := h0
  have lt0 : ∀ x ∈ p0, x.block < W.heap.size := by obtain ⟨m, hm⟩ := k0; exact DataW.trod_lt m _ _ _ hm
  obtain ⟨a0, r0, cap0, rfl⟩ := okWide_slice Try.underlying22 (hval 0 22 v0 rfl rfl)
  have w0 : Vo.ArgM W a0 r0 := Vo.argM_at h0
  have k1 := h1
  have lt1 : ∀ x ∈ p1, x.block < W.heap.size := by obtain ⟨m, hm⟩ := k1; exact DataW.trod_lt m _ _ _ hm
  obtain ⟨a1, r1, cap1, rfl⟩ := okWide_slice Try.underlying23 (hval 1 23 v1 rfl rfl)
  have w1 : Vl.Arg W a1 r1 := Vl.arg_at h1
  clear hA0 hval0
  refine (walk a0 r0 cap0 a1 r1 cap1 W w0 w1).mono fun e W' ⟨he, bel⟩ => ?_
  subst he
  exact ⟨_, rfl, _, _, _, [], _, [], hW', trodAll_mk1 (shut_bool Try.underlying4 _), (trodAll_cons_mk (Below.trod laidOut (by kernel_rfl) (of_decide_eq_true (by kernel_rfl)) k0 bel lt0) (trodAll_cons_mk (Below.trod laidOut (by kernel_rfl) (of_decide_eq_true (by kernel_rfl)) k1 bel lt1) trodAll_mk0)), rfl, bel.frame _, fun h => by cases h⟩

theorem over : Rows.fnExactPackOkRow.holds Try.pinned (OpenSpec.ofChange Rows.fnExactPackOkSpec) :=
  OpenClaim.holds_of_wide 3 Try.f3 rfl rfl rfl rfl rfl rfl rfl ⟨rfl, rfl, rfl, rfl, rfl⟩ rfl rfl rfl rfl rfl (by kernel_rfl) Try.func3 (by kernel_rfl)
    (of_decide_eq_true (by kernel_rfl)) (by unfold Func.isWrapper; first | (rw [if_pos (by decide +kernel)]; kernel_rfl) | (rw [if_neg (by decide +kernel)]; exact ⟨rfl, rfl⟩))
    (fun os started H enc _ => lifted os started H enc)

theorem proved : Rows.FnExactPackOkSaid := over
#print axioms proved
end Go.Proofs.Ytiidikfljaloiaa.fnExactPackOk
