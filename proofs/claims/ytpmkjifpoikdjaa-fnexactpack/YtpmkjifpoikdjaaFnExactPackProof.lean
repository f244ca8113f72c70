/-
  Proved: whatever the arguments, 'FnExactPack' returns true: the landed function answers as its model, and what came in reads as it did. No condition.
-/
import Derived.Test.YtpmkjifpoikdjaaRows
import Derived.Test.YtpmkjifpoikdjaaVl
import Derived.Test.YtpmkjifpoikdjaaSo
import Derived.Test.YtpmkjifpoikdjaaSp
import Derived.Test.YtpmkjifpoikdjaaSq
import Derived.Test.YtpmkjifpoikdjaaSr
import Derived.Test.YtpmkjifpoikdjaaSs
import Derived.Test.YtpmkjifpoikdjaaSt
import Derived.Test.YtpmkjifpoikdjaaSu
import Derived.Test.YtpmkjifpoikdjaaSv
import Derived.Test.YtpmkjifpoikdjaaSw
import Derived.Test.YtpmkjifpoikdjaaSx
import Derived.Test.YtpmkjifpoikdjaaVp
import Derived.Test.YtpmkjifpoikdjaaVs
import Derived.Test.YtpmkjifpoikdjaaVq
import Derived.Test.YtpmkjifpoikdjaaVo
import Derived.Test.YtpmkjifpoikdjaaVv
import Derived.Test.YtpmkjifpoikdjaaTa
import Derived.Test.YtpmkjifpoikdjaaTb
import Derived.Test.YtpmkjifpoikdjaaVr
import Derived.Test.YtpmkjifpoikdjaaVm
import Derived.Test.YtpmkjifpoikdjaaVn
import Derived.Test.YtpmkjifpoikdjaaVw
import Derived.Test.YtpmkjifpoikdjaaVx
import Derived.Test.YtpmkjifpoikdjaaVt
import Derived.Test.YtpmkjifpoikdjaaVy
import Derived.Test.YtpmkjifpoikdjaaVz
import Derived.Test.YtpmkjifpoikdjaaVc
import Derived.Test.YtpmkjifpoikdjaaVac
import Derived.Test.YtpmkjifpoikdjaaVaf
import Derived.Test.YtpmkjifpoikdjaaVag
import Derived.Test.YtpmkjifpoikdjaaNum
import Derived.Test.YtpmkjifpoikdjaaBase
import Derived.Test.YtpmkjifpoikdjaaTc
import Derived.Test.YtpmkjifpoikdjaaPow
import Derived.Test.YtpmkjifpoikdjaaSy
import Derived.Test.YtpmkjifpoikdjaaSz
import Derived.Test.YtpmkjifpoikdjaaHb
import Derived.Test.YtpmkjifpoikdjaaHc
import Derived.Test.YtpmkjifpoikdjaaHd
import Derived.Test.YtpmkjifpoikdjaaHe
import Derived.Test.YtpmkjifpoikdjaaAr
import Derived.Test.YtpmkjifpoikdjaaMa
import Derived.Test.YtpmkjifpoikdjaaMb
import Derived.Test.YtpmkjifpoikdjaaQt
import Derived.Test.YtpmkjifpoikdjaaHa
import Derived.Test.YtpmkjifpoikdjaaMc
import Derived.Test.YtpmkjifpoikdjaaMd
import Derived.Test.YtpmkjifpoikdjaaHf
import Derived.Test.YtpmkjifpoikdjaaHg
import Derived.Test.YtpmkjifpoikdjaaHh
import Derived.Test.YtpmkjifpoikdjaaLn
import Derived.Test.YtpmkjifpoikdjaaTf
import Derived.Test.YtpmkjifpoikdjaaHi
import Derived.Test.YtpmkjifpoikdjaaHj
import Derived.WalkKit
import Derived.ProofKit
import Derived.OpenShut
import Derived.ShutString
import Derived.ChangeOld
import Derived.Below
import Derived.Lib.SmallJoins
import Derived.OpenVars
import Derived.ChangeVars
import Derived.Deep.RegionHeld3
namespace Go.Proofs.Ytpmkjifpoikdjaa.fnExactPack
open Go.ChangeShapes Go.WideShapes Go.ChangeAt Go.RowKit Go.Joins
open Go.ChangeMaps (open_string shut_string)
set_option linter.unusedVariables false
set_option linter.unusedSimpArgs false

theorem own : ownKnob Try.prog.godebug = none := by kernel_rfl
theorem laidOut : laidOutB Try.prog = true := by kernel_rfl

set_option maxRecDepth 100000 in
set_option maxHeartbeats 4000000 in
theorem walk (a0 : Option Addr) (r0 cap0 : Nat) (w : World) (w0 : Vo.ArgM w a0 r0) :
    Calls Try.prog 3 #[.slice a0 r0 cap0] w fun e w' => e = .returned (.bool true) ∧ Below w.heap.size w w' := by
  obtain ⟨hr0, C0, hh0⟩ := w0
  have H0 := Vl.hide hh0
  clear hh0
  go_enter Try.func3, Try.ntmps3
  go_wp2_with fail
  refine (Vo.szLifeS a0 r0 cap0 1048576 _ (by omega) (by omega) hr0).mono ?_
  rintro e W1 ⟨x0, rfl, hx0, rfl⟩
  by_cases hn0 : x0 < 0
  · clear hx0
    go_wp2_with fail
    go_ret
    exact ⟨rfl, Below.refl _ _⟩
  have hm0 : decide (x0 < 0) = false := by rw [decide_eq_false_iff_not]; exact hn0
  have l0 : (r0 : Int) ≤ 1048576 := by unfold Vl.Sz at hx0; omega
  clear hn0 hx0
  have T0 := Vl.hide (fun (W : World) (hb : Below W1.heap.size W1 W) => Vo.toLifeS W1.heap.size a0 r0 cap0 C0 W hb.size (H0.out.below hb) l0)
  have CS := Vl.hide (fun (W : World) (a : Option Addr) (h : Vo.LM W.heap.size W a r0 C0) => Vo.specPack W.heap.size a r0 r0 C0 W (Nat.le_refl _) h l0)
  have CI := Vl.hide (fun (W : World) (a : Option Addr) (h : Vo.LM W.heap.size W a r0 C0) => Vo.packF W.heap.size a r0 r0 C0 W (Nat.le_refl _) h l0)
  have lN : ((Vo.pkN r0 C0 : Nat) : Int) ≤ 1048576 := by have := Vo.pkN_le r0 C0; omega
  unfold Vo.PackR at CS CI
  obtain ⟨N, hN⟩ : ∃ N, Vo.pkN r0 C0 = N := ⟨_, rfl⟩
  obtain ⟨K, hK⟩ : ∃ K, Vo.pkK r0 C0 = K := ⟨_, rfl⟩
  obtain ⟨P, hP⟩ : ∃ P, Vo.pkO r0 C0 r0 = P := ⟨_, rfl⟩
  rw [hN, hK, hP] at CS CI
  rw [hN] at lN
  clear hN hK hP
  have KK : (K != K) = false := by simp
  go_wp2_with fail
  refine (T0.out _ (Below.refl _ _)).mono ?_
  rintro e W2 ⟨U, rfl, o2, s2, b2⟩
  have B2 := Vl.hide b2
  have L2 := Vl.hide (Vo.lm_same o2.read s2)
  clear b2 o2 s2
  go_wp2_with fail
  refine (CS.out _ _ L2.out).mono ?_
  rintro e W3 ⟨sa, sc, rfl, q3, b3⟩
  have B3 := Vl.hide (B2.out.trans (b3.mono B2.out.size))
  have Q3 := Vl.hide q3
  clear b3 L2 q3
  go_wp2_with fail
  refine (T0.out _ B3.out).mono ?_
  rintro e W4 ⟨U4, rfl, o4, s4, b4⟩
  have B4 := Vl.hide (B3.out.trans (b4.mono B3.out.size))
  have Q4 := Vl.hide (Q3.out.below b4)
  have O4 := Vl.hide o4
  have S4 := Vl.hide s4
  have UB := Vl.hide (fun k q => (Q3.out.blk (b := k) q).2)
  have z4 : W3.heap.size < W4.heap.size := o4.lt
  clear b4 o4 s4 Q3
  go_wp2_with fail
  refine (CI.out _ _ (Vo.lm_same O4.out.read S4.out)).mono ?_
  rintro e W5 ⟨ga, gc, rfl, q5, b5⟩
  have B5 := Vl.hide (B4.out.trans (b5.mono B4.out.size))
  have Q5 := Vl.hide (Q4.out.below b5)
  have G5 := Vl.hide q5
  have O5 := Vl.hide (O4.out.below b5)
  have UG := Vl.hide (fun k q => (q5.blk (b := k) q).1)
  have z5 : W4.heap.size ≤ W5.heap.size := b5.size
  clear b5 q5 Q4 O4
  go_wp2_with fail
  refine (Vl.eqIntS W5.heap.size _ _ N gc sc P P _ G5.out.ints Q5.out.ints (fun _ _ => rfl) lN).mono ?_
  rintro e W6 ⟨rfl, b6⟩
  have B6 := Vl.hide (B5.out.trans (b6.mono B5.out.size))
  have Q6 := Vl.hide (Q5.out.below b6)
  have G6 := Vl.hide (G5.out.below b6)
  have O6 := Vl.hide (O5.out.below b6)
  have z6 : W5.heap.size ≤ W6.heap.size := b6.size
  clear b6 Q5 G5 O5
  go_wp2_with fail
  refine (T0.out _ B6.out).mono ?_
  rintro e W7 ⟨U7, rfl, o7, s7, b7⟩
  have B7 := Vl.hide (B6.out.trans (b7.mono B6.out.size))
  have Q7 := Vl.hide (Q6.out.below b7)
  have G7 := Vl.hide (G6.out.below b7)
  have O7 := Vl.hide (O6.out.below b7)
  have N7 := Vl.hide o7
  have S7 := Vl.hide s7
  have z7 : W6.heap.size ≤ W7.heap.size := b7.size
  clear b7 o7 s7 Q6 G6 O6
  go_wp2_with fail
  refine (Vo.eqLifeS W7.heap.size _ _ r0 r0 r0 U4 U7 _ (Nat.le_refl _) O7.out.read N7.out.read l0 (fun i hi => by rw [S7.out i hi, S4.out i hi])).mono ?_
  rintro e W8 ⟨rfl, b8⟩
  have B8 := Vl.hide (B7.out.trans (b8.mono B7.out.size))
  have Q8 := Vl.hide (Q7.out.below b8)
  have G8 := Vl.hide (G7.out.below b8)
  have O8 := Vl.hide (O7.out.below b8)
  have z8 : W7.heap.size ≤ W8.heap.size := b8.size
  clear b8 Q7 G7 O7 N7
  have neg1 : decide ((1 : Int) + 4 * r0 < 0) = false := by rw [decide_eq_false_iff_not]; omega
  go_wp2_with fail
  refine (Vo.markLS _ _ r0 r0 U4 1 _ O8.out l0 (by omega) (by omega)).mono ?_
  rintro e W9 ⟨rfl, o9, k9⟩
  have ge9 := O8.out.lo
  have B9 := Vl.hide (B8.out.trans (k9.below B8.out.size (fun k q => by have q : k = _ := q; have := B3.out.size; omega)))
  have Q9 := Vl.hide (Q8.out.kept k9 (fun k q q' => by have q' : k = _ := q'; have := UB.out k q; omega))
  have G9 := Vl.hide (G8.out.kept k9 (fun k q q' => by have q' : k = _ := q'; have := UG.out k q; have := O8.out.lt; have q2 := o9.lo; omega))
  have z9 : W8.heap.size ≤ W9.heap.size := k9.size
  clear k9 o9 Q8 G8 O8
  go_wp2_with fail
  refine (Vl.eqIntS W9.heap.size _ _ N gc sc P P _ G9.out.ints Q9.out.ints (fun _ _ => rfl) lN).mono ?_
  rintro e W10 ⟨rfl, b10⟩
  have B10 := Vl.hide (B9.out.trans (b10.mono B9.out.size))
  have Q10 := Vl.hide (Q9.out.below b10)
  have G10 := Vl.hide (G9.out.below b10)
  have z10 : W9.heap.size ≤ W10.heap.size := b10.size
  clear b10 Q9 G9
  go_wp2_with fail
  refine (Vl.markIntS _ _ N gc P 1 _ G10.out lN (by omega) (by omega)).mono ?_
  rintro e W11 ⟨rfl, g11, k11⟩
  have B11 := Vl.hide (B10.out.trans (k11.below B10.out.size (fun k q => by have := UG.out k q; have := B4.out.size; omega)))
  have Q11 := Vl.hide (Q10.out.kept k11 (fun k q q' => by have := UG.out k q'; have := UB.out k q; omega))
  have G11 := Vl.hide g11
  have z11 : W10.heap.size ≤ W11.heap.size := k11.size
  clear k11 g11 Q10 G10
  have neg2 : decide ((1 : Int) + (N : Nat) < 0) = false := by rw [decide_eq_false_iff_not]; omega
  go_wp2_with fail
  refine (Vl.heldIntS _ _ N gc 1 _ G11.out.ints lN (by omega) (by omega)).mono ?_
  rintro e w' ⟨rfl, hq⟩
  have hq := hq.symm
  subst hq
  go_wp2_with fail
  refine (T0.out _ B11.out).mono ?_
  rintro e W12 ⟨U12, rfl, o12, s12, b12⟩
  have B12 := Vl.hide (B11.out.trans (b12.mono B11.out.size))
  have Q12 := Vl.hide (Q11.out.below b12)
  have G12 := Vl.hide (G11.out.below b12)
  have L12 := Vl.hide (Vo.lm_same o12.read s12)
  clear b12 o12 s12 Q11 G11
  go_wp2_with fail
  refine (CI.out _ _ L12.out).mono ?_
  rintro e W13 ⟨ha, hc, rfl, q13, b13⟩
  have B13 := Vl.hide (B12.out.trans (b13.mono B12.out.size))
  have Q13 := Vl.hide (Q12.out.below b13)
  have G13 := Vl.hide (G12.out.below b13)
  have H13 := Vl.hide q13
  clear b13 q13 L12 Q12 G12
  go_wp2_with fail
  refine (Vl.eqIntS W13.heap.size _ _ N hc sc P P _ H13.out.ints Q13.out.ints (fun _ _ => rfl) lN).mono ?_
  rintro e W14 ⟨rfl, b14⟩
  have B14 := Vl.hide (B13.out.trans (b14.mono B13.out.size))
  have G14 := Vl.hide (G13.out.below b14)
  clear b14 Q13 G13 H13
  go_wp2_with fail
  refine (Vl.heldIntS _ _ N gc 1 _ G14.out.ints lN (by omega) (by omega)).mono ?_
  rintro e w' ⟨rfl, hq⟩
  have hq := hq.symm
  subst hq
  go_wp2_with fail
  go_ret
  exact ⟨rfl, B14.out⟩

set_option maxRecDepth 100000 in
theorem lifted (os : Os) (started : os.Started) (H : Type) (enc : TypeId × Value → H) :
    ReturnsInHanded {} Try.checked os 3 .any (Rows.fnExactPackSpec.pre6 enc Try.prog Try.f3 Rows.fnExactPackRow.domain false) (Rows.fnExactPackSpec.post enc Try.prog Try.f3 false true false false) := by
  refine returnsInHanded_of_change (C := Try.checked) own started (by kernel_rfl) Try.func3
    (ChangeSpec.witness6 (enc := enc) (C := Try.checked) false ⟨#[], #[.slice none 0 0], []⟩ 8 (by kernel_rfl) (by kernel_rfl) (by kernel_rfl) (by kernel_rfl)) ?_
  intro W base args ds gs before hval0 hW hcnd _
  have hval : ∀ (j : Nat) t v, Try.f3.params[j]? = some t → args[j]? = some v → Value.okWide Try.prog W .any base t v := hval0
  have hW' := hW
  obtain ⟨p, q, hA0, hV, rfl, hfz, hnd⟩ := hW
  have hA : DataW.TrodAll enc Try.prog W 0 (fun _ => true) true Try.f3.params.toList args.toList ds p := hA0
  rw [Try.params3] at hA hval
  obtain ⟨v0, vs0, d0, ds0, p0, q0, hargs, rfl, rfl, h0, rst0⟩ := trodAll_cons hA
  obtain ⟨rfl, rfl, rfl⟩ := trodAll_nil rst0
  obtain rfl : args = #[v0] := by cases args; simp_all
  obtain ⟨rfl, rfl⟩ := trodVars_none hV
  have k0 := h0
  have lt0 : ∀ x ∈ p0, x.block < W.heap.size := by obtain ⟨m, hm⟩ := k0; exact DataW.trod_lt m _ _ _ hm
  obtain ⟨a0, r0, cap0, rfl⟩ := okWide_slice Try.underlying22 (hval 0 22 v0 rfl rfl)
  have w0 : Vo.ArgM W a0 r0 := Vo.argM_at h0
  clear hA0 hval0
  refine (walk a0 r0 cap0 W w0).mono fun e W' ⟨he, bel⟩ => ?_
  subst he
  exact ⟨_, rfl, _, _, _, [], _, [], hW', trodAll_mk1 (shut_bool Try.underlying4 _), (trodAll_cons_mk (Below.trod laidOut (by kernel_rfl) (of_decide_eq_true (by kernel_rfl)) k0 bel lt0) trodAll_mk0), rfl, bel.frame _, fun h => by cases h⟩

theorem over : Rows.fnExactPackRow.holds Try.pinned (OpenSpec.ofChange Rows.fnExactPackSpec) :=
  OpenClaim.holds_of_wide 3 Try.f3 rfl rfl rfl rfl rfl rfl rfl ⟨rfl, rfl, rfl, rfl, rfl⟩ rfl rfl rfl rfl rfl (by kernel_rfl) Try.func3 (by kernel_rfl)
    (of_decide_eq_true (by kernel_rfl)) (by unfold Func.isWrapper; first | (rw [if_pos (by decide +kernel)]; kernel_rfl) | (rw [if_neg (by decide +kernel)]; exact ⟨rfl, rfl⟩))
    (fun os started H enc _ => lifted os started H enc)

theorem proved : Rows.FnExactPackSaid := over
#print axioms proved
end Go.Proofs.Ytpmkjifpoikdjaa.fnExactPack
