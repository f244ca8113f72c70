/-
  Proved: whatever the arguments, 'FnExactFTree' returns true: the landed function answers as its model, and what came in reads as it did. No condition.
-/
import Derived.Test.YtggncnjbaghjkaaDoorRows
import Derived.Test.YtggncnjbaghjkaaDoorShelf
import Derived.Test.YtggncnjbaghjkaaDoorFlo
import Derived.Test.YtggncnjbaghjkaaDoorRnd
import Derived.Test.YtggncnjbaghjkaaDoorFlP
import Derived.Test.YtggncnjbaghjkaaDoorClS
import Derived.Test.YtggncnjbaghjkaaDoorFlM
import Derived.Test.YtggncnjbaghjkaaDoorFlR
import Derived.Test.YtggncnjbaghjkaaDoorFlQ
import Derived.Test.YtggncnjbaghjkaaDoorFlV
import Derived.Test.YtggncnjbaghjkaaDoorTwo
import Derived.Test.YtggncnjbaghjkaaDoorWid
import Derived.Test.YtggncnjbaghjkaaDoorWo
import Derived.Test.YtggncnjbaghjkaaDoorWpl
import Derived.Test.YtggncnjbaghjkaaDoorLea
import Derived.Test.YtggncnjbaghjkaaDoorLeb
import Derived.Test.YtggncnjbaghjkaaDoorAdw
import Derived.Test.YtggncnjbaghjkaaDoorAdA
import Derived.Test.YtggncnjbaghjkaaDoorAdB
import Derived.Test.YtggncnjbaghjkaaDoorAdC
import Derived.Test.YtggncnjbaghjkaaDoorAdD
import Derived.Test.YtggncnjbaghjkaaDoorAdE
import Derived.Test.YtggncnjbaghjkaaDoorAdF
import Derived.Test.YtggncnjbaghjkaaDoorAdg
import Derived.Test.YtggncnjbaghjkaaDoorAdd
import Derived.Test.YtggncnjbaghjkaaDoorVl
import Derived.Test.YtggncnjbaghjkaaDoorFsu
import Derived.Test.YtggncnjbaghjkaaDoorFtr
import Derived.WalkKit
import Derived.ProofKit
import Derived.OpenShut
import Derived.ShutString
import Derived.ChangeOld
import Derived.Below
import Derived.Lib.SmallJoins
import Derived.OpenVars
import Derived.ChangeVars
import Derived.Deep.RegionHeld3
import Derived.Test.YtggncnjbaghjkaaDoorTie
import Derived.Test.YtggncnjbaghjkaaDoorCards
import Derived.LaidMore
import Derived.Lay
import Derived.SevenTiedAt
import Derived.Stop.Joined
namespace Go.Proofs.YtggncnjbaghjkaaDoor.fnExactFTree
open Go.ChangeShapes Go.WideShapes Go.ChangeAt Go.RowKit Go.Joins
open Go.ChangeMaps (open_string shut_string)
set_option linter.unusedVariables false

theorem own : ownKnob Tryd.prog.godebug = none := by kernel_rfl
theorem laidOut : laidOutB Tryd.prog = true := by kernel_rfl

theorem walk (a0 : Option Addr) (r0 cap0 : Nat) (w : World) (hL : laidMetH Tryd.prog Rows.fnExactFTreeRow.laid w) (w0 : Vl.Arg w a0 r0) :
    Calls Tryd.prog 5 #[.slice a0 r0 cap0] w fun e w' => e = .returned (.bool true) ∧ Below w.heap.size w w' := by
  have hv : FlV.SV w := by
    rw [MakeChecks.laidMetH_plain _ _ _ (by kernel_rfl)] at hL
    exact FlV.sv_at hL
  clear hL
  obtain ⟨hr, D, h0⟩ := w0
  have H := Vl.hide h0
  have HV := Vl.hide hv
  obtain ⟨add, hadd⟩ := FlV.addFun
  clear h0 hv
  by_cases h20 : 1048576 < (r0 : Int)
  · go_enter Tryd.func5, Tryd.ntmps5
    go_wp2_with fail
    go_ret
    exact ⟨rfl, Below.refl _ _⟩
  · have h20' : decide (1048576 < (r0 : Int)) = false := by rw [decide_eq_false_iff_not]; exact h20
    have hl : (r0 : Int) ≤ 1048576 := by omega
    clear h20
    obtain ⟨v, hs, hi⟩ := FlV.treeBoth add hadd r0 D hl
    have HS := Vl.hide hs
    have HI := Vl.hide hi
    clear hs hi hadd
    go_enter Tryd.func5, Tryd.ntmps5
    go_wp2_with fail
    refine (Vl.toIntS w.heap.size a0 r0 cap0 D _ H.out (Nat.le_refl _) hl).mono ?_; rintro e w1 ⟨rfl, q1, s1, b1⟩
    have B1 := Vl.hide b1
    have Q1 := Vl.hide (q1.ints (B := w1.heap.size) s1)
    clear q1
    go_wp2_with fail
    refine (HS.out w1.heap.size _ r0 _ Q1.out (Nat.le_refl _) (Nat.le_refl _)).mono ?_; rintro e w2 ⟨rfl, c2⟩
    have B2 := Vl.hide (B1.out.trans (c2.mono B1.out.size))
    clear Q1 b1 B1 c2
    go_wp2_with fail
    refine (Vl.toIntS w.heap.size a0 r0 cap0 D _ (H.out.below B2.out) B2.out.size hl).mono ?_; rintro e w3 ⟨rfl, q3, s3, b3⟩
    have B3 := Vl.hide (B2.out.trans (b3.mono B2.out.size))
    have Q3 := Vl.hide q3
    clear q3 b3
    go_wp2_with fail
    refine (HI.out w3.heap.size _ r0 _ (HV.out.below B3.out) (Q3.out.ints s3) (Nat.le_refl _) (Nat.le_refl _)).mono ?_; rintro e w4 ⟨rfl, c4⟩
    have B4 := Vl.hide (B3.out.trans (c4.mono B3.out.size))
    have Q4 := Vl.hide (Q3.out.below c4 s3)
    have S4 := c4.size
    clear Q3
    go_wp2_with fail
    refine (Vl.toIntS w.heap.size a0 r0 cap0 D _ (H.out.below B4.out) B4.out.size hl).mono ?_; rintro e w5 ⟨rfl, q5, s5, b5⟩
    have B5 := Vl.hide (B4.out.trans (b5.mono B4.out.size))
    have Q5 := Vl.hide q5
    have Q6 := Vl.hide (Q4.out.below b5 (by omega))
    clear q5 Q4
    go_wp2_with fail
    refine (Vl.eqIntS w5.heap.size _ _ r0 r0 r0 D D _ (Q6.out.ints (by omega)) (Q5.out.ints s5) (fun _ _ => rfl) hl).mono ?_; rintro e w6 ⟨rfl, b6⟩
    go_wp2_with fail
    go_ret
    exact ⟨rfl, B5.out.trans (b6.mono B5.out.size)⟩

set_option maxRecDepth 100000 in
theorem lifted (os : Os) (started : os.Started) (H : Type) (enc : TypeId × Value → H) :
    ReturnsInHanded {} Tryd.checked os 5 .any (fun w args => (Rows.fnExactFTreeSpec.pre enc Tryd.prog Tryd.f5 Rows.fnExactFTreeRow.domain false w args ∧ laidMetH Tryd.prog Rows.fnExactFTreeRow.laid w) ∧ sizedMet enc Tryd.prog Tryd.f5 (OpenSpec.ofChange Rows.fnExactFTreeSpec) false w args) (Rows.fnExactFTreeSpec.post enc Tryd.prog Tryd.f5 false true false false) := by
  refine returnsInHanded_of_change_and (C := Tryd.checked) (X := fun w _ => laidMetH Tryd.prog Rows.fnExactFTreeRow.laid w) (fun _ _ _ hh h => h.of_heap hh) own started (by kernel_rfl) Tryd.func5
    (ChangeSpec.witness_shaped (enc := enc) (C := Tryd.checked) (os := os) (X := fun w _ => laidMetH Tryd.prog Rows.fnExactFTreeRow.laid w) false (World.laidAll Tryd.prog os Rows.fnExactFTreeRow.laid) #[.slice none 0 0] 8 (World.laidAll_os _ _ _)
      (World.shaped_of_ZipB (by kernel_rfl) (by kernel_rfl)) (by kernel_rfl) (by kernel_rfl) (by kernel_rfl)
      (by rw [MakeChecks.laidMetH_plain _ _ _ (by kernel_rfl)]; exact laidMet_laidAll _ (by kernel_rfl) (by kernel_rfl))) ?_
  intro W base args ds gs before hval0 hW hcnd _ hL _
  have hval : ∀ (j : Nat) t v, Tryd.f5.params[j]? = some t → args[j]? = some v → Value.okWide Tryd.prog W .any base t v := hval0
  have hW' := hW
  obtain ⟨p, q, hA0, hV, rfl, hfz, hnd⟩ := hW
  have hA : DataW.TrodAll enc Tryd.prog W 0 (fun _ => true) true Tryd.f5.params.toList args.toList ds p := hA0
  rw [Tryd.params5] at hA hval
  obtain ⟨v0, vs0, d0, ds0, p0, q0, hargs, rfl, rfl, h0, rst0⟩ := trodAll_cons hA
  obtain ⟨rfl, rfl, rfl⟩ := trodAll_nil rst0
  obtain rfl : args = #[v0] := by cases args; simp_all
  have hV0 := hV
  obtain ⟨gv0, tv0, cv0, fv0, dv0, pv0, rfl, _, _, _, _, rfl⟩ := trodVars_one hV
  have k0 := h0
  have lt0 : ∀ x ∈ p0, x.block < W.heap.size := by obtain ⟨m, hm⟩ := k0; exact DataW.trod_lt m _ _ _ hm
  obtain ⟨a0, r0, cap0, rfl⟩ := okWide_slice Tryd.underlying24 (hval 0 24 v0 rfl rfl)
  have w0 : Vl.Arg W a0 r0 := Vl.arg_at h0
  clear hA0 hval0
  refine (walk a0 r0 cap0 W hL w0).mono fun e W' ⟨he, bel⟩ => ?_
  subst he
  exact ⟨_, rfl, _, _, _, [], _, _, hW', trodAll_mk1 (shut_bool Tryd.underlying4 _), (trodAll_cons_mk (Below.trod laidOut (by kernel_rfl) (of_decide_eq_true (by kernel_rfl)) k0 bel lt0) trodAll_mk0), Below.trodVars laidOut bel (by kernel_rfl) hV0, bel.frame _, fun h => by cases h⟩

theorem over : Rows.fnExactFTreeRow.holds Tryd.pinned (OpenSpec.ofChange Rows.fnExactFTreeSpec) :=
  OpenClaim.holds_of_wide 5 Tryd.f5 rfl rfl rfl rfl rfl rfl rfl ⟨rfl, rfl, rfl, rfl, rfl⟩ rfl rfl rfl rfl rfl (by kernel_rfl) Tryd.func5 (by kernel_rfl)
    (of_decide_eq_true (by kernel_rfl)) (by unfold Func.isWrapper; first | (rw [if_pos (by decide +kernel)]; kernel_rfl) | (rw [if_neg (by decide +kernel)]; exact ⟨rfl, rfl⟩))
    (fun os started H enc _ => lifted os started H enc)

theorem card : Rows.FnExactFTreeCardSaid :=
  Claim7.holds_tied_plain_at .later [] [.wider] true (true, "7f0194cfb9949ce80342dde42103c6e2705aa6a1d19c6e858aed7564259f32a3") false over (fun _ h => by cases h) (by kernel_rfl) (fun _ h => by cases h) fnExactFTree_row_tie rfl ⟨rfl, rfl⟩ (by kernel_rfl) rfl
    (fun f fn hf hfn => by
      obtain rfl : f = 5 := Option.some.inj ((show Tryd.prog.funcNamed Tryd.f5.name = some 5 by kernel_rfl).symm.trans hf) |>.symm
      obtain rfl : fn = Tryd.f5 := (Option.some.inj (Tryd.func5.symm.trans hfn)).symm
      exact ⟨by kernel_rfl, fun j t ht => by
        rw [Tryd.params5] at ht
        have hm : t ∈ [24] := by simpa using Array.mem_of_getElem? ht
        have hall : ([24].all fun u => !Tryd.prog.wantsStandIn u) = true := by kernel_rfl
        exact (show Tryd.prog.wantsStandIn t = false by simpa using List.all_eq_true.1 hall t hm)⟩)
    (by kernel_rfl)
#print axioms card
end Go.Proofs.YtggncnjbaghjkaaDoor.fnExactFTree
