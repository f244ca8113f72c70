/-
  Proved: whatever the arguments, 'FnExactFAdd' returns true: the landed function answers as its model, and what came in reads as it did. No condition.
-/
import Derived.Test.YtggncnjbaghjkaaDoorRows
import Derived.Test.YtggncnjbaghjkaaDoorShelf
import Derived.Test.YtggncnjbaghjkaaDoorFlo
import Derived.Test.YtggncnjbaghjkaaDoorRnd
import Derived.Test.YtggncnjbaghjkaaDoorFlP
import Derived.Test.YtggncnjbaghjkaaDoorClS
import Derived.Test.YtggncnjbaghjkaaDoorFlM
import Derived.Test.YtggncnjbaghjkaaDoorFlR
import Derived.Test.YtggncnjbaghjkaaDoorFlQ
import Derived.Test.YtggncnjbaghjkaaDoorFlV
import Derived.Test.YtggncnjbaghjkaaDoorTwo
import Derived.Test.YtggncnjbaghjkaaDoorWid
import Derived.Test.YtggncnjbaghjkaaDoorWo
import Derived.Test.YtggncnjbaghjkaaDoorWpl
import Derived.Test.YtggncnjbaghjkaaDoorLea
import Derived.Test.YtggncnjbaghjkaaDoorLeb
import Derived.Test.YtggncnjbaghjkaaDoorAdw
import Derived.Test.YtggncnjbaghjkaaDoorAdA
import Derived.Test.YtggncnjbaghjkaaDoorAdB
import Derived.Test.YtggncnjbaghjkaaDoorAdC
import Derived.Test.YtggncnjbaghjkaaDoorAdD
import Derived.Test.YtggncnjbaghjkaaDoorAdE
import Derived.Test.YtggncnjbaghjkaaDoorAdF
import Derived.Test.YtggncnjbaghjkaaDoorAdg
import Derived.Test.YtggncnjbaghjkaaDoorAdd
import Derived.WalkKit
import Derived.ProofKit
import Derived.OpenShut
import Derived.ShutString
import Derived.ChangeOld
import Derived.Below
import Derived.Lib.SmallJoins
import Derived.OpenVars
import Derived.ChangeVars
import Derived.Deep.RegionHeld3
import Derived.Test.YtggncnjbaghjkaaDoorTie
import Derived.Test.YtggncnjbaghjkaaDoorCards
import Derived.LaidMore
import Derived.Lay
import Derived.SevenTiedAt
import Derived.Stop.Joined
namespace Go.Proofs.YtggncnjbaghjkaaDoor.fnExactFAdd
open Go.ChangeShapes Go.WideShapes Go.ChangeAt Go.RowKit Go.Joins
open Go.ChangeMaps (open_string shut_string)
set_option linter.unusedVariables false

theorem own : ownKnob Tryd.prog.godebug = none := by kernel_rfl
theorem laidOut : laidOutB Tryd.prog = true := by kernel_rfl

theorem walk (a0 : Int) (w0 : (Lit.int .i64 a0).wf = true) (a1 : Int) (w1 : (Lit.int .i64 a1).wf = true) (w : World) (hL : laidMetH Tryd.prog Rows.fnExactFAddRow.laid w) :
    Calls Tryd.prog 3 #[.int .i64 a0, .int .i64 a1] w fun e w' => e = .returned (.bool true) ∧ Below w.heap.size w w' := by
  have hv : FlV.SV w := by
    rw [MakeChecks.laidMetH_plain _ _ _ (by kernel_rfl)] at hL
    exact FlV.sv_at hL
  clear hL w0 w1
  obtain ⟨r, hs, hi⟩ := FlV.addBoth a0 a1
  have HV := Flo.hide hv
  have HS := Flo.hide hs
  have HI := Flo.hide hi
  clear hv hs hi
  go_enter Tryd.func3, Tryd.ntmps3
  go_wp2_with fail
  refine (HS.out _).mono ?_; rintro e w1 ⟨rfl, b1⟩
  go_wp2_with fail
  refine (HI.out _ (HV.out.below b1)).mono ?_; rintro e w2 ⟨rfl, b2⟩
  go_wp2
  go_ret
  exact ⟨rfl, b1.trans (b2.mono b1.size)⟩

set_option maxRecDepth 100000 in
theorem lifted (os : Os) (started : os.Started) (H : Type) (enc : TypeId × Value → H) :
    ReturnsInHanded {} Tryd.checked os 3 .any (fun w args => (Rows.fnExactFAddSpec.pre enc Tryd.prog Tryd.f3 Rows.fnExactFAddRow.domain false w args ∧ laidMetH Tryd.prog Rows.fnExactFAddRow.laid w) ∧ sizedMet enc Tryd.prog Tryd.f3 (OpenSpec.ofChange Rows.fnExactFAddSpec) false w args) (Rows.fnExactFAddSpec.post enc Tryd.prog Tryd.f3 false true false false) := by
  refine returnsInHanded_of_change_and (C := Tryd.checked) (X := fun w _ => laidMetH Tryd.prog Rows.fnExactFAddRow.laid w) (fun _ _ _ hh h => h.of_heap hh) own started (by kernel_rfl) Tryd.func3
    (ChangeSpec.witness_shaped (enc := enc) (C := Tryd.checked) (os := os) (X := fun w _ => laidMetH Tryd.prog Rows.fnExactFAddRow.laid w) false (World.laidAll Tryd.prog os Rows.fnExactFAddRow.laid) #[.int .i64 0, .int .i64 0] 8 (World.laidAll_os _ _ _)
      (World.shaped_of_ZipB (by kernel_rfl) (by kernel_rfl)) (by kernel_rfl) (by kernel_rfl) (by kernel_rfl)
      (by rw [MakeChecks.laidMetH_plain _ _ _ (by kernel_rfl)]; exact laidMet_laidAll _ (by kernel_rfl) (by kernel_rfl))) ?_
  intro W base args ds gs before hval0 hW hcnd _ hL _
  have hval : ∀ (j : Nat) t v, Tryd.f3.params[j]? = some t → args[j]? = some v → Value.okWide Tryd.prog W .any base t v := hval0
  have hW' := hW
  obtain ⟨p, q, hA0, hV, rfl, hfz, hnd⟩ := hW
  have hA : DataW.TrodAll enc Tryd.prog W 0 (fun _ => true) true Tryd.f3.params.toList args.toList ds p := hA0
  rw [Tryd.params3] at hA hval
  obtain ⟨v0, vs0, d0, ds0, p0, q0, hargs, rfl, rfl, h0, rst0⟩ := trodAll_cons hA
  obtain ⟨v1, vs1, d1, ds1, p1, q1, rfl, rfl, rfl, h1, rst1⟩ := trodAll_cons rst0
  obtain ⟨rfl, rfl, rfl⟩ := trodAll_nil rst1
  obtain rfl : args = #[v0, v1] := by cases args; simp_all
  have hV0 := hV
  obtain ⟨gv0, tv0, cv0, fv0, dv0, pv0, rfl, _, _, _, _, rfl⟩ := trodVars_one hV
  have k0 := h0
  have lt0 : ∀ x ∈ p0, x.block < W.heap.size := by obtain ⟨m, hm⟩ := k0; exact DataW.trod_lt m _ _ _ hm
  obtain ⟨a0, rfl, e0, _, w0⟩ := open_int Tryd.underlying3 (hval 0 3 v0 rfl rfl) h0
  have k1 := h1
  have lt1 : ∀ x ∈ p1, x.block < W.heap.size := by obtain ⟨m, hm⟩ := k1; exact DataW.trod_lt m _ _ _ hm
  obtain ⟨a1, rfl, e1, _, w1⟩ := open_int Tryd.underlying3 (hval 1 3 v1 rfl rfl) h1
  clear hA0 hval0
  refine (walk a0 w0 a1 w1 W hL).mono fun e W' ⟨he, bel⟩ => ?_
  subst he
  exact ⟨_, rfl, _, _, _, [], _, _, hW', trodAll_mk1 (shut_bool Tryd.underlying4 _), (trodAll_cons_mk (Below.trod laidOut (by kernel_rfl) (of_decide_eq_true (by kernel_rfl)) k0 bel lt0) (trodAll_cons_mk (Below.trod laidOut (by kernel_rfl) (of_decide_eq_true (by kernel_rfl)) k1 bel lt1) trodAll_mk0)), Below.trodVars laidOut bel (by kernel_rfl) hV0, bel.frame _, fun h => by cases h⟩

theorem over : Rows.fnExactFAddRow.holds Tryd.pinned (OpenSpec.ofChange Rows.fnExactFAddSpec) :=
  OpenClaim.holds_of_wide 3 Tryd.f3 rfl rfl rfl rfl rfl rfl rfl ⟨rfl, rfl, rfl, rfl, rfl⟩ rfl rfl rfl rfl rfl (by kernel_rfl) Tryd.func3 (by kernel_rfl)
    (of_decide_eq_true (by kernel_rfl)) (by unfold Func.isWrapper; first | (rw [if_pos (by decide +kernel)]; kernel_rfl) | (rw [if_neg (by decide +kernel)]; exact ⟨rfl, rfl⟩))
    (fun os started H enc _ => lifted os started H enc)

theorem card : Rows.FnExactFAddCardSaid :=
  Claim7.holds_tied_plain_at .later [] [.wider] true (true, "7f0194cfb9949ce80342dde42103c6e2705aa6a1d19c6e858aed7564259f32a3") false over (fun _ h => by cases h) (by kernel_rfl) (fun _ h => by cases h) fnExactFAdd_row_tie rfl ⟨rfl, rfl⟩ (by kernel_rfl) rfl
    (fun f fn hf hfn => by
      obtain rfl : f = 3 := Option.some.inj ((show Tryd.prog.funcNamed Tryd.f3.name = some 3 by kernel_rfl).symm.trans hf) |>.symm
      obtain rfl : fn = Tryd.f3 := (Option.some.inj (Tryd.func3.symm.trans hfn)).symm
      exact ⟨by kernel_rfl, fun j t ht => by
        rw [Tryd.params3] at ht
        have hm : t ∈ [3, 3] := by simpa using Array.mem_of_getElem? ht
        have hall : ([3, 3].all fun u => !Tryd.prog.wantsStandIn u) = true := by kernel_rfl
        exact (show Tryd.prog.wantsStandIn t = false by simpa using List.all_eq_true.1 hall t hm)⟩)
    (by kernel_rfl)
#print axioms card
end Go.Proofs.YtggncnjbaghjkaaDoor.fnExactFAdd
