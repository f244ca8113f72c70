/-
  Proved: whatever the arguments, 'FnHalfBack' returns true: the landed function answers as its model, and what came in reads as it did. No condition.
-/
import Derived.Test.YteoogkcjcfnniaaDoorRows
import Derived.Test.YteoogkcjcfnniaaDoorShelf
import Derived.Test.YteoogkcjcfnniaaDoorNum
import Derived.Test.YteoogkcjcfnniaaDoorBase
import Derived.Test.YteoogkcjcfnniaaDoorPow
import Derived.Test.YteoogkcjcfnniaaDoorDraw
import Derived.Test.YteoogkcjcfnniaaDoorFlo
import Derived.Test.YteoogkcjcfnniaaDoorRnd
import Derived.Test.YteoogkcjcfnniaaDoorFlP
import Derived.Test.YteoogkcjcfnniaaDoorFlH
import Derived.Test.YteoogkcjcfnniaaDoorClS
import Derived.Test.YteoogkcjcfnniaaDoorClH
import Derived.Test.YteoogkcjcfnniaaDoorFlM
import Derived.Test.YteoogkcjcfnniaaDoorFmH
import Derived.Test.YteoogkcjcfnniaaDoorFlR
import Derived.Test.YteoogkcjcfnniaaDoorFlQ
import Derived.Test.YteoogkcjcfnniaaDoorFqH
import Derived.Test.YteoogkcjcfnniaaDoorFlV
import Derived.Test.YteoogkcjcfnniaaDoorFlU
import Derived.Test.YteoogkcjcfnniaaDoorFlW
import Derived.Test.YteoogkcjcfnniaaDoorTwo
import Derived.Test.YteoogkcjcfnniaaDoorLes
import Derived.Test.YteoogkcjcfnniaaDoorBck
import Derived.Test.YteoogkcjcfnniaaDoorBk2
import Derived.Test.YteoogkcjcfnniaaDoorBk3
import Derived.WalkKit
import Derived.ProofKit
import Derived.OpenShut
import Derived.ShutString
import Derived.ChangeOld
import Derived.Below
import Derived.Lib.SmallJoins
import Derived.OpenVars
import Derived.ChangeVars
import Derived.Test.YteoogkcjcfnniaaDoorTie
import Derived.Test.YteoogkcjcfnniaaDoorCards
import Derived.LaidMore
import Derived.Lay
import Derived.SevenTiedAt
import Derived.Stop.Joined
namespace Go.Proofs.YteoogkcjcfnniaaDoor.fnHalfBack
open Go.ChangeShapes Go.WideShapes Go.ChangeAt Go.RowKit Go.Joins
open Go.ChangeMaps (open_string shut_string)
set_option linter.unusedVariables false

theorem own : ownKnob Tryd.prog.godebug = none := by kernel_rfl
theorem laidOut : laidOutB Tryd.prog = true := by kernel_rfl

set_option maxRecDepth 100000 in
set_option maxHeartbeats 4000000 in
theorem walk (a0 : Option Addr) (len0 cap0 : Nat) (w : World) (hL : laidMetH Tryd.prog Rows.fnHalfBackRow.laid w) (w0 : Base.Code w.heap.size w a0 len0) :
    Calls Tryd.prog 3 #[.slice a0 len0 cap0] w fun e w' => e = .returned (.bool true) ∧ Below w.heap.size w w' := by
  have hv : FlV.SV w ∧ FlV.HV w := by
    rw [MakeChecks.laidMetH_plain _ _ _ (by kernel_rfl)] at hL
    first | exact ⟨FlV.sv_at hL, FlV.hv_at hL.tail⟩ | exact ⟨FlV.sv_at hL.tail, FlV.hv_at hL⟩
  clear hL
  have L0 := w0.1
  have l0 : (len0 : Int) ≤ 9223372036854775807 := by omega
  have W0 := Base.hide w0
  have HV := Flo.hide hv
  clear w0 hv L0
  by_cases g0 : (1048576 : Int) < (len0 : Int)
  · have e0 := Base.hide (decide_eq_true g0)
    clear g0
    go_enter Tryd.func3, Tryd.ntmps3
    go_wp2_with fail
    refine (Base.big a0 len0 cap0 true _ l0 e0.out).mono ?_; rintro e w' ⟨rfl, rfl⟩
    go_wp2_with fail
    go_ret
    exact ⟨rfl, Below.refl _ _⟩
  · have e0 := Base.hide (decide_eq_false g0)
    clear g0
    go_enter Tryd.func3, Tryd.ntmps3
    go_wp2_with fail
    refine (Base.big a0 len0 cap0 false _ l0 e0.out).mono ?_; rintro e w' ⟨rfl, rfl⟩
    go_wp2_with fail
    refine (FlV.atByte a0 len0 cap0 0 _ _ W0.out (by decide)).mono ?_; rintro e w' ⟨z0, z00, z01, rfl, rfl⟩
    go_wp2_with fail
    refine (FlV.atByte a0 len0 cap0 1 _ _ W0.out (by decide)).mono ?_; rintro e w' ⟨z1, z10, z11, rfl, rfl⟩
    go_wp2_with fail
    refine (FlV.atByte a0 len0 cap0 2 _ _ W0.out (by decide)).mono ?_; rintro e w' ⟨z2, z20, z21, rfl, rfl⟩
    go_wp2_with fail
    refine (FlV.atByte a0 len0 cap0 3 _ _ W0.out (by decide)).mono ?_; rintro e w' ⟨z3, z30, z31, rfl, rfl⟩
    go_wp2_with fail
    generalize hh : (z0 * 256 + z1) % 31744 = h at *
    generalize hk : (z2 * 256 + z3) % 31744 = k at *
    have h0 : 0 ≤ h := by omega
    have h1 : h < 31744 := by omega
    have k0 : 0 ≤ k := by omega
    have k1 : k < 31744 := by omega
    clear hh hk z00 z01 z10 z11 z20 z21 z30 z31 W0 e0
    obtain ⟨m, e, fh, fh1⟩ := FlV.half_of h h0 h1
    obtain ⟨n, f, fk, _⟩ := FlV.half_of k k0 k1
    obtain ⟨u, hu⟩ : ∃ u : Int, FlV.up m e = u := ⟨_, rfl⟩
    obtain ⟨v, hvv⟩ : ∃ v : Int, FlV.up n f = v := ⟨_, rfl⟩
    obtain ⟨x, hx⟩ : ∃ x : Int, 1 * 2147483648 + FlV.up m e = x := ⟨_, rfl⟩
    have A1 := Flo.hide (fun w a b => FlV.ofHalfN h 0 e u m w fh (by rw [hu]; omega) a b)
    have A2 := Flo.hide (fun w a b => FlV.halfOfN h 0 e u m w fh (by rw [hu]; omega) a b)
    have A3 := Flo.hide (fun w a b => FlV.ofHalfN (h + 32768) 1 e x m w fh1 hx a b)
    have A4 := Flo.hide (fun w a b => FlV.halfOfN (h + 32768) 1 e x m w fh1 hx a b)
    have A5 := Flo.hide (fun w a b => FlV.ofHalfN k 0 f v n w fk (by rw [hvv]; omega) a b)
    have A6 := Flo.hide (fun w a b => FlV.ofHalfN 15360 0 (-10) 1065353216 1024 w FlV.up_one.1 FlV.up_one.2 a b)
    have A7 := Flo.hide (fun w a => FlV.lessV h k e f m n w fh fk a)
    rw [hu, hvv] at A7
    clear fh fh1 fk hu hvv hx
    refine (A1.out _ HV.out.1 HV.out.2).mono ?_; rintro e' w1 ⟨rfl, b1⟩
    have V1 := Flo.hide (And.intro (HV.out.1.below b1) (HV.out.2.below b1))
    go_wp2_with fail
    refine (A2.out _ V1.out.1 V1.out.2).mono ?_; rintro e' w2 ⟨rfl, c2⟩
    have b2 := b1.trans (c2.mono b1.size)
    have V2 := Flo.hide (And.intro (HV.out.1.below b2) (HV.out.2.below b2))
    clear V1 b1 c2
    go_wp2_with fail
    refine (A3.out _ V2.out.1 V2.out.2).mono ?_; rintro e' w3 ⟨rfl, c3⟩
    have b3 := b2.trans (c3.mono b2.size)
    have V3 := Flo.hide (And.intro (HV.out.1.below b3) (HV.out.2.below b3))
    clear V2 b2 c3
    go_wp2_with fail
    refine (A4.out _ V3.out.1 V3.out.2).mono ?_; rintro e' w4 ⟨rfl, c4⟩
    have b4 := b3.trans (c4.mono b3.size)
    have V4 := Flo.hide (And.intro (HV.out.1.below b4) (HV.out.2.below b4))
    clear V3 b3 c4
    go_wp2_with fail
    refine (A6.out _ V4.out.1 V4.out.2).mono ?_; rintro e' w5 ⟨rfl, c5⟩
    have b5 := b4.trans (c5.mono b4.size)
    have V5 := Flo.hide (And.intro (HV.out.1.below b5) (HV.out.2.below b5))
    clear V4 b4 c5
    go_wp2_with fail
    refine (FlV.ofOne _ V5.out.1).mono ?_; rintro e' w6 ⟨rfl, c6⟩
    have b6 := b5.trans (c6.mono b5.size)
    have V6 := Flo.hide (And.intro (HV.out.1.below b6) (HV.out.2.below b6))
    clear V5 b5 c6
    go_wp2_with fail
    refine (A1.out _ V6.out.1 V6.out.2).mono ?_; rintro e' w7 ⟨rfl, c7⟩
    have b7 := b6.trans (c7.mono b6.size)
    have V7 := Flo.hide (And.intro (HV.out.1.below b7) (HV.out.2.below b7))
    clear V6 b6 c7
    go_wp2_with fail
    refine (A5.out _ V7.out.1 V7.out.2).mono ?_; rintro e' w8 ⟨rfl, c8⟩
    have b8 := b7.trans (c8.mono b7.size)
    have V8 := Flo.hide (And.intro (HV.out.1.below b8) (HV.out.2.below b8))
    clear V7 b7 c8
    go_wp2_with fail
    refine (A7.out _ V8.out.1).mono ?_; rintro e' w9 ⟨rfl, c9⟩
    have b9 := b8.trans (c9.mono b8.size)
    have V9 := Flo.hide (And.intro (HV.out.1.below b9) (HV.out.2.below b9))
    clear V8 b8 c9
    go_wp2_with fail
    go_ret
    exact ⟨by simp, b9⟩

set_option maxRecDepth 100000 in
theorem lifted (os : Os) (started : os.Started) (H : Type) (enc : TypeId × Value → H) :
    ReturnsInHanded {} Tryd.checked os 3 .any (fun w args => (Rows.fnHalfBackSpec.pre enc Tryd.prog Tryd.f3 Rows.fnHalfBackRow.domain false w args ∧ laidMetH Tryd.prog Rows.fnHalfBackRow.laid w) ∧ sizedMet enc Tryd.prog Tryd.f3 (OpenSpec.ofChange Rows.fnHalfBackSpec) false w args) (Rows.fnHalfBackSpec.post enc Tryd.prog Tryd.f3 false true false false) := by
  refine returnsInHanded_of_change_and (C := Tryd.checked) (X := fun w _ => laidMetH Tryd.prog Rows.fnHalfBackRow.laid w) (fun _ _ _ hh h => h.of_heap hh) own started (by kernel_rfl) Tryd.func3
    (ChangeSpec.witness_shaped (enc := enc) (C := Tryd.checked) (os := os) (X := fun w _ => laidMetH Tryd.prog Rows.fnHalfBackRow.laid w) false (World.laidAll Tryd.prog os Rows.fnHalfBackRow.laid) #[.slice none 0 0] 8 (World.laidAll_os _ _ _)
      (World.shaped_of_ZipB (by kernel_rfl) (by kernel_rfl)) (by kernel_rfl) (by kernel_rfl) (by kernel_rfl)
      (by rw [MakeChecks.laidMetH_plain _ _ _ (by kernel_rfl)]; exact laidMet_laidAll _ (by kernel_rfl) (by kernel_rfl))) ?_
  intro W base args ds gs before hval0 hW hcnd _ hL _
  have hval : ∀ (j : Nat) t v, Tryd.f3.params[j]? = some t → args[j]? = some v → Value.okWide Tryd.prog W .any base t v := hval0
  have hW' := hW
  obtain ⟨p, q, hA0, hV, rfl, hfz, hnd⟩ := hW
  have hA : DataW.TrodAll enc Tryd.prog W 0 (fun _ => true) true Tryd.f3.params.toList args.toList ds p := hA0
  rw [Tryd.params3] at hA hval
  obtain ⟨v0, vs0, d0, ds0, p0, q0, hargs, rfl, rfl, h0, r0⟩ := trodAll_cons hA
  obtain ⟨rfl, rfl, rfl⟩ := trodAll_nil r0
  obtain rfl : args = #[v0] := by cases args; simp_all
  have hV0 := hV
  obtain ⟨gv0, tv0, cv0, fv0, dv0, pv0, gv1, tv1, cv1, fv1, dv1, pv1, rfl, _, _, _, _, _, _, _, _, rfl⟩ := trodVars_two hV
  have k0 := h0
  have lt0 : ∀ x ∈ p0, x.block < W.heap.size := by obtain ⟨m, hm⟩ := k0; exact DataW.trod_lt m _ _ _ hm
  obtain ⟨a0, len0, cap0, rfl⟩ := okWide_slice Tryd.underlying22 (hval 0 22 v0 rfl rfl)
  have w0 : Base.Code W.heap.size W a0 len0 := by
    obtain ⟨fuel, hf⟩ := h0
    rcases open_ints Tryd.underlying22 Tryd.underlying5 (by kernel_rfl) hf with ⟨hcs, _⟩ | ⟨x, l, c, zs, hcs, _, hl, hm, hz, _, hcell, hwz⟩
    · simp [Value.cells] at hcs
      obtain ⟨rfl, rfl, rfl⟩ := hcs
      exact ⟨by omega, .inl rfl⟩
    · simp [Value.cells] at hcs
      obtain ⟨rfl, rfl, rfl⟩ := hcs
      exact Base.code_of hl hm (by simpa using hz) hcell hwz
  clear hA0 hval0
  refine (walk a0 len0 cap0 W hL w0).mono fun e W' ⟨he, bel⟩ => ?_
  subst he
  exact ⟨_, rfl, _, _, _, [], _, _, hW', trodAll_mk1 (shut_bool Tryd.underlying4 _), (trodAll_cons_mk (Below.trod laidOut (by kernel_rfl) (of_decide_eq_true (by kernel_rfl)) k0 bel lt0) trodAll_mk0), Below.trodVars laidOut bel (by kernel_rfl) hV0, bel.frame _, fun h => by cases h⟩

theorem over : Rows.fnHalfBackRow.holds Tryd.pinned (OpenSpec.ofChange Rows.fnHalfBackSpec) :=
  OpenClaim.holds_of_wide 3 Tryd.f3 rfl rfl rfl rfl rfl rfl rfl ⟨rfl, rfl, rfl, rfl, rfl⟩ rfl rfl rfl rfl rfl (by kernel_rfl) Tryd.func3 (by kernel_rfl)
    (of_decide_eq_true (by kernel_rfl)) (by unfold Func.isWrapper; first | (rw [if_pos (by decide +kernel)]; kernel_rfl) | (rw [if_neg (by decide +kernel)]; exact ⟨rfl, rfl⟩))
    (fun os started H enc _ => lifted os started H enc)

theorem card : Rows.FnHalfBackCardSaid :=
  Claim7.holds_tied_plain_at .later [] [.wider, .wider] true (true, "09ee5e2822a24f1bb3a610fb79b678398c8a234058cf91d4d06c1b4b22e3630c") false over (fun _ h => by cases h) (by kernel_rfl) (fun _ h => by cases h) fnHalfBack_row_tie rfl ⟨rfl, rfl⟩ (by kernel_rfl) rfl
    (fun f fn hf hfn => by
      obtain rfl : f = 3 := Option.some.inj ((show Tryd.prog.funcNamed Tryd.f3.name = some 3 by kernel_rfl).symm.trans hf) |>.symm
      obtain rfl : fn = Tryd.f3 := (Option.some.inj (Tryd.func3.symm.trans hfn)).symm
      exact ⟨by kernel_rfl, fun j t ht => by
        rw [Tryd.params3] at ht
        have hm : t ∈ [22] := by simpa using Array.mem_of_getElem? ht
        have hall : ([22].all fun u => !Tryd.prog.wantsStandIn u) = true := by kernel_rfl
        exact (show Tryd.prog.wantsStandIn t = false by simpa using List.all_eq_true.1 hall t hm)⟩)
    (by kernel_rfl)
#print axioms card
end Go.Proofs.YteoogkcjcfnniaaDoor.fnHalfBack
