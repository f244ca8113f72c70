/-
  Proved: whatever the arguments, 'FnFloatSides' returns true: the landed function answers as its model, and what came in reads as it did. No condition.
-/
import Derived.Test.YtmghmcnihiepiaaDoorRows
import Derived.Test.YtmghmcnihiepiaaDoorShelf
import Derived.Test.YtmghmcnihiepiaaDoorNum
import Derived.Test.YtmghmcnihiepiaaDoorBase
import Derived.Test.YtmghmcnihiepiaaDoorPow
import Derived.Test.YtmghmcnihiepiaaDoorDraw
import Derived.Test.YtmghmcnihiepiaaDoorFlo
import Derived.Test.YtmghmcnihiepiaaDoorRnd
import Derived.Test.YtmghmcnihiepiaaDoorFlP
import Derived.Test.YtmghmcnihiepiaaDoorClS
import Derived.Test.YtmghmcnihiepiaaDoorFlM
import Derived.Test.YtmghmcnihiepiaaDoorFlR
import Derived.Test.YtmghmcnihiepiaaDoorFlQ
import Derived.Test.YtmghmcnihiepiaaDoorFlV
import Derived.Test.YtmghmcnihiepiaaDoorFlY
import Derived.Test.YtmghmcnihiepiaaDoorTwo
import Derived.Test.YtmghmcnihiepiaaDoorWid
import Derived.Test.YtmghmcnihiepiaaDoorWo
import Derived.Test.YtmghmcnihiepiaaDoorWpl
import Derived.Test.YtmghmcnihiepiaaDoorLea
import Derived.Test.YtmghmcnihiepiaaDoorLeb
import Derived.Test.YtmghmcnihiepiaaDoorAdw
import Derived.Test.YtmghmcnihiepiaaDoorAdA
import Derived.Test.YtmghmcnihiepiaaDoorAdB
import Derived.Test.YtmghmcnihiepiaaDoorAdC
import Derived.Test.YtmghmcnihiepiaaDoorAdD
import Derived.Test.YtmghmcnihiepiaaDoorAdE
import Derived.Test.YtmghmcnihiepiaaDoorAdF
import Derived.Test.YtmghmcnihiepiaaDoorAdg
import Derived.Test.YtmghmcnihiepiaaDoorAdd
import Derived.Test.YtmghmcnihiepiaaDoorFlI
import Derived.Test.YtmghmcnihiepiaaDoorFlT
import Derived.Test.YtmghmcnihiepiaaDoorLes
import Derived.Test.YtmghmcnihiepiaaDoorMul
import Derived.Test.YtmghmcnihiepiaaDoorDiv
import Derived.Test.YtmghmcnihiepiaaDoorWho
import Derived.Test.YtmghmcnihiepiaaDoorWhp
import Derived.Test.YtmghmcnihiepiaaDoorWhq
import Derived.Test.YtmghmcnihiepiaaDoorSid
import Derived.Test.YtmghmcnihiepiaaDoorDrf
import Derived.WalkKit
import Derived.ProofKit
import Derived.OpenShut
import Derived.ShutString
import Derived.ChangeOld
import Derived.Below
import Derived.Lib.SmallJoins
import Derived.OpenVars
import Derived.ChangeVars
import Derived.Deep.RegionHeld3
import Derived.Test.YtmghmcnihiepiaaDoorTie
import Derived.Test.YtmghmcnihiepiaaDoorCards
import Derived.LaidMore
import Derived.Lay
import Derived.SevenTiedAt
import Derived.Stop.Joined
namespace Go.Proofs.YtmghmcnihiepiaaDoor.fnFloatSides
open Go.ChangeShapes Go.WideShapes Go.ChangeAt Go.RowKit Go.Joins
open Go.ChangeMaps (open_string shut_string)
set_option linter.unusedVariables false
set_option linter.unusedSimpArgs false

theorem own : ownKnob Tryd.prog.godebug = none := by kernel_rfl
theorem laidOut : laidOutB Tryd.prog = true := by kernel_rfl

set_option maxRecDepth 100000 in
set_option maxHeartbeats 4000000 in
theorem walk (a0 : Option Addr) (len0 cap0 : Nat) (w : World) (hL : laidMetH Tryd.prog Rows.fnFloatSidesRow.laid w) (w0 : Base.Code w.heap.size w a0 len0) :
    Calls Tryd.prog 3 #[.slice a0 len0 cap0] w fun e w' => e = .returned (.bool true) ∧ Below w.heap.size w w' := by
  have hv : FlV.SV w := by
    rw [MakeChecks.laidMetH_plain _ _ _ (by kernel_rfl)] at hL
    first | exact FlV.sv_at hL | exact FlV.sv_at hL.tail
  clear hL
  have L0 := w0.1
  have l0 : (len0 : Int) ≤ 9223372036854775807 := by omega
  have W0 := Base.hide w0
  have HV := Flo.hide hv
  clear w0 hv L0
  by_cases g0 : (1048576 : Int) < (len0 : Int)
  · have e0 := Base.hide (decide_eq_true g0)
    clear g0
    go_enter Tryd.func3, Tryd.ntmps3
    go_wp2_with fail
    refine (Base.big a0 len0 cap0 true _ l0 e0.out).mono ?_; rintro e w' ⟨rfl, rfl⟩
    go_wp2_with fail
    go_ret
    exact ⟨rfl, Below.refl _ _⟩
  · have e0 := Base.hide (decide_eq_false g0)
    have n0 := Base.hide (show len0 ≤ 1048576 by omega)
    clear g0
    go_enter Tryd.func3, Tryd.ntmps3
    go_wp2_with fail
    refine (Base.big a0 len0 cap0 false _ l0 e0.out).mono ?_; rintro e w' ⟨rfl, rfl⟩
    go_wp2_with fail
    refine (FlV.drawFAdd a0 len0 cap0 _ W0.out n0.out).mono ?_; rintro e u1 ⟨a, b, x0, x1, y0, y1, rfl, b1⟩
    have V1 := Flo.hide (HV.out.below b1)
    clear n0 e0 W0
    have A1 := Flo.hide (fun k w hv h0 h1 => FlV.ofIntW k w hv h0 h1)
    have A2 := Flo.hide (fun w hv => FlV.addW 1 2 w hv (by decide) (by decide) (by decide) (by decide))
    obtain ⟨r3, h3⟩ : ∃ x, FlV.rp 3 = x := ⟨_, rfl⟩
    obtain ⟨r2, h2⟩ : ∃ x, FlV.rp 2 = x := ⟨_, rfl⟩
    obtain ⟨r1, h1⟩ : ∃ x, FlV.rp 1 = x := ⟨_, rfl⟩
    have q3 : (r3 == 0) = false := by
      rw [beq_eq_false_iff_ne, ← h3]
      have := FlV.fw_lt (a := 0) (b := 3) (by decide) (by decide)
      unfold FlV.rp FlV.wd
      rw [if_neg (by decide)]
      show ¬ (0 * 2147483648 + ((FlV.fw 3 : Nat) : Int) = 0)
      omega
    have C1 := Flo.hide (fun w hv => A1.out 1 w hv (by decide) (by decide))
    have C2 := Flo.hide (fun w hv => A1.out 2 w hv (by decide) (by decide))
    have C3 := Flo.hide (fun w hv => A1.out 3 w hv (by decide) (by decide))
    rw [show (1 : Int) + 2 = 3 from rfl, h1, h2, h3] at A2
    rw [h1] at C1
    rw [h2] at C2
    rw [h3] at C3
    clear A1 h1 h2 h3
    obtain ⟨s, ab, ba, sB⟩ := FlV.addSym a b
    obtain ⟨m, mab, mba⟩ := FlV.mulSym a b
    obtain ⟨p, q, lab, lba, lpq, lB⟩ := FlV.lessSym a b
    have S1 := Flo.hide ab
    have S2 := Flo.hide ba
    have M1 := Flo.hide mab
    have M2 := Flo.hide mba
    have L1 := Flo.hide lab
    have L2 := Flo.hide lba
    have OP := Flo.hide (FlV.oppo a)
    have SB := Flo.hide sB
    have LB := Flo.hide lB
    clear ab ba mab mba lab lba sB lB
    go_wp2_with fail
    refine (C1.out _ V1.out).mono ?_; rintro e w1 ⟨rfl, c1⟩
    have b2 := b1.trans (c1.mono b1.size)
    have V2 := Flo.hide (HV.out.below b2)
    clear V1 c1 b1
    go_wp2_with fail
    refine (C2.out _ V2.out).mono ?_; rintro e w2 ⟨rfl, c2⟩
    have b3 := b2.trans (c2.mono b2.size)
    have V3 := Flo.hide (HV.out.below b3)
    clear V2 c2 b2
    go_wp2_with fail
    refine (A2.out _ V3.out).mono ?_; rintro e w3 ⟨rfl, c3⟩
    have b4 := b3.trans (c3.mono b3.size)
    have V4 := Flo.hide (HV.out.below b4)
    clear V3 c3 b3
    go_wp2_with fail
    refine (C3.out _ V4.out).mono ?_; rintro e w4 ⟨rfl, c4⟩
    have b5 := b4.trans (c4.mono b4.size)
    have V5 := Flo.hide (HV.out.below b5)
    clear V4 c4 b4
    go_wp2_with fail
    refine (C3.out _ V5.out).mono ?_; rintro e w5 ⟨rfl, c5⟩
    have b6 := b5.trans (c5.mono b5.size)
    have V6 := Flo.hide (HV.out.below b6)
    clear V5 c5 b5
    go_wp2_with fail
    refine (S1.out _ V6.out).mono ?_; rintro e w6 ⟨rfl, c6⟩
    have b7 := b6.trans (c6.mono b6.size)
    have V7 := Flo.hide (HV.out.below b7)
    clear V6 c6 b6
    go_wp2_with fail
    refine (S2.out _ V7.out).mono ?_; rintro e w7 ⟨rfl, c7⟩
    have b8 := b7.trans (c7.mono b7.size)
    have V8 := Flo.hide (HV.out.below b8)
    clear V7 c7 b7
    go_wp2_with fail
    refine (M1.out _ V8.out).mono ?_; rintro e w8 ⟨rfl, c8⟩
    have b9 := b8.trans (c8.mono b8.size)
    have V9 := Flo.hide (HV.out.below b9)
    clear V8 c8 b8
    go_wp2_with fail
    refine (M2.out _ V9.out).mono ?_; rintro e w9 ⟨rfl, c9⟩
    have b10 := b9.trans (c9.mono b9.size)
    have V10 := Flo.hide (HV.out.below b10)
    clear V9 c9 b9
    go_wp2_with fail
    refine (L1.out _ V10.out).mono ?_; rintro e w10 ⟨rfl, c10⟩
    have b11 := b10.trans (c10.mono b10.size)
    have V11 := Flo.hide (HV.out.below b11)
    clear V10 c10 b10
    cases p
    · clear lpq L2
      go_wp2_with fail
      rcases OP.out with ⟨hbad, hneg⟩ | ⟨hne, c, r, hc1, hc2, hadd, hr⟩
      · have hs := SB.out hbad
        have hl := LB.out hbad
        have N1 := Flo.hide hneg
        have N2 := Flo.hide (fun w hv => FlV.negBad 2143289344 w hv FlV.nan_bad)
        subst hs
        clear OP SB LB hneg hbad
        refine (N1.out _ V11.out).mono ?_; rintro e w11 ⟨rfl, c11⟩
        have b12 := b11.trans (c11.mono b11.size)
        have V12 := Flo.hide (HV.out.below b12)
        clear V11 c11 b11
        go_wp2_with fail
        refine (N2.out _ V12.out).mono ?_; rintro e w12 ⟨rfl, c12⟩
        have b13 := b12.trans (c12.mono b12.size)
        have V13 := Flo.hide (HV.out.below b13)
        clear V12 c12 b12
        go_wp2_with fail
        refine (S1.out _ V13.out).mono ?_; rintro e w13 ⟨rfl, c13⟩
        have b14 := b13.trans (c13.mono b13.size)
        have V14 := Flo.hide (HV.out.below b14)
        clear V13 c13 b13
        go_wp2_with fail
        refine (L1.out _ V14.out).mono ?_; rintro e w14 ⟨rfl, c14⟩
        have b15 := b14.trans (c14.mono b14.size)
        have V15 := Flo.hide (HV.out.below b15)
        clear V14 c14 b14
        go_wp2_with fail
        go_ret
        exact ⟨by simp, b15⟩
      · have N1 := Flo.hide hc1
        have N2 := Flo.hide hc2
        have N3 := Flo.hide hadd
        have qa : (a == 2143289344) = false := beq_eq_false_iff_ne.2 hne
        clear OP SB LB hc1 hc2 hadd hne
        refine (N1.out _ V11.out).mono ?_; rintro e w11 ⟨rfl, c11⟩
        have b12 := b11.trans (c11.mono b11.size)
        have V12 := Flo.hide (HV.out.below b12)
        clear V11 c11 b11
        go_wp2_with fail
        refine (N2.out _ V12.out).mono ?_; rintro e w12 ⟨rfl, c12⟩
        have b13 := b12.trans (c12.mono b12.size)
        have V13 := Flo.hide (HV.out.below b13)
        clear V12 c12 b12
        go_wp2_with fail
        refine (N1.out _ V13.out).mono ?_; rintro e w13 ⟨rfl, c13⟩
        have b14 := b13.trans (c13.mono b13.size)
        have V14 := Flo.hide (HV.out.below b14)
        clear V13 c13 b13
        go_wp2_with fail
        refine (N3.out _ V14.out).mono ?_; rintro e w14 ⟨rfl, c14⟩
        have b15 := b14.trans (c14.mono b14.size)
        have V15 := Flo.hide (HV.out.below b15)
        clear V14 c14 b14
        rcases hr with rfl | ⟨hr0, hm⟩
        · go_wp2_with fail
          go_ret
          exact ⟨by simp, b15⟩
        · have N4 := Flo.hide hm
          clear hm
          go_wp2_with fail
          refine (N4.out _ V15.out).mono ?_; rintro e w15 ⟨rfl, c15⟩
          have b16 := b15.trans (c15.mono b15.size)
          have V16 := Flo.hide (HV.out.below b16)
          clear V15 c15 b15
          go_wp2_with fail
          go_ret
          exact ⟨by simp, b16⟩
    · have hq := lpq rfl
      subst hq
      clear lpq
      go_wp2_with fail
      refine (L2.out _ V11.out).mono ?_; rintro e w11 ⟨rfl, c11⟩
      have b12 := b11.trans (c11.mono b11.size)
      have V12 := Flo.hide (HV.out.below b12)
      clear V11 c11 b11
      go_wp2_with fail
      rcases OP.out with ⟨hbad, hneg⟩ | ⟨hne, c, r, hc1, hc2, hadd, hr⟩
      · have hs := SB.out hbad
        have hl := LB.out hbad
        have N1 := Flo.hide hneg
        have N2 := Flo.hide (fun w hv => FlV.negBad 2143289344 w hv FlV.nan_bad)
        subst hs
        clear OP SB LB hneg hbad
        exact absurd hl (by decide)
      · have N1 := Flo.hide hc1
        have N2 := Flo.hide hc2
        have N3 := Flo.hide hadd
        have qa : (a == 2143289344) = false := beq_eq_false_iff_ne.2 hne
        clear OP SB LB hc1 hc2 hadd hne
        refine (N1.out _ V12.out).mono ?_; rintro e w12 ⟨rfl, c12⟩
        have b13 := b12.trans (c12.mono b12.size)
        have V13 := Flo.hide (HV.out.below b13)
        clear V12 c12 b12
        go_wp2_with fail
        refine (N2.out _ V13.out).mono ?_; rintro e w13 ⟨rfl, c13⟩
        have b14 := b13.trans (c13.mono b13.size)
        have V14 := Flo.hide (HV.out.below b14)
        clear V13 c13 b13
        go_wp2_with fail
        refine (N1.out _ V14.out).mono ?_; rintro e w14 ⟨rfl, c14⟩
        have b15 := b14.trans (c14.mono b14.size)
        have V15 := Flo.hide (HV.out.below b15)
        clear V14 c14 b14
        go_wp2_with fail
        refine (N3.out _ V15.out).mono ?_; rintro e w15 ⟨rfl, c15⟩
        have b16 := b15.trans (c15.mono b15.size)
        have V16 := Flo.hide (HV.out.below b16)
        clear V15 c15 b15
        rcases hr with rfl | ⟨hr0, hm⟩
        · go_wp2_with fail
          go_ret
          exact ⟨by simp, b16⟩
        · have N4 := Flo.hide hm
          clear hm
          go_wp2_with fail
          refine (N4.out _ V16.out).mono ?_; rintro e w16 ⟨rfl, c16⟩
          have b17 := b16.trans (c16.mono b16.size)
          have V17 := Flo.hide (HV.out.below b17)
          clear V16 c16 b16
          go_wp2_with fail
          go_ret
          exact ⟨by simp, b17⟩

set_option maxRecDepth 100000 in
theorem lifted (os : Os) (started : os.Started) (H : Type) (enc : TypeId × Value → H) :
    ReturnsInHanded {} Tryd.checked os 3 .any (fun w args => (Rows.fnFloatSidesSpec.pre enc Tryd.prog Tryd.f3 Rows.fnFloatSidesRow.domain false w args ∧ laidMetH Tryd.prog Rows.fnFloatSidesRow.laid w) ∧ sizedMet enc Tryd.prog Tryd.f3 (OpenSpec.ofChange Rows.fnFloatSidesSpec) false w args) (Rows.fnFloatSidesSpec.post enc Tryd.prog Tryd.f3 false true false false) := by
  refine returnsInHanded_of_change_and (C := Tryd.checked) (X := fun w _ => laidMetH Tryd.prog Rows.fnFloatSidesRow.laid w) (fun _ _ _ hh h => h.of_heap hh) own started (by kernel_rfl) Tryd.func3
    (ChangeSpec.witness_shaped (enc := enc) (C := Tryd.checked) (os := os) (X := fun w _ => laidMetH Tryd.prog Rows.fnFloatSidesRow.laid w) false (World.laidAll Tryd.prog os Rows.fnFloatSidesRow.laid) #[.slice none 0 0] 8 (World.laidAll_os _ _ _)
      (World.shaped_of_ZipB (by kernel_rfl) (by kernel_rfl)) (by kernel_rfl) (by kernel_rfl) (by kernel_rfl)
      (by rw [MakeChecks.laidMetH_plain _ _ _ (by kernel_rfl)]; exact laidMet_laidAll _ (by kernel_rfl) (by kernel_rfl))) ?_
  intro W base args ds gs before hval0 hW hcnd _ hL _
  have hval : ∀ (j : Nat) t v, Tryd.f3.params[j]? = some t → args[j]? = some v → Value.okWide Tryd.prog W .any base t v := hval0
  have hW' := hW
  obtain ⟨p, q, hA0, hV, rfl, hfz, hnd⟩ := hW
  have hA : DataW.TrodAll enc Tryd.prog W 0 (fun _ => true) true Tryd.f3.params.toList args.toList ds p := hA0
  rw [Tryd.params3] at hA hval
  obtain ⟨v0, vs0, d0, ds0, p0, q0, hargs, rfl, rfl, h0, rst0⟩ := trodAll_cons hA
  obtain ⟨rfl, rfl, rfl⟩ := trodAll_nil rst0
  obtain rfl : args = #[v0] := by cases args; simp_all
  have hV0 := hV
  obtain ⟨gv0, tv0, cv0, fv0, dv0, pv0, rfl, _, _, _, _, rfl⟩ := trodVars_one hV
  have k0 := h0
  have lt0 : ∀ x ∈ p0, x.block < W.heap.size := by obtain ⟨m, hm⟩ := k0; exact DataW.trod_lt m _ _ _ hm
  obtain ⟨a0, len0, cap0, rfl⟩ := okWide_slice Tryd.underlying22 (hval 0 22 v0 rfl rfl)
  have w0 : Base.Code W.heap.size W a0 len0 := by
    obtain ⟨fuel, hf⟩ := h0
    rcases open_ints Tryd.underlying22 Tryd.underlying5 (by kernel_rfl) hf with ⟨hcs, _⟩ | ⟨x, l, c, zs, hcs, _, hl, hm, hz, _, hcell, hwz⟩
    · simp [Value.cells] at hcs
      obtain ⟨rfl, rfl, rfl⟩ := hcs
      exact ⟨by omega, .inl rfl⟩
    · simp [Value.cells] at hcs
      obtain ⟨rfl, rfl, rfl⟩ := hcs
      exact Base.code_of hl hm (by simpa using hz) hcell hwz
  clear hA0 hval0
  refine (walk a0 len0 cap0 W hL w0).mono fun e W' ⟨he, bel⟩ => ?_
  subst he
  exact ⟨_, rfl, _, _, _, [], _, _, hW', trodAll_mk1 (shut_bool Tryd.underlying4 _), (trodAll_cons_mk (Below.trod laidOut (by kernel_rfl) (of_decide_eq_true (by kernel_rfl)) k0 bel lt0) trodAll_mk0), Below.trodVars laidOut bel (by kernel_rfl) hV0, bel.frame _, fun h => by cases h⟩

theorem over : Rows.fnFloatSidesRow.holds Tryd.pinned (OpenSpec.ofChange Rows.fnFloatSidesSpec) :=
  OpenClaim.holds_of_wide 3 Tryd.f3 rfl rfl rfl rfl rfl rfl rfl ⟨rfl, rfl, rfl, rfl, rfl⟩ rfl rfl rfl rfl rfl (by kernel_rfl) Tryd.func3 (by kernel_rfl)
    (of_decide_eq_true (by kernel_rfl)) (by unfold Func.isWrapper; first | (rw [if_pos (by decide +kernel)]; kernel_rfl) | (rw [if_neg (by decide +kernel)]; exact ⟨rfl, rfl⟩))
    (fun os started H enc _ => lifted os started H enc)

theorem card : Rows.FnFloatSidesCardSaid :=
  Claim7.holds_tied_plain_at .later [] [.wider] true (true, "042b7cb459ce3ac5fac6114012cbb7b4daaf95467082c9418ef0b80c4a412e74") false over (fun _ h => by cases h) (by kernel_rfl) (fun _ h => by cases h) fnFloatSides_row_tie rfl ⟨rfl, rfl⟩ (by kernel_rfl) rfl
    (fun f fn hf hfn => by
      obtain rfl : f = 3 := Option.some.inj ((show Tryd.prog.funcNamed Tryd.f3.name = some 3 by kernel_rfl).symm.trans hf) |>.symm
      obtain rfl : fn = Tryd.f3 := (Option.some.inj (Tryd.func3.symm.trans hfn)).symm
      exact ⟨by kernel_rfl, fun j t ht => by
        rw [Tryd.params3] at ht
        have hm : t ∈ [22] := by simpa using Array.mem_of_getElem? ht
        have hall : ([22].all fun u => !Tryd.prog.wantsStandIn u) = true := by kernel_rfl
        exact (show Tryd.prog.wantsStandIn t = false by simpa using List.all_eq_true.1 hall t hm)⟩)
    (by kernel_rfl)
#print axioms card
end Go.Proofs.YtmghmcnihiepiaaDoor.fnFloatSides
