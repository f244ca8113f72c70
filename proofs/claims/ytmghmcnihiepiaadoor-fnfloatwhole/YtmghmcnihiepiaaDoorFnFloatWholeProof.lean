/-
  Proved: whatever the arguments, 'FnFloatWhole' returns true: the landed function answers as its model, and what came in reads as it did. No condition.
-/
import Derived.Test.YtmghmcnihiepiaaDoorRows
import Derived.Test.YtmghmcnihiepiaaDoorShelf
import Derived.Test.YtmghmcnihiepiaaDoorNum
import Derived.Test.YtmghmcnihiepiaaDoorBase
import Derived.Test.YtmghmcnihiepiaaDoorPow
import Derived.Test.YtmghmcnihiepiaaDoorDraw
import Derived.Test.YtmghmcnihiepiaaDoorFlo
import Derived.Test.YtmghmcnihiepiaaDoorRnd
import Derived.Test.YtmghmcnihiepiaaDoorFlP
import Derived.Test.YtmghmcnihiepiaaDoorClS
import Derived.Test.YtmghmcnihiepiaaDoorFlM
import Derived.Test.YtmghmcnihiepiaaDoorFlR
import Derived.Test.YtmghmcnihiepiaaDoorFlQ
import Derived.Test.YtmghmcnihiepiaaDoorFlV
import Derived.Test.YtmghmcnihiepiaaDoorFlY
import Derived.Test.YtmghmcnihiepiaaDoorTwo
import Derived.Test.YtmghmcnihiepiaaDoorWid
import Derived.Test.YtmghmcnihiepiaaDoorWo
import Derived.Test.YtmghmcnihiepiaaDoorWpl
import Derived.Test.YtmghmcnihiepiaaDoorLea
import Derived.Test.YtmghmcnihiepiaaDoorLeb
import Derived.Test.YtmghmcnihiepiaaDoorAdw
import Derived.Test.YtmghmcnihiepiaaDoorAdA
import Derived.Test.YtmghmcnihiepiaaDoorAdB
import Derived.Test.YtmghmcnihiepiaaDoorAdC
import Derived.Test.YtmghmcnihiepiaaDoorAdD
import Derived.Test.YtmghmcnihiepiaaDoorAdE
import Derived.Test.YtmghmcnihiepiaaDoorAdF
import Derived.Test.YtmghmcnihiepiaaDoorAdg
import Derived.Test.YtmghmcnihiepiaaDoorAdd
import Derived.Test.YtmghmcnihiepiaaDoorFlI
import Derived.Test.YtmghmcnihiepiaaDoorFlT
import Derived.Test.YtmghmcnihiepiaaDoorLes
import Derived.Test.YtmghmcnihiepiaaDoorMul
import Derived.Test.YtmghmcnihiepiaaDoorDiv
import Derived.Test.YtmghmcnihiepiaaDoorWho
import Derived.Test.YtmghmcnihiepiaaDoorWhp
import Derived.Test.YtmghmcnihiepiaaDoorWhq
import Derived.WalkKit
import Derived.ProofKit
import Derived.OpenShut
import Derived.ShutString
import Derived.ChangeOld
import Derived.Below
import Derived.Lib.SmallJoins
import Derived.OpenVars
import Derived.ChangeVars
import Derived.Deep.RegionHeld3
import Derived.Test.YtmghmcnihiepiaaDoorTie
import Derived.Test.YtmghmcnihiepiaaDoorCards
import Derived.LaidMore
import Derived.Lay
import Derived.SevenTiedAt
import Derived.Stop.Joined
namespace Go.Proofs.YtmghmcnihiepiaaDoor.fnFloatWhole
open Go.ChangeShapes Go.WideShapes Go.ChangeAt Go.RowKit Go.Joins
open Go.ChangeMaps (open_string shut_string)
set_option linter.unusedVariables false
set_option linter.unusedSimpArgs false

theorem own : ownKnob Tryd.prog.godebug = none := by kernel_rfl
theorem laidOut : laidOutB Tryd.prog = true := by kernel_rfl

set_option maxRecDepth 100000 in
set_option maxHeartbeats 4000000 in
theorem walk (a0 : Option Addr) (len0 cap0 : Nat) (w : World) (hL : laidMetH Tryd.prog Rows.fnFloatWholeRow.laid w) (w0 : Base.Code w.heap.size w a0 len0) :
    Calls Tryd.prog 4 #[.slice a0 len0 cap0] w fun e w' => e = .returned (.bool true) ∧ Below w.heap.size w w' := by
  have hv : FlV.SV w := by
    rw [MakeChecks.laidMetH_plain _ _ _ (by kernel_rfl)] at hL
    first | exact FlV.sv_at hL | exact FlV.sv_at hL.tail
  clear hL
  have L0 := w0.1
  have l0 : (len0 : Int) ≤ 9223372036854775807 := by omega
  have W0 := Base.hide w0
  have HV := Flo.hide hv
  clear w0 hv L0
  by_cases g0 : (1048576 : Int) < (len0 : Int)
  · have e0 := Base.hide (decide_eq_true g0)
    clear g0
    go_enter Tryd.func4, Tryd.ntmps4
    go_wp2_with fail
    refine (Base.big a0 len0 cap0 true _ l0 e0.out).mono ?_; rintro e w' ⟨rfl, rfl⟩
    go_wp2_with fail
    go_ret
    exact ⟨rfl, Below.refl _ _⟩
  · have e0 := Base.hide (decide_eq_false g0)
    clear g0
    go_enter Tryd.func4, Tryd.ntmps4
    go_wp2_with fail
    refine (Base.big a0 len0 cap0 false _ l0 e0.out).mono ?_; rintro e w' ⟨rfl, rfl⟩
    go_wp2_with fail
    refine (FlV.atW a0 len0 cap0 0 _ _ W0.out (by decide)).mono ?_; rintro e w' ⟨z0, z00, z01, rfl, rfl⟩
    go_wp2_with fail
    refine (FlV.atW a0 len0 cap0 1 _ _ W0.out (by decide)).mono ?_; rintro e w' ⟨z1, z10, z11, rfl, rfl⟩
    go_wp2_with fail
    refine (FlV.atW a0 len0 cap0 2 _ _ W0.out (by decide)).mono ?_; rintro e w' ⟨z2, z20, z21, rfl, rfl⟩
    go_wp2_with fail
    refine (FlV.atW a0 len0 cap0 3 _ _ W0.out (by decide)).mono ?_; rintro e w' ⟨z3, z30, z31, rfl, rfl⟩
    go_wp2_with fail
    generalize hm : z0 * 16 + z1 % 16 - 2048 = m at *
    generalize hn : z2 * 16 + z3 % 16 - 2048 = n at *
    have m0 : -2048 ≤ m := by omega
    have m1 : m ≤ 2048 := by omega
    have n0 : -2048 ≤ n := by omega
    have n1 : n ≤ 2048 := by omega
    clear hm hn z00 z01 z10 z11 z20 z21 z30 z31 W0 e0
    have mn0 : -4194304 ≤ m * n ∧ m * n ≤ 4194304 := by
      have h1 := Int.mul_le_mul (a := m.natAbs) (b := n.natAbs) (c := 2048) (d := 2048) (by omega) (by omega) (by omega) (by omega)
      have h2 : (m * n).natAbs = m.natAbs * n.natAbs := Int.natAbs_mul m n
      have h3 : ((m.natAbs * n.natAbs : Nat) : Int) = (m.natAbs : Int) * (n.natAbs : Int) := Int.natCast_mul _ _
      omega
    obtain ⟨P, hP, hT, hD⟩ := FlV.mulR m n m0 m1 n0 n1
    have A1 := Flo.hide (fun k w hv h0 h1 => FlV.ofIntW k w hv h0 h1)
    have A2 := Flo.hide (fun w hv => FlV.addW m n w hv (by omega) (by omega) (by omega) (by omega))
    have A3 := Flo.hide hP
    have A4 := Flo.hide hT
    have A5 := Flo.hide (fun w hv => FlV.toIntR m w hv (by omega) (by omega))
    have A6 := Flo.hide (fun w hv => FlV.lessW m n w hv (by omega) (by omega) (by omega) (by omega))
    have A7 := Flo.hide hD
    obtain ⟨pr, hpr⟩ : ∃ pr, m * n = pr := ⟨_, rfl⟩
    rw [hpr] at A4 mn0
    clear hP hT hD
    refine (A1.out m _ HV.out (by omega) (by omega)).mono ?_; rintro e' w1 ⟨rfl, b1⟩
    have V1 := Flo.hide (HV.out.below b1)
    go_wp2_with fail
    refine (A1.out n _ V1.out (by omega) (by omega)).mono ?_; rintro e' w2 ⟨rfl, c2⟩
    have b2 := b1.trans (c2.mono b1.size)
    have V2 := Flo.hide (HV.out.below b2)
    clear V1 b1 c2
    obtain ⟨rm, hrm⟩ : ∃ x, FlV.rp m = x := ⟨_, rfl⟩
    obtain ⟨rn, hrn⟩ : ∃ x, FlV.rp n = x := ⟨_, rfl⟩
    rw [hrm, hrn] at A2 A3 A6
    rw [hrm] at A5 ⊢
    rw [hrn] at A7 ⊢
    clear hrm hrn
    go_wp2_with fail
    refine (A2.out _ V2.out).mono ?_; rintro e' w3 ⟨rfl, c3⟩
    have b3 := b2.trans (c3.mono b2.size)
    have V3 := Flo.hide (HV.out.below b3)
    clear V2 b2 c3
    go_wp2_with fail
    refine (A1.out (m + n) _ V3.out (by omega) (by omega)).mono ?_; rintro e' w4 ⟨rfl, c4⟩
    have b4 := b3.trans (c4.mono b3.size)
    have V4 := Flo.hide (HV.out.below b4)
    clear V3 b3 c4
    go_wp2_with fail
    refine (A3.out _ V4.out).mono ?_; rintro e' w5 ⟨rfl, c5⟩
    have b5 := b4.trans (c5.mono b4.size)
    have V5 := Flo.hide (HV.out.below b5)
    clear V4 b4 c5
    go_wp2_with fail
    refine (A4.out _ V5.out).mono ?_; rintro e' w6 ⟨rfl, c6⟩
    have b6 := b5.trans (c6.mono b5.size)
    have V6 := Flo.hide (HV.out.below b6)
    clear V5 b5 c6
    go_wp2_with fail
    refine (A5.out _ V6.out).mono ?_; rintro e' w7 ⟨rfl, c7⟩
    have b7 := b6.trans (c7.mono b6.size)
    have V7 := Flo.hide (HV.out.below b7)
    clear V6 b6 c7
    go_wp2_with fail
    refine (A6.out _ V7.out).mono ?_; rintro e' w8 ⟨rfl, c8⟩
    have b8 := b7.trans (c8.mono b7.size)
    have V8 := Flo.hide (HV.out.below b8)
    clear V7 b7 c8
    by_cases hn0 : n = 0
    · have q0 : (n == 0) = true := beq_iff_eq.2 hn0
      clear hn0
      go_wp2_with fail
      go_ret
      exact ⟨by simp, b8⟩
    · have q0 : (n == 0) = false := beq_eq_false_iff_ne.2 hn0
      obtain ⟨Q, hQ, hT⟩ := A7.out hn0
      have A8 := Flo.hide hQ
      have A9 := Flo.hide hT
      clear A7 hQ hT hn0
      go_wp2_with fail
      refine (A3.out _ V8.out).mono ?_; rintro e' w9 ⟨rfl, c9⟩
      have b9 := b8.trans (c9.mono b8.size)
      have V9 := Flo.hide (HV.out.below b9)
      clear V8 b8 c9
      go_wp2_with fail
      refine (A8.out _ V9.out).mono ?_; rintro e' w10 ⟨rfl, c10⟩
      have b10 := b9.trans (c10.mono b9.size)
      have V10 := Flo.hide (HV.out.below b10)
      clear V9 b9 c10
      go_wp2_with fail
      refine (A9.out _ V10.out).mono ?_; rintro e' w11 ⟨rfl, c11⟩
      have b11 := b10.trans (c11.mono b10.size)
      go_wp2_with fail
      go_ret
      exact ⟨by simp, b11⟩

set_option maxRecDepth 100000 in
theorem lifted (os : Os) (started : os.Started) (H : Type) (enc : TypeId × Value → H) :
    ReturnsInHanded {} Tryd.checked os 4 .any (fun w args => (Rows.fnFloatWholeSpec.pre enc Tryd.prog Tryd.f4 Rows.fnFloatWholeRow.domain false w args ∧ laidMetH Tryd.prog Rows.fnFloatWholeRow.laid w) ∧ sizedMet enc Tryd.prog Tryd.f4 (OpenSpec.ofChange Rows.fnFloatWholeSpec) false w args) (Rows.fnFloatWholeSpec.post enc Tryd.prog Tryd.f4 false true false false) := by
  refine returnsInHanded_of_change_and (C := Tryd.checked) (X := fun w _ => laidMetH Tryd.prog Rows.fnFloatWholeRow.laid w) (fun _ _ _ hh h => h.of_heap hh) own started (by kernel_rfl) Tryd.func4
    (ChangeSpec.witness_shaped (enc := enc) (C := Tryd.checked) (os := os) (X := fun w _ => laidMetH Tryd.prog Rows.fnFloatWholeRow.laid w) false (World.laidAll Tryd.prog os Rows.fnFloatWholeRow.laid) #[.slice none 0 0] 8 (World.laidAll_os _ _ _)
      (World.shaped_of_ZipB (by kernel_rfl) (by kernel_rfl)) (by kernel_rfl) (by kernel_rfl) (by kernel_rfl)
      (by rw [MakeChecks.laidMetH_plain _ _ _ (by kernel_rfl)]; exact laidMet_laidAll _ (by kernel_rfl) (by kernel_rfl))) ?_
  intro W base args ds gs before hval0 hW hcnd _ hL _
  have hval : ∀ (j : Nat) t v, Tryd.f4.params[j]? = some t → args[j]? = some v → Value.okWide Tryd.prog W .any base t v := hval0
  have hW' := hW
  obtain ⟨p, q, hA0, hV, rfl, hfz, hnd⟩ := hW
  have hA : DataW.TrodAll enc Tryd.prog W 0 (fun _ => true) true Tryd.f4.params.toList args.toList ds p := hA0
  rw [Tryd.params4] at hA hval
  obtain ⟨v0, vs0, d0, ds0, p0, q0, hargs, rfl, rfl, h0, rst0⟩ := trodAll_cons hA
  obtain ⟨rfl, rfl, rfl⟩ := trodAll_nil rst0
  obtain rfl : args = #[v0] := by cases args; simp_all
  have hV0 := hV
  obtain ⟨gv0, tv0, cv0, fv0, dv0, pv0, rfl, _, _, _, _, rfl⟩ := trodVars_one hV
  have k0 := h0
  have lt0 : ∀ x ∈ p0, x.block < W.heap.size := by obtain ⟨m, hm⟩ := k0; exact DataW.trod_lt m _ _ _ hm
  obtain ⟨a0, len0, cap0, rfl⟩ := okWide_slice Tryd.underlying22 (hval 0 22 v0 rfl rfl)
  have w0 : Base.Code W.heap.size W a0 len0 := by
    obtain ⟨fuel, hf⟩ := h0
    rcases open_ints Tryd.underlying22 Tryd.underlying5 (by kernel_rfl) hf with ⟨hcs, _⟩ | ⟨x, l, c, zs, hcs, _, hl, hm, hz, _, hcell, hwz⟩
    · simp [Value.cells] at hcs
      obtain ⟨rfl, rfl, rfl⟩ := hcs
      exact ⟨by omega, .inl rfl⟩
    · simp [Value.cells] at hcs
      obtain ⟨rfl, rfl, rfl⟩ := hcs
      exact Base.code_of hl hm (by simpa using hz) hcell hwz
  clear hA0 hval0
  refine (walk a0 len0 cap0 W hL w0).mono fun e W' ⟨he, bel⟩ => ?_
  subst he
  exact ⟨_, rfl, _, _, _, [], _, _, hW', trodAll_mk1 (shut_bool Tryd.underlying4 _), (trodAll_cons_mk (Below.trod laidOut (by kernel_rfl) (of_decide_eq_true (by kernel_rfl)) k0 bel lt0) trodAll_mk0), Below.trodVars laidOut bel (by kernel_rfl) hV0, bel.frame _, fun h => by cases h⟩

theorem over : Rows.fnFloatWholeRow.holds Tryd.pinned (OpenSpec.ofChange Rows.fnFloatWholeSpec) :=
  OpenClaim.holds_of_wide 4 Tryd.f4 rfl rfl rfl rfl rfl rfl rfl ⟨rfl, rfl, rfl, rfl, rfl⟩ rfl rfl rfl rfl rfl (by kernel_rfl) Tryd.func4 (by kernel_rfl)
    (of_decide_eq_true (by kernel_rfl)) (by unfold Func.isWrapper; first | (rw [if_pos (by decide +kernel)]; kernel_rfl) | (rw [if_neg (by decide +kernel)]; exact ⟨rfl, rfl⟩))
    (fun os started H enc _ => lifted os started H enc)

theorem card : Rows.FnFloatWholeCardSaid :=
  Claim7.holds_tied_plain_at .later [] [.wider] true (true, "042b7cb459ce3ac5fac6114012cbb7b4daaf95467082c9418ef0b80c4a412e74") false over (fun _ h => by cases h) (by kernel_rfl) (fun _ h => by cases h) fnFloatWhole_row_tie rfl ⟨rfl, rfl⟩ (by kernel_rfl) rfl
    (fun f fn hf hfn => by
      obtain rfl : f = 4 := Option.some.inj ((show Tryd.prog.funcNamed Tryd.f4.name = some 4 by kernel_rfl).symm.trans hf) |>.symm
      obtain rfl : fn = Tryd.f4 := (Option.some.inj (Tryd.func4.symm.trans hfn)).symm
      exact ⟨by kernel_rfl, fun j t ht => by
        rw [Tryd.params4] at ht
        have hm : t ∈ [22] := by simpa using Array.mem_of_getElem? ht
        have hall : ([22].all fun u => !Tryd.prog.wantsStandIn u) = true := by kernel_rfl
        exact (show Tryd.prog.wantsStandIn t = false by simpa using List.all_eq_true.1 hall t hm)⟩)
    (by kernel_rfl)
#print axioms card
end Go.Proofs.YtmghmcnihiepiaaDoor.fnFloatWhole
