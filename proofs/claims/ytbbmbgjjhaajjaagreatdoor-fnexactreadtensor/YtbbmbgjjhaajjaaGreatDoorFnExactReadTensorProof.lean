/-
  Proved: whatever the arguments, 'FnExactReadTensor' returns true: the landed function answers as its model, and what came in reads as it did. No condition.
-/
import Derived.Test.YtbbmbgjjhaajjaaGreatDoorRows
import Derived.Test.YtbbmbgjjhaajjaaGreatDoorShelf
import Derived.Test.YtbbmbgjjhaajjaaGreatDoorTxt
import Derived.Test.YtbbmbgjjhaajjaaGreatDoorKa
import Derived.Test.YtbbmbgjjhaajjaaGreatDoorNum
import Derived.Test.YtbbmbgjjhaajjaaGreatDoorBase
import Derived.Test.YtbbmbgjjhaajjaaGreatDoorFrac
import Derived.Test.YtbbmbgjjhaajjaaGreatDoorRec
import Derived.Test.YtbbmbgjjhaajjaaGreatDoorToFrac
import Derived.Test.YtbbmbgjjhaajjaaGreatDoorShow
import Derived.Test.YtbbmbgjjhaajjaaGreatDoorVl
import Derived.Test.YtbbmbgjjhaajjaaGreatDoorVp
import Derived.Test.YtbbmbgjjhaajjaaGreatDoorVs
import Derived.Test.YtbbmbgjjhaajjaaGreatDoorVq
import Derived.Test.YtbbmbgjjhaajjaaGreatDoorVo
import Derived.Test.YtbbmbgjjhaajjaaGreatDoorVv
import Derived.Test.YtbbmbgjjhaajjaaGreatDoorTa
import Derived.Test.YtbbmbgjjhaajjaaGreatDoorTb
import Derived.Test.YtbbmbgjjhaajjaaGreatDoorSb
import Derived.Test.YtbbmbgjjhaajjaaGreatDoorSc
import Derived.Test.YtbbmbgjjhaajjaaGreatDoorFerm
import Derived.Test.YtbbmbgjjhaajjaaGreatDoorGuess
import Derived.Test.YtbbmbgjjhaajjaaGreatDoorKb
import Derived.Test.YtbbmbgjjhaajjaaGreatDoorVr
import Derived.Test.YtbbmbgjjhaajjaaGreatDoorVm
import Derived.Test.YtbbmbgjjhaajjaaGreatDoorVn
import Derived.Test.YtbbmbgjjhaajjaaGreatDoorVw
import Derived.Test.YtbbmbgjjhaajjaaGreatDoorVx
import Derived.Test.YtbbmbgjjhaajjaaGreatDoorVt
import Derived.Test.YtbbmbgjjhaajjaaGreatDoorVy
import Derived.Test.YtbbmbgjjhaajjaaGreatDoorVz
import Derived.Test.YtbbmbgjjhaajjaaGreatDoorVc
import Derived.Test.YtbbmbgjjhaajjaaGreatDoorVac
import Derived.Test.YtbbmbgjjhaajjaaGreatDoorVaf
import Derived.Test.YtbbmbgjjhaajjaaGreatDoorVag
import Derived.Test.YtbbmbgjjhaajjaaGreatDoorTc
import Derived.Test.YtbbmbgjjhaajjaaGreatDoorKe
import Derived.Test.YtbbmbgjjhaajjaaGreatDoorPow
import Derived.Test.YtbbmbgjjhaajjaaGreatDoorOfFrac
import Derived.Test.YtbbmbgjjhaajjaaGreatDoorRead
import Derived.Test.YtbbmbgjjhaajjaaGreatDoorKc
import Derived.Test.YtbbmbgjjhaajjaaGreatDoorKd
import Derived.Test.YtbbmbgjjhaajjaaGreatDoorRead2
import Derived.Test.YtbbmbgjjhaajjaaGreatDoorKf
import Derived.Test.YtbbmbgjjhaajjaaGreatDoorLaid
import Derived.Test.YtbbmbgjjhaajjaaGreatDoorLaid2
import Derived.Test.YtbbmbgjjhaajjaaGreatDoorKg
import Derived.WalkKit
import Derived.ProofKit
import Derived.OpenShut
import Derived.ShutString
import Derived.ChangeOld
import Derived.Below
import Derived.Lib.SmallJoins
import Derived.OpenVars
import Derived.ChangeVars
import Derived.Deep.RegionHeld3
import Derived.Test.YtbbmbgjjhaajjaaGreatDoorTie
import Derived.Test.YtbbmbgjjhaajjaaGreatDoorCards
import Derived.LaidMore
import Derived.Lay
import Derived.SevenTiedAt
import Derived.Stop.Joined
namespace Go.Proofs.YtbbmbgjjhaajjaaGreatDoor.fnExactReadTensor
open Go.ChangeShapes Go.WideShapes Go.ChangeAt Go.RowKit Go.Joins
open Go.ChangeMaps (open_string shut_string)
set_option linter.unusedVariables false
set_option linter.unusedSimpArgs false

theorem own : ownKnob Tryz.prog.godebug = none := by kernel_rfl
theorem laidOut : laidOutB Tryz.prog = true := by kernel_rfl

set_option maxRecDepth 100000 in
set_option maxHeartbeats 4000000 in
theorem walk (a0 : ByteArray) (w0 : a0.size ≤ maxLen) (w : World) (hL : laidMetH Tryz.prog Rows.fnExactReadTensorRow.laid w) :
    Calls Tryz.prog 3 #[.string a0] w fun e w' => e = .returned (.bool true) ∧ Below w.heap.size w w' := by
  unfold maxLen at w0
  have hv := Vl.hide (Vo.readTensor_vars hL)
  clear hL
  by_cases h : 1048576 < a0.size
  · go_enter Tryz.func3, Tryz.ntmps3
    go_wp2_with fail
    go_ret
    exact ⟨rfl, Below.refl _ _⟩
  · have hs : (a0.size : Int) ≤ 1048576 := by omega
    have hs' : a0.size ≤ 1048576 := by omega
    have c0 : decide ((1048576 : Int) < (a0.size : Int)) = false := by rw [decide_eq_false_iff_not]; omega
    clear h
    go_enter Tryz.func3, Tryz.ntmps3
    go_wp2_with fail
    refine (Vo.specReadTensor a0 hs w).mono ?_; rintro e w1 ⟨⟨r, n, D, S⟩, b, a, c, a', c', h1, rfl, o1, b1⟩
    simp only at h1 o1
    obtain ⟨hr, hn⟩ := Vo.rd_le h1
    have RD1 := Vl.hide h1
    have bA := (Below.refl w1.heap.size w1).alloc (Nat.le_refl _) (.cells #[.slice a r c, .slice a' n c'] 24)
    have z1 := b1.size
    have X1 := Vl.hide (Vo.bx_new w1 (.slice a r c) (.slice a' n c') 24)
    have I1 := Vl.hide (o1.below bA).d.ints
    have J1 := Vl.hide (o1.below bA).t.ints
    have B1 := Vl.hide (b1.trans (bA.mono b1.size))
    have V1 := Vl.hide (hv.out.below (b1.trans (bA.mono b1.size)))
    have y1 : w1.heap.size + 1 ≤ (w1.alloc (.cells #[.slice a r c, .slice a' n c'] 24)).heap.size := by simp
    clear h1 o1 b1 bA hv
    go_wp2_with fail
    obtain ⟨W1, hW1⟩ : ∃ W1, w1.alloc (.cells #[.slice a r c, .slice a' n c'] 24) = W1 := ⟨_, rfl⟩
    rw [hW1] at X1 I1 J1 B1 V1 y1 ⊢
    clear hW1
    refine (Vo.readTensorF a0 W1 hs' V1.out).mono ?_; rintro e w2 ⟨⟨r2, n2, D2, S2⟩, b2', p, d, p', d', h2, rfl, o2, b2⟩
    simp only at h2 o2
    obtain ⟨rfl, rfl, rfl, eD, eS⟩ := Vo.rd_one RD1.out h2
    have ED := Vl.hide eD
    have ES := Vl.hide eS
    have z2 := b2.size
    have bB := (Below.refl w2.heap.size w2).alloc (Nat.le_refl _) (.cells #[.slice p r d, .slice p' n d'] 24)
    have b2B := b2.trans (bB.mono z2)
    have Y2 := Vl.hide (Vo.bx_new w2 (.slice p r d) (.slice p' n d') 24)
    have BLK := Vl.hide (show ∀ k, Vo.VBlk p p' r n k → W1.heap.size ≤ k ∧ k < w2.heap.size from fun k hk => o2.blk hk)
    have O2 := Vl.hide (o2.below bB)
    have Q2 := Vl.hide b2B
    have X2 := Vl.hide (X1.out.below b2B (by omega))
    have y2 : w2.heap.size + 1 ≤ (w2.alloc (.cells #[.slice p r d, .slice p' n d'] 24)).heap.size := by simp
    clear h2 o2 b2 bB b2B eD eS
    obtain ⟨u0, u1⟩ := X2.out
    obtain ⟨v0, v1⟩ := Y2.out
    go_wp2_with fail
    clear u0 u1 v0 v1
    obtain ⟨W2, hW2⟩ : ∃ W2, w2.alloc (.cells #[.slice p r d, .slice p' n d'] 24) = W2 := ⟨_, rfl⟩
    rw [hW2] at Y2 O2 Q2 X2 y2 ⊢
    clear hW2
    refine (Vo.eqTensor W2.heap.size p p' a a' r n d d' c c' D2 S2 D S W2 (Nat.le_refl _) O2.out.d.ints O2.out.t.ints ((I1.out.below Q2.out).mono Q2.out.size) ((J1.out.below Q2.out).mono Q2.out.size) (fun j hj => (ED.out j hj).symm) (fun j hj => (ES.out j hj).symm) (by omega) (by omega)).mono ?_; rintro e w3 ⟨rfl, b3⟩
    have z3 := b3.size
    have O3 := Vl.hide (O2.out.below b3)
    have Q3 := Vl.hide (Q2.out.trans (b3.mono Q2.out.size))
    have X3 := Vl.hide (X2.out.below b3 (by omega))
    have Y3 := Vl.hide (Y2.out.below b3 (by omega))
    clear O2 Q2 X2 Y2 b3
    obtain ⟨v0, v1⟩ := Y3.out
    have bn : (b != b) = false := by cases b <;> rfl
    go_wp2_with fail
    clear v0 v1
    refine (Vo.markTensor W1.heap.size p p' r n d d' D2 S2 1 w3 O3.out (by omega) (by omega) (by omega) (by omega)).mono ?_; rintro e w4 ⟨rfl, o4, k4⟩
    have z4 := k4.size
    have O4 := Vl.hide o4
    have K4 := k4.below Q3.out.size (fun k hk => (BLK.out k hk).1)
    have Q4 := Vl.hide (Q3.out.trans K4)
    have X4 := Vl.hide (X3.out.below K4 (by omega))
    have Y4 := Vl.hide (Y3.out.kept k4 (by omega) (fun hk => by have := (BLK.out _ hk).2; omega))
    clear O3 Q3 X3 Y3 o4 k4 K4
    obtain ⟨v0, v1⟩ := Y4.out
    go_wp2_with fail
    clear v0 v1
    refine (Vo.heldTensor W1.heap.size p p' r n d d' 1 w4 O4.out (by omega) (by omega) (by omega) (by omega)).mono ?_; rintro e w5 ⟨rfl, b5⟩
    have z5 := b5.size
    have O5 := Vl.hide (O4.out.below b5)
    have Q5 := Vl.hide (Q4.out.trans (b5.mono Q4.out.size))
    have X5 := Vl.hide (X4.out.below b5 (by omega))
    have Y5 := Vl.hide (Y4.out.below b5 (by omega))
    clear O4 Q4 X4 Y4 b5
    have n0 : decide (1 + (r : Int) + (n : Int) < 0) = false := decide_eq_false (by omega)
    go_wp2_with fail
    refine (Vo.readTensorF a0 w5 hs' (V1.out.below Q5.out)).mono ?_; rintro e w6 ⟨⟨r3, n3, D3, S3⟩, b3', x, f, x', f', h3, rfl, o6, b6⟩
    simp only at h3 o6
    obtain ⟨rfl, rfl, rfl, eD, eS⟩ := Vo.rd_one RD1.out h3
    have ED3 := Vl.hide eD
    have ES3 := Vl.hide eS
    have z6 := b6.size
    have bC := (Below.refl w6.heap.size w6).alloc (Nat.le_refl _) (.cells #[.slice x r f, .slice x' n f'] 24)
    have b6C := b6.trans (bC.mono z6)
    have H6 := Vl.hide (Vo.bx_new w6 (.slice x r f) (.slice x' n f') 24)
    have P6 := Vl.hide (o6.below bC)
    have O6 := Vl.hide (O5.out.below b6C)
    have Q6 := Vl.hide (Q5.out.trans (b6C.mono Q5.out.size))
    have X6 := Vl.hide (X5.out.below b6C (by omega))
    have Y6 := Vl.hide (Y5.out.below b6C (by omega))
    have y6 : w6.heap.size + 1 ≤ (w6.alloc (.cells #[.slice x r f, .slice x' n f'] 24)).heap.size := by simp
    clear h3 o6 b6 bC b6C eD eS O5 Q5 X5 Y5
    obtain ⟨u0, u1⟩ := X6.out
    obtain ⟨v0, v1⟩ := H6.out
    go_wp2_with fail
    clear u0 u1 v0 v1
    obtain ⟨W6, hW6⟩ : ∃ W6, w6.alloc (.cells #[.slice x r f, .slice x' n f'] 24) = W6 := ⟨_, rfl⟩
    rw [hW6] at H6 P6 O6 Q6 X6 Y6 y6 ⊢
    clear hW6
    refine (Vo.eqTensor W6.heap.size x x' a a' r n f f' c c' D3 S3 D S W6 (Nat.le_refl _) P6.out.d.ints P6.out.t.ints ((I1.out.below Q6.out).mono Q6.out.size) ((J1.out.below Q6.out).mono Q6.out.size) (fun j hj => (ED3.out j hj).symm) (fun j hj => (ES3.out j hj).symm) (by omega) (by omega)).mono ?_; rintro e w7 ⟨rfl, b7⟩
    have z7 := b7.size
    have O7 := Vl.hide (O6.out.below b7)
    have Q7 := Vl.hide (Q6.out.trans (b7.mono Q6.out.size))
    have Y7 := Vl.hide (Y6.out.below b7 (by omega))
    clear O6 Q6 X6 Y6 H6 P6 b7
    obtain ⟨v0, v1⟩ := Y7.out
    go_wp2_with fail
    clear v0 v1
    refine (Vo.heldTensor W1.heap.size p p' r n d d' 1 w7 O7.out (by omega) (by omega) (by omega) (by omega)).mono ?_; rintro e w8 ⟨rfl, b8⟩
    have Q8 := Vl.hide (Q7.out.trans (b8.mono Q7.out.size))
    clear O7 Q7 Y7 b8
    go_wp2_with fail
    go_ret
    exact ⟨rfl, B1.out.trans (Q8.out.mono B1.out.size)⟩

set_option maxRecDepth 100000 in
theorem lifted (os : Os) (started : os.Started) (H : Type) (enc : TypeId × Value → H) :
    ReturnsInHanded {} Tryz.checked os 3 .any (fun w args => (Rows.fnExactReadTensorSpec.pre enc Tryz.prog Tryz.f3 Rows.fnExactReadTensorRow.domain false w args ∧ laidMetH Tryz.prog Rows.fnExactReadTensorRow.laid w) ∧ sizedMet enc Tryz.prog Tryz.f3 (OpenSpec.ofChange Rows.fnExactReadTensorSpec) false w args) (Rows.fnExactReadTensorSpec.post enc Tryz.prog Tryz.f3 false true false false) := by
  refine returnsInHanded_of_change_and (C := Tryz.checked) (X := fun w _ => laidMetH Tryz.prog Rows.fnExactReadTensorRow.laid w) (fun _ _ _ hh h => h.of_heap hh) own started (by kernel_rfl) Tryz.func3
    (ChangeSpec.witness_shaped (enc := enc) (C := Tryz.checked) (os := os) (X := fun w _ => laidMetH Tryz.prog Rows.fnExactReadTensorRow.laid w) false (World.laidAll Tryz.prog os Rows.fnExactReadTensorRow.laid) #[.string ByteArray.empty] 8 (World.laidAll_os _ _ _)
      (World.shaped_of_ZipB (by kernel_rfl) (by kernel_rfl)) (by kernel_rfl) (by kernel_rfl) (by kernel_rfl)
      (by rw [MakeChecks.laidMetH_plain _ _ _ (by kernel_rfl)]; exact laidMet_laidAll _ (by kernel_rfl) (by kernel_rfl))) ?_
  intro W base args ds gs before hval0 hW hcnd _ hL _
  have hval : ∀ (j : Nat) t v, Tryz.f3.params[j]? = some t → args[j]? = some v → Value.okWide Tryz.prog W .any base t v := hval0
  have hW' := hW
  obtain ⟨p, q, hA0, hV, rfl, hfz, hnd⟩ := hW
  have hA : DataW.TrodAll enc Tryz.prog W 0 (fun _ => true) true Tryz.f3.params.toList args.toList ds p := hA0
  rw [Tryz.params3] at hA hval
  obtain ⟨v0, vs0, d0, ds0, p0, q0, hargs, rfl, rfl, h0, rst0⟩ := trodAll_cons hA
  obtain ⟨rfl, rfl, rfl⟩ := trodAll_nil rst0
  obtain rfl : args = #[v0] := by cases args; simp_all
  obtain ⟨rfl, rfl⟩ := trodVars_none hV
  have k0 := h0
  have lt0 : ∀ x ∈ p0, x.block < W.heap.size := by obtain ⟨m, hm⟩ := k0; exact DataW.trod_lt m _ _ _ hm
  obtain ⟨a0, rfl, e0, _, w0⟩ := open_string Tryz.underlying9 (hval 0 9 v0 rfl rfl) h0
  clear hA0 hval0
  refine (walk a0 w0 W hL).mono fun e W' ⟨he, bel⟩ => ?_
  subst he
  exact ⟨_, rfl, _, _, _, [], _, [], hW', trodAll_mk1 (shut_bool Tryz.underlying4 _), (trodAll_cons_mk (Below.trod laidOut (by kernel_rfl) (of_decide_eq_true (by kernel_rfl)) k0 bel lt0) trodAll_mk0), rfl, bel.frame _, fun h => by cases h⟩

theorem over : Rows.fnExactReadTensorRow.holds Tryz.pinned (OpenSpec.ofChange Rows.fnExactReadTensorSpec) :=
  OpenClaim.holds_of_wide 3 Tryz.f3 rfl rfl rfl rfl rfl rfl rfl ⟨rfl, rfl, rfl, rfl, rfl⟩ rfl rfl rfl rfl rfl (by kernel_rfl) Tryz.func3 (by kernel_rfl)
    (of_decide_eq_true (by kernel_rfl)) (by unfold Func.isWrapper; first | (rw [if_pos (by decide +kernel)]; kernel_rfl) | (rw [if_neg (by decide +kernel)]; exact ⟨rfl, rfl⟩))
    (fun os started H enc _ => lifted os started H enc)

theorem card : Rows.FnExactReadTensorCardSaid :=
  Claim7.holds_tied_plain_at .later [] [.data, .data, .data, .sentinel, .sentinel, .listed, .data] true (true, "03bfa6e543492020a695c4a3fba6f08253ca4c614fb9d6a7e53ca34bbb2ccd00") true over (fun _ h => by cases h) (by kernel_rfl) (fun _ h => by cases h) fnExactReadTensor_row_tie rfl ⟨rfl, rfl⟩ (by kernel_rfl) rfl
    (fun f fn hf hfn => by
      obtain rfl : f = 3 := Option.some.inj ((show Tryz.prog.funcNamed Tryz.f3.name = some 3 by kernel_rfl).symm.trans hf) |>.symm
      obtain rfl : fn = Tryz.f3 := (Option.some.inj (Tryz.func3.symm.trans hfn)).symm
      exact ⟨by kernel_rfl, fun j t ht => by
        rw [Tryz.params3] at ht
        have hm : t ∈ [9] := by simpa using Array.mem_of_getElem? ht
        have hall : ([9].all fun u => !Tryz.prog.wantsStandIn u) = true := by kernel_rfl
        exact (show Tryz.prog.wantsStandIn t = false by simpa using List.all_eq_true.1 hall t hm)⟩)
    (by kernel_rfl)
#print axioms card
end Go.Proofs.YtbbmbgjjhaajjaaGreatDoor.fnExactReadTensor
