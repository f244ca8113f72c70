/-
  Proved: whatever the arguments, 'FnExactMatBytes' returns true: the landed function answers as its model, and what came in reads as it did. No condition.
-/
import Derived.Test.YtnnjkanmcfjblaaRows
import Derived.Test.YtnnjkanmcfjblaaShelf
import Derived.Test.YtnnjkanmcfjblaaVl
import Derived.Test.YtnnjkanmcfjblaaIa
import Derived.Test.YtnnjkanmcfjblaaNea
import Derived.Test.YtnnjkanmcfjblaaIb
import Derived.Test.YtnnjkanmcfjblaaIc
import Derived.Test.YtnnjkanmcfjblaaIe
import Derived.Test.YtnnjkanmcfjblaaIg
import Derived.Test.YtnnjkanmcfjblaaIl
import Derived.Test.YtnnjkanmcfjblaaId
import Derived.Test.YtnnjkanmcfjblaaOa
import Derived.Test.YtnnjkanmcfjblaaEb
import Derived.Test.YtnnjkanmcfjblaaEg
import Derived.Test.YtnnjkanmcfjblaaVp
import Derived.Test.YtnnjkanmcfjblaaVs
import Derived.Test.YtnnjkanmcfjblaaVq
import Derived.Test.YtnnjkanmcfjblaaVo
import Derived.Test.YtnnjkanmcfjblaaVm
import Derived.Test.YtnnjkanmcfjblaaVn
import Derived.Test.YtnnjkanmcfjblaaVc
import Derived.Test.YtnnjkanmcfjblaaEh
import Derived.Test.YtnnjkanmcfjblaaEa
import Derived.Test.YtnnjkanmcfjblaaEc
import Derived.Test.YtnnjkanmcfjblaaEi
import Derived.Test.YtnnjkanmcfjblaaOb
import Derived.Test.YtnnjkanmcfjblaaDv
import Derived.Test.YtnnjkanmcfjblaaDw
import Derived.Test.YtnnjkanmcfjblaaDx
import Derived.Test.YtnnjkanmcfjblaaFa
import Derived.Test.YtnnjkanmcfjblaaFb
import Derived.Test.YtnnjkanmcfjblaaFc
import Derived.Test.YtnnjkanmcfjblaaFd
import Derived.Test.YtnnjkanmcfjblaaFe
import Derived.Test.YtnnjkanmcfjblaaQt
import Derived.Test.YtnnjkanmcfjblaaOc
import Derived.Test.YtnnjkanmcfjblaaQf
import Derived.Test.YtnnjkanmcfjblaaIm
import Derived.Test.YtnnjkanmcfjblaaOd
import Derived.Test.YtnnjkanmcfjblaaOe
import Derived.WalkKit
import Derived.ProofKit
import Derived.OpenShut
import Derived.ShutString
import Derived.ChangeOld
import Derived.Below
import Derived.Lib.SmallJoins
import Derived.OpenVars
import Derived.ChangeVars
import Derived.Deep.RegionHeld3
namespace Go.Proofs.Ytnnjkanmcfjblaa.fnExactMatBytes
open Go.ChangeShapes Go.WideShapes Go.ChangeAt Go.RowKit Go.Joins
open Go.ChangeMaps (open_string shut_string)
set_option linter.unusedVariables false

theorem own : ownKnob Try.prog.godebug = none := by kernel_rfl
theorem laidOut : laidOutB Try.prog = true := by kernel_rfl

theorem walk (a0 : Option Addr) (r0 cap0 : Nat) (a1 : Int) (w1 : (Lit.int .i64 a1).wf = true) (x2 z2 : Int) (wx2 : (Lit.int .i64 x2).wf = true) (wz2 : (Lit.int .i64 z2).wf = true) (a3 : Option Addr) (r3 cap3 : Nat) (a4 : Int) (w4 : (Lit.int .i64 a4).wf = true) (x5 z5 : Int) (wx5 : (Lit.int .i64 x5).wf = true) (wz5 : (Lit.int .i64 z5).wf = true) (a6 : Option Addr) (r6 cap6 : Nat) (x7 z7 : Int) (wx7 : (Lit.int .i64 x7).wf = true) (wz7 : (Lit.int .i64 z7).wf = true) (w : World) (w0 : Vl.Arg w a0 r0) (w3 : Vl.Arg w a3 r3) (w6 : Vl.Arg w a6 r6) :
    Calls Try.prog 4 #[.slice a0 r0 cap0, .int .i64 a1, .agg #[.int .i64 x2, .int .i64 z2], .slice a3 r3 cap3, .int .i64 a4, .agg #[.int .i64 x5, .int .i64 z5], .slice a6 r6 cap6, .agg #[.int .i64 x7, .int .i64 z7]] w fun e w' => e = .returned (.bool true) ∧ Below w.heap.size w w' := by
  obtain ⟨hr0, D0, hh0⟩ := w0
  have H0 := Vl.hide hh0
  clear hh0
  obtain ⟨hr3, D3, hh3⟩ := w3
  have H3 := Vl.hide hh3
  clear hh3
  obtain ⟨hr6, D6, hh6⟩ := w6
  have H6 := Vl.hide hh6
  clear hh6
  by_cases h00 : 1048576 < (r0 : Int)
  · go_enter Try.func4, Try.ntmps4
    go_wp2_with fail
    go_ret
    exact ⟨rfl, (((Below.refl _ _).alloc (Nat.le_refl _) _).alloc (by simp) _).alloc (by simp; omega) _⟩
  have h00' : decide (1048576 < (r0 : Int)) = false := by rw [decide_eq_false_iff_not]; exact h00
  have hl0 : (r0 : Int) ≤ 1048576 := by omega
  clear h00
  by_cases h30 : 1048576 < (r3 : Int)
  · go_enter Try.func4, Try.ntmps4
    go_wp2_with fail
    go_ret
    exact ⟨rfl, (((Below.refl _ _).alloc (Nat.le_refl _) _).alloc (by simp) _).alloc (by simp; omega) _⟩
  have h30' : decide (1048576 < (r3 : Int)) = false := by rw [decide_eq_false_iff_not]; exact h30
  have hl3 : (r3 : Int) ≤ 1048576 := by omega
  clear h30
  by_cases h60 : 1048576 < (r6 : Int)
  · go_enter Try.func4, Try.ntmps4
    go_wp2_with fail
    go_ret
    exact ⟨rfl, (((Below.refl _ _).alloc (Nat.le_refl _) _).alloc (by simp) _).alloc (by simp; omega) _⟩
  have h60' : decide (1048576 < (r6 : Int)) = false := by rw [decide_eq_false_iff_not]; exact h60
  have hl6 : (r6 : Int) ≤ 1048576 := by omega
  clear h60
  obtain ⟨n, V, nr, hS, hI⟩ := Vo.matBoth r0 r3 r6 D0 D3 D6 a1 a4 x2 z2 x5 z5 x7 z7 (bounds_i64 w1) (bounds_i64 w4) (bounds_i64 wx2) (bounds_i64 wz2) (bounds_i64 wx5) (bounds_i64 wz5) (bounds_i64 wx7) (bounds_i64 wz7) hl0 hl3 hl6
  have HS := Vl.hide hS
  have HI := Vl.hide hI
  have ln : (n : Int) ≤ 1048576 := by omega
  clear hS hI nr hr0 hr3 hr6 w1 w4 wx2 wz2 wx5 wz5 wx7 wz7
  obtain ⟨V2, hV2⟩ : ∃ V2, w.alloc (.cells #[.int .i64 x2, .int .i64 z2] 23) = V2 := ⟨_, rfl⟩
  have nV2 : Below w.heap.size w V2 := hV2 ▸ (Below.refl _ _).alloc (Nat.le_refl _) _
  have k2 := (hV2 ▸ Vo.box2_new _ _ _ _ : Vo.Box2 V2 w.heap.size x2 z2)
  obtain ⟨V5, hV5⟩ : ∃ V5, V2.alloc (.cells #[.int .i64 x5, .int .i64 z5] 23) = V5 := ⟨_, rfl⟩
  have nV5 : Below V2.heap.size V2 V5 := hV5 ▸ (Below.refl _ _).alloc (Nat.le_refl _) _
  have k5 := (hV5 ▸ Vo.box2_new _ _ _ _ : Vo.Box2 V5 V2.heap.size x5 z5)
  obtain ⟨V7, hV7⟩ : ∃ V7, V5.alloc (.cells #[.int .i64 x7, .int .i64 z7] 23) = V7 := ⟨_, rfl⟩
  have nV7 : Below V5.heap.size V5 V7 := hV7 ▸ (Below.refl _ _).alloc (Nat.le_refl _) _
  have k7 := (hV7 ▸ Vo.box2_new _ _ _ _ : Vo.Box2 V7 V5.heap.size x7 z7)
  have K2 := Vl.hide ((k2.below nV5).below nV7)
  have K5 := Vl.hide (k5.below nV7)
  have K7 := Vl.hide k7
  have B2 := nV2.trans (nV5.mono nV2.size)
  have BW := Vl.hide (B2.trans (nV7.mono B2.size))
  clear nV2 nV5 nV7 k2 k5 k7 B2
  go_enter Try.func4, Try.ntmps4
  go_wp2_with fail
  refine Qf.facts2 15 (by kernel_rfl) (by kernel_rfl) (by kernel_rfl) (fun i v wx => match i with | 0 => v = .slice a0 r0 cap0 | 1 => Vo.IntV r0 D0 v wx | 2 => v = .int .i64 a1 | 3 => v = .agg #[.int .i64 x2, .int .i64 z2] | 4 => v = .agg #[.int .i64 x2, .int .i64 z2] | 5 => v = .slice a3 r3 cap3 | 6 => Vo.IntV r3 D3 v wx | 7 => v = .int .i64 a4 | 8 => v = .agg #[.int .i64 x5, .int .i64 z5] | 9 => v = .agg #[.int .i64 x5, .int .i64 z5] | 10 => v = .slice a6 r6 cap6 | 11 => Vo.IntV r6 D6 v wx | 12 => v = .agg #[.int .i64 x7, .int .i64 z7] | 13 => v = .agg #[.int .i64 x7, .int .i64 z7] | 14 => ∃ aa cc, v = .slice aa n cc ∧ Vl.OwnL V7.heap.size wx aa n V | _ => True) ?stable ?steps ?rest
  case stable =>
    intro i v w1 w2 h hb
    match i, h with
    | 0, h => exact h
    | 1, h => exact Vo.IntV.below h hb
    | 2, h => exact h
    | 3, h => exact h
    | 4, h => exact h
    | 5, h => exact h
    | 6, h => exact Vo.IntV.below h hb
    | 7, h => exact h
    | 8, h => exact h
    | 9, h => exact h
    | 10, h => exact h
    | 11, h => exact Vo.IntV.below h hb
    | 12, h => exact h
    | 13, h => exact h
    | 14, h => exact (by obtain ⟨aa, cc, h1, h2⟩ := h; exact ⟨aa, cc, h1, h2.below hb⟩)
    | _ + 15, h => exact h
  case steps =>
    intro i o hi ho s A wS hb hk hA hO
    match i, hi, ho, hk with
    | 0, _, ho, hk =>
      cases ho
      exact Qf.lands_move _ rfl _ ((hO 0 (by rfl)).trans rfl) ⟨Below.refl _ _, rfl⟩
    | 1, _, ho, hk =>
      cases ho
      have h0 := hA 0 _ 35 (by decide) rfl rfl (by simp)
      have e0 := hk 0 (by kernel_rfl)
      rw [e0] at h0
      refine Qf.lands_call 9 _ _ rfl (enters_of Try.func9 (by kernel_rfl) rfl) _ (by simp [h0]) ((Vl.toIntS w.heap.size a0 r0 cap0 D0 wS (H0.out.below (BW.out.trans (hb.mono BW.out.size))) (Nat.le_trans BW.out.size hb.size) hl0).mono ?_)
      rintro e wT ⟨rfl, qT, sT, bT⟩
      exact ⟨_, rfl, bT, _, rfl, qT, Nat.lt_of_lt_of_le sT (Nat.le_refl _)⟩
    | 2, _, ho, hk =>
      cases ho
      exact Qf.lands_move _ rfl _ ((hO 1 (by rfl)).trans rfl) ⟨Below.refl _ _, rfl⟩
    | 3, _, ho, hk =>
      cases ho
      exact Qf.lands_val _ _ (Vo.runLoadSc rfl ((hO 10 (by rfl)).trans rfl) (K2.out.below hb)) ⟨Below.refl _ _, rfl⟩
    | 4, _, ho, hk =>
      cases ho
      have h3 := hA 3 _ 38 (by decide) rfl rfl (by simp)
      have e3 := hk 3 (by kernel_rfl)
      rw [e3] at h3
      refine Qf.lands_call 6 _ _ rfl (enters_of Try.func6 (by kernel_rfl) rfl) _ (by simp [h3]) ((Vo.toScale x2 z2 wS).mono ?_)
      rintro e wT ⟨rfl, bT⟩
      exact ⟨_, rfl, bT, rfl⟩
    | 5, _, ho, hk =>
      cases ho
      exact Qf.lands_move _ rfl _ ((hO 3 (by rfl)).trans rfl) ⟨Below.refl _ _, rfl⟩
    | 6, _, ho, hk =>
      cases ho
      have h5 := hA 5 _ 40 (by decide) rfl rfl (by simp)
      have e5 := hk 5 (by kernel_rfl)
      rw [e5] at h5
      refine Qf.lands_call 9 _ _ rfl (enters_of Try.func9 (by kernel_rfl) rfl) _ (by simp [h5]) ((Vl.toIntS w.heap.size a3 r3 cap3 D3 wS (H3.out.below (BW.out.trans (hb.mono BW.out.size))) (Nat.le_trans BW.out.size hb.size) hl3).mono ?_)
      rintro e wT ⟨rfl, qT, sT, bT⟩
      exact ⟨_, rfl, bT, _, rfl, qT, Nat.lt_of_lt_of_le sT (Nat.le_refl _)⟩
    | 7, _, ho, hk =>
      cases ho
      exact Qf.lands_move _ rfl _ ((hO 4 (by rfl)).trans rfl) ⟨Below.refl _ _, rfl⟩
    | 8, _, ho, hk =>
      cases ho
      exact Qf.lands_val _ _ (Vo.runLoadSc rfl ((hO 13 (by rfl)).trans rfl) (K5.out.below hb)) ⟨Below.refl _ _, rfl⟩
    | 9, _, ho, hk =>
      cases ho
      have h8 := hA 8 _ 43 (by decide) rfl rfl (by simp)
      have e8 := hk 8 (by kernel_rfl)
      rw [e8] at h8
      refine Qf.lands_call 6 _ _ rfl (enters_of Try.func6 (by kernel_rfl) rfl) _ (by simp [h8]) ((Vo.toScale x5 z5 wS).mono ?_)
      rintro e wT ⟨rfl, bT⟩
      exact ⟨_, rfl, bT, rfl⟩
    | 10, _, ho, hk =>
      cases ho
      exact Qf.lands_move _ rfl _ ((hO 6 (by rfl)).trans rfl) ⟨Below.refl _ _, rfl⟩
    | 11, _, ho, hk =>
      cases ho
      have h10 := hA 10 _ 45 (by decide) rfl rfl (by simp)
      have e10 := hk 10 (by kernel_rfl)
      rw [e10] at h10
      refine Qf.lands_call 9 _ _ rfl (enters_of Try.func9 (by kernel_rfl) rfl) _ (by simp [h10]) ((Vl.toIntS w.heap.size a6 r6 cap6 D6 wS (H6.out.below (BW.out.trans (hb.mono BW.out.size))) (Nat.le_trans BW.out.size hb.size) hl6).mono ?_)
      rintro e wT ⟨rfl, qT, sT, bT⟩
      exact ⟨_, rfl, bT, _, rfl, qT, Nat.lt_of_lt_of_le sT (Nat.le_refl _)⟩
    | 12, _, ho, hk =>
      cases ho
      exact Qf.lands_val _ _ (Vo.runLoadSc rfl ((hO 15 (by rfl)).trans rfl) (K7.out.below hb)) ⟨Below.refl _ _, rfl⟩
    | 13, _, ho, hk =>
      cases ho
      have h12 := hA 12 _ 47 (by decide) rfl rfl (by simp)
      have e12 := hk 12 (by kernel_rfl)
      rw [e12] at h12
      refine Qf.lands_call 6 _ _ rfl (enters_of Try.func6 (by kernel_rfl) rfl) _ (by simp [h12]) ((Vo.toScale x7 z7 wS).mono ?_)
      rintro e wT ⟨rfl, bT⟩
      exact ⟨_, rfl, bT, rfl⟩
    | 14, _, ho, hk =>
      cases ho
      have h1 := hA 1 _ 36 (by decide) rfl rfl (by simp)
      obtain ⟨g1, e1, p1, l1⟩ := hk 1 (by kernel_rfl)
      rw [e1] at h1
      have h2 := hA 2 _ 37 (by decide) rfl rfl (by simp)
      have e2 := hk 2 (by kernel_rfl)
      rw [e2] at h2
      have h4 := hA 4 _ 39 (by decide) rfl rfl (by simp)
      have e4 := hk 4 (by kernel_rfl)
      rw [e4] at h4
      have h6 := hA 6 _ 41 (by decide) rfl rfl (by simp)
      obtain ⟨g6, e6, p6, l6⟩ := hk 6 (by kernel_rfl)
      rw [e6] at h6
      have h7 := hA 7 _ 42 (by decide) rfl rfl (by simp)
      have e7 := hk 7 (by kernel_rfl)
      rw [e7] at h7
      have h9 := hA 9 _ 44 (by decide) rfl rfl (by simp)
      have e9 := hk 9 (by kernel_rfl)
      rw [e9] at h9
      have h11 := hA 11 _ 46 (by decide) rfl rfl (by simp)
      obtain ⟨g11, e11, p11, l11⟩ := hk 11 (by kernel_rfl)
      rw [e11] at h11
      have h13 := hA 13 _ 48 (by decide) rfl rfl (by simp)
      have e13 := hk 13 (by kernel_rfl)
      rw [e13] at h13
      refine Qf.lands_call 8 _ _ rfl (enters_of Try.func8 (by kernel_rfl) rfl) _ (by simp [h1, h2, h4, h6, h7, h9, h11, h13]) ((HS.out wS (some ⟨g1, 0, none⟩) (some ⟨g6, 0, none⟩) (some ⟨g11, 0, none⟩) r0 r3 r6 (Nat.le_refl _) (Nat.le_refl _) (p1.ints l1) (p6.ints l6) (p11.ints l11)).mono ?_)
      rintro e wT ⟨aT, cT, rfl, qT, bT⟩
      exact ⟨_, rfl, bT, aT, cT, rfl, qT.mono hb.size⟩
    | _ + 15, hi, _, _ => exact absurd hi (by omega)
  case rest =>
  intro s W1 hbS hk
  have e0 : s 0 = .slice a0 r0 cap0 := hk 0 (by decide)
  obtain ⟨g1, e1, -, -⟩ := hk 1 (by decide)
  have e2 : s 2 = .int .i64 a1 := hk 2 (by decide)
  have e3 : s 3 = .agg #[.int .i64 x2, .int .i64 z2] := hk 3 (by decide)
  have e4 : s 4 = .agg #[.int .i64 x2, .int .i64 z2] := hk 4 (by decide)
  have e5 : s 5 = .slice a3 r3 cap3 := hk 5 (by decide)
  obtain ⟨g6, e6, -, -⟩ := hk 6 (by decide)
  have e7 : s 7 = .int .i64 a4 := hk 7 (by decide)
  have e8 : s 8 = .agg #[.int .i64 x5, .int .i64 z5] := hk 8 (by decide)
  have e9 : s 9 = .agg #[.int .i64 x5, .int .i64 z5] := hk 9 (by decide)
  have e10 : s 10 = .slice a6 r6 cap6 := hk 10 (by decide)
  obtain ⟨g11, e11, -, -⟩ := hk 11 (by decide)
  have e12 : s 12 = .agg #[.int .i64 x7, .int .i64 z7] := hk 12 (by decide)
  have e13 : s 13 = .agg #[.int .i64 x7, .int .i64 z7] := hk 13 (by decide)
  obtain ⟨Sa, Sc, e14, hO⟩ := hk 14 (by decide)
  simp only [List.take_succ_cons, List.take_zero, List.drop_succ_cons, List.drop_zero, Qf.lay, Qf.all1, if_true, e0, e1, e2, e3, e4, e5, e6, e7, e8, e9, e10, e11, e12, e13, e14]
  simp only [Act.put, List.setIfInBounds_toArray, List.set_cons_succ, List.set_cons_zero]
  clear hk e0 e1 e2 e3 e4 e5 e6 e7 e8 e9 e10 e11 e12 e13 e14
  replace K2 := Vl.hide (K2.out.below hbS)
  replace K5 := Vl.hide (K5.out.below hbS)
  replace K7 := Vl.hide (K7.out.below hbS)
  replace BW := Vl.hide (BW.out.trans (hbS.mono BW.out.size))
  have sz1 : V7.heap.size ≤ W1.heap.size := hbS.size
  have QS := Vl.hide (hO)
  have US := Vl.hide (fun k q => QS.out.blk (b := k) q)
  clear hO hbS
  have ZW := Vl.hide (show w.heap.size ≤ V7.heap.size by rw [← hV7, ← hV5, ← hV2]; simp; omega)
  have PP := Vl.hide (show w.heap.size < V7.heap.size ∧ V2.heap.size < V7.heap.size ∧ V5.heap.size < V7.heap.size by rw [← hV7, ← hV5, ← hV2]; refine ⟨?_, ?_, ?_⟩ <;> simp <;> omega)
  go_wp2_with fail
  refine (Vl.toIntS w.heap.size a0 r0 cap0 D0 _ (H0.out.below BW.out) BW.out.size hl0).mono ?_
  rintro e W2 ⟨rfl, q, s, bb⟩
  replace QS := Vl.hide (QS.out.below bb)
  replace K2 := Vl.hide (K2.out.below bb)
  replace K5 := Vl.hide (K5.out.below bb)
  replace K7 := Vl.hide (K7.out.below bb)
  replace BW := Vl.hide (BW.out.trans (bb.mono BW.out.size))
  have sz2 : W1.heap.size ≤ W2.heap.size := bb.size
  have QX := Vl.hide (show Vl.OwnL W1.heap.size W2 (some ⟨W1.heap.size, 0, none⟩) r0 D0 from .inr ⟨_, rfl, Nat.le_refl _, q⟩)
  have UX := Vl.hide (fun k q => QX.out.blk (b := k) q)
  clear q s bb
  go_wp2_with fail
  refine (Vl.toIntS w.heap.size a3 r3 cap3 D3 _ (H3.out.below BW.out) BW.out.size hl3).mono ?_
  rintro e W3 ⟨rfl, q, s, bb⟩
  replace QS := Vl.hide (QS.out.below bb)
  replace QX := Vl.hide (QX.out.below bb)
  replace K2 := Vl.hide (K2.out.below bb)
  replace K5 := Vl.hide (K5.out.below bb)
  replace K7 := Vl.hide (K7.out.below bb)
  replace BW := Vl.hide (BW.out.trans (bb.mono BW.out.size))
  have sz3 : W2.heap.size ≤ W3.heap.size := bb.size
  have QY := Vl.hide (show Vl.OwnL W2.heap.size W3 (some ⟨W2.heap.size, 0, none⟩) r3 D3 from .inr ⟨_, rfl, Nat.le_refl _, q⟩)
  have UY := Vl.hide (fun k q => QY.out.blk (b := k) q)
  clear q s bb
  go_wp2_with fail
  refine (Vl.toIntS w.heap.size a6 r6 cap6 D6 _ (H6.out.below BW.out) BW.out.size hl6).mono ?_
  rintro e W4 ⟨rfl, q, s, bb⟩
  replace QS := Vl.hide (QS.out.below bb)
  replace QX := Vl.hide (QX.out.below bb)
  replace QY := Vl.hide (QY.out.below bb)
  replace K2 := Vl.hide (K2.out.below bb)
  replace K5 := Vl.hide (K5.out.below bb)
  replace K7 := Vl.hide (K7.out.below bb)
  replace BW := Vl.hide (BW.out.trans (bb.mono BW.out.size))
  have sz4 : W3.heap.size ≤ W4.heap.size := bb.size
  have QZ := Vl.hide (show Vl.OwnL W3.heap.size W4 (some ⟨W3.heap.size, 0, none⟩) r6 D6 from .inr ⟨_, rfl, Nat.le_refl _, q⟩)
  have UZ := Vl.hide (fun k q => QZ.out.blk (b := k) q)
  clear q s bb
  go_wp2_with fail
  refine Qf.facts2 12 (by kernel_rfl) (by kernel_rfl) (by kernel_rfl) (fun i v wx => match i with | 0 => v = .slice (some ⟨W1.heap.size, 0, none⟩) r0 r0 | 1 => v = .int .i64 a1 | 2 => v = .agg #[.int .i64 x2, .int .i64 z2] | 3 => v = .agg #[.int .i64 x2, .int .i64 z2] | 4 => v = .slice (some ⟨W2.heap.size, 0, none⟩) r3 r3 | 5 => v = .int .i64 a4 | 6 => v = .agg #[.int .i64 x5, .int .i64 z5] | 7 => v = .agg #[.int .i64 x5, .int .i64 z5] | 8 => v = .slice (some ⟨W3.heap.size, 0, none⟩) r6 r6 | 9 => v = .agg #[.int .i64 x7, .int .i64 z7] | 10 => v = .agg #[.int .i64 x7, .int .i64 z7] | 11 => ∃ aa cc, v = .slice aa n cc ∧ Vl.OwnL W4.heap.size wx aa n V | _ => True) ?stable ?steps ?rest
  case stable =>
    intro i v w1 w2 h hb
    match i, h with
    | 0, h => exact h
    | 1, h => exact h
    | 2, h => exact h
    | 3, h => exact h
    | 4, h => exact h
    | 5, h => exact h
    | 6, h => exact h
    | 7, h => exact h
    | 8, h => exact h
    | 9, h => exact h
    | 10, h => exact h
    | 11, h => exact (by obtain ⟨aa, cc, h1, h2⟩ := h; exact ⟨aa, cc, h1, h2.below hb⟩)
    | _ + 12, h => exact h
  case steps =>
    intro i o hi ho s A wS hb hk hA hO
    match i, hi, ho, hk with
    | 0, _, ho, hk =>
      cases ho
      exact Qf.lands_move _ rfl _ ((hO 18 (by rfl)).trans rfl) ⟨Below.refl _ _, rfl⟩
    | 1, _, ho, hk =>
      cases ho
      exact Qf.lands_move _ rfl _ ((hO 1 (by rfl)).trans rfl) ⟨Below.refl _ _, rfl⟩
    | 2, _, ho, hk =>
      cases ho
      exact Qf.lands_val _ _ (Vo.runLoadSc rfl ((hO 10 (by rfl)).trans rfl) (K2.out.below hb)) ⟨Below.refl _ _, rfl⟩
    | 3, _, ho, hk =>
      cases ho
      have h2 := hA 2 _ 58 (by decide) rfl rfl (by simp)
      have e2 := hk 2 (by kernel_rfl)
      rw [e2] at h2
      refine Qf.lands_call 6 _ _ rfl (enters_of Try.func6 (by kernel_rfl) rfl) _ (by simp [h2]) ((Vo.toScale x2 z2 wS).mono ?_)
      rintro e wT ⟨rfl, bT⟩
      exact ⟨_, rfl, bT, rfl⟩
    | 4, _, ho, hk =>
      cases ho
      exact Qf.lands_move _ rfl _ ((hO 19 (by rfl)).trans rfl) ⟨Below.refl _ _, rfl⟩
    | 5, _, ho, hk =>
      cases ho
      exact Qf.lands_move _ rfl _ ((hO 4 (by rfl)).trans rfl) ⟨Below.refl _ _, rfl⟩
    | 6, _, ho, hk =>
      cases ho
      exact Qf.lands_val _ _ (Vo.runLoadSc rfl ((hO 13 (by rfl)).trans rfl) (K5.out.below hb)) ⟨Below.refl _ _, rfl⟩
    | 7, _, ho, hk =>
      cases ho
      have h6 := hA 6 _ 62 (by decide) rfl rfl (by simp)
      have e6 := hk 6 (by kernel_rfl)
      rw [e6] at h6
      refine Qf.lands_call 6 _ _ rfl (enters_of Try.func6 (by kernel_rfl) rfl) _ (by simp [h6]) ((Vo.toScale x5 z5 wS).mono ?_)
      rintro e wT ⟨rfl, bT⟩
      exact ⟨_, rfl, bT, rfl⟩
    | 8, _, ho, hk =>
      cases ho
      exact Qf.lands_move _ rfl _ ((hO 20 (by rfl)).trans rfl) ⟨Below.refl _ _, rfl⟩
    | 9, _, ho, hk =>
      cases ho
      exact Qf.lands_val _ _ (Vo.runLoadSc rfl ((hO 15 (by rfl)).trans rfl) (K7.out.below hb)) ⟨Below.refl _ _, rfl⟩
    | 10, _, ho, hk =>
      cases ho
      have h9 := hA 9 _ 65 (by decide) rfl rfl (by simp)
      have e9 := hk 9 (by kernel_rfl)
      rw [e9] at h9
      refine Qf.lands_call 6 _ _ rfl (enters_of Try.func6 (by kernel_rfl) rfl) _ (by simp [h9]) ((Vo.toScale x7 z7 wS).mono ?_)
      rintro e wT ⟨rfl, bT⟩
      exact ⟨_, rfl, bT, rfl⟩
    | 11, _, ho, hk =>
      cases ho
      have h0 := hA 0 _ 56 (by decide) rfl rfl (by simp)
      have e0 := hk 0 (by kernel_rfl)
      rw [e0] at h0
      have h1 := hA 1 _ 57 (by decide) rfl rfl (by simp)
      have e1 := hk 1 (by kernel_rfl)
      rw [e1] at h1
      have h3 := hA 3 _ 59 (by decide) rfl rfl (by simp)
      have e3 := hk 3 (by kernel_rfl)
      rw [e3] at h3
      have h4 := hA 4 _ 60 (by decide) rfl rfl (by simp)
      have e4 := hk 4 (by kernel_rfl)
      rw [e4] at h4
      have h5 := hA 5 _ 61 (by decide) rfl rfl (by simp)
      have e5 := hk 5 (by kernel_rfl)
      rw [e5] at h5
      have h7 := hA 7 _ 63 (by decide) rfl rfl (by simp)
      have e7 := hk 7 (by kernel_rfl)
      rw [e7] at h7
      have h8 := hA 8 _ 64 (by decide) rfl rfl (by simp)
      have e8 := hk 8 (by kernel_rfl)
      rw [e8] at h8
      have h10 := hA 10 _ 66 (by decide) rfl rfl (by simp)
      have e10 := hk 10 (by kernel_rfl)
      rw [e10] at h10
      refine Qf.lands_call 10 _ _ rfl (enters_of Try.func10 (by kernel_rfl) rfl) _ (by simp [h0, h1, h3, h4, h5, h7, h8, h10]) ((HI.out wS _ _ _ r0 r3 r6 (Nat.le_refl _) (Nat.le_refl _) ((QX.out.below hb).ints) ((QY.out.below hb).ints) ((QZ.out.below hb).ints)).mono ?_)
      rintro e wT ⟨aT, cT, rfl, qT, bT⟩
      exact ⟨_, rfl, bT, aT, cT, rfl, qT.mono hb.size⟩
    | _ + 12, hi, _, _ => exact absurd hi (by omega)
  case rest =>
  intro s W5 hbS hk
  have e0 : s 0 = .slice (some ⟨W1.heap.size, 0, none⟩) r0 r0 := hk 0 (by decide)
  have e1 : s 1 = .int .i64 a1 := hk 1 (by decide)
  have e2 : s 2 = .agg #[.int .i64 x2, .int .i64 z2] := hk 2 (by decide)
  have e3 : s 3 = .agg #[.int .i64 x2, .int .i64 z2] := hk 3 (by decide)
  have e4 : s 4 = .slice (some ⟨W2.heap.size, 0, none⟩) r3 r3 := hk 4 (by decide)
  have e5 : s 5 = .int .i64 a4 := hk 5 (by decide)
  have e6 : s 6 = .agg #[.int .i64 x5, .int .i64 z5] := hk 6 (by decide)
  have e7 : s 7 = .agg #[.int .i64 x5, .int .i64 z5] := hk 7 (by decide)
  have e8 : s 8 = .slice (some ⟨W3.heap.size, 0, none⟩) r6 r6 := hk 8 (by decide)
  have e9 : s 9 = .agg #[.int .i64 x7, .int .i64 z7] := hk 9 (by decide)
  have e10 : s 10 = .agg #[.int .i64 x7, .int .i64 z7] := hk 10 (by decide)
  obtain ⟨Ga, Gc, e11, hO⟩ := hk 11 (by decide)
  simp only [List.take_succ_cons, List.take_zero, List.drop_succ_cons, List.drop_zero, Qf.lay, Qf.all1, if_true, e0, e1, e2, e3, e4, e5, e6, e7, e8, e9, e10, e11]
  simp only [Act.put, List.setIfInBounds_toArray, List.set_cons_succ, List.set_cons_zero]
  clear hk e0 e1 e2 e3 e4 e5 e6 e7 e8 e9 e10 e11
  replace QS := Vl.hide (QS.out.below hbS)
  replace QX := Vl.hide (QX.out.below hbS)
  replace QY := Vl.hide (QY.out.below hbS)
  replace QZ := Vl.hide (QZ.out.below hbS)
  replace K2 := Vl.hide (K2.out.below hbS)
  replace K5 := Vl.hide (K5.out.below hbS)
  replace K7 := Vl.hide (K7.out.below hbS)
  replace BW := Vl.hide (BW.out.trans (hbS.mono BW.out.size))
  have sz5 : W4.heap.size ≤ W5.heap.size := hbS.size
  have QG := Vl.hide (hO)
  have UG := Vl.hide (fun k q => QG.out.blk (b := k) q)
  clear hO hbS
  go_wp2_with fail
  refine (Vl.eqIntS _ _ _ n Gc Sc V V _ QG.out.ints QS.out.ints (fun _ _ => rfl) ln).mono ?_
  rintro e W6 ⟨rfl, bb⟩
  replace QS := Vl.hide (QS.out.below bb)
  replace QX := Vl.hide (QX.out.below bb)
  replace QY := Vl.hide (QY.out.below bb)
  replace QZ := Vl.hide (QZ.out.below bb)
  replace QG := Vl.hide (QG.out.below bb)
  replace K2 := Vl.hide (K2.out.below bb)
  replace K5 := Vl.hide (K5.out.below bb)
  replace K7 := Vl.hide (K7.out.below bb)
  replace BW := Vl.hide (BW.out.trans (bb.mono BW.out.size))
  have sz6 : W5.heap.size ≤ W6.heap.size := bb.size
  clear bb
  go_wp2_with fail
  refine (Vl.toIntS w.heap.size a0 r0 cap0 D0 _ (H0.out.below BW.out) BW.out.size hl0).mono ?_
  rintro e W7 ⟨rfl, q, s, bb⟩
  replace QS := Vl.hide (QS.out.below bb)
  replace QX := Vl.hide (QX.out.below bb)
  replace QY := Vl.hide (QY.out.below bb)
  replace QZ := Vl.hide (QZ.out.below bb)
  replace QG := Vl.hide (QG.out.below bb)
  replace K2 := Vl.hide (K2.out.below bb)
  replace K5 := Vl.hide (K5.out.below bb)
  replace K7 := Vl.hide (K7.out.below bb)
  replace BW := Vl.hide (BW.out.trans (bb.mono BW.out.size))
  have sz7 : W6.heap.size ≤ W7.heap.size := bb.size
  have QT := Vl.hide (show Vl.OwnL W6.heap.size W7 (some ⟨W6.heap.size, 0, none⟩) r0 D0 from .inr ⟨_, rfl, Nat.le_refl _, q⟩)
  have UT := Vl.hide (fun k q => QT.out.blk (b := k) q)
  clear q s bb
  go_wp2_with fail
  refine (Vl.eqIntS _ _ _ r0 _ _ D0 D0 _ QX.out.ints QT.out.ints (fun _ _ => rfl) hl0).mono ?_
  rintro e W8 ⟨rfl, bb⟩
  replace QS := Vl.hide (QS.out.below bb)
  replace QX := Vl.hide (QX.out.below bb)
  replace QY := Vl.hide (QY.out.below bb)
  replace QZ := Vl.hide (QZ.out.below bb)
  replace QG := Vl.hide (QG.out.below bb)
  replace QT := Vl.hide (QT.out.below bb)
  replace K2 := Vl.hide (K2.out.below bb)
  replace K5 := Vl.hide (K5.out.below bb)
  replace K7 := Vl.hide (K7.out.below bb)
  replace BW := Vl.hide (BW.out.trans (bb.mono BW.out.size))
  have sz8 : W7.heap.size ≤ W8.heap.size := bb.size
  clear bb
  clear QT UT
  go_wp2_with fail
  refine (Vl.toIntS w.heap.size a3 r3 cap3 D3 _ (H3.out.below BW.out) BW.out.size hl3).mono ?_
  rintro e W9 ⟨rfl, q, s, bb⟩
  replace QS := Vl.hide (QS.out.below bb)
  replace QX := Vl.hide (QX.out.below bb)
  replace QY := Vl.hide (QY.out.below bb)
  replace QZ := Vl.hide (QZ.out.below bb)
  replace QG := Vl.hide (QG.out.below bb)
  replace K2 := Vl.hide (K2.out.below bb)
  replace K5 := Vl.hide (K5.out.below bb)
  replace K7 := Vl.hide (K7.out.below bb)
  replace BW := Vl.hide (BW.out.trans (bb.mono BW.out.size))
  have sz9 : W8.heap.size ≤ W9.heap.size := bb.size
  have QT := Vl.hide (show Vl.OwnL W8.heap.size W9 (some ⟨W8.heap.size, 0, none⟩) r3 D3 from .inr ⟨_, rfl, Nat.le_refl _, q⟩)
  have UT := Vl.hide (fun k q => QT.out.blk (b := k) q)
  clear q s bb
  go_wp2_with fail
  refine (Vl.eqIntS _ _ _ r3 _ _ D3 D3 _ QY.out.ints QT.out.ints (fun _ _ => rfl) hl3).mono ?_
  rintro e W10 ⟨rfl, bb⟩
  replace QS := Vl.hide (QS.out.below bb)
  replace QX := Vl.hide (QX.out.below bb)
  replace QY := Vl.hide (QY.out.below bb)
  replace QZ := Vl.hide (QZ.out.below bb)
  replace QG := Vl.hide (QG.out.below bb)
  replace QT := Vl.hide (QT.out.below bb)
  replace K2 := Vl.hide (K2.out.below bb)
  replace K5 := Vl.hide (K5.out.below bb)
  replace K7 := Vl.hide (K7.out.below bb)
  replace BW := Vl.hide (BW.out.trans (bb.mono BW.out.size))
  have sz10 : W9.heap.size ≤ W10.heap.size := bb.size
  clear bb
  clear QT UT
  go_wp2_with fail
  refine (Vl.toIntS w.heap.size a6 r6 cap6 D6 _ (H6.out.below BW.out) BW.out.size hl6).mono ?_
  rintro e W11 ⟨rfl, q, s, bb⟩
  replace QS := Vl.hide (QS.out.below bb)
  replace QX := Vl.hide (QX.out.below bb)
  replace QY := Vl.hide (QY.out.below bb)
  replace QZ := Vl.hide (QZ.out.below bb)
  replace QG := Vl.hide (QG.out.below bb)
  replace K2 := Vl.hide (K2.out.below bb)
  replace K5 := Vl.hide (K5.out.below bb)
  replace K7 := Vl.hide (K7.out.below bb)
  replace BW := Vl.hide (BW.out.trans (bb.mono BW.out.size))
  have sz11 : W10.heap.size ≤ W11.heap.size := bb.size
  have QT := Vl.hide (show Vl.OwnL W10.heap.size W11 (some ⟨W10.heap.size, 0, none⟩) r6 D6 from .inr ⟨_, rfl, Nat.le_refl _, q⟩)
  have UT := Vl.hide (fun k q => QT.out.blk (b := k) q)
  clear q s bb
  go_wp2_with fail
  refine (Vl.eqIntS _ _ _ r6 _ _ D6 D6 _ QZ.out.ints QT.out.ints (fun _ _ => rfl) hl6).mono ?_
  rintro e W12 ⟨rfl, bb⟩
  replace QS := Vl.hide (QS.out.below bb)
  replace QX := Vl.hide (QX.out.below bb)
  replace QY := Vl.hide (QY.out.below bb)
  replace QZ := Vl.hide (QZ.out.below bb)
  replace QG := Vl.hide (QG.out.below bb)
  replace QT := Vl.hide (QT.out.below bb)
  replace K2 := Vl.hide (K2.out.below bb)
  replace K5 := Vl.hide (K5.out.below bb)
  replace K7 := Vl.hide (K7.out.below bb)
  replace BW := Vl.hide (BW.out.trans (bb.mono BW.out.size))
  have sz12 : W11.heap.size ≤ W12.heap.size := bb.size
  clear bb
  clear QT UT
  go_wp2_with fail
  refine (Vl.markIntS _ _ r0 _ D0 1 _ QX.out hl0 (by omega) (by omega)).mono ?_
  rintro e W13 ⟨rfl, qs, bb⟩
  have TZ := Vl.hide (show V7.heap.size ≤ W12.heap.size by omega)
  replace QS := Vl.hide (QS.out.kept bb (fun k q q' => by have := US.out _ q; have := UX.out _ q'; omega))
  replace QY := Vl.hide (QY.out.kept bb (fun k q q' => by have := UY.out _ q; have := UX.out _ q'; omega))
  replace QZ := Vl.hide (QZ.out.kept bb (fun k q q' => by have := UZ.out _ q; have := UX.out _ q'; omega))
  replace QG := Vl.hide (QG.out.kept bb (fun k q q' => by have := UG.out _ q; have := UX.out _ q'; omega))
  have bV : Below V7.heap.size W12 W13 := Vl.Kept.below bb (by have := TZ.out; omega) (fun k q => by have := UX.out _ q; omega)
  replace K2 := Vl.hide (K2.out.belowB PP.out.1 bV)
  replace K5 := Vl.hide (K5.out.belowB PP.out.2.1 bV)
  replace K7 := Vl.hide (K7.out.belowB PP.out.2.2 bV)
  clear bV
  replace BW := Vl.hide (BW.out.trans (Vl.Kept.below bb BW.out.size (fun k q => by have := UX.out _ q; have := ZW.out; omega)))
  have sz13 : W12.heap.size ≤ W13.heap.size := bb.size
  replace QX := Vl.hide qs
  clear qs bb
  go_wp2_with fail
  refine (Vl.markIntS _ _ r3 _ D3 (1 + r0) _ QY.out hl3 (by omega) (by omega)).mono ?_
  rintro e W14 ⟨rfl, qs, bb⟩
  have TZ := Vl.hide (show V7.heap.size ≤ W13.heap.size by omega)
  replace QS := Vl.hide (QS.out.kept bb (fun k q q' => by have := US.out _ q; have := UY.out _ q'; omega))
  replace QX := Vl.hide (QX.out.kept bb (fun k q q' => by have := UX.out _ q; have := UY.out _ q'; omega))
  replace QZ := Vl.hide (QZ.out.kept bb (fun k q q' => by have := UZ.out _ q; have := UY.out _ q'; omega))
  replace QG := Vl.hide (QG.out.kept bb (fun k q q' => by have := UG.out _ q; have := UY.out _ q'; omega))
  have bV : Below V7.heap.size W13 W14 := Vl.Kept.below bb (by have := TZ.out; omega) (fun k q => by have := UY.out _ q; omega)
  replace K2 := Vl.hide (K2.out.belowB PP.out.1 bV)
  replace K5 := Vl.hide (K5.out.belowB PP.out.2.1 bV)
  replace K7 := Vl.hide (K7.out.belowB PP.out.2.2 bV)
  clear bV
  replace BW := Vl.hide (BW.out.trans (Vl.Kept.below bb BW.out.size (fun k q => by have := UY.out _ q; have := ZW.out; omega)))
  have sz14 : W13.heap.size ≤ W14.heap.size := bb.size
  replace QY := Vl.hide qs
  clear qs bb
  go_wp2_with fail
  refine (Vl.markIntS _ _ r6 _ D6 (1 + r0 + r3) _ QZ.out hl6 (by omega) (by omega)).mono ?_
  rintro e W15 ⟨rfl, qs, bb⟩
  have TZ := Vl.hide (show V7.heap.size ≤ W14.heap.size by omega)
  replace QS := Vl.hide (QS.out.kept bb (fun k q q' => by have := US.out _ q; have := UZ.out _ q'; omega))
  replace QX := Vl.hide (QX.out.kept bb (fun k q q' => by have := UX.out _ q; have := UZ.out _ q'; omega))
  replace QY := Vl.hide (QY.out.kept bb (fun k q q' => by have := UY.out _ q; have := UZ.out _ q'; omega))
  replace QG := Vl.hide (QG.out.kept bb (fun k q q' => by have := UG.out _ q; have := UZ.out _ q'; omega))
  have bV : Below V7.heap.size W14 W15 := Vl.Kept.below bb (by have := TZ.out; omega) (fun k q => by have := UZ.out _ q; omega)
  replace K2 := Vl.hide (K2.out.belowB PP.out.1 bV)
  replace K5 := Vl.hide (K5.out.belowB PP.out.2.1 bV)
  replace K7 := Vl.hide (K7.out.belowB PP.out.2.2 bV)
  clear bV
  replace BW := Vl.hide (BW.out.trans (Vl.Kept.below bb BW.out.size (fun k q => by have := UZ.out _ q; have := ZW.out; omega)))
  have sz15 : W14.heap.size ≤ W15.heap.size := bb.size
  replace QZ := Vl.hide qs
  clear qs bb
  clear QX UX
  clear QY UY
  clear QZ UZ
  have neg1 : decide ((1 : Int) + (r0 : Int) + (r3 : Int) + (r6 : Int) < 0) = false := by rw [decide_eq_false_iff_not]; omega
  go_wp2_with fail
  refine (Vl.eqIntS _ _ _ n Gc Sc V V _ QG.out.ints QS.out.ints (fun _ _ => rfl) ln).mono ?_
  rintro e W16 ⟨rfl, bb⟩
  replace QS := Vl.hide (QS.out.below bb)
  replace QG := Vl.hide (QG.out.below bb)
  replace K2 := Vl.hide (K2.out.below bb)
  replace K5 := Vl.hide (K5.out.below bb)
  replace K7 := Vl.hide (K7.out.below bb)
  replace BW := Vl.hide (BW.out.trans (bb.mono BW.out.size))
  have sz16 : W15.heap.size ≤ W16.heap.size := bb.size
  clear bb
  go_wp2_with fail
  refine (Vl.markIntS _ _ n Gc V 1 _ QG.out ln (by omega) (by omega)).mono ?_
  rintro e W17 ⟨rfl, qs, bb⟩
  have TZ := Vl.hide (show V7.heap.size ≤ W16.heap.size by omega)
  replace QS := Vl.hide (QS.out.kept bb (fun k q q' => by have := US.out _ q; have := UG.out _ q'; omega))
  have bV : Below V7.heap.size W16 W17 := Vl.Kept.below bb (by have := TZ.out; omega) (fun k q => by have := UG.out _ q; omega)
  replace K2 := Vl.hide (K2.out.belowB PP.out.1 bV)
  replace K5 := Vl.hide (K5.out.belowB PP.out.2.1 bV)
  replace K7 := Vl.hide (K7.out.belowB PP.out.2.2 bV)
  clear bV
  replace BW := Vl.hide (BW.out.trans (Vl.Kept.below bb BW.out.size (fun k q => by have := UG.out _ q; have := ZW.out; omega)))
  have sz17 : W16.heap.size ≤ W17.heap.size := bb.size
  replace QG := Vl.hide qs
  clear qs bb
  have neg2 : decide ((1 : Int) + (n : Int) < 0) = false := by rw [decide_eq_false_iff_not]; omega
  go_wp2_with fail
  refine (Vl.heldIntS _ _ n _ 1 _ QG.out.ints ln (by omega) (by omega)).mono ?_
  rintro e w' ⟨rfl, hq⟩; have hq := hq.symm; subst hq
  go_wp2_with fail
  refine Qf.facts2 15 (by kernel_rfl) (by kernel_rfl) (by kernel_rfl) (fun i v wx => match i with | 0 => v = .slice a0 r0 cap0 | 1 => Vo.IntV r0 D0 v wx | 2 => v = .int .i64 a1 | 3 => v = .agg #[.int .i64 x2, .int .i64 z2] | 4 => v = .agg #[.int .i64 x2, .int .i64 z2] | 5 => v = .slice a3 r3 cap3 | 6 => Vo.IntV r3 D3 v wx | 7 => v = .int .i64 a4 | 8 => v = .agg #[.int .i64 x5, .int .i64 z5] | 9 => v = .agg #[.int .i64 x5, .int .i64 z5] | 10 => v = .slice a6 r6 cap6 | 11 => Vo.IntV r6 D6 v wx | 12 => v = .agg #[.int .i64 x7, .int .i64 z7] | 13 => v = .agg #[.int .i64 x7, .int .i64 z7] | 14 => ∃ aa cc, v = .slice aa n cc ∧ Vl.OwnL W17.heap.size wx aa n V | _ => True) ?stable ?steps ?rest
  case stable =>
    intro i v w1 w2 h hb
    match i, h with
    | 0, h => exact h
    | 1, h => exact Vo.IntV.below h hb
    | 2, h => exact h
    | 3, h => exact h
    | 4, h => exact h
    | 5, h => exact h
    | 6, h => exact Vo.IntV.below h hb
    | 7, h => exact h
    | 8, h => exact h
    | 9, h => exact h
    | 10, h => exact h
    | 11, h => exact Vo.IntV.below h hb
    | 12, h => exact h
    | 13, h => exact h
    | 14, h => exact (by obtain ⟨aa, cc, h1, h2⟩ := h; exact ⟨aa, cc, h1, h2.below hb⟩)
    | _ + 15, h => exact h
  case steps =>
    intro i o hi ho s A wS hb hk hA hO
    match i, hi, ho, hk with
    | 0, _, ho, hk =>
      cases ho
      exact Qf.lands_move _ rfl _ ((hO 0 (by rfl)).trans rfl) ⟨Below.refl _ _, rfl⟩
    | 1, _, ho, hk =>
      cases ho
      have h0 := hA 0 _ 115 (by decide) rfl rfl (by simp)
      have e0 := hk 0 (by kernel_rfl)
      rw [e0] at h0
      refine Qf.lands_call 9 _ _ rfl (enters_of Try.func9 (by kernel_rfl) rfl) _ (by simp [h0]) ((Vl.toIntS w.heap.size a0 r0 cap0 D0 wS (H0.out.below (BW.out.trans (hb.mono BW.out.size))) (Nat.le_trans BW.out.size hb.size) hl0).mono ?_)
      rintro e wT ⟨rfl, qT, sT, bT⟩
      exact ⟨_, rfl, bT, _, rfl, qT, Nat.lt_of_lt_of_le sT (Nat.le_refl _)⟩
    | 2, _, ho, hk =>
      cases ho
      exact Qf.lands_move _ rfl _ ((hO 1 (by rfl)).trans rfl) ⟨Below.refl _ _, rfl⟩
    | 3, _, ho, hk =>
      cases ho
      exact Qf.lands_val _ _ (Vo.runLoadSc rfl ((hO 10 (by rfl)).trans rfl) (K2.out.below hb)) ⟨Below.refl _ _, rfl⟩
    | 4, _, ho, hk =>
      cases ho
      have h3 := hA 3 _ 118 (by decide) rfl rfl (by simp)
      have e3 := hk 3 (by kernel_rfl)
      rw [e3] at h3
      refine Qf.lands_call 6 _ _ rfl (enters_of Try.func6 (by kernel_rfl) rfl) _ (by simp [h3]) ((Vo.toScale x2 z2 wS).mono ?_)
      rintro e wT ⟨rfl, bT⟩
      exact ⟨_, rfl, bT, rfl⟩
    | 5, _, ho, hk =>
      cases ho
      exact Qf.lands_move _ rfl _ ((hO 3 (by rfl)).trans rfl) ⟨Below.refl _ _, rfl⟩
    | 6, _, ho, hk =>
      cases ho
      have h5 := hA 5 _ 120 (by decide) rfl rfl (by simp)
      have e5 := hk 5 (by kernel_rfl)
      rw [e5] at h5
      refine Qf.lands_call 9 _ _ rfl (enters_of Try.func9 (by kernel_rfl) rfl) _ (by simp [h5]) ((Vl.toIntS w.heap.size a3 r3 cap3 D3 wS (H3.out.below (BW.out.trans (hb.mono BW.out.size))) (Nat.le_trans BW.out.size hb.size) hl3).mono ?_)
      rintro e wT ⟨rfl, qT, sT, bT⟩
      exact ⟨_, rfl, bT, _, rfl, qT, Nat.lt_of_lt_of_le sT (Nat.le_refl _)⟩
    | 7, _, ho, hk =>
      cases ho
      exact Qf.lands_move _ rfl _ ((hO 4 (by rfl)).trans rfl) ⟨Below.refl _ _, rfl⟩
    | 8, _, ho, hk =>
      cases ho
      exact Qf.lands_val _ _ (Vo.runLoadSc rfl ((hO 13 (by rfl)).trans rfl) (K5.out.below hb)) ⟨Below.refl _ _, rfl⟩
    | 9, _, ho, hk =>
      cases ho
      have h8 := hA 8 _ 123 (by decide) rfl rfl (by simp)
      have e8 := hk 8 (by kernel_rfl)
      rw [e8] at h8
      refine Qf.lands_call 6 _ _ rfl (enters_of Try.func6 (by kernel_rfl) rfl) _ (by simp [h8]) ((Vo.toScale x5 z5 wS).mono ?_)
      rintro e wT ⟨rfl, bT⟩
      exact ⟨_, rfl, bT, rfl⟩
    | 10, _, ho, hk =>
      cases ho
      exact Qf.lands_move _ rfl _ ((hO 6 (by rfl)).trans rfl) ⟨Below.refl _ _, rfl⟩
    | 11, _, ho, hk =>
      cases ho
      have h10 := hA 10 _ 125 (by decide) rfl rfl (by simp)
      have e10 := hk 10 (by kernel_rfl)
      rw [e10] at h10
      refine Qf.lands_call 9 _ _ rfl (enters_of Try.func9 (by kernel_rfl) rfl) _ (by simp [h10]) ((Vl.toIntS w.heap.size a6 r6 cap6 D6 wS (H6.out.below (BW.out.trans (hb.mono BW.out.size))) (Nat.le_trans BW.out.size hb.size) hl6).mono ?_)
      rintro e wT ⟨rfl, qT, sT, bT⟩
      exact ⟨_, rfl, bT, _, rfl, qT, Nat.lt_of_lt_of_le sT (Nat.le_refl _)⟩
    | 12, _, ho, hk =>
      cases ho
      exact Qf.lands_val _ _ (Vo.runLoadSc rfl ((hO 15 (by rfl)).trans rfl) (K7.out.below hb)) ⟨Below.refl _ _, rfl⟩
    | 13, _, ho, hk =>
      cases ho
      have h12 := hA 12 _ 127 (by decide) rfl rfl (by simp)
      have e12 := hk 12 (by kernel_rfl)
      rw [e12] at h12
      refine Qf.lands_call 6 _ _ rfl (enters_of Try.func6 (by kernel_rfl) rfl) _ (by simp [h12]) ((Vo.toScale x7 z7 wS).mono ?_)
      rintro e wT ⟨rfl, bT⟩
      exact ⟨_, rfl, bT, rfl⟩
    | 14, _, ho, hk =>
      cases ho
      have h1 := hA 1 _ 116 (by decide) rfl rfl (by simp)
      obtain ⟨g1, e1, p1, l1⟩ := hk 1 (by kernel_rfl)
      rw [e1] at h1
      have h2 := hA 2 _ 117 (by decide) rfl rfl (by simp)
      have e2 := hk 2 (by kernel_rfl)
      rw [e2] at h2
      have h4 := hA 4 _ 119 (by decide) rfl rfl (by simp)
      have e4 := hk 4 (by kernel_rfl)
      rw [e4] at h4
      have h6 := hA 6 _ 121 (by decide) rfl rfl (by simp)
      obtain ⟨g6, e6, p6, l6⟩ := hk 6 (by kernel_rfl)
      rw [e6] at h6
      have h7 := hA 7 _ 122 (by decide) rfl rfl (by simp)
      have e7 := hk 7 (by kernel_rfl)
      rw [e7] at h7
      have h9 := hA 9 _ 124 (by decide) rfl rfl (by simp)
      have e9 := hk 9 (by kernel_rfl)
      rw [e9] at h9
      have h11 := hA 11 _ 126 (by decide) rfl rfl (by simp)
      obtain ⟨g11, e11, p11, l11⟩ := hk 11 (by kernel_rfl)
      rw [e11] at h11
      have h13 := hA 13 _ 128 (by decide) rfl rfl (by simp)
      have e13 := hk 13 (by kernel_rfl)
      rw [e13] at h13
      refine Qf.lands_call 10 _ _ rfl (enters_of Try.func10 (by kernel_rfl) rfl) _ (by simp [h1, h2, h4, h6, h7, h9, h11, h13]) ((HI.out wS (some ⟨g1, 0, none⟩) (some ⟨g6, 0, none⟩) (some ⟨g11, 0, none⟩) r0 r3 r6 (Nat.le_refl _) (Nat.le_refl _) (p1.ints l1) (p6.ints l6) (p11.ints l11)).mono ?_)
      rintro e wT ⟨aT, cT, rfl, qT, bT⟩
      exact ⟨_, rfl, bT, aT, cT, rfl, qT.mono hb.size⟩
    | _ + 15, hi, _, _ => exact absurd hi (by omega)
  case rest =>
  intro s W18 hbS hk
  have e0 : s 0 = .slice a0 r0 cap0 := hk 0 (by decide)
  obtain ⟨g1, e1, -, -⟩ := hk 1 (by decide)
  have e2 : s 2 = .int .i64 a1 := hk 2 (by decide)
  have e3 : s 3 = .agg #[.int .i64 x2, .int .i64 z2] := hk 3 (by decide)
  have e4 : s 4 = .agg #[.int .i64 x2, .int .i64 z2] := hk 4 (by decide)
  have e5 : s 5 = .slice a3 r3 cap3 := hk 5 (by decide)
  obtain ⟨g6, e6, -, -⟩ := hk 6 (by decide)
  have e7 : s 7 = .int .i64 a4 := hk 7 (by decide)
  have e8 : s 8 = .agg #[.int .i64 x5, .int .i64 z5] := hk 8 (by decide)
  have e9 : s 9 = .agg #[.int .i64 x5, .int .i64 z5] := hk 9 (by decide)
  have e10 : s 10 = .slice a6 r6 cap6 := hk 10 (by decide)
  obtain ⟨g11, e11, -, -⟩ := hk 11 (by decide)
  have e12 : s 12 = .agg #[.int .i64 x7, .int .i64 z7] := hk 12 (by decide)
  have e13 : s 13 = .agg #[.int .i64 x7, .int .i64 z7] := hk 13 (by decide)
  obtain ⟨Ja, Jc, e14, hO⟩ := hk 14 (by decide)
  simp only [List.take_succ_cons, List.take_zero, List.drop_succ_cons, List.drop_zero, Qf.lay, Qf.all1, if_true, e0, e1, e2, e3, e4, e5, e6, e7, e8, e9, e10, e11, e12, e13, e14]
  simp only [Act.put, List.setIfInBounds_toArray, List.set_cons_succ, List.set_cons_zero]
  clear hk e0 e1 e2 e3 e4 e5 e6 e7 e8 e9 e10 e11 e12 e13 e14
  replace QS := Vl.hide (QS.out.below hbS)
  replace QG := Vl.hide (QG.out.below hbS)
  replace K2 := Vl.hide (K2.out.below hbS)
  replace K5 := Vl.hide (K5.out.below hbS)
  replace K7 := Vl.hide (K7.out.below hbS)
  replace BW := Vl.hide (BW.out.trans (hbS.mono BW.out.size))
  have sz18 : W17.heap.size ≤ W18.heap.size := hbS.size
  have QJ := Vl.hide (hO)
  have UJ := Vl.hide (fun k q => QJ.out.blk (b := k) q)
  clear hO hbS
  go_wp2_with fail
  refine (Vl.eqIntS _ _ _ n Jc Sc V V _ QJ.out.ints QS.out.ints (fun _ _ => rfl) ln).mono ?_
  rintro e W19 ⟨rfl, bb⟩
  replace QS := Vl.hide (QS.out.below bb)
  replace QG := Vl.hide (QG.out.below bb)
  replace QJ := Vl.hide (QJ.out.below bb)
  replace K2 := Vl.hide (K2.out.below bb)
  replace K5 := Vl.hide (K5.out.below bb)
  replace K7 := Vl.hide (K7.out.below bb)
  replace BW := Vl.hide (BW.out.trans (bb.mono BW.out.size))
  have sz19 : W18.heap.size ≤ W19.heap.size := bb.size
  clear bb
  go_wp2_with fail
  refine (Vl.heldIntS _ _ n _ 1 _ QG.out.ints ln (by omega) (by omega)).mono ?_
  rintro e w' ⟨rfl, hq⟩; have hq := hq.symm; subst hq
  go_wp2_with fail
  go_ret
  exact ⟨rfl, BW.out⟩

set_option maxRecDepth 100000 in
theorem lifted (os : Os) (started : os.Started) (H : Type) (enc : TypeId × Value → H) :
    ReturnsInHanded {} Try.checked os 4 .any (Rows.fnExactMatBytesSpec.pre6 enc Try.prog Try.f4 Rows.fnExactMatBytesRow.domain false) (Rows.fnExactMatBytesSpec.post enc Try.prog Try.f4 false true false false) := by
  refine returnsInHanded_of_change (C := Try.checked) own started (by kernel_rfl) Try.func4
    (ChangeSpec.witness6 (enc := enc) (C := Try.checked) false ⟨#[], #[.slice none 0 0, .int .i64 0, .agg #[.int .i64 0, .int .i64 0], .slice none 0 0, .int .i64 0, .agg #[.int .i64 0, .int .i64 0], .slice none 0 0, .agg #[.int .i64 0, .int .i64 0]], []⟩ 8 (by kernel_rfl) (by kernel_rfl) (by kernel_rfl) (by kernel_rfl)) ?_
  intro W base args ds gs before hval0 hW hcnd _
  have hval : ∀ (j : Nat) t v, Try.f4.params[j]? = some t → args[j]? = some v → Value.okWide Try.prog W .any base t v := hval0
  have hW' := hW
  obtain ⟨p, q, hA0, hV, rfl, hfz, hnd⟩ := hW
  have hA : DataW.TrodAll enc Try.prog W 0 (fun _ => true) true Try.f4.params.toList args.toList ds p := hA0
  rw [Try.params4] at hA hval
  obtain ⟨v0, vs0, d0, ds0, p0, q0, hargs, rfl, rfl, h0, rst0⟩ := trodAll_cons hA
  obtain ⟨v1, vs1, d1, ds1, p1, q1, rfl, rfl, rfl, h1, rst1⟩ := trodAll_cons rst0
  obtain ⟨v2, vs2, d2, ds2, p2, q2, rfl, rfl, rfl, h2, rst2⟩ := trodAll_cons rst1
  obtain ⟨v3, vs3, d3, ds3, p3, q3, rfl, rfl, rfl, h3, rst3⟩ := trodAll_cons rst2
  obtain ⟨v4, vs4, d4, ds4, p4, q4, rfl, rfl, rfl, h4, rst4⟩ := trodAll_cons rst3
  obtain ⟨v5, vs5, d5, ds5, p5, q5, rfl, rfl, rfl, h5, rst5⟩ := trodAll_cons rst4
  obtain ⟨v6, vs6, d6, ds6, p6, q6, rfl, rfl, rfl, h6, rst6⟩ := trodAll_cons rst5
  obtain ⟨v7, vs7, d7, ds7, p7, q7, rfl, rfl, rfl, h7, rst7⟩ := trodAll_cons rst6
  obtain ⟨rfl, rfl, rfl⟩ := trodAll_nil rst7
  obtain rfl : args = #[v0, v1, v2, v3, v4, v5, v6, v7] := by cases args; simp_all
  obtain ⟨rfl, rfl⟩ := trodVars_none hV
  have k0 := h0
  have lt0 : ∀ x ∈ p0, x.block < W.heap.size := by obtain ⟨m, hm⟩ := k0; exact DataW.trod_lt m _ _ _ hm
  obtain ⟨a0, r0, cap0, rfl⟩ := okWide_slice Try.underlying29 (hval 0 29 v0 rfl rfl)
  have w0 : Vl.Arg W a0 r0 := Vl.arg_at h0
  have k1 := h1
  have lt1 : ∀ x ∈ p1, x.block < W.heap.size := by obtain ⟨m, hm⟩ := k1; exact DataW.trod_lt m _ _ _ hm
  obtain ⟨a1, rfl, e1, _, w1⟩ := open_int Try.underlying3 (hval 1 3 v1 rfl rfl) h1
  have k2 := h2
  have lt2 : ∀ x ∈ p2, x.block < W.heap.size := by obtain ⟨m, hm⟩ := k2; exact DataW.trod_lt m _ _ _ hm
  obtain ⟨c20, c21, u20, u21, m2, rfl, _, _, hy20, hy21⟩ := open_agg2 Try.underlying23 (by kernel_rfl) (by kernel_rfl) (hval 2 23 v2 rfl rfl) h2
  obtain ⟨x2, e20, _, wx2⟩ := DataW.trod_int Try.underlying3 hy20
  obtain ⟨z2, e21, _, wz2⟩ := DataW.trod_int Try.underlying3 hy21
  simp at e20 e21
  subst e20 e21
  have k3 := h3
  have lt3 : ∀ x ∈ p3, x.block < W.heap.size := by obtain ⟨m, hm⟩ := k3; exact DataW.trod_lt m _ _ _ hm
  obtain ⟨a3, r3, cap3, rfl⟩ := okWide_slice Try.underlying29 (hval 3 29 v3 rfl rfl)
  have w3 : Vl.Arg W a3 r3 := Vl.arg_at h3
  have k4 := h4
  have lt4 : ∀ x ∈ p4, x.block < W.heap.size := by obtain ⟨m, hm⟩ := k4; exact DataW.trod_lt m _ _ _ hm
  obtain ⟨a4, rfl, e4, _, w4⟩ := open_int Try.underlying3 (hval 4 3 v4 rfl rfl) h4
  have k5 := h5
  have lt5 : ∀ x ∈ p5, x.block < W.heap.size := by obtain ⟨m, hm⟩ := k5; exact DataW.trod_lt m _ _ _ hm
  obtain ⟨c50, c51, u50, u51, m5, rfl, _, _, hy50, hy51⟩ := open_agg2 Try.underlying23 (by kernel_rfl) (by kernel_rfl) (hval 5 23 v5 rfl rfl) h5
  obtain ⟨x5, e50, _, wx5⟩ := DataW.trod_int Try.underlying3 hy50
  obtain ⟨z5, e51, _, wz5⟩ := DataW.trod_int Try.underlying3 hy51
  simp at e50 e51
  subst e50 e51
  have k6 := h6
  have lt6 : ∀ x ∈ p6, x.block < W.heap.size := by obtain ⟨m, hm⟩ := k6; exact DataW.trod_lt m _ _ _ hm
  obtain ⟨a6, r6, cap6, rfl⟩ := okWide_slice Try.underlying29 (hval 6 29 v6 rfl rfl)
  have w6 : Vl.Arg W a6 r6 := Vl.arg_at h6
  have k7 := h7
  have lt7 : ∀ x ∈ p7, x.block < W.heap.size := by obtain ⟨m, hm⟩ := k7; exact DataW.trod_lt m _ _ _ hm
  obtain ⟨c70, c71, u70, u71, m7, rfl, _, _, hy70, hy71⟩ := open_agg2 Try.underlying23 (by kernel_rfl) (by kernel_rfl) (hval 7 23 v7 rfl rfl) h7
  obtain ⟨x7, e70, _, wx7⟩ := DataW.trod_int Try.underlying3 hy70
  obtain ⟨z7, e71, _, wz7⟩ := DataW.trod_int Try.underlying3 hy71
  simp at e70 e71
  subst e70 e71
  clear hA0 hval0
  refine (walk a0 r0 cap0 a1 w1 x2 z2 wx2 wz2 a3 r3 cap3 a4 w4 x5 z5 wx5 wz5 a6 r6 cap6 x7 z7 wx7 wz7 W w0 w3 w6).mono fun e W' ⟨he, bel⟩ => ?_
  subst he
  exact ⟨_, rfl, _, _, _, [], _, [], hW', trodAll_mk1 (shut_bool Try.underlying4 _), (trodAll_cons_mk (Below.trod laidOut (by kernel_rfl) (of_decide_eq_true (by kernel_rfl)) k0 bel lt0) (trodAll_cons_mk (Below.trod laidOut (by kernel_rfl) (of_decide_eq_true (by kernel_rfl)) k1 bel lt1) (trodAll_cons_mk (Below.trod laidOut (by kernel_rfl) (of_decide_eq_true (by kernel_rfl)) k2 bel lt2) (trodAll_cons_mk (Below.trod laidOut (by kernel_rfl) (of_decide_eq_true (by kernel_rfl)) k3 bel lt3) (trodAll_cons_mk (Below.trod laidOut (by kernel_rfl) (of_decide_eq_true (by kernel_rfl)) k4 bel lt4) (trodAll_cons_mk (Below.trod laidOut (by kernel_rfl) (of_decide_eq_true (by kernel_rfl)) k5 bel lt5) (trodAll_cons_mk (Below.trod laidOut (by kernel_rfl) (of_decide_eq_true (by kernel_rfl)) k6 bel lt6) (trodAll_cons_mk (Below.trod laidOut (by kernel_rfl) (of_decide_eq_true (by kernel_rfl)) k7 bel lt7) trodAll_mk0)))))))), rfl, bel.frame _, fun h => by cases h⟩

theorem over : Rows.fnExactMatBytesRow.holds Try.pinned (OpenSpec.ofChange Rows.fnExactMatBytesSpec) :=
  OpenClaim.holds_of_wide 4 Try.f4 rfl rfl rfl rfl rfl rfl rfl ⟨rfl, rfl, rfl, rfl, rfl⟩ rfl rfl rfl rfl rfl (by kernel_rfl) Try.func4 (by kernel_rfl)
    (of_decide_eq_true (by kernel_rfl)) (by unfold Func.isWrapper; first | (rw [if_pos (by decide +kernel)]; kernel_rfl) | (rw [if_neg (by decide +kernel)]; exact ⟨rfl, rfl⟩))
    (fun os started H enc _ => lifted os started H enc)

theorem proved : Rows.FnExactMatBytesSaid := over
#print axioms proved
end Go.Proofs.Ytnnjkanmcfjblaa.fnExactMatBytes
