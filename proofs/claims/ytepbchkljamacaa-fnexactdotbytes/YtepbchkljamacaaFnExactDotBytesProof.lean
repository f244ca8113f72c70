/-
  Proved: whatever the arguments, 'FnExactDotBytes' returns true: the landed function answers as its model, and what came in reads as it did. No condition.
-/
import Derived.Test.YtepbchkljamacaaRows
import Derived.Test.YtepbchkljamacaaVl
import Derived.Test.YtepbchkljamacaaNea
import Derived.Test.YtepbchkljamacaaIa
import Derived.Test.YtepbchkljamacaaIb
import Derived.Test.YtepbchkljamacaaIc
import Derived.Test.YtepbchkljamacaaIe
import Derived.Test.YtepbchkljamacaaIg
import Derived.Test.YtepbchkljamacaaIl
import Derived.Test.YtepbchkljamacaaQf
import Derived.Test.YtepbchkljamacaaIm
import Derived.WalkKit
import Derived.ProofKit
import Derived.OpenShut
import Derived.ShutString
import Derived.ChangeOld
import Derived.Below
import Derived.Lib.SmallJoins
import Derived.OpenVars
import Derived.ChangeVars
import Derived.Deep.RegionHeld3
namespace Go.Proofs.Ytepbchkljamacaa.fnExactDotBytes
open Go.ChangeShapes Go.WideShapes Go.ChangeAt Go.RowKit Go.Joins
open Go.ChangeMaps (open_string shut_string)
set_option linter.unusedVariables false

theorem own : ownKnob Try.prog.godebug = none := by kernel_rfl
theorem laidOut : laidOutB Try.prog = true := by kernel_rfl

theorem walk (x0 z0 : Int) (wx0 : (Lit.int .i64 x0).wf = true) (wz0 : (Lit.int .i64 z0).wf = true) (x1 z1 : Int) (wx1 : (Lit.int .i64 x1).wf = true) (wz1 : (Lit.int .i64 z1).wf = true) (a2 : Option Addr) (r2 cap2 : Nat) (a3 : Option Addr) (r3 cap3 : Nat) (w : World) (w2 : Vl.Arg w a2 r2) (w3 : Vl.Arg w a3 r3) :
    Calls Try.prog 8 #[.agg #[.int .i64 x0, .int .i64 z0], .agg #[.int .i64 x1, .int .i64 z1], .slice a2 r2 cap2, .slice a3 r3 cap3] w fun e w' => e = .returned (.bool true) ∧ Below w.heap.size w w' := by
  obtain ⟨hr2, D2, hh2⟩ := w2
  have H2 := Vl.hide hh2
  clear hh2
  obtain ⟨hr3, D3, hh3⟩ := w3
  have H3 := Vl.hide hh3
  clear hh3
  by_cases h20 : 1048576 < (r2 : Int)
  · go_enter Try.func8, Try.ntmps8
    go_wp2_with fail
    go_ret
    exact ⟨rfl, ((Below.refl _ _).alloc (Nat.le_refl _) _).alloc (by simp) _⟩
  have h20' : decide (1048576 < (r2 : Int)) = false := by rw [decide_eq_false_iff_not]; exact h20
  have hl2 : (r2 : Int) ≤ 1048576 := by omega
  clear h20
  by_cases h30 : 1048576 < (r3 : Int)
  · go_enter Try.func8, Try.ntmps8
    go_wp2_with fail
    go_ret
    exact ⟨rfl, ((Below.refl _ _).alloc (Nat.le_refl _) _).alloc (by simp) _⟩
  have h30' : decide (1048576 < (r3 : Int)) = false := by rw [decide_eq_false_iff_not]; exact h30
  have hl3 : (r3 : Int) ≤ 1048576 := by omega
  clear h30
  have X0 := Vl.hide (bounds_i64 wx0)
  have Z0 := Vl.hide (bounds_i64 wz0)
  have X1 := Vl.hide (bounds_i64 wx1)
  have Z1 := Vl.hide (bounds_i64 wz1)
  clear wx0 wz0 wx1 wz1
  obtain ⟨dv, hdv⟩ : ∃ dv, Vo.dotV x0 z0 x1 z1 r2 r3 D2 D3 = dv := ⟨_, rfl⟩
  have DV := Vl.hide hdv
  clear hdv
  have CS := Vl.hide (fun (a b : Option Addr) (cap dap : Nat) (W : World) (hp : Vl.Ints W.heap.size W a r2 D2) (hq : Vl.Ints W.heap.size W b r3 D3) => Vo.specDot x0 z0 x1 z1 a r2 cap D2 b r3 dap D3 W X0.out Z0.out X1.out Z1.out hp hq hl2 hl3)
  have CI := Vl.hide (fun (a b : Option Addr) (cap dap : Nat) (W : World) (hp : Vl.Ints W.heap.size W a r2 D2) (hq : Vl.Ints W.heap.size W b r3 D3) => Vo.implDot x0 z0 x1 z1 a r2 cap D2 b r3 dap D3 W X0.out Z0.out X1.out Z1.out hp hq hl2 hl3)
  rw [DV.out] at CS CI
  clear DV X0 Z0 X1 Z1
  obtain ⟨WA, hWA⟩ : ∃ WA, w.alloc (.cells #[.int .i64 x0, .int .i64 z0] 23) = WA := ⟨_, rfl⟩
  have nA : Below w.heap.size w WA := hWA ▸ (Below.refl _ _).alloc (Nat.le_refl _) _
  obtain ⟨WB, hWB⟩ : ∃ WB, WA.alloc (.cells #[.int .i64 x1, .int .i64 z1] 23) = WB := ⟨_, rfl⟩
  have nB : Below WA.heap.size WA WB := hWB ▸ (Below.refl _ _).alloc (Nat.le_refl _) _
  have KA := Vl.hide (Vo.Box2.below (show Vo.Box2 WA w.heap.size x0 z0 from hWA ▸ Vo.box2_new _ _ _ _) nB)
  have KB := Vl.hide (show Vo.Box2 WB WA.heap.size x1 z1 from hWB ▸ Vo.box2_new _ _ _ _)
  have BL := Vl.hide (nA.trans (nB.mono nA.size))
  clear nA nB
  go_enter Try.func8, Try.ntmps8
  go_wp2_with fail
  refine Qf.facts2 9 (by kernel_rfl) (by kernel_rfl) (by kernel_rfl) (fun i v wx => match i with | 0 => v = .agg #[.int .i64 x0, .int .i64 z0] | 1 => v = .agg #[.int .i64 x0, .int .i64 z0] | 2 => v = .agg #[.int .i64 x1, .int .i64 z1] | 3 => v = .agg #[.int .i64 x1, .int .i64 z1] | 4 => v = .slice a2 r2 cap2 | 5 => Vo.IntV r2 D2 v wx | 6 => v = .slice a3 r3 cap3 | 7 => Vo.IntV r3 D3 v wx | 8 => v = .int .i64 dv | _ => True) ?stable ?steps ?rest
  case stable =>
    intro i v w1 w2 h hb
    match i, h with
    | 0, h => exact h
    | 1, h => exact h
    | 2, h => exact h
    | 3, h => exact h
    | 4, h => exact h
    | 5, h => exact Vo.IntV.below h hb
    | 6, h => exact h
    | 7, h => exact Vo.IntV.below h hb
    | 8, h => exact h
    | _ + 9, h => exact h
  case steps =>
    intro i o hi ho s A wS hb hk hA hO
    match i, hi, ho, hk with
    | 0, _, ho, hk =>
      cases ho
      exact Qf.lands_val _ _ (Vo.runLoadSc rfl ((hO 4 (by rfl)).trans rfl) (KA.out.below hb)) ⟨Below.refl _ _, rfl⟩
    | 1, _, ho, hk =>
      cases ho
      have h0 := hA 0 _ 19 (by decide) rfl rfl (by simp)
      have e0 := hk 0 (by kernel_rfl)
      rw [e0] at h0
      refine Qf.lands_call 10 _ _ rfl (enters_of Try.func10 (by kernel_rfl) rfl) _ (by simp [h0]) ((Vo.toScale x0 z0 wS).mono ?_)
      rintro e wT ⟨rfl, bT⟩
      exact ⟨_, rfl, bT, rfl⟩
    | 2, _, ho, hk =>
      cases ho
      exact Qf.lands_val _ _ (Vo.runLoadSc rfl ((hO 5 (by rfl)).trans rfl) (KB.out.below hb)) ⟨Below.refl _ _, rfl⟩
    | 3, _, ho, hk =>
      cases ho
      have h2 := hA 2 _ 21 (by decide) rfl rfl (by simp)
      have e2 := hk 2 (by kernel_rfl)
      rw [e2] at h2
      refine Qf.lands_call 10 _ _ rfl (enters_of Try.func10 (by kernel_rfl) rfl) _ (by simp [h2]) ((Vo.toScale x1 z1 wS).mono ?_)
      rintro e wT ⟨rfl, bT⟩
      exact ⟨_, rfl, bT, rfl⟩
    | 4, _, ho, hk =>
      cases ho
      exact Qf.lands_move _ rfl _ ((hO 2 (by rfl)).trans rfl) ⟨Below.refl _ _, rfl⟩
    | 5, _, ho, hk =>
      cases ho
      have h4 := hA 4 _ 23 (by decide) rfl rfl (by simp)
      have e4 := hk 4 (by kernel_rfl)
      rw [e4] at h4
      refine Qf.lands_call 17 _ _ rfl (enters_of Try.func17 (by kernel_rfl) rfl) _ (by simp [h4]) ((Vl.toIntS w.heap.size a2 r2 cap2 D2 wS (H2.out.below (BL.out.trans (hb.mono BL.out.size))) (Nat.le_trans BL.out.size hb.size) hl2).mono ?_)
      rintro e wT ⟨rfl, qT, sT, bT⟩
      exact ⟨_, rfl, bT, _, rfl, qT, sT⟩
    | 6, _, ho, hk =>
      cases ho
      exact Qf.lands_move _ rfl _ ((hO 3 (by rfl)).trans rfl) ⟨Below.refl _ _, rfl⟩
    | 7, _, ho, hk =>
      cases ho
      have h6 := hA 6 _ 25 (by decide) rfl rfl (by simp)
      have e6 := hk 6 (by kernel_rfl)
      rw [e6] at h6
      refine Qf.lands_call 17 _ _ rfl (enters_of Try.func17 (by kernel_rfl) rfl) _ (by simp [h6]) ((Vl.toIntS w.heap.size a3 r3 cap3 D3 wS (H3.out.below (BL.out.trans (hb.mono BL.out.size))) (Nat.le_trans BL.out.size hb.size) hl3).mono ?_)
      rintro e wT ⟨rfl, qT, sT, bT⟩
      exact ⟨_, rfl, bT, _, rfl, qT, sT⟩
    | 8, _, ho, hk =>
      cases ho
      have h1 := hA 1 _ 20 (by decide) rfl rfl (by simp)
      have e1 := hk 1 (by kernel_rfl)
      rw [e1] at h1
      have h3 := hA 3 _ 22 (by decide) rfl rfl (by simp)
      have e3 := hk 3 (by kernel_rfl)
      rw [e3] at h3
      have h5 := hA 5 _ 24 (by decide) rfl rfl (by simp)
      obtain ⟨g5, e5, p5, l5⟩ := hk 5 (by kernel_rfl)
      rw [e5] at h5
      have h7 := hA 7 _ 26 (by decide) rfl rfl (by simp)
      obtain ⟨g7, e7, p7, l7⟩ := hk 7 (by kernel_rfl)
      rw [e7] at h7
      refine Qf.lands_call 23 _ _ rfl (enters_of Try.func23 (by kernel_rfl) rfl) _ (by simp [h1, h3, h5, h7]) ((CS.out (some ⟨g5, 0, none⟩) (some ⟨g7, 0, none⟩) r2 r3 wS (p5.ints l5) (p7.ints l7)).mono ?_)
      rintro e wT ⟨rfl, bT⟩
      exact ⟨_, rfl, bT, rfl⟩
    | _ + 9, hi, _, _ => exact absurd hi (by omega)
  case rest =>
  intro s WC hbS hk
  have e0 : s 0 = .agg #[.int .i64 x0, .int .i64 z0] := hk 0 (by decide)
  have e1 : s 1 = .agg #[.int .i64 x0, .int .i64 z0] := hk 1 (by decide)
  have e2 : s 2 = .agg #[.int .i64 x1, .int .i64 z1] := hk 2 (by decide)
  have e3 : s 3 = .agg #[.int .i64 x1, .int .i64 z1] := hk 3 (by decide)
  have e4 : s 4 = .slice a2 r2 cap2 := hk 4 (by decide)
  obtain ⟨g5, e5, -, -⟩ := hk 5 (by decide)
  have e6 : s 6 = .slice a3 r3 cap3 := hk 6 (by decide)
  obtain ⟨g7, e7, -, -⟩ := hk 7 (by decide)
  have e8 : s 8 = .int .i64 dv := hk 8 (by decide)
  simp only [List.take_succ_cons, List.take_zero, List.drop_succ_cons, List.drop_zero, Qf.lay, Qf.all1, if_true, e0, e1, e2, e3, e4, e5, e6, e7, e8]
  clear hk e0 e1 e2 e3 e4 e5 e6 e7 e8
  replace KA := Vl.hide (KA.out.below hbS)
  replace KB := Vl.hide (KB.out.below hbS)
  replace BL := Vl.hide (BL.out.trans (hbS.mono BL.out.size))
  clear hbS hWA hWB CS
  go_wp2_with fail
  refine (Vl.toIntS w.heap.size a2 r2 cap2 D2 _ (H2.out.below BL.out) BL.out.size hl2).mono ?_; rintro e U1 ⟨rfl, pA, sA, qA⟩
  replace KA := Vl.hide (KA.out.below qA)
  replace KB := Vl.hide (KB.out.below qA)
  replace BL := Vl.hide (BL.out.trans (qA.mono BL.out.size))
  clear qA
  have PA := Vl.hide pA
  have SA := Vl.hide sA
  clear pA sA
  go_wp2_with fail
  refine (Vl.toIntS w.heap.size a3 r3 cap3 D3 _ (H3.out.below BL.out) BL.out.size hl3).mono ?_; rintro e U2 ⟨rfl, pB, sB, qB⟩
  replace KA := Vl.hide (KA.out.below qB)
  replace KB := Vl.hide (KB.out.below qB)
  replace BL := Vl.hide (BL.out.trans (qB.mono BL.out.size))
  replace PA := Vl.hide (PA.out.below qB SA.out)
  replace SA := Vl.hide (Nat.lt_of_lt_of_le SA.out qB.size)
  clear qB
  have PB := Vl.hide pB
  have SB := Vl.hide sB
  clear pB sB
  obtain ⟨-, cA0, cA1⟩ := KA.out
  obtain ⟨-, cB0, cB1⟩ := KB.out
  replace cA0 := cell_regrown cA0
  replace cA1 := cell_regrown cA1
  replace cB0 := cell_regrown cB0
  replace cB1 := cell_regrown cB1
  have CA := Vl.hide (fun d os => Calls.regrown_of (d := d) (os := os) (w := U2) (Vo.toScale x0 z0 _))
  have CB := Vl.hide (fun d os => Calls.regrown_of (d := d) (os := os) (w := U2) (Vo.toScale x1 z1 _))
  have CF := Vl.hide (fun d os => Calls.regrown_of (d := d) (os := os) (w := U2) (CI.out _ _ r2 r3 _ ((PA.out.below (below_regrown U2 d os) SA.out).ints (Nat.lt_of_lt_of_le SA.out (below_regrown U2 d os).size)) ((PB.out.below (below_regrown U2 d os) SB.out).ints (Nat.lt_of_lt_of_le SB.out (below_regrown U2 d os).size))))
  go_wp2_with fail
  refine wp_region_quiet_below (by kernel_rfl) (by kernel_rfl) ?_
  repeat (go_big_quiet_step (first | (go_at_call_of 10 (Value.agg #[Value.int IntKind.i64 x0, Value.int IntKind.i64 z0]); exact CA.out _ _) | (go_at_call_of 10 (Value.agg #[Value.int IntKind.i64 x1, Value.int IntKind.i64 z1]); exact CB.out _ _) | (go_at_call 24; exact CF.out _ _)))
  refine wpQuiet_nil ?_
  intro _ hw'
  obtain ⟨⟨dq, osq⟩, hw''⟩ := hw'
  subst hw''
  have q3 := below_regrown U2 dq osq
  obtain ⟨U3, hU3⟩ : ∃ X, Sort.grow (redrawn U2 dq) osq = X := ⟨_, rfl⟩
  rw [hU3] at q3 ⊢
  clear hU3 cA0 cA1 cB0 cB1 CA CB CF KA KB
  replace BL := Vl.hide (BL.out.trans (q3.mono BL.out.size))
  replace PA := Vl.hide (PA.out.below q3 SA.out)
  replace SA := Vl.hide (Nat.lt_of_lt_of_le SA.out q3.size)
  replace PB := Vl.hide (PB.out.below q3 SB.out)
  replace SB := Vl.hide (Nat.lt_of_lt_of_le SB.out q3.size)
  clear q3
  go_wp2_with fail
  refine (Vl.toIntS w.heap.size a2 r2 cap2 D2 _ (H2.out.below BL.out) BL.out.size hl2).mono ?_; rintro e U4 ⟨rfl, pC, sC, qC⟩
  replace BL := Vl.hide (BL.out.trans (qC.mono BL.out.size))
  replace PA := Vl.hide (PA.out.below qC SA.out)
  replace SA := Vl.hide (Nat.lt_of_lt_of_le SA.out qC.size)
  replace PB := Vl.hide (PB.out.below qC SB.out)
  replace SB := Vl.hide (Nat.lt_of_lt_of_le SB.out qC.size)
  clear qC
  have PC := Vl.hide pC
  have SC := Vl.hide sC
  clear pC sC
  go_wp2_with fail
  refine (Vl.eqIntS U4.heap.size _ _ r2 r2 r2 D2 D2 _ (PA.out.ints SA.out) (PC.out.ints SC.out) (fun _ _ => rfl) hl2).mono ?_; rintro e U5 ⟨rfl, q5⟩
  replace BL := Vl.hide (BL.out.trans (q5.mono BL.out.size))
  replace PB := Vl.hide (PB.out.below q5 SB.out)
  replace SB := Vl.hide (Nat.lt_of_lt_of_le SB.out q5.size)
  clear q5
  clear PA SA PC SC
  go_wp2_with fail
  refine (Vl.toIntS w.heap.size a3 r3 cap3 D3 _ (H3.out.below BL.out) BL.out.size hl3).mono ?_; rintro e U6 ⟨rfl, pE, sE, qE⟩
  replace BL := Vl.hide (BL.out.trans (qE.mono BL.out.size))
  replace PB := Vl.hide (PB.out.below qE SB.out)
  replace SB := Vl.hide (Nat.lt_of_lt_of_le SB.out qE.size)
  clear qE
  have PE := Vl.hide pE
  have SE := Vl.hide sE
  clear pE sE
  go_wp2_with fail
  refine (Vl.eqIntS U6.heap.size _ _ r3 r3 r3 D3 D3 _ (PB.out.ints SB.out) (PE.out.ints SE.out) (fun _ _ => rfl) hl3).mono ?_; rintro e U7 ⟨rfl, q7⟩
  go_wp2_with fail
  go_ret
  exact ⟨rfl, BL.out.trans (q7.mono BL.out.size)⟩

set_option maxRecDepth 100000 in
theorem lifted (os : Os) (started : os.Started) (H : Type) (enc : TypeId × Value → H) :
    ReturnsInHanded {} Try.checked os 8 .any (Rows.fnExactDotBytesSpec.pre6 enc Try.prog Try.f8 Rows.fnExactDotBytesRow.domain false) (Rows.fnExactDotBytesSpec.post enc Try.prog Try.f8 false true false false) := by
  refine returnsInHanded_of_change (C := Try.checked) own started (by kernel_rfl) Try.func8
    (ChangeSpec.witness6 (enc := enc) (C := Try.checked) false ⟨#[], #[.agg #[.int .i64 0, .int .i64 0], .agg #[.int .i64 0, .int .i64 0], .slice none 0 0, .slice none 0 0], []⟩ 8 (by kernel_rfl) (by kernel_rfl) (by kernel_rfl) (by kernel_rfl)) ?_
  intro W base args ds gs before hval0 hW hcnd _
  have hval : ∀ (j : Nat) t v, Try.f8.params[j]? = some t → args[j]? = some v → Value.okWide Try.prog W .any base t v := hval0
  have hW' := hW
  obtain ⟨p, q, hA0, hV, rfl, hfz, hnd⟩ := hW
  have hA : DataW.TrodAll enc Try.prog W 0 (fun _ => true) true Try.f8.params.toList args.toList ds p := hA0
  rw [Try.params8] at hA hval
  obtain ⟨v0, vs0, d0, ds0, p0, q0, hargs, rfl, rfl, h0, rst0⟩ := trodAll_cons hA
  obtain ⟨v1, vs1, d1, ds1, p1, q1, rfl, rfl, rfl, h1, rst1⟩ := trodAll_cons rst0
  obtain ⟨v2, vs2, d2, ds2, p2, q2, rfl, rfl, rfl, h2, rst2⟩ := trodAll_cons rst1
  obtain ⟨v3, vs3, d3, ds3, p3, q3, rfl, rfl, rfl, h3, rst3⟩ := trodAll_cons rst2
  obtain ⟨rfl, rfl, rfl⟩ := trodAll_nil rst3
  obtain rfl : args = #[v0, v1, v2, v3] := by cases args; simp_all
  obtain ⟨rfl, rfl⟩ := trodVars_none hV
  have k0 := h0
  have lt0 : ∀ x ∈ p0, x.block < W.heap.size := by obtain ⟨m, hm⟩ := k0; exact DataW.trod_lt m _ _ _ hm
  obtain ⟨c00, c01, u00, u01, m0, rfl, _, _, hy00, hy01⟩ := open_agg2 Try.underlying23 (by kernel_rfl) (by kernel_rfl) (hval 0 23 v0 rfl rfl) h0
  obtain ⟨x0, e00, _, wx0⟩ := DataW.trod_int Try.underlying3 hy00
  obtain ⟨z0, e01, _, wz0⟩ := DataW.trod_int Try.underlying3 hy01
  simp at e00 e01
  subst e00 e01
  have k1 := h1
  have lt1 : ∀ x ∈ p1, x.block < W.heap.size := by obtain ⟨m, hm⟩ := k1; exact DataW.trod_lt m _ _ _ hm
  obtain ⟨c10, c11, u10, u11, m1, rfl, _, _, hy10, hy11⟩ := open_agg2 Try.underlying23 (by kernel_rfl) (by kernel_rfl) (hval 1 23 v1 rfl rfl) h1
  obtain ⟨x1, e10, _, wx1⟩ := DataW.trod_int Try.underlying3 hy10
  obtain ⟨z1, e11, _, wz1⟩ := DataW.trod_int Try.underlying3 hy11
  simp at e10 e11
  subst e10 e11
  have k2 := h2
  have lt2 : ∀ x ∈ p2, x.block < W.heap.size := by obtain ⟨m, hm⟩ := k2; exact DataW.trod_lt m _ _ _ hm
  obtain ⟨a2, r2, cap2, rfl⟩ := okWide_slice Try.underlying30 (hval 2 30 v2 rfl rfl)
  have w2 : Vl.Arg W a2 r2 := Vl.arg_at h2
  have k3 := h3
  have lt3 : ∀ x ∈ p3, x.block < W.heap.size := by obtain ⟨m, hm⟩ := k3; exact DataW.trod_lt m _ _ _ hm
  obtain ⟨a3, r3, cap3, rfl⟩ := okWide_slice Try.underlying30 (hval 3 30 v3 rfl rfl)
  have w3 : Vl.Arg W a3 r3 := Vl.arg_at h3
  clear hA0 hval0
  refine (walk x0 z0 wx0 wz0 x1 z1 wx1 wz1 a2 r2 cap2 a3 r3 cap3 W w2 w3).mono fun e W' ⟨he, bel⟩ => ?_
  subst he
  exact ⟨_, rfl, _, _, _, [], _, [], hW', trodAll_mk1 (shut_bool Try.underlying4 _), (trodAll_cons_mk (Below.trod laidOut (by kernel_rfl) (of_decide_eq_true (by kernel_rfl)) k0 bel lt0) (trodAll_cons_mk (Below.trod laidOut (by kernel_rfl) (of_decide_eq_true (by kernel_rfl)) k1 bel lt1) (trodAll_cons_mk (Below.trod laidOut (by kernel_rfl) (of_decide_eq_true (by kernel_rfl)) k2 bel lt2) (trodAll_cons_mk (Below.trod laidOut (by kernel_rfl) (of_decide_eq_true (by kernel_rfl)) k3 bel lt3) trodAll_mk0)))), rfl, bel.frame _, fun h => by cases h⟩

theorem over : Rows.fnExactDotBytesRow.holds Try.pinned (OpenSpec.ofChange Rows.fnExactDotBytesSpec) :=
  OpenClaim.holds_of_wide 8 Try.f8 rfl rfl rfl rfl rfl rfl rfl ⟨rfl, rfl, rfl, rfl, rfl⟩ rfl rfl rfl rfl rfl (by kernel_rfl) Try.func8 (by kernel_rfl)
    (of_decide_eq_true (by kernel_rfl)) (by unfold Func.isWrapper; first | (rw [if_pos (by decide +kernel)]; kernel_rfl) | (rw [if_neg (by decide +kernel)]; exact ⟨rfl, rfl⟩))
    (fun os started H enc _ => lifted os started H enc)

theorem proved : Rows.FnExactDotBytesSaid := over
#print axioms proved
end Go.Proofs.Ytepbchkljamacaa.fnExactDotBytes
