/-
  Proved: whatever the arguments, 'FnOptPieces' returns true: the landed function answers as its model, and what came in reads as it did. No condition.
-/
import Derived.Test.YtflbhlepmjiejaaRows
import Derived.Test.YtflbhlepmjiejaaVl
import Derived.Test.YtflbhlepmjiejaaIa
import Derived.Test.YtflbhlepmjiejaaNea
import Derived.Test.YtflbhlepmjiejaaIb
import Derived.Test.YtflbhlepmjiejaaIc
import Derived.Test.YtflbhlepmjiejaaIe
import Derived.Test.YtflbhlepmjiejaaEb
import Derived.Test.YtflbhlepmjiejaaEa
import Derived.Test.YtflbhlepmjiejaaNum
import Derived.Test.YtflbhlepmjiejaaBase
import Derived.Test.YtflbhlepmjiejaaPow
import Derived.Test.YtflbhlepmjiejaaDraw
import Derived.Test.YtflbhlepmjiejaaNef
import Derived.Test.YtflbhlepmjiejaaEs
import Derived.Test.YtflbhlepmjiejaaVp
import Derived.Test.YtflbhlepmjiejaaVs
import Derived.Test.YtflbhlepmjiejaaVq
import Derived.Test.YtflbhlepmjiejaaVo
import Derived.Test.YtflbhlepmjiejaaVm
import Derived.Test.YtflbhlepmjiejaaVn
import Derived.Test.YtflbhlepmjiejaaVc
import Derived.Test.YtflbhlepmjiejaaEv
import Derived.Test.YtflbhlepmjiejaaEg
import Derived.Test.YtflbhlepmjiejaaEh
import Derived.Test.YtflbhlepmjiejaaEc
import Derived.Test.YtflbhlepmjiejaaAr
import Derived.Test.YtflbhlepmjiejaaEf
import Derived.Test.YtflbhlepmjiejaaQt
import Derived.Test.YtflbhlepmjiejaaEp
import Derived.Test.YtflbhlepmjiejaaOi
import Derived.Test.YtflbhlepmjiejaaEi
import Derived.Test.YtflbhlepmjiejaaOs
import Derived.Test.YtflbhlepmjiejaaEkp
import Derived.Test.YtflbhlepmjiejaaEk
import Derived.Test.YtflbhlepmjiejaaOj
import Derived.Test.YtflbhlepmjiejaaQf
import Derived.Test.YtflbhlepmjiejaaOm
import Derived.Test.YtflbhlepmjiejaaOo
import Derived.Test.YtflbhlepmjiejaaOma
import Derived.Test.YtflbhlepmjiejaaOmb
import Derived.Test.YtflbhlepmjiejaaOmc
import Derived.Test.YtflbhlepmjiejaaMra
import Derived.Test.YtflbhlepmjiejaaMrb
import Derived.Test.YtflbhlepmjiejaaMrc
import Derived.Test.YtflbhlepmjiejaaRbc
import Derived.Test.YtflbhlepmjiejaaRcc
import Derived.Test.YtflbhlepmjiejaaMrd
import Derived.Test.YtflbhlepmjiejaaRdc
import Derived.Test.YtflbhlepmjiejaaRec
import Derived.Test.YtflbhlepmjiejaaRgc
import Derived.Test.YtflbhlepmjiejaaRfc
import Derived.Test.YtflbhlepmjiejaaRhc
import Derived.Test.YtflbhlepmjiejaaMre
import Derived.Test.YtflbhlepmjiejaaMrf
import Derived.WalkKit
import Derived.ProofKit
import Derived.OpenShut
import Derived.ShutString
import Derived.ChangeOld
import Derived.Below
import Derived.Lib.SmallJoins
import Derived.OpenVars
import Derived.ChangeVars
import Derived.Deep.RegionHeld3
namespace Go.Proofs.Ytflbhlepmjiejaa.fnOptPieces
open Go.ChangeShapes Go.WideShapes Go.ChangeAt Go.RowKit Go.Joins
open Go.ChangeMaps (open_string shut_string)
set_option linter.unusedVariables false
set_option linter.unusedSimpArgs false

theorem own : ownKnob Try.prog.godebug = none := by kernel_rfl
theorem laidOut : laidOutB Try.prog = true := by kernel_rfl

set_option maxRecDepth 100000 in
set_option maxHeartbeats 4000000 in
theorem walk (a0 : Option Addr) (len0 cap0 : Nat) (a1 : Option Addr) (len1 cap1 : Nat) (w : World) (w0 : Base.Code w.heap.size w a0 len0) (w1 : Base.Code w.heap.size w a1 len1) :
    Calls Try.prog 3 #[.slice a0 len0 cap0, .slice a1 len1 cap1] w fun e w' => e = .returned (.bool true) ∧ Below w.heap.size w w' := by
  have L0 := w0.1
  have l0 : (len0 : Int) ≤ 9223372036854775807 := by omega
  have L1 := w1.1
  have l1 : (len1 : Int) ≤ 9223372036854775807 := by omega
  have HW := Base.hide w0
  have HM := Base.hide w1
  clear w0 w1 L0 L1
  by_cases g0 : (1048576 : Int) < (len0 : Int)
  · have e0 := Base.hide (decide_eq_true g0)
    clear g0
    go_enter Try.func3, Try.ntmps3
    go_wp2_with fail
    refine (Base.big a0 len0 cap0 true _ l0 e0.out).mono ?_; rintro e w' ⟨rfl, rfl⟩
    go_wp2_with fail
    go_ret
    exact ⟨rfl, Below.refl _ _⟩
  have e0 := Base.hide (decide_eq_false g0)
  have n0 := Base.hide (show len0 ≤ 1048576 by omega)
  clear g0
  by_cases g1 : (1048576 : Int) < (len1 : Int)
  · have e1 := Base.hide (decide_eq_true g1)
    clear g1
    go_enter Try.func3, Try.ntmps3
    go_wp2_with fail
    refine (Base.big a0 len0 cap0 false _ l0 e0.out).mono ?_; rintro e w' ⟨rfl, rfl⟩
    go_wp2_with fail
    refine (Base.big a1 len1 cap1 true _ l1 e1.out).mono ?_; rintro e w' ⟨rfl, rfl⟩
    go_wp2_with fail
    go_ret
    exact ⟨rfl, Below.refl _ _⟩
  have e1 := Base.hide (decide_eq_false g1)
  clear g1
  go_enter Try.func3, Try.ntmps3
  go_wp2_with fail
  refine (Base.big a0 len0 cap0 false _ l0 e0.out).mono ?_; rintro e w' ⟨rfl, hq⟩; have hq := hq.symm; subst hq
  go_wp2_with fail
  refine (Base.big a1 len1 cap1 false _ l1 e1.out).mono ?_; rintro e w' ⟨rfl, hq⟩; have hq := hq.symm; subst hq
  clear e0 e1 l0 l1
  go_wp2_with fail
  refine (Vo.drawRunOpt a0 len0 cap0 _ HW.out n0.out).mono ?_; rintro e u1 ⟨R, a0', a1', a2', n0', c0', n1', c1', n2', c2', D0, D1, D2, c, f, g, lb, m, lc, LR, rfl, hR, hn, ⟨i0, i1, i2⟩, hz, hb, ⟨hm7, hmc, hL, hLn⟩, bb⟩
  have RB := Base.hide hR
  have NN := Base.hide hn
  have NZ := Base.hide hz
  have HB := Base.hide hb
  clear hR hn hz hb n0 HW
  have CO := Base.hide (fun (X : World) => Vo.implOpt none none none 0 0 0 0 0 0 (fun _ => 0) (fun _ => 0) (fun _ => 0) 0 1 0 X (.inl rfl) (.inl rfl) (.inl rfl) (by decide) (show Vl.bd 0 from ⟨by decide, by decide⟩) (show Vl.bd 1 from ⟨by decide, by decide⟩) (show Vl.bd 0 from ⟨by decide, by decide⟩) (by decide) (by decide))
  rw [Vo.ook_zero 1 Vo.fac_one] at CO
  go_wp2_with fail
  obtain ⟨U0, hU0⟩ : ∃ U0, u1.alloc (.cells #[.int .i64 R.d, .int .i64 R.r1, .int .i64 R.r2, .int .i64 R.r3, .int .i64 R.r4, .int .i64 R.k, .int .i64 R.z, .int .i64 R.o, .int .i64 R.y, .int .i64 R.mo, .int .i64 R.gr] 27) = U0 := ⟨_, rfl⟩
  obtain ⟨U1, hU1⟩ : ∃ U1, U0.alloc (.cells #[.slice a0' n0' c0', .slice a1' n1' c1', .slice a2' n2' c2', .int .i64 c, .int .i64 f, .int .i64 g] 30) = U1 := ⟨_, rfl⟩
  rw [hU0, hU1]
  have b0 : Below u1.heap.size u1 U0 := hU0 ▸ (Below.refl _ _).alloc (Nat.le_refl _) _
  have b1 : Below U0.heap.size U0 U1 := hU1 ▸ (Below.refl _ _).alloc (Nat.le_refl _) _
  have z0 : U0.heap.size = u1.heap.size + 1 := by rw [← hU0]; simp
  have z1 : U1.heap.size = U0.heap.size + 1 := by rw [← hU1]; simp
  have FF := Base.hide (show Vo.FS w u1.heap.size U0.heap.size R a0' a1' a2' n0' c0' n1' c1' n2' c2' D0 D1 D2 c f g U1 from
      { b := bb.trans ((b0.trans (b1.mono b0.size)).mono bb.size)
        hr := fun i hi => (b1.cell (p := ⟨u1.heap.size, i, none⟩) (by show u1.heap.size < _; omega)).trans (by rw [← hU0]; rcases (by omega : i = 0 ∨ i = 1 ∨ i = 2 ∨ i = 3 ∨ i = 4 ∨ i = 5 ∨ i = 6 ∨ i = 7 ∨ i = 8 ∨ i = 9 ∨ i = 10) with rfl | rfl | rfl | rfl | rfl | rfl | rfl | rfl | rfl | rfl | rfl <;> simp [go_sem, Vo.RVf])
        ho := hU1 ▸ Vo.boxV6_new _ _ _ _ _ _ _ _
        fo := fun i => by rw [← hU1]; simp [go_sem]
        l0 := (i0.below (b0.trans (b1.mono b0.size)))
        l1 := (i1.below (b0.trans (b1.mono b0.size)))
        l2 := (i2.below (b0.trans (b1.mono b0.size)))
        z := ⟨bb.size, by omega, by omega⟩ })
  have LS := Base.hide ((hL.below (b0.trans (b1.mono b0.size))).mono (b0.trans (b1.mono b0.size)).size)
  clear hL i0 i1 i2 bb b0 b1 hU0 hU1 z1
  rw [z0] at FF
  obtain ⟨bo, hbo⟩ : ∃ b, u1.heap.size + 1 = b := ⟨_, rfl⟩
  obtain ⟨br, hbr⟩ : ∃ b, u1.heap.size = b := ⟨_, rfl⟩
  simp only [hbo] at FF ⊢
  simp only [hbr] at FF ⊢
  clear hbo hbr z0
  refine (CO.out _).mono ?_; rintro e U2 ⟨rfl, bb⟩
  have FX := Base.hide (FF.out.below bb)
  replace LS := Base.hide ((LS.out.below bb).mono bb.size)
  clear bb CO FF
  obtain ⟨n', E, T, hT, hIm, hkk⟩ := Vo.runPieces2 R n0' n1' n2' m ⟨D0, D1, D2, c, f, g⟩ LR RB.out HB.out (by have := NN.out.1; omega) (by have := NN.out.2.1; omega) (by have := NN.out.2.2; omega) (by omega) (fun i hi => Int.le_trans (hLn i hi) (by decide))
  have IE := Base.hide hIm
  have KK := Base.hide hkk
  dsimp only at KK
  clear hIm hkk hLn
  have q0 : U2.cell? ⟨br, 0, none⟩ = some (.int .i64 R.d) := FX.out.hr 0 (by omega)
  have q1 : U2.cell? ⟨br, 1, none⟩ = some (.int .i64 R.r1) := FX.out.hr 1 (by omega)
  have q2 : U2.cell? ⟨br, 2, none⟩ = some (.int .i64 R.r2) := FX.out.hr 2 (by omega)
  have q3 : U2.cell? ⟨br, 3, none⟩ = some (.int .i64 R.r3) := FX.out.hr 3 (by omega)
  have q4 : U2.cell? ⟨br, 4, none⟩ = some (.int .i64 R.r4) := FX.out.hr 4 (by omega)
  have q5 : U2.cell? ⟨br, 5, none⟩ = some (.int .i64 R.k) := FX.out.hr 5 (by omega)
  have q6 : U2.cell? ⟨br, 6, none⟩ = some (.int .i64 R.z) := FX.out.hr 6 (by omega)
  have q7 : U2.cell? ⟨br, 7, none⟩ = some (.int .i64 R.o) := FX.out.hr 7 (by omega)
  have q8 : U2.cell? ⟨br, 8, none⟩ = some (.int .i64 R.y) := FX.out.hr 8 (by omega)
  have q9 : U2.cell? ⟨br, 9, none⟩ = some (.int .i64 R.mo) := FX.out.hr 9 (by omega)
  have q10 : U2.cell? ⟨br, 10, none⟩ = some (.int .i64 R.gr) := FX.out.hr 10 (by omega)
  obtain ⟨-, o0, o1, o2, o3, o4, o5⟩ := FX.out.ho
  go_wp2_with fail
  refine (IE.out c0' c1' c2' lc a0' a1' a2' (some ⟨lb, 0, none⟩) _ (FX.out.l0.mono (by have := FX.out.z; omega)) (FX.out.l1.mono (by have := FX.out.z; omega)) (FX.out.l2.mono (by have := FX.out.z; omega)) LS.out).mono ?_; rintro e W1 ⟨p1, p2, p3, k1, k2, k3, rfl, ⟨x1, x2, x3⟩, -, bb⟩
  clear q0 q1 q2 q3 q4 q5 q6 q7 q8 q9 q10 o0 o1 o2 o3 o4 o5
  replace FX := Base.hide (FX.out.below bb)
  replace LS := Base.hide ((LS.out.below bb).mono bb.size)
  have X1 := Base.hide x1
  have X2 := Base.hide x2
  have X3 := Base.hide x3
  clear bb x1 x2 x3 IE
  obtain ⟨W2, hW2⟩ : ∃ X, W1.alloc (.cells #[.slice p1 n' k1, .slice p2 n' k2, .slice p3 n' k3, .int .i64 E.c, .int .i64 E.f, .int .i64 E.g] 30) = X := ⟨_, rfl⟩
  have b2 : Below W1.heap.size W1 W2 := hW2 ▸ (Below.refl _ _).alloc (Nat.le_refl _) _
  have KE := Base.hide (show Vo.BoxV6 W2 W1.heap.size (.slice p1 n' k1) (.slice p2 n' k2) (.slice p3 n' k3) (.int .i64 E.c) (.int .i64 E.f) (.int .i64 E.g) from hW2 ▸ Vo.boxV6_new _ _ _ _ _ _ _ _)
  replace FX := Base.hide (FX.out.below b2)
  replace X1 := Base.hide (X1.out.below b2)
  replace X2 := Base.hide (X2.out.below b2)
  replace X3 := Base.hide (X3.out.below b2)
  replace LS := Base.hide ((LS.out.below b2).mono b2.size)
  clear b2
  have CA := Base.hide (show Calls Try.prog 9 #[.slice a1 len1 cap1, .int .i64 0] W2 _ from Vo.atSeven a1 len1 cap1 0 w.heap.size W2 (HM.out.below FX.out.b) (by decide))
  go_wp2_with fail
  refine CA.out.mono ?_; rintro e wq ⟨zz, zz0, zz1, rfl, hq⟩; have hq := hq.symm; subst hq
  clear CA hW2
  have wm : IntKind.i64.wrap ((m : Int) + 1) = (m : Int) + 1 := Vo.wid (by omega)
  have nm : ¬ ((m : Int) + 1 = 0) := by omega
  obtain ⟨k, hk, hkm⟩ : ∃ k : Nat, zz.tmod ((m : Int) + 1) = (k : Int) ∧ k ≤ m := by
    have h1 := Int.emod_nonneg zz nm
    have h2 := Int.emod_lt_of_pos zz (show (0 : Int) < (m : Int) + 1 by omega)
    exact ⟨(zz.tmod ((m : Int) + 1)).toNat, by rw [Int.tmod_eq_emod_of_nonneg zz0]; omega, by rw [Int.tmod_eq_emod_of_nonneg zz0]; omega⟩
  have wk : IntKind.i64.wrap (k : Int) = (k : Int) := Vo.wid (by omega)
  obtain ⟨A, K, hs, hi, hrest⟩ := KK.out k hkm
  have SP := Base.hide hs
  have IP := Base.hide hi
  have RT := Base.hide hrest
  clear hs hi hrest KK zz0 zz1
  go_wp2_with fail
  clear hk wm nm wk
  refine Qm.invJ2 11 (Vo.RJ W2 (fun i => match i with | 0 => .agg #[.int .i64 R.d, .int .i64 R.r1, .int .i64 R.r2, .int .i64 R.r3, .int .i64 R.r4, .int .i64 R.k, .int .i64 R.z, .int .i64 R.o, .int .i64 R.y, .int .i64 R.mo, .int .i64 R.gr] | 1 => .agg #[.slice a0' n0' c0', .slice a1' n1' c1', .slice a2' n2' c2', .int .i64 c, .int .i64 f, .int .i64 g] | 2 => .slice (some ⟨lb, 0, none⟩) m lc | 3 => .int .i64 (k : Int) | _ => .slice (some ⟨lb, 0, none⟩) k lc) n' A (K : Int)) (Vo.RJ.new _ _ _ _ _) (by kernel_rfl) (by kernel_rfl) ?sta ?rra
  case sta =>
    intro i o hi ho d s A1 wS hd hk hJ hA hO
    match i, hi, ho, hd, hk with
    | 0, _, ho, hd, hk =>
      cases ho
      refine Qg.landsG_free rfl ?_
      have hr := fun i (hi : i < 11) => (hJ.b.cell (p := ⟨br, i, none⟩) (by show br < _; have := FX.out.z; omega)).trans (FX.out.hr i hi)
      exact Qf.lands_val _ _ (Vo.runLR rfl ((hO 5 (by rfl)).trans rfl) (hr 0 (by omega)) (hr 1 (by omega)) (hr 2 (by omega)) (hr 3 (by omega)) (hr 4 (by omega)) (hr 5 (by omega)) (hr 6 (by omega)) (hr 7 (by omega)) (hr 8 (by omega)) (hr 9 (by omega)) (hr 10 (by omega))) (hJ.done (by decide) nofun (fun _ => rfl) nofun nofun nofun nofun nofun)
    | 1, _, ho, hd, hk =>
      cases ho
      refine Qg.landsG_free rfl ?_
      have hb := FX.out.ho.below hJ.b
      exact Qf.lands_val _ _ (Vo.runLoadOI rfl ((hO 6 (by rfl)).trans rfl) hb) (hJ.done (by decide) nofun (fun _ => rfl) nofun nofun nofun nofun nofun)
    | 2, _, ho, hd, hk =>
      cases ho
      refine Qg.landsG_free rfl ?_
      exact Qf.lands_move _ rfl (.slice (some ⟨lb, 0, none⟩) m lc) ((hO 7 (by rfl)).trans rfl) (hJ.done (by decide) nofun (fun _ => rfl) nofun nofun nofun nofun nofun)
    | 3, _, ho, hd, hk =>
      cases ho
      refine Qg.landsG_free rfl ?_
      exact Qf.lands_move _ rfl (.int .i64 (k : Int)) ((hO 10 (by rfl)).trans rfl) (hJ.done (by decide) nofun (fun _ => rfl) nofun nofun nofun nofun nofun)
    | 4, _, ho, hd, hk =>
      cases ho
      refine Qg.landsG_free rfl ?_
      have h2 := hA 2 _ 54 (by decide) rfl rfl (by simp)
      have h3 := hA 3 _ 55 (by decide) rfl rfl (by simp)
      rw [show s 2 = _ from hJ.f 2 (by decide) (hk 2 (by kernel_rfl))] at h2
      rw [show s 3 = _ from hJ.f 3 (by decide) (hk 3 (by kernel_rfl))] at h3
      exact Qf.lands_val _ _ (Vo.runHeadL rfl h2 h3 (by omega)) (hJ.done (by decide) nofun (fun _ => rfl) nofun nofun nofun nofun nofun)
    | 5, _, ho, hd, hk =>
      cases ho
      refine Qg.landsG_free rfl ?_
      have h0 := hA 0 _ 52 (by decide) rfl rfl (by simp)
      have h1 := hA 1 _ 53 (by decide) rfl rfl (by simp)
      have h4 := hA 4 _ 56 (by decide) rfl rfl (by simp)
      rw [show s 0 = _ from hJ.f 0 (by decide) (hk 0 (by kernel_rfl))] at h0
      rw [show s 1 = _ from hJ.f 1 (by decide) (hk 1 (by kernel_rfl))] at h1
      rw [show s 4 = _ from hJ.f 4 (by decide) (hk 4 (by kernel_rfl))] at h4
      refine Qf.lands_call 8 _ _ rfl (enters_of Try.func8 (by kernel_rfl) rfl) _ (by first | (simp [h0, h1, h4]; done) | (simp [h0, h1, h4]; rfl)) ((IP.out c0' c1' c2' lc a0' a1' a2' ((some ⟨lb, 0, none⟩)) wS ((FX.out.l0.mono (by have := FX.out.z; omega)).below hJ.b |>.mono hJ.b.size) ((FX.out.l1.mono (by have := FX.out.z; omega)).below hJ.b |>.mono hJ.b.size) ((FX.out.l2.mono (by have := FX.out.z; omega)).below hJ.b |>.mono hJ.b.size) (((Vo.LL.part LS.out hkm).below hJ.b).mono hJ.b.size)).mono ?_)
      rintro e wT ⟨t1, t2, t3, u1, u2, u3, rfl, ⟨y1, y2, y3⟩, -, bT⟩
      have mo := hJ.b.size
      exact ⟨_, rfl, ((hJ.below bT).done (by decide) nofun nofun (fun _ => ⟨t1, t2, t3, u1, u2, u3, rfl, Vo.OwnL.monoE mo y1, Vo.OwnL.monoE mo y2, Vo.OwnL.monoE mo y3⟩) nofun nofun nofun nofun)⟩
    | 6, _, ho, hd, hk =>
      cases ho
      refine Qg.landsG_free rfl ?_
      have h5 := hA 5 _ 57 (by decide) rfl rfl (by simp)
      exact Qf.lands_move _ rfl _ h5 (hJ.done (by decide) nofun nofun nofun (fun _ => hJ.t5 (hk 5 (by kernel_rfl))) nofun nofun nofun)
    | 7, _, ho, hd, hk =>
      cases ho
      refine Qg.landsG_free rfl ?_
      have h6 := hA 6 _ 51 (by decide) rfl rfl (by simp)
      obtain ⟨t1, t2, t3, u1, u2, u3, e6, y⟩ := hJ.t6 (hk 6 (by kernel_rfl))
      rw [e6] at h6
      exact Qf.lands_val _ _ (Vo.runExt0 rfl h6) (hJ.done (by decide) nofun nofun nofun nofun (fun _ => ⟨t1, t2, t3, u1, u2, u3, rfl, y⟩) nofun nofun)
    | 8, _, ho, hd, hk =>
      cases ho
      refine Qg.landsG_free rfl ?_
      have h6 := hA 6 _ 51 (by decide) rfl rfl (by simp)
      obtain ⟨t1, t2, t3, u1, u2, u3, e6, y⟩ := hJ.t6 (hk 6 (by kernel_rfl))
      rw [e6] at h6
      exact Qf.lands_val _ _ (Vo.runExt1 rfl h6) (hJ.done (by decide) nofun nofun nofun nofun nofun (fun _ => rfl) nofun)
    | 9, _, ho, hd, hk =>
      cases ho
      refine Qg.landsG_free rfl ?_
      have d10 : d 10 = false := by
        cases e : d 10
        · rfl
        · have := hJ.l10 e; rw [hd] at this; cases this
      exact Qf.lands_val _ _ (Vo.runAllocO rfl) ((hJ.below ((Below.refl _ _).alloc (Nat.le_refl _) _)).done (by decide) (fun _ => d10) nofun nofun nofun nofun nofun (fun _ => ⟨_, rfl, hJ.b.size, Vo.c6_newZ wS⟩))
    | 10, _, ho, hd, hk =>
      have ho' : o.op = Op.store 30 (.tmp 11) (.tmp 58) := by cases ho; rfl
      refine Qg.landsG_free (show o.guard = none by cases ho; rfl) ?_
      have h7 := hA 7 _ 58 (by decide) rfl rfl (by simp)
      have h9 := hA 9 _ 11 (by decide) rfl rfl (by simp)
      obtain ⟨t1, t2, t3, u1, u2, u3, e7, y1, y2, y3⟩ := hJ.a7 (hk 7 (by kernel_rfl))
      have d9 := hk 9 (by kernel_rfl)
      obtain ⟨q, e9, qz, hz, -⟩ := hJ.q9 d9
      rw [e7] at h7
      rw [e9] at h9
      obtain ⟨w', run, hc', kk⟩ := Vo.runStoreO ho' h9 h7 (hz hd)
      exact Qf.lands_skip w' run (hJ.store e9 d9 hd kk hc' y1 y2 y3)
    | _ + 11, hi, _, _, _ => exact absurd hi (by omega)
  case rra =>
  intro s' Xa hJ
  obtain ⟨va, e9, vz, -, hv⟩ := hJ.q9 (by decide)
  have e8 : s' 8 = .int .i64 (K : Int) := hJ.k8 (by decide)
  obtain ⟨ma1, ma2, ma3, ja1, ja2, ja3, kv, y1, y2, y3⟩ := (hv (by decide)).box
  have bb := hJ.b
  have KVa := Base.hide kv
  have Ya1 := Base.hide y1
  have Ya2 := Base.hide y2
  have Ya3 := Base.hide y3
  simp only [List.take_succ_cons, List.take_zero, List.drop_succ_cons, List.drop_zero, Qf.lay, Qf.all1, if_true, e8, e9]
  simp only [Act.put, List.setIfInBounds_toArray, List.set_cons_succ, List.set_cons_zero]
  clear hJ e8 e9 hv kv y1 y2 y3
  replace FX := Base.hide (FX.out.below bb)
  replace KE := Base.hide (KE.out.below bb)
  replace X1 := Base.hide (X1.out.below bb)
  replace X2 := Base.hide (X2.out.below bb)
  replace X3 := Base.hide (X3.out.below bb)
  replace LS := Base.hide ((LS.out.below bb).mono bb.size)
  clear bb vz IP
  go_wp2_with fail
  refine Qm.invJ2 11 (Vo.RJ Xa (fun i => match i with | 0 => .agg #[.int .i64 R.d, .int .i64 R.r1, .int .i64 R.r2, .int .i64 R.r3, .int .i64 R.r4, .int .i64 R.k, .int .i64 R.z, .int .i64 R.o, .int .i64 R.y, .int .i64 R.mo, .int .i64 R.gr] | 1 => .agg #[.slice a0' n0' c0', .slice a1' n1' c1', .slice a2' n2' c2', .int .i64 c, .int .i64 f, .int .i64 g] | 2 => .slice (some ⟨lb, 0, none⟩) m lc | 3 => .int .i64 (k : Int) | _ => .slice (some ⟨lb, 0, none⟩) k lc) n' A (K : Int)) (Vo.RJ.new _ _ _ _ _) (by kernel_rfl) (by kernel_rfl) ?stb ?rrb
  case stb =>
    intro i o hi ho d s A1 wS hd hk hJ hA hO
    match i, hi, ho, hd, hk with
    | 0, _, ho, hd, hk =>
      cases ho
      refine Qg.landsG_free rfl ?_
      have hr := fun i (hi : i < 11) => (hJ.b.cell (p := ⟨br, i, none⟩) (by show br < _; have := FX.out.z; omega)).trans (FX.out.hr i hi)
      exact Qf.lands_val _ _ (Vo.runLR rfl ((hO 5 (by rfl)).trans rfl) (hr 0 (by omega)) (hr 1 (by omega)) (hr 2 (by omega)) (hr 3 (by omega)) (hr 4 (by omega)) (hr 5 (by omega)) (hr 6 (by omega)) (hr 7 (by omega)) (hr 8 (by omega)) (hr 9 (by omega)) (hr 10 (by omega))) (hJ.done (by decide) nofun (fun _ => rfl) nofun nofun nofun nofun nofun)
    | 1, _, ho, hd, hk =>
      cases ho
      refine Qg.landsG_free rfl ?_
      have hb := FX.out.ho.below hJ.b
      exact Qf.lands_val _ _ (Vo.runLoadOI rfl ((hO 6 (by rfl)).trans rfl) hb) (hJ.done (by decide) nofun (fun _ => rfl) nofun nofun nofun nofun nofun)
    | 2, _, ho, hd, hk =>
      cases ho
      refine Qg.landsG_free rfl ?_
      exact Qf.lands_move _ rfl (.slice (some ⟨lb, 0, none⟩) m lc) ((hO 7 (by rfl)).trans rfl) (hJ.done (by decide) nofun (fun _ => rfl) nofun nofun nofun nofun nofun)
    | 3, _, ho, hd, hk =>
      cases ho
      refine Qg.landsG_free rfl ?_
      exact Qf.lands_move _ rfl (.int .i64 (k : Int)) ((hO 10 (by rfl)).trans rfl) (hJ.done (by decide) nofun (fun _ => rfl) nofun nofun nofun nofun nofun)
    | 4, _, ho, hd, hk =>
      cases ho
      refine Qg.landsG_free rfl ?_
      have h2 := hA 2 _ 63 (by decide) rfl rfl (by simp)
      have h3 := hA 3 _ 64 (by decide) rfl rfl (by simp)
      rw [show s 2 = _ from hJ.f 2 (by decide) (hk 2 (by kernel_rfl))] at h2
      rw [show s 3 = _ from hJ.f 3 (by decide) (hk 3 (by kernel_rfl))] at h3
      exact Qf.lands_val _ _ (Vo.runHeadL rfl h2 h3 (by omega)) (hJ.done (by decide) nofun (fun _ => rfl) nofun nofun nofun nofun nofun)
    | 5, _, ho, hd, hk =>
      cases ho
      refine Qg.landsG_free rfl ?_
      have h0 := hA 0 _ 61 (by decide) rfl rfl (by simp)
      have h1 := hA 1 _ 62 (by decide) rfl rfl (by simp)
      have h4 := hA 4 _ 65 (by decide) rfl rfl (by simp)
      rw [show s 0 = _ from hJ.f 0 (by decide) (hk 0 (by kernel_rfl))] at h0
      rw [show s 1 = _ from hJ.f 1 (by decide) (hk 1 (by kernel_rfl))] at h1
      rw [show s 4 = _ from hJ.f 4 (by decide) (hk 4 (by kernel_rfl))] at h4
      refine Qf.lands_call 10 _ _ rfl (enters_of Try.func10 (by kernel_rfl) rfl) _ (by first | (simp [h0, h1, h4]; done) | (simp [h0, h1, h4]; rfl)) ((SP.out c0' c1' c2' lc a0' a1' a2' ((some ⟨lb, 0, none⟩)) wS ((FX.out.l0.mono (by have := FX.out.z; omega)).below hJ.b |>.mono hJ.b.size) ((FX.out.l1.mono (by have := FX.out.z; omega)).below hJ.b |>.mono hJ.b.size) ((FX.out.l2.mono (by have := FX.out.z; omega)).below hJ.b |>.mono hJ.b.size) (((Vo.LL.part LS.out hkm).below hJ.b).mono hJ.b.size)).mono ?_)
      rintro e wT ⟨t1, t2, t3, u1, u2, u3, rfl, ⟨y1, y2, y3⟩, -, bT⟩
      have mo := hJ.b.size
      exact ⟨_, rfl, ((hJ.below bT).done (by decide) nofun nofun (fun _ => ⟨t1, t2, t3, u1, u2, u3, rfl, Vo.OwnL.monoE mo y1, Vo.OwnL.monoE mo y2, Vo.OwnL.monoE mo y3⟩) nofun nofun nofun nofun)⟩
    | 6, _, ho, hd, hk =>
      cases ho
      refine Qg.landsG_free rfl ?_
      have h5 := hA 5 _ 66 (by decide) rfl rfl (by simp)
      exact Qf.lands_move _ rfl _ h5 (hJ.done (by decide) nofun nofun nofun (fun _ => hJ.t5 (hk 5 (by kernel_rfl))) nofun nofun nofun)
    | 7, _, ho, hd, hk =>
      cases ho
      refine Qg.landsG_free rfl ?_
      have h6 := hA 6 _ 60 (by decide) rfl rfl (by simp)
      obtain ⟨t1, t2, t3, u1, u2, u3, e6, y⟩ := hJ.t6 (hk 6 (by kernel_rfl))
      rw [e6] at h6
      exact Qf.lands_val _ _ (Vo.runExt0 rfl h6) (hJ.done (by decide) nofun nofun nofun nofun (fun _ => ⟨t1, t2, t3, u1, u2, u3, rfl, y⟩) nofun nofun)
    | 8, _, ho, hd, hk =>
      cases ho
      refine Qg.landsG_free rfl ?_
      have h6 := hA 6 _ 60 (by decide) rfl rfl (by simp)
      obtain ⟨t1, t2, t3, u1, u2, u3, e6, y⟩ := hJ.t6 (hk 6 (by kernel_rfl))
      rw [e6] at h6
      exact Qf.lands_val _ _ (Vo.runExt1 rfl h6) (hJ.done (by decide) nofun nofun nofun nofun nofun (fun _ => rfl) nofun)
    | 9, _, ho, hd, hk =>
      cases ho
      refine Qg.landsG_free rfl ?_
      have d10 : d 10 = false := by
        cases e : d 10
        · rfl
        · have := hJ.l10 e; rw [hd] at this; cases this
      exact Qf.lands_val _ _ (Vo.runAllocO rfl) ((hJ.below ((Below.refl _ _).alloc (Nat.le_refl _) _)).done (by decide) (fun _ => d10) nofun nofun nofun nofun nofun (fun _ => ⟨_, rfl, hJ.b.size, Vo.c6_newZ wS⟩))
    | 10, _, ho, hd, hk =>
      have ho' : o.op = Op.store 30 (.tmp 13) (.tmp 67) := by cases ho; rfl
      refine Qg.landsG_free (show o.guard = none by cases ho; rfl) ?_
      have h7 := hA 7 _ 67 (by decide) rfl rfl (by simp)
      have h9 := hA 9 _ 13 (by decide) rfl rfl (by simp)
      obtain ⟨t1, t2, t3, u1, u2, u3, e7, y1, y2, y3⟩ := hJ.a7 (hk 7 (by kernel_rfl))
      have d9 := hk 9 (by kernel_rfl)
      obtain ⟨q, e9, qz, hz, -⟩ := hJ.q9 d9
      rw [e7] at h7
      rw [e9] at h9
      obtain ⟨w', run, hc', kk⟩ := Vo.runStoreO ho' h9 h7 (hz hd)
      exact Qf.lands_skip w' run (hJ.store e9 d9 hd kk hc' y1 y2 y3)
    | _ + 11, hi, _, _, _ => exact absurd hi (by omega)
  case rrb =>
  intro s' Xb hJ
  obtain ⟨vb, e9, vz, -, hv⟩ := hJ.q9 (by decide)
  have e8 : s' 8 = .int .i64 (K : Int) := hJ.k8 (by decide)
  obtain ⟨mb1, mb2, mb3, jb1, jb2, jb3, kv, y1, y2, y3⟩ := (hv (by decide)).box
  have bb := hJ.b
  have KVb := Base.hide kv
  have Yb1 := Base.hide y1
  have Yb2 := Base.hide y2
  have Yb3 := Base.hide y3
  simp only [List.take_succ_cons, List.take_zero, List.drop_succ_cons, List.drop_zero, Qf.lay, Qf.all1, if_true, e8, e9]
  simp only [Act.put, List.setIfInBounds_toArray, List.set_cons_succ, List.set_cons_zero]
  clear hJ e8 e9 hv kv y1 y2 y3
  replace FX := Base.hide (FX.out.below bb)
  replace KE := Base.hide (KE.out.below bb)
  replace X1 := Base.hide (X1.out.below bb)
  replace X2 := Base.hide (X2.out.below bb)
  replace X3 := Base.hide (X3.out.below bb)
  replace KVa := Base.hide (KVa.out.below bb)
  replace Ya1 := Base.hide (Ya1.out.below bb)
  replace Ya2 := Base.hide (Ya2.out.below bb)
  replace Ya3 := Base.hide (Ya3.out.below bb)
  replace LS := Base.hide ((LS.out.below bb).mono bb.size)
  clear bb vz SP KVb Yb1 Yb2 Yb3
  have CK := Base.hide (Vo.specOpt a0' a1' a2' n0' n1' n2' c0' c1' c2' D0 D1 D2 c f g Xb (FX.out.l0.mono (by have := FX.out.z; omega)) (FX.out.l1.mono (by have := FX.out.z; omega)) (FX.out.l2.mono (by have := FX.out.z; omega)) (by have := NN.out.1; omega) HB.out.1 HB.out.2.1 HB.out.2.2 (by have := NN.out.2.1; omega) (by have := NN.out.2.2; omega))
  obtain ⟨-, o0, o1, o2, o3, o4, o5⟩ := FX.out.ho
  go_wp2_with fail
  refine CK.out.mono ?_; rintro e Z1 ⟨rfl, bb⟩
  clear o0 o1 o2 o3 o4 o5 CK
  replace FX := Base.hide (FX.out.below bb)
  replace KE := Base.hide (KE.out.below bb)
  replace X1 := Base.hide (X1.out.below bb)
  replace X2 := Base.hide (X2.out.below bb)
  replace X3 := Base.hide (X3.out.below bb)
  replace KVa := Base.hide (KVa.out.below bb)
  replace Ya1 := Base.hide (Ya1.out.below bb)
  replace Ya2 := Base.hide (Ya2.out.below bb)
  replace Ya3 := Base.hide (Ya3.out.below bb)
  replace LS := Base.hide ((LS.out.below bb).mono bb.size)
  clear bb
  have hT' : decide ((T : Int) ≤ (m : Int)) = true := decide_eq_true (by omega)
  have hT2 : decide (T ≤ m) = true := decide_eq_true hT
  cases hy : Vo.ook n0' n1' n2' D0 D1 D2 c f g
  · clear hy
    go_wp2_with fail
    go_ret
    exact ⟨rfl, FX.out.b⟩
  obtain ⟨rfl, rfl, rfl, hB⟩ := RT.out hy
  have HY := Base.hide hy
  clear hy RT
  by_cases hKk : k ≤ K
  · have nk : decide ((K : Int) < (k : Int)) = false := decide_eq_false (by omega)
    have nk2 : decide (K < k) = false := decide_eq_false (by omega)
    obtain ⟨K', hi, hKT⟩ := hB hKk
    have IQ := Base.hide hi
    clear hi hB hKk hT' hT2
    go_wp2_with fail
    clear nk nk2
    refine Qm.invJ2 11 (Vo.RJ Z1 (fun i => match i with | 0 => .agg #[.int .i64 R.d, .int .i64 R.r1, .int .i64 R.r2, .int .i64 R.r3, .int .i64 R.r4, .int .i64 R.k, .int .i64 R.z, .int .i64 R.o, .int .i64 R.y, .int .i64 R.mo, .int .i64 R.gr] | 1 => .agg #[.slice ma1 n' ja1, .slice ma2 n' ja2, .slice ma3 n' ja3, .int .i64 A.c, .int .i64 A.f, .int .i64 A.g] | 2 => .slice (some ⟨lb, 0, none⟩) m lc | 3 => .int .i64 (k : Int) | _ => .slice (if lc = k then some ⟨lb, 0, none⟩ else some ⟨lb, k, none⟩) (m - k) (lc - k)) n' E (K' : Int)) (Vo.RJ.new _ _ _ _ _) (by kernel_rfl) (by kernel_rfl) ?stq ?rrq
    case stq =>
      intro i o hi ho d s A1 wS hd hk hJ hA hO
      match i, hi, ho, hd, hk with
      | 0, _, ho, hd, hk =>
        cases ho
        refine Qg.landsG_free rfl ?_
        have hr := fun i (hi : i < 11) => (hJ.b.cell (p := ⟨br, i, none⟩) (by show br < _; have := FX.out.z; omega)).trans (FX.out.hr i hi)
        exact Qf.lands_val _ _ (Vo.runLR rfl ((hO 5 (by rfl)).trans rfl) (hr 0 (by omega)) (hr 1 (by omega)) (hr 2 (by omega)) (hr 3 (by omega)) (hr 4 (by omega)) (hr 5 (by omega)) (hr 6 (by omega)) (hr 7 (by omega)) (hr 8 (by omega)) (hr 9 (by omega)) (hr 10 (by omega))) (hJ.done (by decide) nofun (fun _ => rfl) nofun nofun nofun nofun nofun)
      | 1, _, ho, hd, hk =>
        cases ho
        refine Qg.landsG_free rfl ?_
        have hb := KVa.out.below hJ.b
        exact Qf.lands_val _ _ (Vo.runLoadOI rfl ((hO 11 (by rfl)).trans rfl) hb) (hJ.done (by decide) nofun (fun _ => rfl) nofun nofun nofun nofun nofun)
      | 2, _, ho, hd, hk =>
        cases ho
        refine Qg.landsG_free rfl ?_
        exact Qf.lands_move _ rfl (.slice (some ⟨lb, 0, none⟩) m lc) ((hO 7 (by rfl)).trans rfl) (hJ.done (by decide) nofun (fun _ => rfl) nofun nofun nofun nofun nofun)
      | 3, _, ho, hd, hk =>
        cases ho
        refine Qg.landsG_free rfl ?_
        exact Qf.lands_move _ rfl (.int .i64 (k : Int)) ((hO 10 (by rfl)).trans rfl) (hJ.done (by decide) nofun (fun _ => rfl) nofun nofun nofun nofun nofun)
      | 4, _, ho, hd, hk =>
        cases ho
        refine Qg.landsG_free rfl ?_
        have h2 := hA 2 _ 87 (by decide) rfl rfl (by simp)
        have h3 := hA 3 _ 88 (by decide) rfl rfl (by simp)
        rw [show s 2 = _ from hJ.f 2 (by decide) (hk 2 (by kernel_rfl))] at h2
        rw [show s 3 = _ from hJ.f 3 (by decide) (hk 3 (by kernel_rfl))] at h3
        exact Qf.lands_val _ _ (Vo.runTailL rfl h2 h3 (by omega) (by omega)) (hJ.done (by decide) nofun (fun _ => rfl) nofun nofun nofun nofun nofun)
      | 5, _, ho, hd, hk =>
        cases ho
        refine Qg.landsG_free rfl ?_
        have h0 := hA 0 _ 85 (by decide) rfl rfl (by simp)
        have h1 := hA 1 _ 86 (by decide) rfl rfl (by simp)
        have h4 := hA 4 _ 89 (by decide) rfl rfl (by simp)
        rw [show s 0 = _ from hJ.f 0 (by decide) (hk 0 (by kernel_rfl))] at h0
        rw [show s 1 = _ from hJ.f 1 (by decide) (hk 1 (by kernel_rfl))] at h1
        rw [show s 4 = _ from hJ.f 4 (by decide) (hk 4 (by kernel_rfl))] at h4
        refine Qf.lands_call 8 _ _ rfl (enters_of Try.func8 (by kernel_rfl) rfl) _ (by first | (simp [h0, h1, h4]; done) | (simp [h0, h1, h4]; rfl)) ((IQ.out ja1 ja2 ja3 (lc - k) ma1 ma2 ma3 ((if lc = k then some ⟨lb, 0, none⟩ else some ⟨lb, k, none⟩)) wS ((Ya1.out.ints.below hJ.b).mono hJ.b.size) ((Ya2.out.ints.below hJ.b).mono hJ.b.size) ((Ya3.out.ints.below hJ.b).mono hJ.b.size) (((Vo.LL.tail LS.out hkm hmc).below hJ.b).mono hJ.b.size)).mono ?_)
        rintro e wT ⟨t1, t2, t3, u1, u2, u3, rfl, ⟨y1, y2, y3⟩, -, bT⟩
        have mo := hJ.b.size
        exact ⟨_, rfl, ((hJ.below bT).done (by decide) nofun nofun (fun _ => ⟨t1, t2, t3, u1, u2, u3, rfl, Vo.OwnL.monoE mo y1, Vo.OwnL.monoE mo y2, Vo.OwnL.monoE mo y3⟩) nofun nofun nofun nofun)⟩
      | 6, _, ho, hd, hk =>
        cases ho
        refine Qg.landsG_free rfl ?_
        have h5 := hA 5 _ 90 (by decide) rfl rfl (by simp)
        exact Qf.lands_move _ rfl _ h5 (hJ.done (by decide) nofun nofun nofun (fun _ => hJ.t5 (hk 5 (by kernel_rfl))) nofun nofun nofun)
      | 7, _, ho, hd, hk =>
        cases ho
        refine Qg.landsG_free rfl ?_
        have h6 := hA 6 _ 84 (by decide) rfl rfl (by simp)
        obtain ⟨t1, t2, t3, u1, u2, u3, e6, y⟩ := hJ.t6 (hk 6 (by kernel_rfl))
        rw [e6] at h6
        exact Qf.lands_val _ _ (Vo.runExt0 rfl h6) (hJ.done (by decide) nofun nofun nofun nofun (fun _ => ⟨t1, t2, t3, u1, u2, u3, rfl, y⟩) nofun nofun)
      | 8, _, ho, hd, hk =>
        cases ho
        refine Qg.landsG_free rfl ?_
        have h6 := hA 6 _ 84 (by decide) rfl rfl (by simp)
        obtain ⟨t1, t2, t3, u1, u2, u3, e6, y⟩ := hJ.t6 (hk 6 (by kernel_rfl))
        rw [e6] at h6
        exact Qf.lands_val _ _ (Vo.runExt1 rfl h6) (hJ.done (by decide) nofun nofun nofun nofun nofun (fun _ => rfl) nofun)
      | 9, _, ho, hd, hk =>
        cases ho
        refine Qg.landsG_free rfl ?_
        have d10 : d 10 = false := by
          cases e : d 10
          · rfl
          · have := hJ.l10 e; rw [hd] at this; cases this
        exact Qf.lands_val _ _ (Vo.runAllocO rfl) ((hJ.below ((Below.refl _ _).alloc (Nat.le_refl _) _)).done (by decide) (fun _ => d10) nofun nofun nofun nofun nofun (fun _ => ⟨_, rfl, hJ.b.size, Vo.c6_newZ wS⟩))
      | 10, _, ho, hd, hk =>
        have ho' : o.op = Op.store 30 (.tmp 15) (.tmp 91) := by cases ho; rfl
        refine Qg.landsG_free (show o.guard = none by cases ho; rfl) ?_
        have h7 := hA 7 _ 91 (by decide) rfl rfl (by simp)
        have h9 := hA 9 _ 15 (by decide) rfl rfl (by simp)
        obtain ⟨t1, t2, t3, u1, u2, u3, e7, y1, y2, y3⟩ := hJ.a7 (hk 7 (by kernel_rfl))
        have d9 := hk 9 (by kernel_rfl)
        obtain ⟨q, e9, qz, hz, -⟩ := hJ.q9 d9
        rw [e7] at h7
        rw [e9] at h9
        obtain ⟨w', run, hc', kk⟩ := Vo.runStoreO ho' h9 h7 (hz hd)
        exact Qf.lands_skip w' run (hJ.store e9 d9 hd kk hc' y1 y2 y3)
      | _ + 11, hi, _, _, _ => exact absurd hi (by omega)
    case rrq =>
    intro s' Xq hJ
    obtain ⟨vq, e9, vz, -, hv⟩ := hJ.q9 (by decide)
    have e8 : s' 8 = .int .i64 (K' : Int) := hJ.k8 (by decide)
    obtain ⟨mq1, mq2, mq3, jq1, jq2, jq3, kv, y1, y2, y3⟩ := (hv (by decide)).box
    have bb := hJ.b
    have KVq := Base.hide kv
    have Yq1 := Base.hide y1
    have Yq2 := Base.hide y2
    have Yq3 := Base.hide y3
    simp only [List.take_succ_cons, List.take_zero, List.drop_succ_cons, List.drop_zero, Qf.lay, Qf.all1, if_true, e8, e9]
    simp only [Act.put, List.setIfInBounds_toArray, List.set_cons_succ, List.set_cons_zero]
    clear hJ e8 e9 hv kv y1 y2 y3
    replace FX := Base.hide (FX.out.below bb)
    replace KE := Base.hide (KE.out.below bb)
    replace X1 := Base.hide (X1.out.below bb)
    replace X2 := Base.hide (X2.out.below bb)
    replace X3 := Base.hide (X3.out.below bb)
    clear bb vz IQ LS KVa Ya1 Ya2 Ya3
    have n7 := Base.hide (show (n' : Int) ≤ 1048576 by have := NN.out.1; omega)
    have CS := Base.hide (Vo.sameOptF mq1 mq2 mq3 p1 p2 p3 n' jq1 jq2 jq3 k1 k2 k3 E.P E.F E.S E.c E.f E.g Xq Yq1.out.ints Yq2.out.ints Yq3.out.ints X1.out.ints X2.out.ints X3.out.ints n7.out)
    obtain ⟨-, o0, o1, o2, o3, o4, o5⟩ := KVq.out
    obtain ⟨-, q0, q1, q2, q3, q4, q5⟩ := KE.out
    go_wp2_with fail
    refine CS.out.mono ?_; rintro e Z2 ⟨rfl, bb⟩
    clear CS o0 o1 o2 o3 o4 o5 q0 q1 q2 q3 q4 q5 KVq KE X1 X2 X3 Yq1 Yq2 Yq3
    replace FX := Base.hide (FX.out.below bb)
    clear bb
    have wKT : IntKind.i64.wrap ((K : Int) + (K' : Int)) = (T : Int) := by rw [show (K : Int) + (K' : Int) = (T : Int) by omega]; exact Vo.wid (by omega)
    have GN := Base.hide (Vo.G1.new Z2)
    go_wp2_with fail
    clear wKT hKT
    obtain ⟨i0, hi0, hz0, hz1, hz2⟩ := Go.info_parts Vo.infoInt
    go_loopw [18, 17] (fun iv gv wx => ∃ (t : Nat) (D : Nat → Int), t ≤ n' ∧ iv = .int .i64 (t : Int) ∧ Vo.G1 Z2.heap.size Z2 wx gv t D ∧ (∀ j, j < t → D j = 16777217 + (j : Int))) (fun iv _ _ => n' - (intOf iv).toNat)
    case atStart => exact ⟨0, _, Nat.zero_le _, rfl, GN.out, fun j hj => absurd hj (by omega)⟩
    case round =>
      obtain ⟨t, D, ht, rfl, hG, hD⟩ := hrel
      have HG := Base.hide hG
      have HD := Base.hide hD
      clear hG hD GN
      have FY := Base.hide (FX.out.below HG.out.b)
      have oP : wr.cell? ⟨bo, 0, none⟩ = some (.slice a0' n' c0') := FY.out.ho.2.1
      by_cases htn : t < n'
      · have tI : (t : Int) < (n' : Int) := by omega
        have n6 := NN.out.1
        have wt : IntKind.i64.wrap ((t : Int) + 1) = (t : Int) + 1 := Vo.wid (by omega)
        obtain ⟨y, hy⟩ : ∃ y, (16777217 : Int) + (t : Int) = y := ⟨_, rfl⟩
        have wy : IntKind.i64.wrap ((16777217 : Int) + (t : Int)) = y := by rw [← hy]; exact Vo.wid (by omega)
        have yb : Hid (Vl.bd y) := Base.hide ⟨by omega, by omega⟩
        have YE := Base.hide hy
        have sz := HG.out.b.size
        clear HY
        go_wp2_with (at_builtin; refine wpList_append_own _ rfl _ _ 28 rfl Z2.heap.size 3 i0 (.int .i64 0) 1 8 Try.underlying28 hi0 hz0 hz1 hz2 rfl (by decide) _ _ _ rfl (HG.out.g.1.alloc _) ⟨wr.heap.size, 0, none⟩ 1 1 [.int .i64 y] rfl rfl (World.news_of_block (cs := #[.int .i64 y]) (t := 3) (fr := (0, 0)) (heap_alloc_new wr _)) (by simp [Value.oneCell']) (by unfold maxLen; omega) (by omega) (by simp; omega) ?_; intro v' w5 hown1 hgrow1 _)
        replace HG := Base.hide (HG.out.push (Nat.le_refl _) yb.out hown1 hgrow1)
        clear hown1 hgrow1 sz hy
        go_roundw
        case rel =>
          refine ⟨t + 1, _, by omega, by go_num, HG.out, fun j hj => ?_⟩
          unfold Vo.upI; by_cases e : j = t
          · rw [if_pos e, e]; exact YE.out.symm
          · rw [if_neg e]; exact HD.out j (by omega)
        case measure => simp [intOf]; omega
      · have nd : decide ((t : Int) < (n' : Int)) = false := decide_eq_false (by omega)
        have nd' : decide (t < n') = false := decide_eq_false htn
        obtain rfl : t = n' := by omega
        obtain ⟨ag, kg, eg, og⟩ := HG.out.g.own
        subst eg
        have IG := Base.hide og.ints
        clear og htn FX
        have FX := FY
        clear FY HG oP
        obtain ⟨m', N, b, hs, hi, hb'⟩ := Vo.stepSkip R t ⟨D0, D1, D2, c, f, g⟩ D RB.out HB.out (by have := NN.out.1; omega) (show Vo.OOk t t t D0 D1 D2 c f g from of_decide_eq_true HY.out) (fun j hj => by rw [HD.out j hj]; omega)
        have CS := Base.hide hs
        have CI := Base.hide hi
        have HB' := Base.hide hb'
        dsimp only at CS CI HB'
        have OK := HY
        clear hs hi hb' HD HY
        have q0 : wr.cell? ⟨br, 0, none⟩ = some (.int .i64 R.d) := FX.out.hr 0 (by omega)
        have q1 : wr.cell? ⟨br, 1, none⟩ = some (.int .i64 R.r1) := FX.out.hr 1 (by omega)
        have q2 : wr.cell? ⟨br, 2, none⟩ = some (.int .i64 R.r2) := FX.out.hr 2 (by omega)
        have q3 : wr.cell? ⟨br, 3, none⟩ = some (.int .i64 R.r3) := FX.out.hr 3 (by omega)
        have q4 : wr.cell? ⟨br, 4, none⟩ = some (.int .i64 R.r4) := FX.out.hr 4 (by omega)
        have q5 : wr.cell? ⟨br, 5, none⟩ = some (.int .i64 R.k) := FX.out.hr 5 (by omega)
        have q6 : wr.cell? ⟨br, 6, none⟩ = some (.int .i64 R.z) := FX.out.hr 6 (by omega)
        have q7 : wr.cell? ⟨br, 7, none⟩ = some (.int .i64 R.o) := FX.out.hr 7 (by omega)
        have q8 : wr.cell? ⟨br, 8, none⟩ = some (.int .i64 R.y) := FX.out.hr 8 (by omega)
        have q9 : wr.cell? ⟨br, 9, none⟩ = some (.int .i64 R.mo) := FX.out.hr 9 (by omega)
        have q10 : wr.cell? ⟨br, 10, none⟩ = some (.int .i64 R.gr) := FX.out.hr 10 (by omega)
        obtain ⟨-, o0, o1, o2, o3, o4, o5⟩ := FX.out.ho
        go_wp2_with fail
        refine (CI.out c0' c1' c2' kg a0' a1' a2' ag _ (FX.out.l0.mono (by have := FX.out.z; omega)) (FX.out.l1.mono (by have := FX.out.z; omega)) (FX.out.l2.mono (by have := FX.out.z; omega)) NZ.out.1 NZ.out.2.1 NZ.out.2.2 IG.out).mono ?_; rintro e W3 ⟨g1, g2, g3, h1, h2, h3, rfl, ⟨x1, x2, x3⟩, -, bb⟩
        clear q0 q1 q2 q3 q4 q5 q6 q7 q8 q9 q10 o0 o1 o2 o3 o4 o5
        clear nd nd'
        replace FX := Base.hide (FX.out.below bb)
        replace IG := Base.hide ((IG.out.below bb).mono bb.size)
        have Z3 := Base.hide x1
        clear bb x1 x2 x3 CI
        obtain ⟨W4, hW4⟩ : ∃ X, W3.alloc (.cells #[.slice g1 m' h1, .slice g2 m' h2, .slice g3 m' h3, .int .i64 N.c, .int .i64 N.f, .int .i64 N.g] 30) = X := ⟨_, rfl⟩
        have b2 : Below W3.heap.size W3 W4 := hW4 ▸ (Below.refl _ _).alloc (Nat.le_refl _) _
        have KN := Base.hide (show Vo.BoxV6 W4 W3.heap.size (.slice g1 m' h1) (.slice g2 m' h2) (.slice g3 m' h3) (.int .i64 N.c) (.int .i64 N.f) (.int .i64 N.g) from hW4 ▸ Vo.boxV6_new _ _ _ _ _ _ _ _)
        replace FX := Base.hide (FX.out.below b2)
        replace Z3 := Base.hide (Z3.out.below b2)
        replace IG := Base.hide ((IG.out.below b2).mono b2.size)
        clear b2
        have q0 : W4.cell? ⟨br, 0, none⟩ = some (.int .i64 R.d) := FX.out.hr 0 (by omega)
        have q1 : W4.cell? ⟨br, 1, none⟩ = some (.int .i64 R.r1) := FX.out.hr 1 (by omega)
        have q2 : W4.cell? ⟨br, 2, none⟩ = some (.int .i64 R.r2) := FX.out.hr 2 (by omega)
        have q3 : W4.cell? ⟨br, 3, none⟩ = some (.int .i64 R.r3) := FX.out.hr 3 (by omega)
        have q4 : W4.cell? ⟨br, 4, none⟩ = some (.int .i64 R.r4) := FX.out.hr 4 (by omega)
        have q5 : W4.cell? ⟨br, 5, none⟩ = some (.int .i64 R.k) := FX.out.hr 5 (by omega)
        have q6 : W4.cell? ⟨br, 6, none⟩ = some (.int .i64 R.z) := FX.out.hr 6 (by omega)
        have q7 : W4.cell? ⟨br, 7, none⟩ = some (.int .i64 R.o) := FX.out.hr 7 (by omega)
        have q8 : W4.cell? ⟨br, 8, none⟩ = some (.int .i64 R.y) := FX.out.hr 8 (by omega)
        have q9 : W4.cell? ⟨br, 9, none⟩ = some (.int .i64 R.mo) := FX.out.hr 9 (by omega)
        have q10 : W4.cell? ⟨br, 10, none⟩ = some (.int .i64 R.gr) := FX.out.hr 10 (by omega)
        obtain ⟨-, o0, o1, o2, o3, o4, o5⟩ := FX.out.ho
        go_wp2_with fail
        refine (CS.out c0' c1' c2' kg a0' a1' a2' ag _ (FX.out.l0.mono (by have := FX.out.z; omega)) (FX.out.l1.mono (by have := FX.out.z; omega)) (FX.out.l2.mono (by have := FX.out.z; omega)) NZ.out.1 NZ.out.2.1 NZ.out.2.2 IG.out).mono ?_; rintro e W5 ⟨s1, s2, s3, j1, j2, j3, rfl, -, -, bb⟩
        clear q0 q1 q2 q3 q4 q5 q6 q7 q8 q9 q10 o0 o1 o2 o3 o4 o5
        clear hW4
        replace FX := Base.hide (FX.out.below bb)
        replace KN := Base.hide (KN.out.below bb)
        replace Z3 := Base.hide (Z3.out.below bb)
        clear bb IG CS
        obtain ⟨W6, hW6⟩ : ∃ X, W5.alloc (.cells #[.slice s1 m' j1, .slice s2 m' j2, .slice s3 m' j3, .int .i64 N.c, .int .i64 N.f, .int .i64 N.g] 30) = X := ⟨_, rfl⟩
        have b2 : Below W5.heap.size W5 W6 := hW6 ▸ (Below.refl _ _).alloc (Nat.le_refl _) _
        have KS := Base.hide (show Vo.BoxV6 W6 W5.heap.size (.slice s1 m' j1) (.slice s2 m' j2) (.slice s3 m' j3) (.int .i64 N.c) (.int .i64 N.f) (.int .i64 N.g) from hW6 ▸ Vo.boxV6_new _ _ _ _ _ _ _ _)
        replace FX := Base.hide (FX.out.below b2)
        replace KN := Base.hide (KN.out.below b2)
        replace Z3 := Base.hide (Z3.out.below b2)
        clear b2
        clear KS
        cases b
        · go_wp2_with fail
          go_ret
          exact ⟨rfl, FX.out.b⟩
        obtain ⟨rfl, hN⟩ := HB'.out rfl
        by_cases h0 : m' = 0
        · clear hN
          subst h0
          go_wp2_with fail
          go_ret
          exact ⟨rfl, FX.out.b⟩
        obtain ⟨hP, hf, hc⟩ := hN.resolve_left h0
        clear hN
        obtain ⟨-, u0, u1, u2, u3, u4, u5⟩ := KN.out
        obtain ⟨-, o0, o1, o2, o3, o4, o5⟩ := FX.out.ho
        have HF := Base.hide hf
        have HC := Base.hide hc
        have Z4 := Base.hide (show Vl.Ints W6.heap.size W6 g1 m' D0 from hP ▸ Z3.out.ints)
        clear hf hc hP
        go_wp2_with fail
        refine (Vo.sameIntsE W6.heap.size g1 a0' m' h1 c0' D0 W6 Z4.out (FX.out.l0.mono (by have := FX.out.z; omega)) (by have := NN.out.1; omega)).mono ?_; rintro e W7 ⟨rfl, bb⟩
        clear u0 u1 u2 u3 u4 u5 o0 o1 o2 o3 o4 o5 hW6
        replace FX := Base.hide (FX.out.below bb)
        replace KN := Base.hide (KN.out.below bb)
        clear bb
        obtain ⟨-, u0, u1, u2, u3, u4, u5⟩ := KN.out
        obtain ⟨-, o0, o1, o2, o3, o4, o5⟩ := FX.out.ho
        have df : decide (N.f ≤ f) = true := decide_eq_true HF.out
        have wc : IntKind.i64.wrap (c + 1) = N.c := by rw [HC.out]; exact Vo.wid (by have := (show Vo.ook _ _ _ _ _ _ _ _ _ = true from OK.out); exact Vo.ook_cnt this)
        go_wp2_with fail
        go_ret
        exact ⟨rfl, FX.out.b⟩
  · have nk : decide ((K : Int) < (k : Int)) = true := decide_eq_true (by omega)
    have nk2 : decide (K < k) = true := decide_eq_true (by omega)
    clear hKk hB
    go_wp2_with fail
    go_ret
    exact ⟨rfl, FX.out.b⟩

set_option maxRecDepth 100000 in
theorem lifted (os : Os) (started : os.Started) (H : Type) (enc : TypeId × Value → H) :
    ReturnsInHanded {} Try.checked os 3 .any (Rows.fnOptPiecesSpec.pre6 enc Try.prog Try.f3 Rows.fnOptPiecesRow.domain false) (Rows.fnOptPiecesSpec.post enc Try.prog Try.f3 false true false false) := by
  refine returnsInHanded_of_change (C := Try.checked) own started (by kernel_rfl) Try.func3
    (ChangeSpec.witness6 (enc := enc) (C := Try.checked) false ⟨#[], #[.slice none 0 0, .slice none 0 0], []⟩ 8 (by kernel_rfl) (by kernel_rfl) (by kernel_rfl) (by kernel_rfl)) ?_
  intro W base args ds gs before hval0 hW hcnd _
  have hval : ∀ (j : Nat) t v, Try.f3.params[j]? = some t → args[j]? = some v → Value.okWide Try.prog W .any base t v := hval0
  have hW' := hW
  obtain ⟨p, q, hA0, hV, rfl, hfz, hnd⟩ := hW
  have hA : DataW.TrodAll enc Try.prog W 0 (fun _ => true) true Try.f3.params.toList args.toList ds p := hA0
  rw [Try.params3] at hA hval
  obtain ⟨v0, vs0, d0, ds0, p0, q0, hargs, rfl, rfl, h0, rst0⟩ := trodAll_cons hA
  obtain ⟨v1, vs1, d1, ds1, p1, q1, rfl, rfl, rfl, h1, rst1⟩ := trodAll_cons rst0
  obtain ⟨rfl, rfl, rfl⟩ := trodAll_nil rst1
  obtain rfl : args = #[v0, v1] := by cases args; simp_all
  obtain ⟨rfl, rfl⟩ := trodVars_none hV
  have k0 := h0
  have lt0 : ∀ x ∈ p0, x.block < W.heap.size := by obtain ⟨m, hm⟩ := k0; exact DataW.trod_lt m _ _ _ hm
  obtain ⟨a0, len0, cap0, rfl⟩ := okWide_slice Try.underlying22 (hval 0 22 v0 rfl rfl)
  have w0 : Base.Code W.heap.size W a0 len0 := by
    obtain ⟨fuel, hf⟩ := h0
    rcases open_ints Try.underlying22 Try.underlying5 (by kernel_rfl) hf with ⟨hcs, _⟩ | ⟨x, l, c, zs, hcs, _, hl, hm, hz, _, hcell, hwz⟩
    · simp [Value.cells] at hcs
      obtain ⟨rfl, rfl, rfl⟩ := hcs
      exact ⟨by omega, .inl rfl⟩
    · simp [Value.cells] at hcs
      obtain ⟨rfl, rfl, rfl⟩ := hcs
      exact Base.code_of hl hm (by simpa using hz) hcell hwz
  have k1 := h1
  have lt1 : ∀ x ∈ p1, x.block < W.heap.size := by obtain ⟨m, hm⟩ := k1; exact DataW.trod_lt m _ _ _ hm
  obtain ⟨a1, len1, cap1, rfl⟩ := okWide_slice Try.underlying22 (hval 1 22 v1 rfl rfl)
  have w1 : Base.Code W.heap.size W a1 len1 := by
    obtain ⟨fuel, hf⟩ := h1
    rcases open_ints Try.underlying22 Try.underlying5 (by kernel_rfl) hf with ⟨hcs, _⟩ | ⟨x, l, c, zs, hcs, _, hl, hm, hz, _, hcell, hwz⟩
    · simp [Value.cells] at hcs
      obtain ⟨rfl, rfl, rfl⟩ := hcs
      exact ⟨by omega, .inl rfl⟩
    · simp [Value.cells] at hcs
      obtain ⟨rfl, rfl, rfl⟩ := hcs
      exact Base.code_of hl hm (by simpa using hz) hcell hwz
  clear hA0 hval0
  refine (walk a0 len0 cap0 a1 len1 cap1 W w0 w1).mono fun e W' ⟨he, bel⟩ => ?_
  subst he
  exact ⟨_, rfl, _, _, _, [], _, [], hW', trodAll_mk1 (shut_bool Try.underlying4 _), (trodAll_cons_mk (Below.trod laidOut (by kernel_rfl) (of_decide_eq_true (by kernel_rfl)) k0 bel lt0) (trodAll_cons_mk (Below.trod laidOut (by kernel_rfl) (of_decide_eq_true (by kernel_rfl)) k1 bel lt1) trodAll_mk0)), rfl, bel.frame _, fun h => by cases h⟩

theorem over : Rows.fnOptPiecesRow.holds Try.pinned (OpenSpec.ofChange Rows.fnOptPiecesSpec) :=
  OpenClaim.holds_of_wide 3 Try.f3 rfl rfl rfl rfl rfl rfl rfl ⟨rfl, rfl, rfl, rfl, rfl⟩ rfl rfl rfl rfl rfl (by kernel_rfl) Try.func3 (by kernel_rfl)
    (of_decide_eq_true (by kernel_rfl)) (by unfold Func.isWrapper; first | (rw [if_pos (by decide +kernel)]; kernel_rfl) | (rw [if_neg (by decide +kernel)]; exact ⟨rfl, rfl⟩))
    (fun os started H enc _ => lifted os started H enc)

theorem proved : Rows.FnOptPiecesSaid := over
#print axioms proved
end Go.Proofs.Ytflbhlepmjiejaa.fnOptPieces
