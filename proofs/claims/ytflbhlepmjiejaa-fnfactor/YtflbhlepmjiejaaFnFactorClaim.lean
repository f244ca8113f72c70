/-
  Proved: whatever the arguments, 'FnFactor' returns true: the landed function answers as its model, and what came in reads as it did. No condition.
-/
import Derived.Test.YtflbhlepmjiejaaRows
import Derived.Test.YtflbhlepmjiejaaVl
import Derived.Test.YtflbhlepmjiejaaIa
import Derived.Test.YtflbhlepmjiejaaNea
import Derived.Test.YtflbhlepmjiejaaIb
import Derived.Test.YtflbhlepmjiejaaIc
import Derived.Test.YtflbhlepmjiejaaIe
import Derived.Test.YtflbhlepmjiejaaEb
import Derived.Test.YtflbhlepmjiejaaEa
import Derived.Test.YtflbhlepmjiejaaNum
import Derived.Test.YtflbhlepmjiejaaBase
import Derived.Test.YtflbhlepmjiejaaPow
import Derived.Test.YtflbhlepmjiejaaDraw
import Derived.Test.YtflbhlepmjiejaaNef
import Derived.Test.YtflbhlepmjiejaaEs
import Derived.Test.YtflbhlepmjiejaaVp
import Derived.Test.YtflbhlepmjiejaaVs
import Derived.Test.YtflbhlepmjiejaaVq
import Derived.Test.YtflbhlepmjiejaaVo
import Derived.Test.YtflbhlepmjiejaaVm
import Derived.Test.YtflbhlepmjiejaaVn
import Derived.Test.YtflbhlepmjiejaaVc
import Derived.Test.YtflbhlepmjiejaaEv
import Derived.Test.YtflbhlepmjiejaaEg
import Derived.Test.YtflbhlepmjiejaaEh
import Derived.Test.YtflbhlepmjiejaaEc
import Derived.Test.YtflbhlepmjiejaaAr
import Derived.Test.YtflbhlepmjiejaaEf
import Derived.Test.YtflbhlepmjiejaaQt
import Derived.Test.YtflbhlepmjiejaaEp
import Derived.Test.YtflbhlepmjiejaaOi
import Derived.Test.YtflbhlepmjiejaaEi
import Derived.Test.YtflbhlepmjiejaaOs
import Derived.Test.YtflbhlepmjiejaaEkp
import Derived.Test.YtflbhlepmjiejaaEk
import Derived.Test.YtflbhlepmjiejaaOj
import Derived.Test.YtflbhlepmjiejaaQf
import Derived.Test.YtflbhlepmjiejaaOm
import Derived.Test.YtflbhlepmjiejaaOo
import Derived.Test.YtflbhlepmjiejaaOma
import Derived.Test.YtflbhlepmjiejaaOmb
import Derived.Test.YtflbhlepmjiejaaOmc
import Derived.Test.YtflbhlepmjiejaaMra
import Derived.Test.YtflbhlepmjiejaaMrb
import Derived.Test.YtflbhlepmjiejaaMrc
import Derived.Test.YtflbhlepmjiejaaRbc
import Derived.Test.YtflbhlepmjiejaaRcc
import Derived.Test.YtflbhlepmjiejaaMrd
import Derived.Test.YtflbhlepmjiejaaRdc
import Derived.Test.YtflbhlepmjiejaaRec
import Derived.Test.YtflbhlepmjiejaaRgc
import Derived.Test.YtflbhlepmjiejaaRfc
import Derived.Test.YtflbhlepmjiejaaRhc
import Derived.Test.YtflbhlepmjiejaaMre
import Derived.Test.YtflbhlepmjiejaaMrf
import Derived.WalkKit
import Derived.ProofKit
import Derived.OpenShut
import Derived.ShutString
import Derived.ChangeOld
import Derived.Below
import Derived.Lib.SmallJoins
import Derived.OpenVars
import Derived.ChangeVars
import Derived.Deep.RegionHeld3
namespace Go.Proofs.Ytflbhlepmjiejaa.fnFactor
open Go.ChangeShapes Go.WideShapes Go.ChangeAt Go.RowKit Go.Joins
open Go.ChangeMaps (open_string shut_string)
set_option linter.unusedVariables false
set_option linter.unusedSimpArgs false

theorem own : ownKnob Try.prog.godebug = none := by kernel_rfl
theorem laidOut : laidOutB Try.prog = true := by kernel_rfl

set_option maxRecDepth 100000 in
set_option maxHeartbeats 4000000 in
theorem walk (a0 : Option Addr) (len0 cap0 : Nat) (a1 : Option Addr) (len1 cap1 : Nat) (w : World) (w0 : Base.Code w.heap.size w a0 len0) (w1 : Base.Code w.heap.size w a1 len1) :
    Calls Try.prog 4 #[.slice a0 len0 cap0, .slice a1 len1 cap1] w fun e w' => e = .returned (.bool true) ∧ Below w.heap.size w w' := by
  have L0 := w0.1
  have l0 : (len0 : Int) ≤ 9223372036854775807 := by omega
  have L1 := w1.1
  have l1 : (len1 : Int) ≤ 9223372036854775807 := by omega
  have HW := Base.hide w0
  have HM := Base.hide w1
  clear w0 w1 L0 L1
  by_cases g0 : (1048576 : Int) < (len0 : Int)
  · have e0 := Base.hide (decide_eq_true g0)
    clear g0
    go_enter Try.func4, Try.ntmps4
    go_wp2_with fail
    refine (Base.big a0 len0 cap0 true _ l0 e0.out).mono ?_; rintro e w' ⟨rfl, rfl⟩
    go_wp2_with fail
    go_ret
    exact ⟨rfl, Below.refl _ _⟩
  have e0 := Base.hide (decide_eq_false g0)
  have n0 := Base.hide (show len0 ≤ 1048576 by omega)
  clear g0
  by_cases g1 : (1048576 : Int) < (len1 : Int)
  · have e1 := Base.hide (decide_eq_true g1)
    clear g1
    go_enter Try.func4, Try.ntmps4
    go_wp2_with fail
    refine (Base.big a0 len0 cap0 false _ l0 e0.out).mono ?_; rintro e w' ⟨rfl, rfl⟩
    go_wp2_with fail
    refine (Base.big a1 len1 cap1 true _ l1 e1.out).mono ?_; rintro e w' ⟨rfl, rfl⟩
    go_wp2_with fail
    go_ret
    exact ⟨rfl, Below.refl _ _⟩
  have e1 := Base.hide (decide_eq_false g1)
  clear g1
  go_enter Try.func4, Try.ntmps4
  go_wp2_with fail
  refine (Base.big a0 len0 cap0 false _ l0 e0.out).mono ?_; rintro e w' ⟨rfl, hq⟩; have hq := hq.symm; subst hq
  go_wp2_with fail
  refine (Base.big a1 len1 cap1 false _ l1 e1.out).mono ?_; rintro e w' ⟨rfl, hq⟩; have hq := hq.symm; subst hq
  clear e0 e1 l0 l1
  go_wp2_with fail
  refine (Vo.drawStepOpt a0 len0 cap0 _ HW.out n0.out).mono ?_; rintro e u1 ⟨R, a0', a1', a2', n0', c0', n1', c1', n2', c2', D0, D1, D2, c, f, g, xb, xk, xc, rfl, hR, hn, ⟨i0, i1, i2⟩, hz, hb, bb⟩
  have RB := Base.hide hR
  have NN := Base.hide hn
  have NZ := Base.hide hz
  have HB := Base.hide hb
  clear hR hn hz hb n0 HW
  have CO := Base.hide (fun (X : World) => Vo.implOpt none none none 0 0 0 0 0 0 (fun _ => 0) (fun _ => 0) (fun _ => 0) 0 2 0 X (.inl rfl) (.inl rfl) (.inl rfl) (by decide) (show Vl.bd 0 from ⟨by decide, by decide⟩) (show Vl.bd 2 from ⟨by decide, by decide⟩) (show Vl.bd 0 from ⟨by decide, by decide⟩) (by decide) (by decide))
  rw [Vo.ook_zero 2 Vo.fac_two] at CO
  go_wp2_with fail
  obtain ⟨U0, hU0⟩ : ∃ U0, u1.alloc (.cells #[.int .i64 R.d, .int .i64 R.r1, .int .i64 R.r2, .int .i64 R.r3, .int .i64 R.r4, .int .i64 R.k, .int .i64 R.z, .int .i64 R.o, .int .i64 R.y, .int .i64 R.mo, .int .i64 R.gr] 27) = U0 := ⟨_, rfl⟩
  obtain ⟨U1, hU1⟩ : ∃ U1, U0.alloc (.cells #[.slice a0' n0' c0', .slice a1' n1' c1', .slice a2' n2' c2', .int .i64 c, .int .i64 f, .int .i64 g] 30) = U1 := ⟨_, rfl⟩
  rw [hU0, hU1]
  have b0 : Below u1.heap.size u1 U0 := hU0 ▸ (Below.refl _ _).alloc (Nat.le_refl _) _
  have b1 : Below U0.heap.size U0 U1 := hU1 ▸ (Below.refl _ _).alloc (Nat.le_refl _) _
  have z0 : U0.heap.size = u1.heap.size + 1 := by rw [← hU0]; simp
  have z1 : U1.heap.size = U0.heap.size + 1 := by rw [← hU1]; simp
  have FF := Base.hide (show Vo.FS w u1.heap.size U0.heap.size R a0' a1' a2' n0' c0' n1' c1' n2' c2' D0 D1 D2 c f g U1 from
      { b := bb.trans ((b0.trans (b1.mono b0.size)).mono bb.size)
        hr := fun i hi => (b1.cell (p := ⟨u1.heap.size, i, none⟩) (by show u1.heap.size < _; omega)).trans (by rw [← hU0]; rcases (by omega : i = 0 ∨ i = 1 ∨ i = 2 ∨ i = 3 ∨ i = 4 ∨ i = 5 ∨ i = 6 ∨ i = 7 ∨ i = 8 ∨ i = 9 ∨ i = 10) with rfl | rfl | rfl | rfl | rfl | rfl | rfl | rfl | rfl | rfl | rfl <;> simp [go_sem, Vo.RVf])
        ho := hU1 ▸ Vo.boxV6_new _ _ _ _ _ _ _ _
        fo := fun i => by rw [← hU1]; simp [go_sem]
        l0 := (i0.below (b0.trans (b1.mono b0.size)))
        l1 := (i1.below (b0.trans (b1.mono b0.size)))
        l2 := (i2.below (b0.trans (b1.mono b0.size)))
        z := ⟨bb.size, by omega, by omega⟩ })
  clear i0 i1 i2 bb b0 b1 hU0 hU1 z1
  rw [z0] at FF
  obtain ⟨bo, hbo⟩ : ∃ b, u1.heap.size + 1 = b := ⟨_, rfl⟩
  obtain ⟨br, hbr⟩ : ∃ b, u1.heap.size = b := ⟨_, rfl⟩
  simp only [hbo] at FF ⊢
  simp only [hbr] at FF ⊢
  clear hbo hbr z0
  refine (CO.out _).mono ?_; rintro e U2 ⟨rfl, bb⟩
  replace FF := Base.hide (FF.out.below bb)
  clear bb CO
  have oF : U2.cell? ⟨bo, 4, none⟩ = some (.int .i64 f) := FF.out.ho.2.2.2.2.2.1
  have GN := Base.hide (Vo.G2.new U2)
  go_wp2_with fail
  clear oF
  obtain ⟨i0, hi0, hz0, hz1, hz2⟩ := Go.info_parts Vo.infoInt
  go_loopw [11, 9, 10] (fun iv gv hv wx => ∃ (t : Nat) (D H : Nat → Int), t ≤ n0' ∧ iv = .int .i64 (t : Int) ∧ Vo.G2 U2.heap.size U2 wx gv hv t t D H ∧ (∀ j, j < t → -128 ≤ D j ∧ D j ≤ 127) ∧ (∀ j, j < t → H j = Go.IntKind.i64.wrap (D j * f))) (fun iv _ _ _ => n0' - (intOf iv).toNat)
  case atStart => exact ⟨0, _, _, Nat.zero_le _, rfl, GN.out, fun j hj => absurd hj (by omega), fun j hj => absurd hj (by omega)⟩
  case round =>
    obtain ⟨t, D, H, ht, rfl, hG, hD, hH⟩ := hrel
    have HG := Base.hide hG
    have HD := Base.hide hD
    have HH := Base.hide hH
    clear hG hD hH
    have FX := Base.hide (FF.out.below HG.out.b)
    have oP : wr.cell? ⟨bo, 0, none⟩ = some (.slice a0' n0' c0') := FX.out.ho.2.1
    by_cases htn : t < n0'
    · have tI : (t : Int) < (n0' : Int) := by omega
      have t6 : t < 7 := by have := NN.out.1; omega
      have wt : IntKind.i64.wrap ((t : Int) + 1) = (t : Int) + 1 := by rw [IntKind.wrap_i64]; omega
      have CA := Base.hide (Vo.atSeven a1 len1 cap1 t w.heap.size wr (HM.out.below FX.out.b) t6)
      go_wp2_with fail
      refine CA.out.mono ?_; rintro e wq ⟨zz, zz0, zz1, rfl, hq⟩; have hq := hq.symm; subst hq
      clear CA
      obtain ⟨x, hx⟩ : ∃ x, zz - 128 = x := ⟨_, rfl⟩
      have wx' : IntKind.i64.wrap (zz - 128) = x := by rw [← hx]; exact Vo.wid (by omega)
      have XB := Base.hide (show -128 ≤ x ∧ x ≤ 127 by omega)
      have xb : Hid (Vl.bd x) := Base.hide ⟨by have := XB.out; omega, by have := XB.out; omega⟩
      obtain ⟨y, hy⟩ : ∃ y, IntKind.i64.wrap (x * f) = y := ⟨_, rfl⟩
      have yb : Hid (Vl.bd y) := Base.hide (by rw [← hy]; exact Vo.wrap_is (x * f))
      have YE := Base.hide hy
      clear hx zz0 zz1
      have sz := HG.out.b.size
      go_wp2_with (first | (at_builtin; refine wpList_append_lies _ rfl _ _ 28 rfl U2.heap.size 3 i0 (.int .i64 0) 1 8 Try.underlying28 hi0 hz0 hz1 hz2 rfl (by decide) _ _ _ rfl (HG.out.g.1.alloc _) ⟨wr.heap.size, 0, none⟩ 1 1 [.int .i64 x] rfl rfl (World.news_of_block (cs := #[.int .i64 x]) (t := 3) (fr := (0, 0)) (heap_alloc_new wr _)) (by simp [Value.oneCell']) (by omega) (by unfold maxLen; omega) (by omega) (by simp; omega) (wr.heap.size + 1) (by simp) ?_; intro g1 k1 w3 hown1 hgrow1 hat1 hlt1; have sz3 : U2.heap.size ≤ w3.heap.size := (by have := hgrow1.size; simp at this; omega)) | (at_builtin; refine wpList_append_lies _ rfl _ _ 28 rfl U2.heap.size 3 i0 (.int .i64 0) 1 8 Try.underlying28 hi0 hz0 hz1 hz2 rfl (by decide) _ _ _ rfl ((Vo.own_grown (Vo.own_alc HG.out.h _) hgrow1 (fun k hk => HG.out.n k hk)).1.alloc _) ⟨w3.heap.size, 0, none⟩ 1 1 [.int .i64 y] rfl rfl (World.news_of_block (cs := #[.int .i64 y]) (t := 3) (fr := (0, 0)) (heap_alloc_new w3 _)) (by simp [Value.oneCell']) (by omega) (by unfold maxLen; omega) (by omega) (by simp; omega) (w3.heap.size + 1) (by simp) ?_; intro g2 k2 w4 hown2 hgrow2 hat2 hlt2))
      replace HG := Base.hide (HG.out.pushG (Nat.le_refl _) xb.out hown1 hgrow1 hat1)
      replace HG := Base.hide (HG.out.pushH (Nat.le_refl _) yb.out hown2 hgrow2 hat2)
      clear hown1 hgrow1 hat1 hlt1 hown2 hgrow2 hat2 hlt2 sz sz3
      go_roundw
      case rel =>
        refine ⟨t + 1, _, _, by omega, by go_num, HG.out, fun j hj => ?_, fun j hj => ?_⟩
        · unfold Vo.upI; by_cases e : j = t
          · rw [if_pos e]; exact XB.out
          · rw [if_neg e]; exact HD.out j (by omega)
        · unfold Vo.upI; by_cases e : j = t
          · rw [if_pos e, if_pos e]; exact YE.out.symm
          · rw [if_neg e, if_neg e]; exact HH.out j (by omega)
      case measure => simp [intOf]; omega
    · have nd : decide ((t : Int) < (n0' : Int)) = false := decide_eq_false (by omega)
      have nd' : decide (t < n0') = false := decide_eq_false htn
      obtain rfl : t = n0' := by omega
      obtain ⟨ag, kg, eg, og⟩ := HG.out.g.own
      obtain ⟨ah, kh, eh, oh⟩ := HG.out.h.own
      subst eg
      subst eh
      have IG := Base.hide og
      have IH := Base.hide oh.ints
      have BZ := Base.hide (show bo < U2.heap.size ∧ U2.heap.size ≤ wr.heap.size from ⟨FF.out.z.2.2, HG.out.b.size⟩)
      clear og oh
      have n6 := NN.out.1
      clear htn
      rcases Vo.stepFac R t n1' n2' ⟨D0, D1, D2, c, f, g⟩ RB.out HB.out (by omega) (by have := NN.out.2.1; omega) (by have := NN.out.2.2; omega) with hno | ⟨e1, e2, hf, hyes⟩
      · obtain ⟨hs, hi⟩ := hno H
        have CS := Base.hide hs
        have CI := Base.hide hi
        clear hs hi hno
        have q0 : wr.cell? ⟨br, 0, none⟩ = some (.int .i64 R.d) := FX.out.hr 0 (by omega)
        have q1 : wr.cell? ⟨br, 1, none⟩ = some (.int .i64 R.r1) := FX.out.hr 1 (by omega)
        have q2 : wr.cell? ⟨br, 2, none⟩ = some (.int .i64 R.r2) := FX.out.hr 2 (by omega)
        have q3 : wr.cell? ⟨br, 3, none⟩ = some (.int .i64 R.r3) := FX.out.hr 3 (by omega)
        have q4 : wr.cell? ⟨br, 4, none⟩ = some (.int .i64 R.r4) := FX.out.hr 4 (by omega)
        have q5 : wr.cell? ⟨br, 5, none⟩ = some (.int .i64 R.k) := FX.out.hr 5 (by omega)
        have q6 : wr.cell? ⟨br, 6, none⟩ = some (.int .i64 R.z) := FX.out.hr 6 (by omega)
        have q7 : wr.cell? ⟨br, 7, none⟩ = some (.int .i64 R.o) := FX.out.hr 7 (by omega)
        have q8 : wr.cell? ⟨br, 8, none⟩ = some (.int .i64 R.y) := FX.out.hr 8 (by omega)
        have q9 : wr.cell? ⟨br, 9, none⟩ = some (.int .i64 R.mo) := FX.out.hr 9 (by omega)
        have q10 : wr.cell? ⟨br, 10, none⟩ = some (.int .i64 R.gr) := FX.out.hr 10 (by omega)
        obtain ⟨-, o0, o1, o2, o3, o4, o5⟩ := FX.out.ho
        go_wp2_with fail
        refine (CI.out c0' c1' c2' kh a0' a1' a2' ah _ (FX.out.l0.mono (by have := FX.out.z; omega)) (FX.out.l1.mono (by have := FX.out.z; omega)) (FX.out.l2.mono (by have := FX.out.z; omega)) NZ.out.1 NZ.out.2.1 NZ.out.2.2 IH.out).mono ?_; rintro e W1 ⟨rfl, bb⟩
        clear q0 q1 q2 q3 q4 q5 q6 q7 q8 q9 q10 o0 o1 o2 o3 o4 o5
        replace FX := Base.hide (FX.out.below bb)
        replace IH := Base.hide ((IH.out.below bb).mono bb.size)
        clear bb
        unfold Vo.ZOpt
        go_upto_region 16 with fail
        obtain ⟨W2, hW2⟩ : ∃ W2, W1.alloc (.cells #[.slice none 0 0, .slice none 0 0, .slice none 0 0, .int .i64 0, .int .i64 0, .int .i64 0] 30) = W2 := ⟨_, rfl⟩
        rw [hW2]
        have b2 : Below W1.heap.size W1 W2 := hW2 ▸ (Below.refl _ _).alloc (Nat.le_refl _) _
        have KA := Base.hide (show Vo.BoxV6 W2 W1.heap.size (.slice none 0 0) (.slice none 0 0) (.slice none 0 0) (.int .i64 0) (.int .i64 0) (.int .i64 0) from hW2 ▸ Vo.boxV6_new _ _ _ _ _ _ _ _)
        replace FX := Base.hide (FX.out.below b2)
        replace IH := Base.hide ((IH.out.below b2).mono b2.size)
        clear b2
        have q0 : W2.cell? ⟨br, 0, none⟩ = some (.int .i64 R.d) := FX.out.hr 0 (by omega)
        have q1 : W2.cell? ⟨br, 1, none⟩ = some (.int .i64 R.r1) := FX.out.hr 1 (by omega)
        have q2 : W2.cell? ⟨br, 2, none⟩ = some (.int .i64 R.r2) := FX.out.hr 2 (by omega)
        have q3 : W2.cell? ⟨br, 3, none⟩ = some (.int .i64 R.r3) := FX.out.hr 3 (by omega)
        have q4 : W2.cell? ⟨br, 4, none⟩ = some (.int .i64 R.r4) := FX.out.hr 4 (by omega)
        have q5 : W2.cell? ⟨br, 5, none⟩ = some (.int .i64 R.k) := FX.out.hr 5 (by omega)
        have q6 : W2.cell? ⟨br, 6, none⟩ = some (.int .i64 R.z) := FX.out.hr 6 (by omega)
        have q7 : W2.cell? ⟨br, 7, none⟩ = some (.int .i64 R.o) := FX.out.hr 7 (by omega)
        have q8 : W2.cell? ⟨br, 8, none⟩ = some (.int .i64 R.y) := FX.out.hr 8 (by omega)
        have q9 : W2.cell? ⟨br, 9, none⟩ = some (.int .i64 R.mo) := FX.out.hr 9 (by omega)
        have q10 : W2.cell? ⟨br, 10, none⟩ = some (.int .i64 R.gr) := FX.out.hr 10 (by omega)
        obtain ⟨-, o0, o1, o2, o3, o4, o5⟩ := FX.out.ho
        go_wp2_with fail
        refine (CS.out c0' c1' c2' kh a0' a1' a2' ah _ (FX.out.l0.mono (by have := FX.out.z; omega)) (FX.out.l1.mono (by have := FX.out.z; omega)) (FX.out.l2.mono (by have := FX.out.z; omega)) NZ.out.1 NZ.out.2.1 NZ.out.2.2 IH.out).mono ?_; rintro e W3 ⟨rfl, bb⟩
        clear q0 q1 q2 q3 q4 q5 q6 q7 q8 q9 q10 o0 o1 o2 o3 o4 o5
        clear hW2
        replace FX := Base.hide (FX.out.below bb)
        replace KA := Base.hide (KA.out.below bb)
        clear bb
        unfold Vo.ZOpt
        go_upto_region 17 with fail
        obtain ⟨W4, hW4⟩ : ∃ W4, W3.alloc (.cells #[.slice none 0 0, .slice none 0 0, .slice none 0 0, .int .i64 0, .int .i64 0, .int .i64 0] 30) = W4 := ⟨_, rfl⟩
        rw [hW4]
        have b4 : Below W3.heap.size W3 W4 := hW4 ▸ (Below.refl _ _).alloc (Nat.le_refl _) _
        replace FX := Base.hide (FX.out.below b4)
        replace KA := Base.hide (KA.out.below b4)
        clear b4
        obtain ⟨-, p0, -⟩ := KA.out
        go_wp2_with fail
        go_ret
        exact ⟨rfl, FX.out.b⟩
      · subst e1
        subst e2
        obtain ⟨A, B, same, hs, hi, hb2⟩ := hyes (fun j => if j < n2' then D j else 0) (Vo.cut_rng HD.out)
        have SM := Base.hide same
        have CS := Base.hide hs
        have CI := Base.hide hi
        have CB := Base.hide hb2
        clear same hs hi hb2 hyes
        dsimp only at CS CI CB
        replace IG := Base.hide (IG.out.same (E := fun j => if j < n2' then D j else 0) (fun j hj => if_pos hj))
        replace IH := Base.hide (IH.out.same (E := fun j => (if j < n2' then D j else 0) * f) (fun j hj => by rw [if_pos hj, HH.out j hj]; exact (Vo.cut_mul (HD.out j hj) hf).symm))
        have q0 : wr.cell? ⟨br, 0, none⟩ = some (.int .i64 R.d) := FX.out.hr 0 (by omega)
        have q1 : wr.cell? ⟨br, 1, none⟩ = some (.int .i64 R.r1) := FX.out.hr 1 (by omega)
        have q2 : wr.cell? ⟨br, 2, none⟩ = some (.int .i64 R.r2) := FX.out.hr 2 (by omega)
        have q3 : wr.cell? ⟨br, 3, none⟩ = some (.int .i64 R.r3) := FX.out.hr 3 (by omega)
        have q4 : wr.cell? ⟨br, 4, none⟩ = some (.int .i64 R.r4) := FX.out.hr 4 (by omega)
        have q5 : wr.cell? ⟨br, 5, none⟩ = some (.int .i64 R.k) := FX.out.hr 5 (by omega)
        have q6 : wr.cell? ⟨br, 6, none⟩ = some (.int .i64 R.z) := FX.out.hr 6 (by omega)
        have q7 : wr.cell? ⟨br, 7, none⟩ = some (.int .i64 R.o) := FX.out.hr 7 (by omega)
        have q8 : wr.cell? ⟨br, 8, none⟩ = some (.int .i64 R.y) := FX.out.hr 8 (by omega)
        have q9 : wr.cell? ⟨br, 9, none⟩ = some (.int .i64 R.mo) := FX.out.hr 9 (by omega)
        have q10 : wr.cell? ⟨br, 10, none⟩ = some (.int .i64 R.gr) := FX.out.hr 10 (by omega)
        obtain ⟨-, o0, o1, o2, o3, o4, o5⟩ := FX.out.ho
        go_wp2_with fail
        refine (CI.out c0' c1' c2' kh a0' a1' a2' ah _ (FX.out.l0.mono (by have := FX.out.z; omega)) (FX.out.l1.mono (by have := FX.out.z; omega)) (FX.out.l2.mono (by have := FX.out.z; omega)) NZ.out.1 NZ.out.2.1 NZ.out.2.2 IH.out).mono ?_; rintro e W1 ⟨p1, p2, p3, k1, k2, k3, rfl, ⟨x1, x2, x3⟩, -, bb⟩
        clear q0 q1 q2 q3 q4 q5 q6 q7 q8 q9 q10 o0 o1 o2 o3 o4 o5
        replace FX := Base.hide (FX.out.below bb)
        replace IH := Base.hide ((IH.out.below bb).mono bb.size)
        replace IG := Base.hide (IG.out.below bb)
        have X1 := Base.hide x1
        have X2 := Base.hide x2
        have X3 := Base.hide x3
        have BV := Base.hide (show bo < W1.heap.size by have := BZ.out; have := bb.size; omega)
        clear bb x1 x2 x3
        obtain ⟨W2, hW2⟩ : ∃ X, W1.alloc (.cells #[.slice p1 n2' k1, .slice p2 n2' k2, .slice p3 n2' k3, .int .i64 A.c, .int .i64 A.f, .int .i64 A.g] 30) = X := ⟨_, rfl⟩
        have b2 : Below W1.heap.size W1 W2 := hW2 ▸ (Below.refl _ _).alloc (Nat.le_refl _) _
        have KA := Base.hide (show Vo.BoxV6 W2 W1.heap.size (.slice p1 n2' k1) (.slice p2 n2' k2) (.slice p3 n2' k3) (.int .i64 A.c) (.int .i64 A.f) (.int .i64 A.g) from hW2 ▸ Vo.boxV6_new _ _ _ _ _ _ _ _)
        replace FX := Base.hide (FX.out.below b2)
        replace IG := Base.hide (IG.out.below b2)
        replace X1 := Base.hide (X1.out.below b2)
        replace X2 := Base.hide (X2.out.below b2)
        replace X3 := Base.hide (X3.out.below b2)
        replace IH := Base.hide ((IH.out.below b2).mono b2.size)
        clear b2
        have q0 : W2.cell? ⟨br, 0, none⟩ = some (.int .i64 R.d) := FX.out.hr 0 (by omega)
        have q1 : W2.cell? ⟨br, 1, none⟩ = some (.int .i64 R.r1) := FX.out.hr 1 (by omega)
        have q2 : W2.cell? ⟨br, 2, none⟩ = some (.int .i64 R.r2) := FX.out.hr 2 (by omega)
        have q3 : W2.cell? ⟨br, 3, none⟩ = some (.int .i64 R.r3) := FX.out.hr 3 (by omega)
        have q4 : W2.cell? ⟨br, 4, none⟩ = some (.int .i64 R.r4) := FX.out.hr 4 (by omega)
        have q5 : W2.cell? ⟨br, 5, none⟩ = some (.int .i64 R.k) := FX.out.hr 5 (by omega)
        have q6 : W2.cell? ⟨br, 6, none⟩ = some (.int .i64 R.z) := FX.out.hr 6 (by omega)
        have q7 : W2.cell? ⟨br, 7, none⟩ = some (.int .i64 R.o) := FX.out.hr 7 (by omega)
        have q8 : W2.cell? ⟨br, 8, none⟩ = some (.int .i64 R.y) := FX.out.hr 8 (by omega)
        have q9 : W2.cell? ⟨br, 9, none⟩ = some (.int .i64 R.mo) := FX.out.hr 9 (by omega)
        have q10 : W2.cell? ⟨br, 10, none⟩ = some (.int .i64 R.gr) := FX.out.hr 10 (by omega)
        obtain ⟨-, o0, o1, o2, o3, o4, o5⟩ := FX.out.ho
        go_wp2_with fail
        refine (CS.out c0' c1' c2' kh a0' a1' a2' ah _ (FX.out.l0.mono (by have := FX.out.z; omega)) (FX.out.l1.mono (by have := FX.out.z; omega)) (FX.out.l2.mono (by have := FX.out.z; omega)) NZ.out.1 NZ.out.2.1 NZ.out.2.2 IH.out).mono ?_; rintro e W3 ⟨s1, s2, s3, j1, j2, j3, rfl, -, -, bb⟩
        clear q0 q1 q2 q3 q4 q5 q6 q7 q8 q9 q10 o0 o1 o2 o3 o4 o5
        clear hW2
        replace FX := Base.hide (FX.out.below bb)
        replace KA := Base.hide (KA.out.below bb)
        replace IG := Base.hide (IG.out.below bb)
        replace X1 := Base.hide (X1.out.below bb)
        replace X2 := Base.hide (X2.out.below bb)
        replace X3 := Base.hide (X3.out.below bb)
        clear bb IH
        obtain ⟨W4, hW4⟩ : ∃ X, W3.alloc (.cells #[.slice s1 n2' j1, .slice s2 n2' j2, .slice s3 n2' j3, .int .i64 A.c, .int .i64 A.f, .int .i64 A.g] 30) = X := ⟨_, rfl⟩
        have b2 : Below W3.heap.size W3 W4 := hW4 ▸ (Below.refl _ _).alloc (Nat.le_refl _) _
        have KS := Base.hide (show Vo.BoxV6 W4 W3.heap.size (.slice s1 n2' j1) (.slice s2 n2' j2) (.slice s3 n2' j3) (.int .i64 A.c) (.int .i64 A.f) (.int .i64 A.g) from hW4 ▸ Vo.boxV6_new _ _ _ _ _ _ _ _)
        replace FX := Base.hide (FX.out.below b2)
        replace KA := Base.hide (KA.out.below b2)
        replace IG := Base.hide (IG.out.below b2)
        replace X1 := Base.hide (X1.out.below b2)
        replace X2 := Base.hide (X2.out.below b2)
        replace X3 := Base.hide (X3.out.below b2)
        clear b2
        clear KS
        obtain ⟨W5, hW5⟩ : ∃ W5, W4.setCell ⟨bo, 4, none⟩ (.int .i64 1) = W5 := ⟨_, rfl⟩
        have o4 : W4.cell? ⟨bo, 4, none⟩ = some (.int .i64 f) := FX.out.ho.2.2.2.2.2.1
        have f4 : W4.frozen? ⟨bo, 4, none⟩ = false := FX.out.fo 4
        have FX2 := Base.hide (hW5 ▸ FX.out.factor 1 : Vo.FS w br bo R a0' a1' a2' n2' c0' n2' c1' n2' c2' D0 D1 D2 c 1 g W5)
        have k5 : Vl.Kept (· = bo) W4 W5 := hW5 ▸ Vl.Kept.setCell W4 ⟨bo, 4, none⟩ _
        replace KA := Base.hide (Vo.boxV6_kept KA.out k5 (by show ¬ W1.heap.size = bo; have := BV.out; omega))
        replace IG := Base.hide (IG.out.kept k5 (fun b hb e => by have := (IG.out.blk hb).1; have := BZ.out; have e : b = bo := e; omega))
        replace X1 := Base.hide (X1.out.kept k5 (fun b hb e => by have := (X1.out.blk hb).1; have := BZ.out; have e : b = bo := e; omega))
        replace X2 := Base.hide (X2.out.kept k5 (fun b hb e => by have := (X2.out.blk hb).1; have := BZ.out; have e : b = bo := e; omega))
        replace X3 := Base.hide (X3.out.kept k5 (fun b hb e => by have := (X3.out.blk hb).1; have := BZ.out; have e : b = bo := e; omega))
        clear k5 FX
        have FX := FX2
        clear FX2
        have q0 : W5.cell? ⟨br, 0, none⟩ = some (.int .i64 R.d) := FX.out.hr 0 (by omega)
        have q1 : W5.cell? ⟨br, 1, none⟩ = some (.int .i64 R.r1) := FX.out.hr 1 (by omega)
        have q2 : W5.cell? ⟨br, 2, none⟩ = some (.int .i64 R.r2) := FX.out.hr 2 (by omega)
        have q3 : W5.cell? ⟨br, 3, none⟩ = some (.int .i64 R.r3) := FX.out.hr 3 (by omega)
        have q4 : W5.cell? ⟨br, 4, none⟩ = some (.int .i64 R.r4) := FX.out.hr 4 (by omega)
        have q5 : W5.cell? ⟨br, 5, none⟩ = some (.int .i64 R.k) := FX.out.hr 5 (by omega)
        have q6 : W5.cell? ⟨br, 6, none⟩ = some (.int .i64 R.z) := FX.out.hr 6 (by omega)
        have q7 : W5.cell? ⟨br, 7, none⟩ = some (.int .i64 R.o) := FX.out.hr 7 (by omega)
        have q8 : W5.cell? ⟨br, 8, none⟩ = some (.int .i64 R.y) := FX.out.hr 8 (by omega)
        have q9 : W5.cell? ⟨br, 9, none⟩ = some (.int .i64 R.mo) := FX.out.hr 9 (by omega)
        have q10 : W5.cell? ⟨br, 10, none⟩ = some (.int .i64 R.gr) := FX.out.hr 10 (by omega)
        obtain ⟨-, o0, o1, o2, o3, o4, o5⟩ := FX.out.ho
        go_wp2_with fail
        clear o4 f4 hW5
        clear q0 q1 q2 q3 q4 q5 q6 q7 q8 q9 q10 o0 o1 o2 o3 o4 o5
        refine (CB.out c0' c1' c2' kg a0' a1' a2' ag _ (FX.out.l0.mono (by have := FX.out.z; omega)) (FX.out.l1.mono (by have := FX.out.z; omega)) (FX.out.l2.mono (by have := FX.out.z; omega)) NZ.out.1 NZ.out.2.1 NZ.out.2.2 IG.out.ints).mono ?_; rintro e W6 ⟨v1, v2, v3, h1, h2, h3, rfl, ⟨x1, x2, x3⟩, -, bb⟩
        replace FX := Base.hide (FX.out.below bb)
        replace KA := Base.hide (KA.out.below bb)
        replace X1 := Base.hide (X1.out.below bb)
        replace X2 := Base.hide (X2.out.below bb)
        replace X3 := Base.hide (X3.out.below bb)
        have Y1 := Base.hide x1
        have Y2 := Base.hide x2
        have Y3 := Base.hide x3
        clear bb x1 x2 x3 IG
        obtain ⟨W7, hW7⟩ : ∃ X, W6.alloc (.cells #[.slice v1 n2' h1, .slice v2 n2' h2, .slice v3 n2' h3, .int .i64 B.c, .int .i64 B.f, .int .i64 B.g] 30) = X := ⟨_, rfl⟩
        have b2 : Below W6.heap.size W6 W7 := hW7 ▸ (Below.refl _ _).alloc (Nat.le_refl _) _
        have KB := Base.hide (show Vo.BoxV6 W7 W6.heap.size (.slice v1 n2' h1) (.slice v2 n2' h2) (.slice v3 n2' h3) (.int .i64 B.c) (.int .i64 B.f) (.int .i64 B.g) from hW7 ▸ Vo.boxV6_new _ _ _ _ _ _ _ _)
        replace FX := Base.hide (FX.out.below b2)
        replace KA := Base.hide (KA.out.below b2)
        replace X1 := Base.hide (X1.out.below b2)
        replace X2 := Base.hide (X2.out.below b2)
        replace X3 := Base.hide (X3.out.below b2)
        replace Y1 := Base.hide (Y1.out.below b2)
        replace Y2 := Base.hide (Y2.out.below b2)
        replace Y3 := Base.hide (Y3.out.below b2)
        clear b2
        have n7 := Base.hide (show (n2' : Int) ≤ 1048576 by omega)
        obtain ⟨-, u0, u1', u2, -⟩ := KA.out
        obtain ⟨-, t0, t1, t2, -⟩ := KB.out
        go_wp2_with fail
        refine (Vo.sameIntsE W7.heap.size p1 v1 n2' k1 h1 A.P W7 X1.out.ints (Y1.out.ints.same (fun j hj => (SM.out j).1)) n7.out).mono ?_; rintro e Q1 ⟨rfl, bb⟩
        clear u0 u1' u2 t0 t1 t2 hW7
        replace FX := Base.hide (FX.out.below bb)
        replace KA := Base.hide (KA.out.below bb)
        replace KB := Base.hide (KB.out.below bb)
        replace X1 := Base.hide (X1.out.below bb)
        replace X2 := Base.hide (X2.out.below bb)
        replace X3 := Base.hide (X3.out.below bb)
        replace Y1 := Base.hide (Y1.out.below bb)
        replace Y2 := Base.hide (Y2.out.below bb)
        replace Y3 := Base.hide (Y3.out.below bb)
        clear bb
        obtain ⟨-, u0, u1', u2, -⟩ := KA.out
        obtain ⟨-, t0, t1, t2, -⟩ := KB.out
        go_wp2_with fail
        refine (Vo.sameIntsE Q1.heap.size p2 v2 n2' k2 h2 A.F Q1 X2.out.ints (Y2.out.ints.same (fun j hj => (SM.out j).2.1)) n7.out).mono ?_; rintro e Q2 ⟨rfl, bb⟩
        clear u0 u1' u2 t0 t1 t2
        replace FX := Base.hide (FX.out.below bb)
        replace KA := Base.hide (KA.out.below bb)
        replace KB := Base.hide (KB.out.below bb)
        replace X1 := Base.hide (X1.out.below bb)
        replace X2 := Base.hide (X2.out.below bb)
        replace X3 := Base.hide (X3.out.below bb)
        replace Y1 := Base.hide (Y1.out.below bb)
        replace Y2 := Base.hide (Y2.out.below bb)
        replace Y3 := Base.hide (Y3.out.below bb)
        clear bb
        obtain ⟨-, u0, u1', u2, -⟩ := KA.out
        obtain ⟨-, t0, t1, t2, -⟩ := KB.out
        go_wp2_with fail
        refine (Vo.sameIntsE Q2.heap.size p3 v3 n2' k3 h3 A.S Q2 X3.out.ints (Y3.out.ints.same (fun j hj => (SM.out j).2.2)) n7.out).mono ?_; rintro e Q3 ⟨rfl, bb⟩
        clear u0 u1' u2 t0 t1 t2
        replace FX := Base.hide (FX.out.below bb)
        replace KA := Base.hide (KA.out.below bb)
        replace KB := Base.hide (KB.out.below bb)
        replace X1 := Base.hide (X1.out.below bb)
        replace X2 := Base.hide (X2.out.below bb)
        replace X3 := Base.hide (X3.out.below bb)
        replace Y1 := Base.hide (Y1.out.below bb)
        replace Y2 := Base.hide (Y2.out.below bb)
        replace Y3 := Base.hide (Y3.out.below bb)
        clear bb
        go_wp2_with fail
        go_ret
        exact ⟨rfl, FX.out.b⟩

set_option maxRecDepth 100000 in
theorem lifted (os : Os) (started : os.Started) (H : Type) (enc : TypeId × Value → H) :
    ReturnsInHanded {} Try.checked os 4 .any (Rows.fnFactorSpec.pre6 enc Try.prog Try.f4 Rows.fnFactorRow.domain false) (Rows.fnFactorSpec.post enc Try.prog Try.f4 false true false false) := by
  refine returnsInHanded_of_change (C := Try.checked) own started (by kernel_rfl) Try.func4
    (ChangeSpec.witness6 (enc := enc) (C := Try.checked) false ⟨#[], #[.slice none 0 0, .slice none 0 0], []⟩ 8 (by kernel_rfl) (by kernel_rfl) (by kernel_rfl) (by kernel_rfl)) ?_
  intro W base args ds gs before hval0 hW hcnd _
  have hval : ∀ (j : Nat) t v, Try.f4.params[j]? = some t → args[j]? = some v → Value.okWide Try.prog W .any base t v := hval0
  have hW' := hW
  obtain ⟨p, q, hA0, hV, rfl, hfz, hnd⟩ := hW
  have hA : DataW.TrodAll enc Try.prog W 0 (fun _ => true) true Try.f4.params.toList args.toList ds p := hA0
  rw [Try.params4] at hA hval
  obtain ⟨v0, vs0, d0, ds0, p0, q0, hargs, rfl, rfl, h0, rst0⟩ := trodAll_cons hA
  obtain ⟨v1, vs1, d1, ds1, p1, q1, rfl, rfl, rfl, h1, rst1⟩ := trodAll_cons rst0
  obtain ⟨rfl, rfl, rfl⟩ := trodAll_nil rst1
  obtain rfl : args = #[v0, v1] := by cases args; simp_all
  obtain ⟨rfl, rfl⟩ := trodVars_none hV
  have k0 := h0
  have lt0 : ∀ x ∈ p0, x.block < W.heap.size := by obtain ⟨m, hm⟩ := k0; exact DataW.trod_lt m _ _ _ hm
  obtain ⟨a0, len0, cap0, rfl⟩ := okWide_slice Try.underlying22 (hval 0 22 v0 rfl rfl)
  have w0 : Base.Code W.heap.size W a0 len0 := by
    obtain ⟨fuel, hf⟩ := h0
    rcases open_ints Try.underlying22 Try.underlying5 (by kernel_rfl) hf with ⟨hcs, _⟩ | ⟨x, l, c, zs, hcs, _, hl, hm, hz, _, hcell, hwz⟩
    · simp [Value.cells] at hcs
      obtain ⟨rfl, rfl, rfl⟩ := hcs
      exact ⟨by omega, .inl rfl⟩
    · simp [Value.cells] at hcs
      obtain ⟨rfl, rfl, rfl⟩ := hcs
      exact Base.code_of hl hm (by simpa using hz) hcell hwz
  have k1 := h1
  have lt1 : ∀ x ∈ p1, x.block < W.heap.size := by obtain ⟨m, hm⟩ := k1; exact DataW.trod_lt m _ _ _ hm
  obtain ⟨a1, len1, cap1, rfl⟩ := okWide_slice Try.underlying22 (hval 1 22 v1 rfl rfl)
  have w1 : Base.Code W.heap.size W a1 len1 := by
    obtain ⟨fuel, hf⟩ := h1
    rcases open_ints Try.underlying22 Try.underlying5 (by kernel_rfl) hf with ⟨hcs, _⟩ | ⟨x, l, c, zs, hcs, _, hl, hm, hz, _, hcell, hwz⟩
    · simp [Value.cells] at hcs
      obtain ⟨rfl, rfl, rfl⟩ := hcs
      exact ⟨by omega, .inl rfl⟩
    · simp [Value.cells] at hcs
      obtain ⟨rfl, rfl, rfl⟩ := hcs
      exact Base.code_of hl hm (by simpa using hz) hcell hwz
  clear hA0 hval0
  refine (walk a0 len0 cap0 a1 len1 cap1 W w0 w1).mono fun e W' ⟨he, bel⟩ => ?_
  subst he
  exact ⟨_, rfl, _, _, _, [], _, [], hW', trodAll_mk1 (shut_bool Try.underlying4 _), (trodAll_cons_mk (Below.trod laidOut (by kernel_rfl) (of_decide_eq_true (by kernel_rfl)) k0 bel lt0) (trodAll_cons_mk (Below.trod laidOut (by kernel_rfl) (of_decide_eq_true (by kernel_rfl)) k1 bel lt1) trodAll_mk0)), rfl, bel.frame _, fun h => by cases h⟩

theorem over : Rows.fnFactorRow.holds Try.pinned (OpenSpec.ofChange Rows.fnFactorSpec) :=
  OpenClaim.holds_of_wide 4 Try.f4 rfl rfl rfl rfl rfl rfl rfl ⟨rfl, rfl, rfl, rfl, rfl⟩ rfl rfl rfl rfl rfl (by kernel_rfl) Try.func4 (by kernel_rfl)
    (of_decide_eq_true (by kernel_rfl)) (by unfold Func.isWrapper; first | (rw [if_pos (by decide +kernel)]; kernel_rfl) | (rw [if_neg (by decide +kernel)]; exact ⟨rfl, rfl⟩))
    (fun os started H enc _ => lifted os started H enc)

theorem proved : Rows.FnFactorSaid := over
#print axioms proved
end Go.Proofs.Ytflbhlepmjiejaa.fnFactor
