/-
  Proved: whatever the arguments, 'FnExactRunOpt' returns true: the landed function answers as its model, and what came in reads as it did. No condition.
-/
import Derived.Test.YtajljeegkmkkcaaRows
import Derived.Test.YtajljeegkmkkcaaVl
import Derived.Test.YtajljeegkmkkcaaIa
import Derived.Test.YtajljeegkmkkcaaNea
import Derived.Test.YtajljeegkmkkcaaIb
import Derived.Test.YtajljeegkmkkcaaIc
import Derived.Test.YtajljeegkmkkcaaIe
import Derived.Test.YtajljeegkmkkcaaEb
import Derived.Test.YtajljeegkmkkcaaEg
import Derived.Test.YtajljeegkmkkcaaVp
import Derived.Test.YtajljeegkmkkcaaVs
import Derived.Test.YtajljeegkmkkcaaVq
import Derived.Test.YtajljeegkmkkcaaVo
import Derived.Test.YtajljeegkmkkcaaVm
import Derived.Test.YtajljeegkmkkcaaVn
import Derived.Test.YtajljeegkmkkcaaVc
import Derived.Test.YtajljeegkmkkcaaEh
import Derived.Test.YtajljeegkmkkcaaEa
import Derived.Test.YtajljeegkmkkcaaEc
import Derived.Test.YtajljeegkmkkcaaAr
import Derived.Test.YtajljeegkmkkcaaEf
import Derived.Test.YtajljeegkmkkcaaQt
import Derived.Test.YtajljeegkmkkcaaEp
import Derived.Test.YtajljeegkmkkcaaOi
import Derived.Test.YtajljeegkmkkcaaEi
import Derived.Test.YtajljeegkmkkcaaOs
import Derived.Test.YtajljeegkmkkcaaEkp
import Derived.Test.YtajljeegkmkkcaaEk
import Derived.Test.YtajljeegkmkkcaaOj
import Derived.Test.YtajljeegkmkkcaaQf
import Derived.Test.YtajljeegkmkkcaaOm
import Derived.Test.YtajljeegkmkkcaaOo
import Derived.Test.YtajljeegkmkkcaaOma
import Derived.Test.YtajljeegkmkkcaaOmb
import Derived.Test.YtajljeegkmkkcaaOmc
import Derived.Test.YtajljeegkmkkcaaOt
import Derived.Test.YtajljeegkmkkcaaEj
import Derived.Test.YtajljeegkmkkcaaOu
import Derived.Test.YtajljeegkmkkcaaQj
import Derived.Test.YtajljeegkmkkcaaOq
import Derived.Test.YtajljeegkmkkcaaOv
import Derived.Test.YtajljeegkmkkcaaVv
import Derived.Test.YtajljeegkmkkcaaLza
import Derived.Test.YtajljeegkmkkcaaOw
import Derived.Test.YtajljeegkmkkcaaOx
import Derived.Test.YtajljeegkmkkcaaOy
import Derived.Test.YtajljeegkmkkcaaMra
import Derived.Test.YtajljeegkmkkcaaRbc
import Derived.Test.YtajljeegkmkkcaaRcc
import Derived.Test.YtajljeegkmkkcaaMrb
import Derived.Test.YtajljeegkmkkcaaRdc
import Derived.Test.YtajljeegkmkkcaaMrc
import Derived.Test.YtajljeegkmkkcaaRfc
import Derived.Test.YtajljeegkmkkcaaRhc
import Derived.Test.YtajljeegkmkkcaaMrd
import Derived.WalkKit
import Derived.ProofKit
import Derived.OpenShut
import Derived.ShutString
import Derived.ChangeOld
import Derived.Below
import Derived.Lib.SmallJoins
import Derived.OpenVars
import Derived.ChangeVars
import Derived.Deep.RegionHeld3
namespace Go.Proofs.Ytajljeegkmkkcaa.fnExactRunOpt
open Go.ChangeShapes Go.WideShapes Go.ChangeAt Go.RowKit Go.Joins
open Go.ChangeMaps (open_string shut_string)
set_option linter.unusedVariables false
set_option linter.unusedSimpArgs false

theorem own : ownKnob Try.prog.godebug = none := by kernel_rfl
theorem laidOut : laidOutB Try.prog = true := by kernel_rfl

set_option maxRecDepth 100000 in
set_option maxHeartbeats 4000000 in
theorem walk (x0a x0b x0c x0d x0e x0f x0g x0h x0i x0j x0k : Int) (bx0a : Vl.bd x0a) (bx0b : Vl.bd x0b) (bx0c : Vl.bd x0c) (bx0d : Vl.bd x0d) (bx0e : Vl.bd x0e) (bx0f : Vl.bd x0f) (bx0g : Vl.bd x0g) (bx0h : Vl.bd x0h) (bx0i : Vl.bd x0i) (bx0j : Vl.bd x0j) (bx0k : Vl.bd x0k) (a1 b1 c1 : Option Addr) (r1 q1 s1 cap1 dap1 eap1 : Nat) (n1 f1 o1 : Int) (bn1 : Vl.bd n1) (bf1 : Vl.bd f1) (bo1 : Vl.bd o1) (a2 : Option Addr) (r2 cap2 : Nat) (w : World) (wa1 : Vl.Arg w a1 r1) (wb1 : Vl.Arg w b1 q1) (wc1 : Vl.Arg w c1 s1) (w2 : Vo.Arg2 w a2 r2) :
    Calls Try.prog 4 #[.agg #[.int .i64 x0a, .int .i64 x0b, .int .i64 x0c, .int .i64 x0d, .int .i64 x0e, .int .i64 x0f, .int .i64 x0g, .int .i64 x0h, .int .i64 x0i, .int .i64 x0j, .int .i64 x0k], .agg #[.slice a1 r1 cap1, .slice b1 q1 dap1, .slice c1 s1 eap1, .int .i64 n1, .int .i64 f1, .int .i64 o1], .slice a2 r2 cap2] w fun e w' => e = .returned (.bool true) ∧ Below w.heap.size w w' := by
  obtain ⟨hr, P, h1⟩ := wa1
  obtain ⟨hq, Q, h2⟩ := wb1
  obtain ⟨hs, S, h3⟩ := wc1
  obtain ⟨ht, D, h4, hl4⟩ := w2
  have H1 := Vl.hide h1
  have H2 := Vl.hide h2
  have H3 := Vl.hide h3
  have H4 := Vl.hide h4
  have HL4 := Vl.hide hl4
  have HT2 := Vl.hide ht
  have HRB := Vl.hide (show Vo.Rl.bds ⟨x0a, x0b, x0c, x0d, x0e, x0f, x0g, x0h, x0i, x0j, x0k⟩ from ⟨⟨bx0a, bx0b, bx0c, bx0d, bx0e⟩, bx0f, bx0g, bx0h, bx0i, bx0j, bx0k⟩)
  have HOB := Vl.hide (And.intro bn1 (And.intro bf1 bo1))
  clear h1 h2 h3 h4 hl4 ht bn1 bf1 bo1 bx0a bx0b bx0c bx0d bx0e bx0f bx0g bx0h bx0i bx0j bx0k
  obtain ⟨WA, hWA⟩ : ∃ WA, w.alloc (.cells #[.int .i64 x0a, .int .i64 x0b, .int .i64 x0c, .int .i64 x0d, .int .i64 x0e, .int .i64 x0f, .int .i64 x0g, .int .i64 x0h, .int .i64 x0i, .int .i64 x0j, .int .i64 x0k] 25) = WA := ⟨_, rfl⟩
  have nWA : Below w.heap.size w WA := hWA ▸ (Below.refl _ _).alloc (Nat.le_refl _) _
  have KA := Vl.hide (show Vo.Box11 WA w.heap.size x0a x0b x0c x0d x0e x0f x0g x0h x0i x0j x0k from hWA ▸ Vo.box11_new _ x0a x0b x0c x0d x0e x0f x0g x0h x0i x0j x0k _)
  obtain ⟨WB, hWB⟩ : ∃ WB, WA.alloc (.cells #[.slice a1 r1 cap1, .slice b1 q1 dap1, .slice c1 s1 eap1, .int .i64 n1, .int .i64 f1, .int .i64 o1] 28) = WB := ⟨_, rfl⟩
  have nWB : Below WA.heap.size WA WB := hWB ▸ (Below.refl _ _).alloc (Nat.le_refl _) _
  have KB := Vl.hide (show Vo.BoxV6 WB WA.heap.size (.slice a1 r1 cap1) (.slice b1 q1 dap1) (.slice c1 s1 eap1) (.int .i64 n1) (.int .i64 f1) (.int .i64 o1) from hWB ▸ Vo.boxV6_new _ _ _ _ _ _ _ _)
  replace KA := Vl.hide (KA.out.below nWB)
  have BW := Vl.hide (nWA.trans (nWB.mono nWA.size))
  clear nWA nWB
  obtain ⟨-, cB0, cB1, cB2, cB3, cB4, cB5⟩ := KB.out
  go_enter Try.func4, Try.ntmps4
  go_wp2_with fail
  refine (Vo.szOpt a1 b1 c1 r1 q1 s1 cap1 dap1 eap1 n1 f1 o1 _ hr hq hs).mono ?_
  rintro e W3 ⟨x, rfl, hx, bb⟩
  replace KA := Vl.hide (KA.out.below bb)
  replace KB := Vl.hide (KB.out.below bb)
  replace BW := Vl.hide (BW.out.trans (bb.mono BW.out.size))
  clear bb hWA hWB cB0 cB1 cB2 cB3 cB4 cB5
  have HX := Vl.hide hx
  clear hx
  by_cases x0 : x < 0
  · go_wp2_with fail
    go_ret
    exact ⟨rfl, BW.out⟩
  obtain ⟨-, lr, lq, ls⟩ := HX.out (by omega)
  have x0' : decide (x < 0) = false := decide_eq_false x0
  have X1 := Vl.hide (show 0 ≤ x ∧ x ≤ 1048576 from ⟨by omega, (HX.out (by omega)).1⟩)
  clear x0 HX hr hq hs
  go_wp2_with fail
  refine (Vo.szIntSS W3.heap.size a2 r2 cap2 D x W3 (Nat.le_refl _) ((H4.out.below BW.out).mono BW.out.size) HT2.out HL4.out X1.out.1 X1.out.2).mono ?_
  rintro e Wq ⟨xx, rfl, hxx, hq⟩; have hq := hq.symm; subst hq
  have HXX := Vl.hide hxx
  clear hxx
  by_cases xx0 : xx < 0
  · go_wp2_with fail
    go_ret
    exact ⟨rfl, BW.out⟩
  obtain ⟨-, lg, lsm⟩ := HXX.out (by omega)
  have xx0' : decide (xx < 0) = false := decide_eq_false xx0
  have NL := Vl.hide (Vo.llen_of lsm)
  have SL := Vl.hide lsm
  clear xx0 HXX X1 x0' lsm
  obtain ⟨m, N, KK, ml, hS, hI⟩ := Vo.runUni ⟨x0a, x0b, x0c, x0d, x0e, x0f, x0g, x0h, x0i, x0j, x0k⟩ r1 q1 s1 r2 ⟨P, Q, S, n1, f1, o1⟩ D HRB.out HOB.out lr lq ls lg NL.out
  dsimp only at hS hI
  have HS := Vl.hide hS
  have HI := Vl.hide hI
  clear hS hI
  have LL := Vl.hide (And.intro lr (And.intro lq (And.intro ls (And.intro lg ml))))
  have CT := Vl.hide (fun (W : World) (hW : Below w.heap.size w W) => Vo.toOpt w.heap.size a1 b1 c1 r1 q1 s1 cap1 dap1 eap1 P Q S n1 f1 o1 W hW.size (H1.out.below hW) (H2.out.below hW) (H3.out.below hW) lr lq ls)
  have CG := Vl.hide (fun (W : World) (hW : Below w.heap.size w W) => Vo.toIntSS w.heap.size a2 r2 cap2 D W hW.size (H4.out.below hW) lg NL.out)
  have FA := Vl.hide (fun (Z : World) (hZ : Below W3.heap.size W3 Z) => KA.out.below hZ)
  have FB := Vl.hide (fun (Z : World) (hZ : Below W3.heap.size W3 Z) => KB.out.below hZ)
  have FW := BW
  clear lr lq ls lg ml
  go_wp2_with fail
  refine Ql.factsK2 (Below W3.heap.size) (fun _ _ _ => Below.trans) 12 11 (fun i => i != 5) (Below.refl _ _).drew (by kernel_rfl) (by kernel_rfl) (Vo.GG 11) (fun i s0 wx => match i with | 0 => s0 0 = .agg #[.int .i64 x0a, .int .i64 x0b, .int .i64 x0c, .int .i64 x0d, .int .i64 x0e, .int .i64 x0f, .int .i64 x0g, .int .i64 x0h, .int .i64 x0i, .int .i64 x0j, .int .i64 x0k] | 1 => s0 1 = .agg #[.int .i64 x0a, .int .i64 x0b, .int .i64 x0c, .int .i64 x0d, .int .i64 x0e, .int .i64 x0f, .int .i64 x0g, .int .i64 x0h, .int .i64 x0i, .int .i64 x0j, .int .i64 x0k] | 2 => s0 2 = .agg #[.slice a1 r1 cap1, .slice b1 q1 dap1, .slice c1 s1 eap1, .int .i64 n1, .int .i64 f1, .int .i64 o1] | 3 => ∃ g1 g2 g3 : Nat, s0 3 = Vo.OVal (some ⟨g1, 0, none⟩) (some ⟨g2, 0, none⟩) (some ⟨g3, 0, none⟩) r1 q1 s1 r1 q1 s1 n1 f1 o1 ∧ (g1 < wx.heap.size ∧ g2 < wx.heap.size ∧ g3 < wx.heap.size) ∧ Vl.Rw wx g1 r1 P ∧ Vl.Rw wx g2 q1 Q ∧ Vl.Rw wx g3 s1 S | 4 => s0 4 = .slice a2 r2 cap2 | 5 => ∃ (g : Nat) (M : Nat → Vo.LV), s0 5 = .slice (some ⟨g, 0, none⟩) r2 r2 ∧ Vo.LL wx.heap.size wx (some ⟨g, 0, none⟩) r2 M ∧ Vo.LSame r2 D M | 6 => ∃ (p f q : Option Addr) (c d g : Nat), s0 6 = .tuple #[.agg #[.slice p m c, .slice f m d, .slice q m g, .int .i64 N.c, .int .i64 N.f, .int .i64 N.g], .int .i64 KK] ∧ (Vl.OwnL W3.heap.size wx p m N.P ∧ Vl.OwnL W3.heap.size wx f m N.F ∧ Vl.OwnL W3.heap.size wx q m N.S) ∧ ((∀ k k', Vl.Blk p m k → Vl.Blk f m k' → k < k') ∧ (∀ k k', Vl.Blk f m k → Vl.Blk q m k' → k < k')) | 7 => (∃ (p f q : Option Addr) (c d g : Nat), s0 7 = .tuple #[.agg #[.slice p m c, .slice f m d, .slice q m g, .int .i64 N.c, .int .i64 N.f, .int .i64 N.g], .int .i64 KK]) ∧ s0 7 = s0 6 | 8 => (∃ (p f q : Option Addr) (c d g : Nat), s0 8 = .agg #[.slice p m c, .slice f m d, .slice q m g, .int .i64 N.c, .int .i64 N.f, .int .i64 N.g]) ∧ ∀ u v, s0 7 = .tuple #[u, v] → s0 8 = u | 9 => ∀ u v, s0 7 = .tuple #[u, v] → s0 9 = v | 10 => ∃ (g : Nat) (V : Nat → Value), s0 10 = .pointer (some ⟨g, 0, none⟩) ∧ W3.heap.size ≤ g ∧ Vo.C6 wx g V ∧ Vo.Ls V | 11 => ∀ (gg : Nat) (p f q : Option Addr) (c d g : Nat), s0 10 = .pointer (some ⟨gg, 0, none⟩) → s0 8 = .agg #[.slice p m c, .slice f m d, .slice q m g, .int .i64 N.c, .int .i64 N.f, .int .i64 N.g] → Vo.C6 wx gg (Vo.OV p f q m c d g N.c N.f N.g) | _ => True) ?loc ?stable ?steps ?rest
  case loc =>
    intro i s s' w1 hs h
    match i, h with
    | 0, h => exact (hs 0 (.inl rfl)).symm.trans h
    | 1, h => exact (hs 1 (.inl rfl)).symm.trans h
    | 2, h => exact (hs 2 (.inl rfl)).symm.trans h
    | 3, ⟨g1, g2, g3, h1, h2⟩ => exact ⟨g1, g2, g3, (hs 3 (.inl rfl)).symm.trans h1, h2⟩
    | 4, h => exact (hs 4 (.inl rfl)).symm.trans h
    | 5, ⟨g, M, h1, h2⟩ => exact ⟨g, M, (hs 5 (.inl rfl)).symm.trans h1, h2⟩
    | 6, ⟨p, f, q, c, d, g, h1, h2⟩ => exact ⟨p, f, q, c, d, g, (hs 6 (.inl rfl)).symm.trans h1, h2⟩
    | 7, ⟨⟨p, f, q, c, d, g, h0⟩, h⟩ => exact ⟨⟨p, f, q, c, d, g, (hs 7 (.inl rfl)).symm.trans h0⟩, (hs 7 (.inl rfl)).symm.trans (h.trans (hs 6 (.inr (by kernel_rfl))))⟩
    | 8, ⟨⟨p, f, q, c, d, g, h0⟩, h⟩ => exact ⟨⟨p, f, q, c, d, g, (hs 8 (.inl rfl)).symm.trans h0⟩, fun u v e => (hs 8 (.inl rfl)).symm.trans (h u v ((hs 7 (.inr (by kernel_rfl))).trans e))⟩
    | 9, h => exact fun u v e => (hs 9 (.inl rfl)).symm.trans (h u v ((hs 7 (.inr (by kernel_rfl))).trans e))
    | 10, ⟨g, V, h1, h2⟩ => exact ⟨g, V, (hs 10 (.inl rfl)).symm.trans h1, h2⟩
    | 11, h => exact fun gg p f q c d g e1 e2 => h gg p f q c d g ((hs 10 (.inr (by kernel_rfl))).trans e1) ((hs 8 (.inr (by kernel_rfl))).trans e2)
    | _ + 12, h => exact h
  case stable =>
    intro i k s w1 w2 hne hkn hkp h hb hg
    match i, h, hne, hkp with
    | 0, h, _, _ => exact h
    | 1, h, _, _ => exact h
    | 2, h, _, _ => exact h
    | 3, ⟨g1, g2, g3, h1, ⟨z1, z2, z3⟩, q1, q2, q3⟩, _, _ => exact ⟨g1, g2, g3, h1, ⟨Nat.lt_of_lt_of_le z1 hb.size, Nat.lt_of_lt_of_le z2 hb.size, Nat.lt_of_lt_of_le z3 hb.size⟩, hg.rw q1 z1, hg.rw q2 z2, hg.rw q3 z3⟩
    | 4, h, _, _ => exact h
    | 5, ⟨g, M, h1, q1, q2⟩, _, hkp =>
      have bx := hg.1 (fun e => by have := hkp e; cases this)
      exact ⟨g, M, h1, (q1.below bx).mono bx.size, q2⟩
    | 6, ⟨p, f, q, c, d, g, h1, ⟨q1, q2, q3⟩, h3⟩, _, _ => exact ⟨p, f, q, c, d, g, h1, ⟨hg.own q1, hg.own q2, hg.own q3⟩, h3⟩
    | 7, h, _, _ => exact h
    | 8, h, _, _ => exact h
    | 9, h, _, _ => exact h
    | 10, ⟨g, V, h1, h2, h3, h4⟩, _, _ => obtain ⟨V', h3, h4⟩ := hg.six h3 h4; exact ⟨g, V', h1, h2, h3, h4⟩
    | 11, h, hne, _ => exact fun gg p f q c d g e1 e2 => hg.six0 hne (h gg p f q c d g e1 e2)
    | _ + 12, h, _, _ => exact h
  case steps =>
    intro i o hi ho s0 A wS hb hk hA hO
    match i, hi, ho, hk with
    | 0, _, ho, hk =>
      cases ho
      refine Qg.landsG_free rfl ?_
      exact Qf.lands_val _ _ (Vo.runLoadRl rfl ((hO 3 (by rfl)).trans rfl) (FA.out wS hb)) (Vo.gp (by decide) hb.size (Below.refl _ _) (by simp [Qf.upd]))
    | 1, _, ho, hk =>
      cases ho
      refine Qg.landsG_free rfl ?_
      have h0 := hA 0 _ 30 (by decide) rfl rfl (by simp)
      have e0 := hk 0 (by kernel_rfl) (.inr (.inr rfl))
      rw [e0] at h0
      refine Qf.lands_call 7 _ _ rfl (enters_of Try.func7 (by kernel_rfl) rfl) _ (by simp [h0]) ((Vo.toRule x0a x0b x0c x0d x0e x0f x0g x0h x0i x0j x0k wS).mono ?_)
      rintro e wT ⟨rfl, bT⟩
      exact ⟨_, rfl, Vo.gp (by decide) hb.size bT (by simp [Qf.upd])⟩
    | 2, _, ho, hk =>
      cases ho
      refine Qg.landsG_free rfl ?_
      exact Qf.lands_val _ _ (Vo.runLoadOL rfl ((hO 4 (by rfl)).trans rfl) (FB.out wS hb)) (Vo.gp (by decide) hb.size (Below.refl _ _) (by simp [Qf.upd]))
    | 3, _, ho, hk =>
      cases ho
      refine Qg.landsG_free rfl ?_
      have h2 := hA 2 _ 32 (by decide) rfl rfl (by simp)
      have e2 := hk 2 (by kernel_rfl) (.inr (.inr rfl))
      rw [e2] at h2
      refine Qf.lands_call 8 _ _ rfl (enters_of Try.func8 (by kernel_rfl) rfl) _ (by simp [h2]; rfl) ((CT.out wS (FW.out.trans (hb.mono FW.out.size))).mono ?_)
      rintro e wT ⟨g1, g2, g3, rfl, ⟨y1, y2, y3, y4⟩, t1, t2, t3, bT⟩
      exact ⟨_, rfl, Vo.gp (by decide) hb.size bT ⟨g1, g2, g3, by simp [Qf.upd], ⟨by omega, by omega, y4⟩, t1, t2, t3⟩⟩
    | 4, _, ho, hk =>
      cases ho
      refine Qg.landsG_free rfl ?_
      exact Qf.lands_move _ rfl (.slice a2 r2 cap2) ((hO 2 (by rfl)).trans rfl) (Vo.gp (by decide) hb.size (Below.refl _ _) (by simp [Qf.upd]))
    | 5, _, ho, hk =>
      cases ho
      refine Qg.landsG_free rfl ?_
      have h4 := hA 4 _ 34 (by decide) rfl rfl (by simp)
      have e4 := hk 4 (by kernel_rfl) (.inr (.inr rfl))
      rw [e4] at h4
      refine Qf.lands_call 18 _ _ rfl (enters_of Try.func18 (by kernel_rfl) rfl) _ (by simp [h4]) ((CG.out wS (FW.out.trans (hb.mono FW.out.size))).mono ?_)
      rintro e wT ⟨M1, rfl, t1, s1, bT⟩
      exact ⟨_, rfl, Vo.gp (by decide) hb.size bT ⟨wS.heap.size, M1, by simp [Qf.upd], t1.read, s1⟩⟩
    | 6, _, ho, hk =>
      cases ho
      refine Qg.landsG_free rfl ?_
      have h1 := hA 1 _ 31 (by decide) rfl rfl (by simp)
      have e1 := hk 1 (by kernel_rfl) (.inr (.inr rfl))
      rw [e1] at h1
      have h3 := hA 3 _ 33 (by decide) rfl rfl (by simp)
      obtain ⟨g1, g2, g3, ea, ⟨z1, z2, z3⟩, t1, t2, t3⟩ := hk 3 (by kernel_rfl) (.inr (.inr rfl))
      rw [ea] at h3
      have h5 := hA 5 _ 35 (by decide) rfl rfl (by simp)
      obtain ⟨g5, M5, eb, t5, s5⟩ := hk 5 (by kernel_rfl) (.inl (by kernel_rfl))
      rw [eb] at h5
      refine Qf.lands_call 17 _ _ rfl (enters_of Try.func17 (by kernel_rfl) rfl) _ (by first | (simp [h1, h3, h5]; done) | (simp [h1, h3, h5]; rfl)) ((HS.out r1 q1 s1 r2 (some ⟨g1, 0, none⟩) (some ⟨g2, 0, none⟩) (some ⟨g3, 0, none⟩) (some ⟨g5, 0, none⟩) M5 wS (t1.ints z1) (t2.ints z2) (t3.ints z3) (fun e => by cases e) (fun e => by cases e) (fun e => by cases e) s5 t5).mono ?_)
      rintro e wT ⟨p, f, q, c, d, g, rfl, ⟨o1', o2', o3'⟩, od, bT⟩
      exact ⟨_, rfl, Vo.gp (by decide) hb.size bT ⟨p, f, q, c, d, g, by simp [Qf.upd], ⟨o1'.mono hb.size, o2'.mono hb.size, o3'.mono hb.size⟩, od⟩⟩
    | 7, _, ho, hk =>
      cases ho
      refine Qg.landsG_free rfl ?_
      have h6 := hA 6 _ 36 (by decide) rfl rfl (by simp)
      obtain ⟨p, f, q, c, d, g, e6, -⟩ := hk 6 (by kernel_rfl) (.inr (.inr rfl))
      exact Qf.lands_move _ rfl _ h6 (Vo.gp (by decide) hb.size (Below.refl _ _) ⟨⟨p, f, q, c, d, g, by simp [Qf.upd, e6]⟩, by simp [Qf.upd]⟩)
    | 8, _, ho, hk =>
      cases ho
      refine Qg.landsG_free rfl ?_
      have h7 := hA 7 _ 29 (by decide) rfl rfl (by simp)
      obtain ⟨⟨p, f, q, c, d, g, e7⟩, -⟩ := hk 7 (by kernel_rfl) (.inr (.inr rfl))
      rw [e7] at h7
      exact Qf.lands_val _ _ (Vo.runExt0 rfl h7) (Vo.gp (by decide) hb.size (Below.refl _ _) ⟨⟨p, f, q, c, d, g, by simp [Qf.upd]⟩, (fun u v e => by
        have e2 : s0 7 = .tuple #[u, v] := by simpa [Qf.upd] using e
        rw [e7] at e2
        cases e2
        simp [Qf.upd])⟩)
    | 9, _, ho, hk =>
      cases ho
      refine Qg.landsG_free rfl ?_
      have h7 := hA 7 _ 29 (by decide) rfl rfl (by simp)
      obtain ⟨⟨p, f, q, c, d, g, e7⟩, -⟩ := hk 7 (by kernel_rfl) (.inr (.inr rfl))
      rw [e7] at h7
      exact Qf.lands_val _ _ (Vo.runExt1 rfl h7) (Vo.gp (by decide) hb.size (Below.refl _ _) (fun u v e => by
        have e2 : s0 7 = .tuple #[u, v] := by simpa [Qf.upd] using e
        rw [e7] at e2
        cases e2
        simp [Qf.upd]))
    | 10, _, ho, hk =>
      cases ho
      refine Qg.landsG_free rfl ?_
      exact Qf.lands_val _ _ (Vo.runAllocO rfl) (Vo.gp (by decide) hb.size ((Below.refl _ _).alloc (Nat.le_refl _) _) ⟨_, _, by simp [Qf.upd], hb.size, ⟨fun i hi => by rcases (by omega : i = 0 ∨ i = 1 ∨ i = 2 ∨ i = 3 ∨ i = 4 ∨ i = 5) with rfl | rfl | rfl | rfl | rfl | rfl <;> simp [go_sem, Vo.OV], fun i => by simp [go_sem], by simp⟩, Vo.ls_OV none none none 0 0 0 0 0 0 0⟩)
    | 11, _, ho, hk =>
      have ho' : o.op = Op.store 30 (.tmp 8) (.tmp 37) := by cases ho; rfl
      refine Qg.landsG_free (show o.guard = none by cases ho; rfl) ?_
      have hp := hA 10 _ 8 (by decide) rfl rfl (by simp)
      obtain ⟨gg, V, ep, hgg, c6, lv⟩ := hk 10 (by kernel_rfl) (.inr (.inr rfl))
      rw [ep] at hp
      have hv := hA 8 _ 37 (by decide) rfl rfl (by simp)
      obtain ⟨⟨p, f, q, c, d, g, e8⟩, -⟩ := hk 8 (by kernel_rfl) (.inr (.inr rfl))
      rw [e8] at hv
      obtain ⟨w', run, c6', kk⟩ := Vo.runStoreO ho' hp hv c6
      refine Qf.lands_skip w' run (Vo.gs (kk.below hb.size (fun k e => by subst e; exact hgg)) ⟨gg, V, _, c6, lv, kk, c6', Vo.ls_OV ..⟩ (fun gg' p' f' q' c' d' g' a1 a2 => ?_))
      have a1 : s0 10 = .pointer (some ⟨gg', 0, none⟩) := by simpa [Qf.upd] using a1
      have a2 : s0 8 = .agg #[.slice p' m c', .slice f' m d', .slice q' m g', .int .i64 N.c, .int .i64 N.f, .int .i64 N.g] := by simpa [Qf.upd] using a2
      rw [ep] at a1
      cases a1
      rw [e8] at a2
      cases a2
      exact c6'
    | _ + 12, hi, _, _ => exact absurd hi (by omega)
  case rest =>
  intro s' X0 bz hk9
  have e0 := hk9 0 (by decide) rfl
  have e1 := hk9 1 (by decide) rfl
  have e2 := hk9 2 (by decide) rfl
  obtain ⟨_, _, _, e3, -⟩ := hk9 3 (by decide) rfl
  have e4 := hk9 4 (by decide) rfl
  obtain ⟨p, f, q, c, d, g, e6, ⟨oP, oF, oS⟩, od1, od2⟩ := hk9 6 (by decide) rfl
  have e7 := (hk9 7 (by decide) rfl).2
  have e8 := (hk9 8 (by decide) rfl).2 _ _ (Eq.trans e7 e6)
  have e9 := hk9 9 (by decide) rfl _ _ (Eq.trans e7 e6)
  rw [e6] at e7
  obtain ⟨gw, -, e10, hgg, -⟩ := hk9 10 (by decide) rfl
  have c6 := hk9 11 (by decide) rfl _ _ _ _ _ _ _ e10 e8
  have NA := Vl.hide (show Vo.Ans W3.heap.size gw p f q m c d g N.P N.F N.S N.c N.f N.g X0 from ⟨c6, hgg, oP, oF, oS, od1, od2⟩)
  have BZ := Vl.hide bz
  clear bz c6 oP oF oS od1 od2 hgg
  simp only [List.take_succ_cons, List.take_zero, List.drop_succ_cons, List.drop_zero, Qf.lay, Qf.all1, if_true, e0, e1, e2, e3, e4, e6, e7, e8, e9, e10]
  simp only [Act.put, List.setIfInBounds_toArray, List.set_cons_succ, List.set_cons_zero]
  clear hk9 e0 e1 e2 e3 e4 e6 e7 e8 e9 e10
  have PR := Vl.hide (show Vo.Pre w X0.heap.size w.heap.size WA.heap.size gw x0a x0b x0c x0d x0e x0f x0g x0h x0i x0j x0k (.slice a1 r1 cap1) (.slice b1 q1 dap1) (.slice c1 s1 eap1) (.int .i64 n1) (.int .i64 f1) (.int .i64 o1) p f q m c d g N.P N.F N.S N.c N.f N.g X0 from ⟨BW.out.trans (BZ.out.mono BW.out.size), ⟨Nat.le_trans BW.out.size BZ.out.size, Nat.lt_of_lt_of_le KA.out.1 BZ.out.size, Nat.lt_of_lt_of_le KB.out.1 BZ.out.size, NA.out.k.z, Nat.le_refl _⟩, KA.out.below BZ.out, KB.out.below BZ.out, NA.out.box, NA.out.P.ints, NA.out.F.ints, NA.out.S.ints⟩)
  clear NA BZ KA KB BW FA FB FW xx0'
  obtain ⟨-, cB0, cB1, cB2, cB3, cB4, cB5⟩ := PR.out.kb
  go_wp2_with fail
  refine (CT.out _ PR.out.bw).mono ?_
  rintro e W4 ⟨y1, y2, y3, rfl, ⟨z1, z2, z3, z4⟩, w1, w2, w3, bb⟩
  simp only [Vo.OVal]
  replace PR := Vl.hide (PR.out.below bb)
  have SX0 := Vl.hide bb.size
  clear bb cB0 cB1 cB2 cB3 cB4 cB5
  obtain ⟨W5, hW5⟩ : ∃ W5, W4.alloc (.cells #[.slice (some ⟨y1, 0, none⟩) r1 r1, .slice (some ⟨y2, 0, none⟩) q1 q1, .slice (some ⟨y3, 0, none⟩) s1 s1, .int .i64 n1, .int .i64 f1, .int .i64 o1] 30) = W5 := ⟨_, rfl⟩
  have n5 : Below W4.heap.size W4 W5 := hW5 ▸ (Below.refl _ _).alloc (Nat.le_refl _) _
  have KX := Vl.hide (show Vo.BoxV6 W5 W4.heap.size (.slice (some ⟨y1, 0, none⟩) r1 r1) (.slice (some ⟨y2, 0, none⟩) q1 q1) (.slice (some ⟨y3, 0, none⟩) s1 s1) (.int .i64 n1) (.int .i64 f1) (.int .i64 o1) from hW5 ▸ Vo.boxV6_new _ _ _ _ _ _ _ _)
  replace PR := Vl.hide (PR.out.below (n5.mono PR.out.z.2.2.2.2))
  have Q1 := Vl.hide (w1.below n5 (by omega))
  have Q2 := Vl.hide (w2.below n5 (by omega))
  have Q3 := Vl.hide (w3.below n5 z4)
  have ZZ := Vl.hide (And.intro z1 (And.intro z2 (And.intro z3 z4)))
  have S5 := Vl.hide n5.size
  clear n5 w1 w2 w3 z1 z2 z3 z4
  go_wp2_with fail
  refine (CG.out _ PR.out.bw).mono ?_
  rintro e W6 ⟨MX, rfl, t1, p1, bb⟩
  have z1 := t1.lt
  have MD := Vl.hide (show Vo.Mid X0.heap.size W6.heap.size W4.heap.size y1 y2 y3 W5.heap.size r1 q1 s1 0 n1 f1 o1 P Q S (fun _ => 0) W6 from ⟨KX.out.below bb, ⟨ZZ.out.1, ZZ.out.2.1, ZZ.out.2.2.1, ZZ.out.2.2.2, KX.out.1, z1, Nat.le_refl _⟩, Q1.out.below bb (by have := ZZ.out; have := S5.out; omega), Q2.out.below bb (by have := ZZ.out; have := S5.out; omega), Q3.out.below bb (by have := ZZ.out; have := S5.out; omega), fun t ht => absurd ht (by omega)⟩)
  have HX := Vl.hide (show Vo.RowsO W5.heap.size W6.heap.size W6 (some ⟨W5.heap.size, 0, none⟩) r2 MX from .inr ⟨_, rfl, Nat.le_refl _, z1, t1, fun i hi b hb => ((t1.own i hi).blk hb).2⟩)
  have PX := Vl.hide p1
  have NX := Vl.hide (show Vo.LLen r2 MX 1048576 from fun i hi => by rw [(PX.out i hi).1]; exact NL.out i hi)
  have SX := Vl.hide (show (Vo.lsum MX r2 : Int) ≤ 1048576 by rw [Vo.lsum_eq PX.out r2 (Nat.le_refl _)]; exact SL.out)
  replace PR := Vl.hide (PR.out.below (bb.mono PR.out.z.2.2.2.2))
  clear bb t1 z1 p1 Q1 Q2 Q3 ZZ S5 SX0 KX hW5
  obtain ⟨yv, hyv⟩ : ∃ yv, W4.heap.size = yv := ⟨_, rfl⟩
  obtain ⟨yx, hyx⟩ : ∃ yx, W5.heap.size = yx := ⟨_, rfl⟩
  simp only [hyv, hyx] at MD HX ⊢
  clear hyv hyx
  have FA := Vl.hide (fun (Z : World) (hZ : Below W6.heap.size W6 Z) => (PR.out.below (hZ.mono PR.out.z.2.2.2.2)).ka)
  have FX := Vl.hide (fun (Z : World) (hZ : Below W6.heap.size W6 Z) => MD.out.below hZ)
  have FY := Vl.hide (fun (Z : World) (hZ : Below W6.heap.size W6 Z) => HX.out.below hZ)
  go_wp2_with fail
  refine Ql.factsK2 (Below W6.heap.size) (fun _ _ _ => Below.trans) 10 9 (fun i => i != 99) (Below.refl _ _).drew (by kernel_rfl) (by kernel_rfl) (Vo.GG 9) (fun i s0 wx => match i with | 0 => s0 0 = .agg #[.int .i64 x0a, .int .i64 x0b, .int .i64 x0c, .int .i64 x0d, .int .i64 x0e, .int .i64 x0f, .int .i64 x0g, .int .i64 x0h, .int .i64 x0i, .int .i64 x0j, .int .i64 x0k] | 1 => s0 1 = .agg #[.int .i64 x0a, .int .i64 x0b, .int .i64 x0c, .int .i64 x0d, .int .i64 x0e, .int .i64 x0f, .int .i64 x0g, .int .i64 x0h, .int .i64 x0i, .int .i64 x0j, .int .i64 x0k] | 2 => s0 2 = .agg #[.slice (some ⟨y1, 0, none⟩) r1 r1, .slice (some ⟨y2, 0, none⟩) q1 q1, .slice (some ⟨y3, 0, none⟩) s1 s1, .int .i64 n1, .int .i64 f1, .int .i64 o1] | 3 => s0 3 = .slice (some ⟨yx, 0, none⟩) r2 r2 | 4 => ∃ (p f q : Option Addr) (c d g : Nat), s0 4 = .tuple #[.agg #[.slice p m c, .slice f m d, .slice q m g, .int .i64 N.c, .int .i64 N.f, .int .i64 N.g], .int .i64 KK] ∧ (Vl.OwnL W6.heap.size wx p m N.P ∧ Vl.OwnL W6.heap.size wx f m N.F ∧ Vl.OwnL W6.heap.size wx q m N.S) ∧ ((∀ k k', Vl.Blk p m k → Vl.Blk f m k' → k < k') ∧ (∀ k k', Vl.Blk f m k → Vl.Blk q m k' → k < k')) | 5 => (∃ (p f q : Option Addr) (c d g : Nat), s0 5 = .tuple #[.agg #[.slice p m c, .slice f m d, .slice q m g, .int .i64 N.c, .int .i64 N.f, .int .i64 N.g], .int .i64 KK]) ∧ s0 5 = s0 4 | 6 => (∃ (p f q : Option Addr) (c d g : Nat), s0 6 = .agg #[.slice p m c, .slice f m d, .slice q m g, .int .i64 N.c, .int .i64 N.f, .int .i64 N.g]) ∧ ∀ u v, s0 5 = .tuple #[u, v] → s0 6 = u | 7 => ∀ u v, s0 5 = .tuple #[u, v] → s0 7 = v | 8 => ∃ (g : Nat) (V : Nat → Value), s0 8 = .pointer (some ⟨g, 0, none⟩) ∧ W6.heap.size ≤ g ∧ Vo.C6 wx g V ∧ Vo.Ls V | 9 => ∀ (gg : Nat) (p f q : Option Addr) (c d g : Nat), s0 8 = .pointer (some ⟨gg, 0, none⟩) → s0 6 = .agg #[.slice p m c, .slice f m d, .slice q m g, .int .i64 N.c, .int .i64 N.f, .int .i64 N.g] → Vo.C6 wx gg (Vo.OV p f q m c d g N.c N.f N.g) | _ => True) ?loc ?stable ?steps ?rest
  case loc =>
    intro i s s' w1 hs h
    match i, h with
    | 0, h => exact (hs 0 (.inl rfl)).symm.trans h
    | 1, h => exact (hs 1 (.inl rfl)).symm.trans h
    | 2, h => exact (hs 2 (.inl rfl)).symm.trans h
    | 3, h => exact (hs 3 (.inl rfl)).symm.trans h
    | 4, ⟨p, f, q, c, d, g, h1, h2⟩ => exact ⟨p, f, q, c, d, g, (hs 4 (.inl rfl)).symm.trans h1, h2⟩
    | 5, ⟨⟨p, f, q, c, d, g, h0⟩, h⟩ => exact ⟨⟨p, f, q, c, d, g, (hs 5 (.inl rfl)).symm.trans h0⟩, (hs 5 (.inl rfl)).symm.trans (h.trans (hs 4 (.inr (by kernel_rfl))))⟩
    | 6, ⟨⟨p, f, q, c, d, g, h0⟩, h⟩ => exact ⟨⟨p, f, q, c, d, g, (hs 6 (.inl rfl)).symm.trans h0⟩, fun u v e => (hs 6 (.inl rfl)).symm.trans (h u v ((hs 5 (.inr (by kernel_rfl))).trans e))⟩
    | 7, h => exact fun u v e => (hs 7 (.inl rfl)).symm.trans (h u v ((hs 5 (.inr (by kernel_rfl))).trans e))
    | 8, ⟨g, V, h1, h2⟩ => exact ⟨g, V, (hs 8 (.inl rfl)).symm.trans h1, h2⟩
    | 9, h => exact fun gg p f q c d g e1 e2 => h gg p f q c d g ((hs 8 (.inr (by kernel_rfl))).trans e1) ((hs 6 (.inr (by kernel_rfl))).trans e2)
    | _ + 10, h => exact h
  case stable =>
    intro i k s w1 w2 hne hkn hkp h hb hg
    match i, h, hne, hkp with
    | 0, h, _, _ => exact h
    | 1, h, _, _ => exact h
    | 2, h, _, _ => exact h
    | 3, h, _, _ => exact h
    | 4, ⟨p, f, q, c, d, g, h1, ⟨q1, q2, q3⟩, h3⟩, _, _ => exact ⟨p, f, q, c, d, g, h1, ⟨hg.own q1, hg.own q2, hg.own q3⟩, h3⟩
    | 5, h, _, _ => exact h
    | 6, h, _, _ => exact h
    | 7, h, _, _ => exact h
    | 8, ⟨g, V, h1, h2, h3, h4⟩, _, _ => obtain ⟨V', h3, h4⟩ := hg.six h3 h4; exact ⟨g, V', h1, h2, h3, h4⟩
    | 9, h, hne, _ => exact fun gg p f q c d g e1 e2 => hg.six0 hne (h gg p f q c d g e1 e2)
    | _ + 10, h, _, _ => exact h
  case steps =>
    intro i o hi ho s0 A wS hb hk hA hO
    match i, hi, ho, hk with
    | 0, _, ho, hk =>
      cases ho
      refine Qg.landsG_free rfl ?_
      exact Qf.lands_val _ _ (Vo.runLoadRl rfl ((hO 3 (by rfl)).trans rfl) (FA.out wS hb)) (Vo.gp (by decide) hb.size (Below.refl _ _) (by simp [Qf.upd]))
    | 1, _, ho, hk =>
      cases ho
      refine Qg.landsG_free rfl ?_
      have h0 := hA 0 _ 44 (by decide) rfl rfl (by simp)
      have e0 := hk 0 (by kernel_rfl) (.inr (.inr rfl))
      rw [e0] at h0
      refine Qf.lands_call 7 _ _ rfl (enters_of Try.func7 (by kernel_rfl) rfl) _ (by simp [h0]) ((Vo.toRule x0a x0b x0c x0d x0e x0f x0g x0h x0i x0j x0k wS).mono ?_)
      rintro e wT ⟨rfl, bT⟩
      exact ⟨_, rfl, Vo.gp (by decide) hb.size bT (by simp [Qf.upd])⟩
    | 2, _, ho, hk =>
      cases ho
      refine Qg.landsG_free rfl ?_
      exact Qf.lands_val _ _ (Vo.runLoadOI rfl ((hO 10 (by rfl)).trans rfl) (FX.out wS hb).k) (Vo.gp (by decide) hb.size (Below.refl _ _) (by simp [Qf.upd]))
    | 3, _, ho, hk =>
      cases ho
      refine Qg.landsG_free rfl ?_
      exact Qf.lands_move _ rfl (.slice (some ⟨yx, 0, none⟩) r2 r2) ((hO 11 (by rfl)).trans rfl) (Vo.gp (by decide) hb.size (Below.refl _ _) (by simp [Qf.upd]))
    | 4, _, ho, hk =>
      cases ho
      refine Qg.landsG_free rfl ?_
      have h1 := hA 1 _ 45 (by decide) rfl rfl (by simp)
      have e1 := hk 1 (by kernel_rfl) (.inr (.inr rfl))
      rw [e1] at h1
      have h2 := hA 2 _ 46 (by decide) rfl rfl (by simp)
      have e2 := hk 2 (by kernel_rfl) (.inr (.inr rfl))
      rw [e2] at h2
      have h3 := hA 3 _ 47 (by decide) rfl rfl (by simp)
      have e3 := hk 3 (by kernel_rfl) (.inr (.inr rfl))
      rw [e3] at h3
      obtain ⟨-, ⟨_, z1, z2, z3, zv, z5, zC⟩, t1, t2, t3, -⟩ := FX.out wS hb
      have t5 := (FY.out wS hb).read
      refine Qf.lands_call 19 _ _ rfl (enters_of Try.func19 (by kernel_rfl) rfl) _ (by first | (simp [h1, h2, h3]; done) | (simp [h1, h2, h3]; rfl)) ((HI.out r1 q1 s1 r2 (some ⟨y1, 0, none⟩) (some ⟨y2, 0, none⟩) (some ⟨y3, 0, none⟩) (some ⟨yx, 0, none⟩) MX wS (t1.ints (by omega)) (t2.ints (by omega)) (t3.ints (by omega)) (fun e => by cases e) (fun e => by cases e) (fun e => by cases e) PX.out t5).mono ?_)
      rintro e wT ⟨p, f, q, c, d, g, rfl, ⟨o1', o2', o3'⟩, od, bT⟩
      exact ⟨_, rfl, Vo.gp (by decide) hb.size bT ⟨p, f, q, c, d, g, by simp [Qf.upd], ⟨o1'.mono hb.size, o2'.mono hb.size, o3'.mono hb.size⟩, od⟩⟩
    | 5, _, ho, hk =>
      cases ho
      refine Qg.landsG_free rfl ?_
      have h6 := hA 4 _ 48 (by decide) rfl rfl (by simp)
      obtain ⟨p, f, q, c, d, g, e6, -⟩ := hk 4 (by kernel_rfl) (.inr (.inr rfl))
      exact Qf.lands_move _ rfl _ h6 (Vo.gp (by decide) hb.size (Below.refl _ _) ⟨⟨p, f, q, c, d, g, by simp [Qf.upd, e6]⟩, by simp [Qf.upd]⟩)
    | 6, _, ho, hk =>
      cases ho
      refine Qg.landsG_free rfl ?_
      have h7 := hA 5 _ 43 (by decide) rfl rfl (by simp)
      obtain ⟨⟨p, f, q, c, d, g, e7⟩, -⟩ := hk 5 (by kernel_rfl) (.inr (.inr rfl))
      rw [e7] at h7
      exact Qf.lands_val _ _ (Vo.runExt0 rfl h7) (Vo.gp (by decide) hb.size (Below.refl _ _) ⟨⟨p, f, q, c, d, g, by simp [Qf.upd]⟩, (fun u v e => by
        have e2 : s0 5 = .tuple #[u, v] := by simpa [Qf.upd] using e
        rw [e7] at e2
        cases e2
        simp [Qf.upd])⟩)
    | 7, _, ho, hk =>
      cases ho
      refine Qg.landsG_free rfl ?_
      have h7 := hA 5 _ 43 (by decide) rfl rfl (by simp)
      obtain ⟨⟨p, f, q, c, d, g, e7⟩, -⟩ := hk 5 (by kernel_rfl) (.inr (.inr rfl))
      rw [e7] at h7
      exact Qf.lands_val _ _ (Vo.runExt1 rfl h7) (Vo.gp (by decide) hb.size (Below.refl _ _) (fun u v e => by
        have e2 : s0 5 = .tuple #[u, v] := by simpa [Qf.upd] using e
        rw [e7] at e2
        cases e2
        simp [Qf.upd]))
    | 8, _, ho, hk =>
      cases ho
      refine Qg.landsG_free rfl ?_
      exact Qf.lands_val _ _ (Vo.runAllocO rfl) (Vo.gp (by decide) hb.size ((Below.refl _ _).alloc (Nat.le_refl _) _) ⟨_, _, by simp [Qf.upd], hb.size, ⟨fun i hi => by rcases (by omega : i = 0 ∨ i = 1 ∨ i = 2 ∨ i = 3 ∨ i = 4 ∨ i = 5) with rfl | rfl | rfl | rfl | rfl | rfl <;> simp [go_sem, Vo.OV], fun i => by simp [go_sem], by simp⟩, Vo.ls_OV none none none 0 0 0 0 0 0 0⟩)
    | 9, _, ho, hk =>
      have ho' : o.op = Op.store 30 (.tmp 12) (.tmp 49) := by cases ho; rfl
      refine Qg.landsG_free (show o.guard = none by cases ho; rfl) ?_
      have hp := hA 8 _ 12 (by decide) rfl rfl (by simp)
      obtain ⟨gg, V, ep, hgg, c6, lv⟩ := hk 8 (by kernel_rfl) (.inr (.inr rfl))
      rw [ep] at hp
      have hv := hA 6 _ 49 (by decide) rfl rfl (by simp)
      obtain ⟨⟨p, f, q, c, d, g, e8⟩, -⟩ := hk 6 (by kernel_rfl) (.inr (.inr rfl))
      rw [e8] at hv
      obtain ⟨w', run, c6', kk⟩ := Vo.runStoreO ho' hp hv c6
      refine Qf.lands_skip w' run (Vo.gs (kk.below hb.size (fun k e => by subst e; exact hgg)) ⟨gg, V, _, c6, lv, kk, c6', Vo.ls_OV ..⟩ (fun gg' p' f' q' c' d' g' a1 a2 => ?_))
      have a1 : s0 8 = .pointer (some ⟨gg', 0, none⟩) := by simpa [Qf.upd] using a1
      have a2 : s0 6 = .agg #[.slice p' m c', .slice f' m d', .slice q' m g', .int .i64 N.c, .int .i64 N.f, .int .i64 N.g] := by simpa [Qf.upd] using a2
      rw [ep] at a1
      cases a1
      rw [e8] at a2
      cases a2
      exact c6'
    | _ + 10, hi, _, _ => exact absurd hi (by omega)
  case rest =>
  intro s' X1 bz hk9
  have e0 := hk9 0 (by decide) rfl
  have e1 := hk9 1 (by decide) rfl
  have e2 := hk9 2 (by decide) rfl
  have e3 := hk9 3 (by decide) rfl
  obtain ⟨pp, pf, pq, pc, pd, pg, e4, ⟨oP, oF, oS⟩, od1, od2⟩ := hk9 4 (by decide) rfl
  have e5 := (hk9 5 (by decide) rfl).2
  have e6 := (hk9 6 (by decide) rfl).2 _ _ (Eq.trans e5 e4)
  have e7 := hk9 7 (by decide) rfl _ _ (Eq.trans e5 e4)
  rw [e4] at e5
  obtain ⟨gg, -, e8, hgg, -⟩ := hk9 8 (by decide) rfl
  have c6 := hk9 9 (by decide) rfl _ _ _ _ _ _ _ e8 e6
  have NA := Vl.hide (show Vo.Ans W6.heap.size gg pp pf pq m pc pd pg N.P N.F N.S N.c N.f N.g X1 from ⟨c6, hgg, oP, oF, oS, od1, od2⟩)
  have BZ := Vl.hide bz
  clear bz c6 oP oF oS od1 od2 hgg
  simp only [List.take_succ_cons, List.take_zero, List.drop_succ_cons, List.drop_zero, Qf.lay, Qf.all1, if_true, e0, e1, e2, e3, e4, e5, e6, e7, e8]
  simp only [Act.put, List.setIfInBounds_toArray, List.set_cons_succ, List.set_cons_zero]
  clear hk9 e0 e1 e2 e3 e4 e5 e6 e7 e8
  replace PR := Vl.hide (PR.out.below (BZ.out.mono PR.out.z.2.2.2.2))
  replace MD := Vl.hide (MD.out.below BZ.out)
  replace HX := Vl.hide (HX.out.below BZ.out)
  clear BZ FA FX FY
  have EE := Vl.hide (fun (Z : World) (ta tb tc : Option Addr) (ca cb cc : Nat) (pr : Vo.Pre w X0.heap.size w.heap.size WA.heap.size gw x0a x0b x0c x0d x0e x0f x0g x0h x0i x0j x0k (.slice a1 r1 cap1) (.slice b1 q1 dap1) (.slice c1 s1 eap1) (.int .i64 n1) (.int .i64 f1) (.int .i64 o1) p f q m c d g N.P N.F N.S N.c N.f N.g Z) (p1 : Vl.Ints Z.heap.size Z ta m N.P) (p2 : Vl.Ints Z.heap.size Z tb m N.F) (p3 : Vl.Ints Z.heap.size Z tc m N.S) => Vo.eqOpt Z.heap.size ta tb tc p f q m m m ca cb cc c d g N.P N.F N.S N.P N.F N.S N.c N.f N.g Z (Nat.le_refl _) p1 p2 p3 (pr.P.mono pr.z.2.2.2.2) (pr.F.mono pr.z.2.2.2.2) (pr.S.mono pr.z.2.2.2.2) (fun _ _ => rfl) (fun _ _ => rfl) (fun _ _ => rfl) LL.out.2.2.2.2 LL.out.2.2.2.2 LL.out.2.2.2.2)
  obtain ⟨-, cG0, cG1, cG2, cG3, cG4, cG5⟩ := NA.out.box
  obtain ⟨-, cW0, cW1, cW2, cW3, cW4, cW5⟩ := PR.out.kw
  go_wp2_with fail
  refine (EE.out _ _ _ _ _ _ _ PR.out NA.out.P.ints NA.out.F.ints NA.out.S.ints).mono ?_
  rintro e W7 ⟨rfl, bb⟩
  replace PR := Vl.hide (PR.out.below (bb.mono PR.out.z.2.2.2.2))
  replace MD := Vl.hide (MD.out.below (bb.mono MD.out.z.2.2.2.2.2.2))
  replace HX := Vl.hide (HX.out.below bb)
  replace NA := Vl.hide (NA.out.below bb)
  clear bb
  clear cG0 cG1 cG2 cG3 cG4 cG5 cW0 cW1 cW2 cW3 cW4 cW5
  obtain ⟨-, cX0, cX1, cX2, cX3, cX4, cX5⟩ := MD.out.k
  obtain ⟨-, cB0, cB1, cB2, cB3, cB4, cB5⟩ := PR.out.kb
  have HT := Vl.hide (fun (W : World) (hW : Below W7.heap.size W7 W) => CT.out W (PR.out.bw.trans (hW.mono PR.out.bw.size)))
  have HE := Vl.hide (fun (W : World) (hW : Below W7.heap.size W7 W) (k1 k2 k3 : Nat) (z : k1 < W.heap.size ∧ k2 < W.heap.size ∧ k3 < W.heap.size) (t1 : Vl.Rw W k1 r1 P) (t2 : Vl.Rw W k2 q1 Q) (t3 : Vl.Rw W k3 s1 S) => Vo.eqOpt W.heap.size (some ⟨y1, 0, none⟩) (some ⟨y2, 0, none⟩) (some ⟨y3, 0, none⟩) (some ⟨k1, 0, none⟩) (some ⟨k2, 0, none⟩) (some ⟨k3, 0, none⟩) r1 q1 s1 r1 q1 s1 r1 q1 s1 P Q S P Q S n1 f1 o1 W (Nat.le_refl _) ((MD.out.below (hW.mono MD.out.z.2.2.2.2.2.2)).P.ints (by have := MD.out.z; have := hW.size; omega)) ((MD.out.below (hW.mono MD.out.z.2.2.2.2.2.2)).Q.ints (by have := MD.out.z; have := hW.size; omega)) ((MD.out.below (hW.mono MD.out.z.2.2.2.2.2.2)).S.ints (by have := MD.out.z; have := hW.size; omega)) (t1.ints z.1) (t2.ints z.2.1) (t3.ints z.2.2) (fun _ _ => rfl) (fun _ _ => rfl) (fun _ _ => rfl) LL.out.1 LL.out.2.1 LL.out.2.2.1)
  go_wp2_with fail
  go_region_held3 (fun w' => w'.cell? ⟨yv, 0, none⟩ = some (.slice (some ⟨y1, 0, none⟩) r1 r1) ∧ w'.cell? ⟨yv, 1, none⟩ = some (.slice (some ⟨y2, 0, none⟩) q1 q1) ∧ w'.cell? ⟨yv, 2, none⟩ = some (.slice (some ⟨y3, 0, none⟩) s1 s1) ∧ w'.cell? ⟨yv, 3, none⟩ = some (.int .i64 n1) ∧ w'.cell? ⟨yv, 4, none⟩ = some (.int .i64 f1) ∧ w'.cell? ⟨yv, 5, none⟩ = some (.int .i64 o1) ∧ w'.cell? ⟨WA.heap.size, 0, none⟩ = some (.slice a1 r1 cap1) ∧ w'.cell? ⟨WA.heap.size, 1, none⟩ = some (.slice b1 q1 dap1) ∧ w'.cell? ⟨WA.heap.size, 2, none⟩ = some (.slice c1 s1 eap1) ∧ w'.cell? ⟨WA.heap.size, 3, none⟩ = some (.int .i64 n1) ∧ w'.cell? ⟨WA.heap.size, 4, none⟩ = some (.int .i64 f1) ∧ w'.cell? ⟨WA.heap.size, 5, none⟩ = some (.int .i64 o1))
    ((try dsimp only) <;> (repeat' apply And.intro) <;> (repeat (first | with_reducible assumption | with_reducible apply Vo.drew_old | (with_reducible apply Vo.below_old; (focus (with_reducible assumption))))))
    (first
      | (go_at_call 8
         refine (HT.out _ (by exact (Below.refl _ _).drew)).mono ?_
         rintro e wA ⟨k1, k2, k3, rfl, ⟨t1, t2, t3, t4⟩, qA, qB, qC, bA⟩)
      | (go_at_call 11
         refine (HE.out _ (by exact (Below.refl _ W7).drew.trans bA) k1 k2 k3 ⟨by omega, by omega, t4⟩ qA qB qC).mono ?_
         rintro e W8 ⟨rfl, bB⟩))
  have bb : Below W7.heap.size W7 W8 := ((Below.refl _ W7).drew.trans bA).trans (bB.mono (Nat.le_trans (Nat.le_refl _) bA.size))
  replace PR := Vl.hide (PR.out.below (bb.mono PR.out.z.2.2.2.2))
  replace MD := Vl.hide (MD.out.below (bb.mono MD.out.z.2.2.2.2.2.2))
  replace HX := Vl.hide (HX.out.below bb)
  replace NA := Vl.hide (NA.out.below bb)
  clear bA bB qA qB qC HT HE bb t1 t2 t3 t4
  clear cX0 cX1 cX2 cX3 cX4 cX5 cB0 cB1 cB2 cB3 cB4 cB5
  go_wp2_with fail
  refine (CG.out _ PR.out.bw).mono ?_
  rintro e W9 ⟨M9, rfl, t1, p1, bb⟩
  replace PR := Vl.hide (PR.out.below (bb.mono PR.out.z.2.2.2.2))
  replace MD := Vl.hide (MD.out.below (bb.mono MD.out.z.2.2.2.2.2.2))
  replace HX := Vl.hide (HX.out.below bb)
  replace NA := Vl.hide (NA.out.below bb)
  have CE := Vl.hide (Vo.eqIntSS W9.heap.size (some ⟨yx, 0, none⟩) (some ⟨W8.heap.size, 0, none⟩) r2 r2 r2 MX M9 W9 (Nat.le_refl _) HX.out.read t1.read LL.out.2.2.2.1 NX.out (fun i hi => ⟨by rw [(p1 i hi).1, (PX.out i hi).1], fun j hj => by rw [(p1 i hi).2, (PX.out i hi).2]⟩))
  clear bb t1 p1
  go_wp2_with fail
  refine CE.out.mono ?_
  rintro e WC ⟨rfl, bb⟩
  replace PR := Vl.hide (PR.out.below (bb.mono PR.out.z.2.2.2.2))
  replace MD := Vl.hide (MD.out.below (bb.mono MD.out.z.2.2.2.2.2.2))
  replace HX := Vl.hide (HX.out.below bb)
  replace NA := Vl.hide (NA.out.below bb)
  clear bb CE
  obtain ⟨-, cX0, cX1, cX2, cX3, cX4, cX5⟩ := MD.out.k
  go_wp2_with fail
  refine (Vo.markOpt X0.heap.size (some ⟨y1, 0, none⟩) (some ⟨y2, 0, none⟩) (some ⟨y3, 0, none⟩) r1 q1 s1 r1 q1 s1 P Q S n1 f1 o1 1 _ (.inr ⟨y1, rfl, by have := MD.out.z; omega, MD.out.P⟩) (.inr ⟨y2, rfl, by have := MD.out.z; omega, MD.out.Q⟩) (.inr ⟨y3, rfl, by have := MD.out.z; omega, MD.out.S⟩) (fun i h h' => by have := Vo.blk_is h; have := Vo.blk_is h'; have := MD.out.z; omega) (fun i h h' => by have := Vo.blk_is h; have := Vo.blk_is h'; have := MD.out.z; omega) (fun i h h' => by have := Vo.blk_is h; have := Vo.blk_is h'; have := MD.out.z; omega) LL.out.1 LL.out.2.1 LL.out.2.2.1 (by decide) (by decide)).mono ?_
  rintro e WD ⟨rfl, -, -, -, kk⟩
  replace kk : Vl.Kept (fun i => i = y1 ∨ i = y2 ∨ i = y3) _ WD := kk.mono (fun i _ h => by rcases h with h | h | h <;> have := Vo.blk_is h <;> simp [this])
  obtain ⟨K1, hK1⟩ : ∃ K1 : Int, 1 + (r1 : Int) + q1 + s1 = K1 := ⟨_, rfl⟩
  rw [hK1]
  have KR := Vl.hide (show 0 ≤ K1 ∧ K1 ≤ 3145729 by have := LL.out; omega)
  clear hK1
  replace HX := Vl.hide (HX.out.kept kk (fun b h1 h2 h => by have := MD.out.z; omega))
  have ZX := Vl.hide (show X0.heap.size ≤ yx ∧ yx < W6.heap.size from by have := MD.out.z; omega)
  replace NA := Vl.hide (NA.out.kept kk (fun b h => by have := MD.out.z; omega))
  replace PR := Vl.hide (PR.out.below (kk.below PR.out.z.2.2.2.2 (fun b h => by have := MD.out.z; omega)))
  clear kk MD
  clear cX0 cX1 cX2 cX3 cX4 cX5
  go_wp2_with fail
  refine (Vo.markIntSS yx W6.heap.size (some ⟨yx, 0, none⟩) r2 r2 MX K1 _ HX.out NX.out (by have := SX.out; omega) LL.out.2.2.2.1 KR.out.1 (by have := KR.out; omega)).mono ?_
  rintro e WE ⟨rfl, -, kk⟩
  obtain ⟨K2, hK2⟩ : ∃ K2 : Int, K1 + (Vo.lsum MX r2 : Int) = K2 := ⟨_, rfl⟩
  rw [hK2]
  have kn : decide (K2 < 0) = false := decide_eq_false (by have := KR.out; omega)
  clear hK2 KR
  replace NA := Vl.hide (NA.out.kept kk (fun b h => by have := ZX.out; omega))
  replace PR := Vl.hide (PR.out.below (kk.below PR.out.z.2.2.2.2 (fun b h => by have := ZX.out; omega)))
  clear kk HX
  obtain ⟨-, cG0, cG1, cG2, cG3, cG4, cG5⟩ := NA.out.box
  obtain ⟨-, cW0, cW1, cW2, cW3, cW4, cW5⟩ := PR.out.kw
  go_wp2_with fail
  refine (EE.out _ _ _ _ _ _ _ PR.out NA.out.P.ints NA.out.F.ints NA.out.S.ints).mono ?_
  rintro e WF ⟨rfl, bb⟩
  replace PR := Vl.hide (PR.out.below (bb.mono PR.out.z.2.2.2.2))
  replace NA := Vl.hide (NA.out.below bb)
  clear bb kn
  clear cG0 cG1 cG2 cG3 cG4 cG5 cW0 cW1 cW2 cW3 cW4 cW5
  obtain ⟨-, cG0, cG1, cG2, cG3, cG4, cG5⟩ := NA.out.box
  go_wp2_with fail
  refine (Vo.markOpt W6.heap.size pp pf pq m m m pc pd pg N.P N.F N.S N.c N.f N.g 1 _ NA.out.P NA.out.F NA.out.S (fun i h h' => Nat.lt_irrefl _ (NA.out.pf i i h h')) (fun i h h' => Nat.lt_irrefl _ (NA.out.pq i i h h')) (fun i h h' => Nat.lt_irrefl _ (NA.out.fs i i h h')) LL.out.2.2.2.2 LL.out.2.2.2.2 LL.out.2.2.2.2 (by decide) (by decide)).mono ?_
  rintro e WG ⟨rfl, o1', o2', o3', kk⟩
  have ZB := Vl.hide (show X0.heap.size ≤ W6.heap.size from by have := ZX.out; omega)
  replace PR := Vl.hide (PR.out.below (kk.below PR.out.z.2.2.2.2 (fun b h => by have := ZB.out; rcases h with h | h | h; exact Nat.le_trans ZB.out (NA.out.P.blk h).1; exact Nat.le_trans ZB.out (NA.out.F.blk h).1; exact Nat.le_trans ZB.out (NA.out.S.blk h).1)))
  replace NA := Vl.hide (NA.out.mark kk o1' o2' o3')
  clear kk o1' o2' o3'
  have HH := Vl.hide (fun (Z : World) (na : Vo.Ans W6.heap.size gg pp pf pq m pc pd pg (fun j => 1 + (j : Int)) (fun j => 1 + (m : Int) + j) (fun j => 1 + (m : Int) + m + j) N.c N.f N.g Z) => Vo.heldOpt Z.heap.size pp pf pq m m m pc pd pg N.c N.f N.g 1 Z (Nat.le_refl _) na.P.ints na.F.ints na.S.ints LL.out.2.2.2.2 LL.out.2.2.2.2 LL.out.2.2.2.2 (by decide) (by decide))
  obtain ⟨K3, hK3⟩ : ∃ K3 : Int, 1 + (m : Int) + m + m = K3 := ⟨_, rfl⟩
  rw [hK3] at HH ⊢
  have kn : decide (K3 < 0) = false := decide_eq_false (by omega)
  clear hK3
  clear cG0 cG1 cG2 cG3 cG4 cG5
  obtain ⟨-, cG0, cG1, cG2, cG3, cG4, cG5⟩ := NA.out.box
  go_wp2_with fail
  refine (HH.out _ NA.out).mono ?_
  rintro e WH ⟨rfl, bb⟩
  replace PR := Vl.hide (PR.out.below (bb.mono PR.out.z.2.2.2.2))
  replace NA := Vl.hide (NA.out.below bb)
  clear bb
  clear cG0 cG1 cG2 cG3 cG4 cG5
  have FA := Vl.hide (fun (Z : World) (hZ : Below WH.heap.size WH Z) => (PR.out.below (hZ.mono PR.out.z.2.2.2.2)).ka)
  have FB := Vl.hide (fun (Z : World) (hZ : Below WH.heap.size WH Z) => (PR.out.below (hZ.mono PR.out.z.2.2.2.2)).kb)
  have FW := Vl.hide PR.out.bw
  go_wp2_with fail
  refine Ql.factsK2 (Below WH.heap.size) (fun _ _ _ => Below.trans) 12 11 (fun i => i != 5) (Below.refl _ _).drew (by kernel_rfl) (by kernel_rfl) (Vo.GG 11) (fun i s0 wx => match i with | 0 => s0 0 = .agg #[.int .i64 x0a, .int .i64 x0b, .int .i64 x0c, .int .i64 x0d, .int .i64 x0e, .int .i64 x0f, .int .i64 x0g, .int .i64 x0h, .int .i64 x0i, .int .i64 x0j, .int .i64 x0k] | 1 => s0 1 = .agg #[.int .i64 x0a, .int .i64 x0b, .int .i64 x0c, .int .i64 x0d, .int .i64 x0e, .int .i64 x0f, .int .i64 x0g, .int .i64 x0h, .int .i64 x0i, .int .i64 x0j, .int .i64 x0k] | 2 => s0 2 = .agg #[.slice a1 r1 cap1, .slice b1 q1 dap1, .slice c1 s1 eap1, .int .i64 n1, .int .i64 f1, .int .i64 o1] | 3 => ∃ g1 g2 g3 : Nat, s0 3 = Vo.OVal (some ⟨g1, 0, none⟩) (some ⟨g2, 0, none⟩) (some ⟨g3, 0, none⟩) r1 q1 s1 r1 q1 s1 n1 f1 o1 ∧ (g1 < wx.heap.size ∧ g2 < wx.heap.size ∧ g3 < wx.heap.size) ∧ Vl.Rw wx g1 r1 P ∧ Vl.Rw wx g2 q1 Q ∧ Vl.Rw wx g3 s1 S | 4 => s0 4 = .slice a2 r2 cap2 | 5 => ∃ (g : Nat) (M : Nat → Vo.LV), s0 5 = .slice (some ⟨g, 0, none⟩) r2 r2 ∧ Vo.LL wx.heap.size wx (some ⟨g, 0, none⟩) r2 M ∧ Vo.LSame r2 D M | 6 => ∃ (p f q : Option Addr) (c d g : Nat), s0 6 = .tuple #[.agg #[.slice p m c, .slice f m d, .slice q m g, .int .i64 N.c, .int .i64 N.f, .int .i64 N.g], .int .i64 KK] ∧ (Vl.OwnL WH.heap.size wx p m N.P ∧ Vl.OwnL WH.heap.size wx f m N.F ∧ Vl.OwnL WH.heap.size wx q m N.S) ∧ ((∀ k k', Vl.Blk p m k → Vl.Blk f m k' → k < k') ∧ (∀ k k', Vl.Blk f m k → Vl.Blk q m k' → k < k')) | 7 => (∃ (p f q : Option Addr) (c d g : Nat), s0 7 = .tuple #[.agg #[.slice p m c, .slice f m d, .slice q m g, .int .i64 N.c, .int .i64 N.f, .int .i64 N.g], .int .i64 KK]) ∧ s0 7 = s0 6 | 8 => (∃ (p f q : Option Addr) (c d g : Nat), s0 8 = .agg #[.slice p m c, .slice f m d, .slice q m g, .int .i64 N.c, .int .i64 N.f, .int .i64 N.g]) ∧ ∀ u v, s0 7 = .tuple #[u, v] → s0 8 = u | 9 => ∀ u v, s0 7 = .tuple #[u, v] → s0 9 = v | 10 => ∃ (g : Nat) (V : Nat → Value), s0 10 = .pointer (some ⟨g, 0, none⟩) ∧ WH.heap.size ≤ g ∧ Vo.C6 wx g V ∧ Vo.Ls V | 11 => ∀ (gg : Nat) (p f q : Option Addr) (c d g : Nat), s0 10 = .pointer (some ⟨gg, 0, none⟩) → s0 8 = .agg #[.slice p m c, .slice f m d, .slice q m g, .int .i64 N.c, .int .i64 N.f, .int .i64 N.g] → Vo.C6 wx gg (Vo.OV p f q m c d g N.c N.f N.g) | _ => True) ?loc ?stable ?steps ?rest
  case loc =>
    intro i s s' w1 hs h
    match i, h with
    | 0, h => exact (hs 0 (.inl rfl)).symm.trans h
    | 1, h => exact (hs 1 (.inl rfl)).symm.trans h
    | 2, h => exact (hs 2 (.inl rfl)).symm.trans h
    | 3, ⟨g1, g2, g3, h1, h2⟩ => exact ⟨g1, g2, g3, (hs 3 (.inl rfl)).symm.trans h1, h2⟩
    | 4, h => exact (hs 4 (.inl rfl)).symm.trans h
    | 5, ⟨g, M, h1, h2⟩ => exact ⟨g, M, (hs 5 (.inl rfl)).symm.trans h1, h2⟩
    | 6, ⟨p, f, q, c, d, g, h1, h2⟩ => exact ⟨p, f, q, c, d, g, (hs 6 (.inl rfl)).symm.trans h1, h2⟩
    | 7, ⟨⟨p, f, q, c, d, g, h0⟩, h⟩ => exact ⟨⟨p, f, q, c, d, g, (hs 7 (.inl rfl)).symm.trans h0⟩, (hs 7 (.inl rfl)).symm.trans (h.trans (hs 6 (.inr (by kernel_rfl))))⟩
    | 8, ⟨⟨p, f, q, c, d, g, h0⟩, h⟩ => exact ⟨⟨p, f, q, c, d, g, (hs 8 (.inl rfl)).symm.trans h0⟩, fun u v e => (hs 8 (.inl rfl)).symm.trans (h u v ((hs 7 (.inr (by kernel_rfl))).trans e))⟩
    | 9, h => exact fun u v e => (hs 9 (.inl rfl)).symm.trans (h u v ((hs 7 (.inr (by kernel_rfl))).trans e))
    | 10, ⟨g, V, h1, h2⟩ => exact ⟨g, V, (hs 10 (.inl rfl)).symm.trans h1, h2⟩
    | 11, h => exact fun gg p f q c d g e1 e2 => h gg p f q c d g ((hs 10 (.inr (by kernel_rfl))).trans e1) ((hs 8 (.inr (by kernel_rfl))).trans e2)
    | _ + 12, h => exact h
  case stable =>
    intro i k s w1 w2 hne hkn hkp h hb hg
    match i, h, hne, hkp with
    | 0, h, _, _ => exact h
    | 1, h, _, _ => exact h
    | 2, h, _, _ => exact h
    | 3, ⟨g1, g2, g3, h1, ⟨z1, z2, z3⟩, q1, q2, q3⟩, _, _ => exact ⟨g1, g2, g3, h1, ⟨Nat.lt_of_lt_of_le z1 hb.size, Nat.lt_of_lt_of_le z2 hb.size, Nat.lt_of_lt_of_le z3 hb.size⟩, hg.rw q1 z1, hg.rw q2 z2, hg.rw q3 z3⟩
    | 4, h, _, _ => exact h
    | 5, ⟨g, M, h1, q1, q2⟩, _, hkp =>
      have bx := hg.1 (fun e => by have := hkp e; cases this)
      exact ⟨g, M, h1, (q1.below bx).mono bx.size, q2⟩
    | 6, ⟨p, f, q, c, d, g, h1, ⟨q1, q2, q3⟩, h3⟩, _, _ => exact ⟨p, f, q, c, d, g, h1, ⟨hg.own q1, hg.own q2, hg.own q3⟩, h3⟩
    | 7, h, _, _ => exact h
    | 8, h, _, _ => exact h
    | 9, h, _, _ => exact h
    | 10, ⟨g, V, h1, h2, h3, h4⟩, _, _ => obtain ⟨V', h3, h4⟩ := hg.six h3 h4; exact ⟨g, V', h1, h2, h3, h4⟩
    | 11, h, hne, _ => exact fun gg p f q c d g e1 e2 => hg.six0 hne (h gg p f q c d g e1 e2)
    | _ + 12, h, _, _ => exact h
  case steps =>
    intro i o hi ho s0 A wS hb hk hA hO
    match i, hi, ho, hk with
    | 0, _, ho, hk =>
      cases ho
      refine Qg.landsG_free rfl ?_
      exact Qf.lands_val _ _ (Vo.runLoadRl rfl ((hO 3 (by rfl)).trans rfl) (FA.out wS hb)) (Vo.gp (by decide) hb.size (Below.refl _ _) (by simp [Qf.upd]))
    | 1, _, ho, hk =>
      cases ho
      refine Qg.landsG_free rfl ?_
      have h0 := hA 0 _ 101 (by decide) rfl rfl (by simp)
      have e0 := hk 0 (by kernel_rfl) (.inr (.inr rfl))
      rw [e0] at h0
      refine Qf.lands_call 7 _ _ rfl (enters_of Try.func7 (by kernel_rfl) rfl) _ (by simp [h0]) ((Vo.toRule x0a x0b x0c x0d x0e x0f x0g x0h x0i x0j x0k wS).mono ?_)
      rintro e wT ⟨rfl, bT⟩
      exact ⟨_, rfl, Vo.gp (by decide) hb.size bT (by simp [Qf.upd])⟩
    | 2, _, ho, hk =>
      cases ho
      refine Qg.landsG_free rfl ?_
      exact Qf.lands_val _ _ (Vo.runLoadOL rfl ((hO 4 (by rfl)).trans rfl) (FB.out wS hb)) (Vo.gp (by decide) hb.size (Below.refl _ _) (by simp [Qf.upd]))
    | 3, _, ho, hk =>
      cases ho
      refine Qg.landsG_free rfl ?_
      have h2 := hA 2 _ 103 (by decide) rfl rfl (by simp)
      have e2 := hk 2 (by kernel_rfl) (.inr (.inr rfl))
      rw [e2] at h2
      refine Qf.lands_call 8 _ _ rfl (enters_of Try.func8 (by kernel_rfl) rfl) _ (by simp [h2]; rfl) ((CT.out wS (FW.out.trans (hb.mono FW.out.size))).mono ?_)
      rintro e wT ⟨g1, g2, g3, rfl, ⟨y1, y2, y3, y4⟩, t1, t2, t3, bT⟩
      exact ⟨_, rfl, Vo.gp (by decide) hb.size bT ⟨g1, g2, g3, by simp [Qf.upd], ⟨by omega, by omega, y4⟩, t1, t2, t3⟩⟩
    | 4, _, ho, hk =>
      cases ho
      refine Qg.landsG_free rfl ?_
      exact Qf.lands_move _ rfl (.slice a2 r2 cap2) ((hO 2 (by rfl)).trans rfl) (Vo.gp (by decide) hb.size (Below.refl _ _) (by simp [Qf.upd]))
    | 5, _, ho, hk =>
      cases ho
      refine Qg.landsG_free rfl ?_
      have h4 := hA 4 _ 105 (by decide) rfl rfl (by simp)
      have e4 := hk 4 (by kernel_rfl) (.inr (.inr rfl))
      rw [e4] at h4
      refine Qf.lands_call 18 _ _ rfl (enters_of Try.func18 (by kernel_rfl) rfl) _ (by simp [h4]) ((CG.out wS (FW.out.trans (hb.mono FW.out.size))).mono ?_)
      rintro e wT ⟨M1, rfl, t1, s1, bT⟩
      exact ⟨_, rfl, Vo.gp (by decide) hb.size bT ⟨wS.heap.size, M1, by simp [Qf.upd], t1.read, s1⟩⟩
    | 6, _, ho, hk =>
      cases ho
      refine Qg.landsG_free rfl ?_
      have h1 := hA 1 _ 102 (by decide) rfl rfl (by simp)
      have e1 := hk 1 (by kernel_rfl) (.inr (.inr rfl))
      rw [e1] at h1
      have h3 := hA 3 _ 104 (by decide) rfl rfl (by simp)
      obtain ⟨g1, g2, g3, ea, ⟨z1, z2, z3⟩, t1, t2, t3⟩ := hk 3 (by kernel_rfl) (.inr (.inr rfl))
      rw [ea] at h3
      have h5 := hA 5 _ 106 (by decide) rfl rfl (by simp)
      obtain ⟨g5, M5, eb, t5, s5⟩ := hk 5 (by kernel_rfl) (.inl (by kernel_rfl))
      rw [eb] at h5
      refine Qf.lands_call 19 _ _ rfl (enters_of Try.func19 (by kernel_rfl) rfl) _ (by first | (simp [h1, h3, h5]; done) | (simp [h1, h3, h5]; rfl)) ((HI.out r1 q1 s1 r2 (some ⟨g1, 0, none⟩) (some ⟨g2, 0, none⟩) (some ⟨g3, 0, none⟩) (some ⟨g5, 0, none⟩) M5 wS (t1.ints z1) (t2.ints z2) (t3.ints z3) (fun e => by cases e) (fun e => by cases e) (fun e => by cases e) s5 t5).mono ?_)
      rintro e wT ⟨p, f, q, c, d, g, rfl, ⟨o1', o2', o3'⟩, od, bT⟩
      exact ⟨_, rfl, Vo.gp (by decide) hb.size bT ⟨p, f, q, c, d, g, by simp [Qf.upd], ⟨o1'.mono hb.size, o2'.mono hb.size, o3'.mono hb.size⟩, od⟩⟩
    | 7, _, ho, hk =>
      cases ho
      refine Qg.landsG_free rfl ?_
      have h6 := hA 6 _ 107 (by decide) rfl rfl (by simp)
      obtain ⟨p, f, q, c, d, g, e6, -⟩ := hk 6 (by kernel_rfl) (.inr (.inr rfl))
      exact Qf.lands_move _ rfl _ h6 (Vo.gp (by decide) hb.size (Below.refl _ _) ⟨⟨p, f, q, c, d, g, by simp [Qf.upd, e6]⟩, by simp [Qf.upd]⟩)
    | 8, _, ho, hk =>
      cases ho
      refine Qg.landsG_free rfl ?_
      have h7 := hA 7 _ 100 (by decide) rfl rfl (by simp)
      obtain ⟨⟨p, f, q, c, d, g, e7⟩, -⟩ := hk 7 (by kernel_rfl) (.inr (.inr rfl))
      rw [e7] at h7
      exact Qf.lands_val _ _ (Vo.runExt0 rfl h7) (Vo.gp (by decide) hb.size (Below.refl _ _) ⟨⟨p, f, q, c, d, g, by simp [Qf.upd]⟩, (fun u v e => by
        have e2 : s0 7 = .tuple #[u, v] := by simpa [Qf.upd] using e
        rw [e7] at e2
        cases e2
        simp [Qf.upd])⟩)
    | 9, _, ho, hk =>
      cases ho
      refine Qg.landsG_free rfl ?_
      have h7 := hA 7 _ 100 (by decide) rfl rfl (by simp)
      obtain ⟨⟨p, f, q, c, d, g, e7⟩, -⟩ := hk 7 (by kernel_rfl) (.inr (.inr rfl))
      rw [e7] at h7
      exact Qf.lands_val _ _ (Vo.runExt1 rfl h7) (Vo.gp (by decide) hb.size (Below.refl _ _) (fun u v e => by
        have e2 : s0 7 = .tuple #[u, v] := by simpa [Qf.upd] using e
        rw [e7] at e2
        cases e2
        simp [Qf.upd]))
    | 10, _, ho, hk =>
      cases ho
      refine Qg.landsG_free rfl ?_
      exact Qf.lands_val _ _ (Vo.runAllocO rfl) (Vo.gp (by decide) hb.size ((Below.refl _ _).alloc (Nat.le_refl _) _) ⟨_, _, by simp [Qf.upd], hb.size, ⟨fun i hi => by rcases (by omega : i = 0 ∨ i = 1 ∨ i = 2 ∨ i = 3 ∨ i = 4 ∨ i = 5) with rfl | rfl | rfl | rfl | rfl | rfl <;> simp [go_sem, Vo.OV], fun i => by simp [go_sem], by simp⟩, Vo.ls_OV none none none 0 0 0 0 0 0 0⟩)
    | 11, _, ho, hk =>
      have ho' : o.op = Op.store 30 (.tmp 17) (.tmp 108) := by cases ho; rfl
      refine Qg.landsG_free (show o.guard = none by cases ho; rfl) ?_
      have hp := hA 10 _ 17 (by decide) rfl rfl (by simp)
      obtain ⟨gg, V, ep, hgg, c6, lv⟩ := hk 10 (by kernel_rfl) (.inr (.inr rfl))
      rw [ep] at hp
      have hv := hA 8 _ 108 (by decide) rfl rfl (by simp)
      obtain ⟨⟨p, f, q, c, d, g, e8⟩, -⟩ := hk 8 (by kernel_rfl) (.inr (.inr rfl))
      rw [e8] at hv
      obtain ⟨w', run, c6', kk⟩ := Vo.runStoreO ho' hp hv c6
      refine Qf.lands_skip w' run (Vo.gs (kk.below hb.size (fun k e => by subst e; exact hgg)) ⟨gg, V, _, c6, lv, kk, c6', Vo.ls_OV ..⟩ (fun gg' p' f' q' c' d' g' a1 a2 => ?_))
      have a1 : s0 10 = .pointer (some ⟨gg', 0, none⟩) := by simpa [Qf.upd] using a1
      have a2 : s0 8 = .agg #[.slice p' m c', .slice f' m d', .slice q' m g', .int .i64 N.c, .int .i64 N.f, .int .i64 N.g] := by simpa [Qf.upd] using a2
      rw [ep] at a1
      cases a1
      rw [e8] at a2
      cases a2
      exact c6'
    | _ + 12, hi, _, _ => exact absurd hi (by omega)
  case rest =>
  intro s' X2 bz hk9
  have e0 := hk9 0 (by decide) rfl
  have e1 := hk9 1 (by decide) rfl
  have e2 := hk9 2 (by decide) rfl
  obtain ⟨_, _, _, e3, -⟩ := hk9 3 (by decide) rfl
  have e4 := hk9 4 (by decide) rfl
  obtain ⟨hp, hf, hq, hc, hd, hg, e6, ⟨oP, oF, oS⟩, od1, od2⟩ := hk9 6 (by decide) rfl
  have e7 := (hk9 7 (by decide) rfl).2
  have e8 := (hk9 8 (by decide) rfl).2 _ _ (Eq.trans e7 e6)
  have e9 := hk9 9 (by decide) rfl _ _ (Eq.trans e7 e6)
  rw [e6] at e7
  obtain ⟨hh, -, e10, hgg, -⟩ := hk9 10 (by decide) rfl
  have c6 := hk9 11 (by decide) rfl _ _ _ _ _ _ _ e10 e8
  have NH := Vl.hide (show Vo.Ans WH.heap.size hh hp hf hq m hc hd hg N.P N.F N.S N.c N.f N.g X2 from ⟨c6, hgg, oP, oF, oS, od1, od2⟩)
  have BZ := Vl.hide bz
  clear bz c6 oP oF oS od1 od2 hgg
  simp only [List.take_succ_cons, List.take_zero, List.drop_succ_cons, List.drop_zero, Qf.lay, Qf.all1, if_true, e0, e1, e2, e3, e4, e6, e7, e8, e9, e10]
  simp only [Act.put, List.setIfInBounds_toArray, List.set_cons_succ, List.set_cons_zero]
  clear hk9 e0 e1 e2 e3 e4 e6 e7 e8 e9 e10
  replace PR := Vl.hide (PR.out.below (BZ.out.mono PR.out.z.2.2.2.2))
  replace NA := Vl.hide (NA.out.below BZ.out)
  clear BZ FA FB FW
  obtain ⟨-, cH0, cH1, cH2, cH3, cH4, cH5⟩ := NH.out.box
  obtain ⟨-, cW0, cW1, cW2, cW3, cW4, cW5⟩ := PR.out.kw
  go_wp2_with fail
  refine (EE.out _ _ _ _ _ _ _ PR.out NH.out.P.ints NH.out.F.ints NH.out.S.ints).mono ?_
  rintro e XA ⟨rfl, bb⟩
  replace PR := Vl.hide (PR.out.below (bb.mono PR.out.z.2.2.2.2))
  replace NA := Vl.hide (NA.out.below bb)
  clear bb NH
  clear cH0 cH1 cH2 cH3 cH4 cH5 cW0 cW1 cW2 cW3 cW4 cW5
  obtain ⟨-, cG0, cG1, cG2, cG3, cG4, cG5⟩ := NA.out.box
  go_wp2_with fail
  refine (HH.out _ NA.out).mono ?_
  rintro e XB ⟨rfl, bb⟩
  replace PR := Vl.hide (PR.out.below (bb.mono PR.out.z.2.2.2.2))
  clear bb
  clear cG0 cG1 cG2 cG3 cG4 cG5
  go_wp2_with fail
  go_ret
  exact ⟨rfl, PR.out.bw⟩

set_option maxRecDepth 100000 in
theorem lifted (os : Os) (started : os.Started) (H : Type) (enc : TypeId × Value → H) :
    ReturnsInHanded {} Try.checked os 4 .any (Rows.fnExactRunOptSpec.pre6 enc Try.prog Try.f4 Rows.fnExactRunOptRow.domain false) (Rows.fnExactRunOptSpec.post enc Try.prog Try.f4 false true false false) := by
  refine returnsInHanded_of_change (C := Try.checked) own started (by kernel_rfl) Try.func4
    (ChangeSpec.witness6 (enc := enc) (C := Try.checked) false ⟨#[], #[.agg #[.int .i64 0, .int .i64 0, .int .i64 0, .int .i64 0, .int .i64 0, .int .i64 0, .int .i64 0, .int .i64 0, .int .i64 0, .int .i64 0, .int .i64 0], .agg #[.slice none 0 0, .slice none 0 0, .slice none 0 0, .int .i64 0, .int .i64 0, .int .i64 0], .slice none 0 0], []⟩ 8 (by kernel_rfl) (by kernel_rfl) (by kernel_rfl) (by kernel_rfl)) ?_
  intro W base args ds gs before hval0 hW hcnd _
  have hval : ∀ (j : Nat) t v, Try.f4.params[j]? = some t → args[j]? = some v → Value.okWide Try.prog W .any base t v := hval0
  have hW' := hW
  obtain ⟨p, q, hA0, hV, rfl, hfz, hnd⟩ := hW
  have hA : DataW.TrodAll enc Try.prog W 0 (fun _ => true) true Try.f4.params.toList args.toList ds p := hA0
  rw [Try.params4] at hA hval
  obtain ⟨v0, vs0, d0, ds0, p0, q0, hargs, rfl, rfl, h0, rst0⟩ := trodAll_cons hA
  obtain ⟨v1, vs1, d1, ds1, p1, q1, rfl, rfl, rfl, h1, rst1⟩ := trodAll_cons rst0
  obtain ⟨v2, vs2, d2, ds2, p2, q2, rfl, rfl, rfl, h2, rst2⟩ := trodAll_cons rst1
  obtain ⟨rfl, rfl, rfl⟩ := trodAll_nil rst2
  obtain rfl : args = #[v0, v1, v2] := by cases args; simp_all
  obtain ⟨rfl, rfl⟩ := trodVars_none hV
  have k0 := h0
  have lt0 : ∀ x ∈ p0, x.block < W.heap.size := by obtain ⟨m, hm⟩ := k0; exact DataW.trod_lt m _ _ _ hm
  obtain ⟨x0a, x0b, x0c, x0d, x0e, x0f, x0g, x0h, x0i, x0j, x0k, rfl, bx0a, bx0b, bx0c, bx0d, bx0e, bx0f, bx0g, bx0h, bx0i, bx0j, bx0k⟩ := Vo.rule_at (hval 0 25 v0 rfl rfl) h0
  have k1 := h1
  have lt1 : ∀ x ∈ p1, x.block < W.heap.size := by obtain ⟨m, hm⟩ := k1; exact DataW.trod_lt m _ _ _ hm
  obtain ⟨a1, b1, c1, r1, qq1, s1, cap1, dap1, eap1, n1, f1, o1, rfl, wa1, wb1, wc1, bn1, bf1, bo1⟩ := Vo.opt_at (hval 1 28 v1 rfl rfl) h1
  have k2 := h2
  have lt2 : ∀ x ∈ p2, x.block < W.heap.size := by obtain ⟨m, hm⟩ := k2; exact DataW.trod_lt m _ _ _ hm
  obtain ⟨a2, r2, cap2, rfl⟩ := okWide_slice Try.underlying44 (hval 2 44 v2 rfl rfl)
  have w2 : Vo.Arg2 W a2 r2 := Vo.arg2_at h2
  clear hA0 hval0
  refine (walk x0a x0b x0c x0d x0e x0f x0g x0h x0i x0j x0k bx0a bx0b bx0c bx0d bx0e bx0f bx0g bx0h bx0i bx0j bx0k a1 b1 c1 r1 qq1 s1 cap1 dap1 eap1 n1 f1 o1 bn1 bf1 bo1 a2 r2 cap2 W wa1 wb1 wc1 w2).mono fun e W' ⟨he, bel⟩ => ?_
  subst he
  exact ⟨_, rfl, _, _, _, [], _, [], hW', trodAll_mk1 (shut_bool Try.underlying4 _), (trodAll_cons_mk (Below.trod laidOut (by kernel_rfl) (of_decide_eq_true (by kernel_rfl)) k0 bel lt0) (trodAll_cons_mk (Below.trod laidOut (by kernel_rfl) (of_decide_eq_true (by kernel_rfl)) k1 bel lt1) (trodAll_cons_mk (Below.trod laidOut (by kernel_rfl) (of_decide_eq_true (by kernel_rfl)) k2 bel lt2) trodAll_mk0))), rfl, bel.frame _, fun h => by cases h⟩

theorem over : Rows.fnExactRunOptRow.holds Try.pinned (OpenSpec.ofChange Rows.fnExactRunOptSpec) :=
  OpenClaim.holds_of_wide 4 Try.f4 rfl rfl rfl rfl rfl rfl rfl ⟨rfl, rfl, rfl, rfl, rfl⟩ rfl rfl rfl rfl rfl (by kernel_rfl) Try.func4 (by kernel_rfl)
    (of_decide_eq_true (by kernel_rfl)) (by unfold Func.isWrapper; first | (rw [if_pos (by decide +kernel)]; kernel_rfl) | (rw [if_neg (by decide +kernel)]; exact ⟨rfl, rfl⟩))
    (fun os started H enc _ => lifted os started H enc)

theorem proved : Rows.FnExactRunOptSaid := over
#print axioms proved
end Go.Proofs.Ytajljeegkmkkcaa.fnExactRunOpt
