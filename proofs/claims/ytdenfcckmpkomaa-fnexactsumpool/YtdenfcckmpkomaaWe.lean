/- Pools of the model. -/
import Derived.Test.YtdenfcckmpkomaaWd
import Derived.Test.YtdenfcckmpkomaaTh
import Derived.BigQuiet
import Derived.Deep.RegionHeld3
namespace Go.Proofs.Ytdenfcckmpkomaa
namespace Vo
open Go.ChangeShapes Go.WideShapes Go.ChangeAt Go.RowKit Go.Joins Go.Sort
open Vl Vp Vr
set_option linter.unusedVariables false
set_option linter.unusedSimpArgs false
def poolN (d z t : Int) : Int := if 1 ≤ z ∧ 1 ≤ t ∧ z ≤ d then poolH d z t else 0
theorem l5Out (d z t : Int) (w : World) (hd : d ≤ 4096) : Calls Try.prog 81 #[.int .i64 d, .int .i64 z, .int .i64 t] w fun e w' => e = .returned (.int .i64 (poolN d z t)) ∧ w' = w := by
  rcases pool_ways (z := z) (t := t) (d := d) with ⟨d1, no⟩ | ⟨d1, d2, no⟩ | ⟨d1, d2, d3, no⟩ | ⟨d1, d2, d3, yes⟩
  · have ez := hide (show poolN d z t = 0 by unfold poolN; rw [if_neg no])
    clear no
    go_enter Try.func81, Try.ntmps81
    go_wp2_with fail
    go_ret
    exact ⟨ret_int ez.out.symm, rfl⟩
  · have ez := hide (show poolN d z t = 0 by unfold poolN; rw [if_neg no])
    clear no
    go_enter Try.func81, Try.ntmps81
    go_wp2_with fail
    go_ret
    exact ⟨ret_int ez.out.symm, rfl⟩
  · have ez := hide (show poolN d z t = 0 by unfold poolN; rw [if_neg no])
    clear no
    go_enter Try.func81, Try.ntmps81
    go_wp2_with fail
    go_ret
    exact ⟨ret_int ez.out.symm, rfl⟩
  · have ez := hide (show poolN d z t = poolH d z t by unfold poolN; rw [if_pos yes])
    obtain ⟨q1, q2, q3, q4, q5⟩ := pool_wraps yes.1 yes.2.1 yes.2.2 hd
    have t0 : (t == 0) = false := by have := yes.2.1; simp; omega
    have tne : ¬ (t = 0) := by have := yes.2.1; omega
    obtain ⟨P, hP⟩ : ∃ P, poolH d z t = P := ⟨_, rfl⟩
    obtain ⟨b', hb'⟩ : ∃ b', (d - z).tdiv t = b' := ⟨_, rfl⟩
    rw [hP] at q3 ez
    rw [hb'] at q2 q3
    clear yes q4 q5 hP
    go_enter Try.func81, Try.ntmps81
    go_wp2_with fail
    go_ret
    exact ⟨ret_int ez.out.symm, rfl⟩
set_option maxRecDepth 100000 in
set_option maxHeartbeats 4000000 in
theorem specPool (op : Int) (gr : Bool) (hop : (gr = false ∧ op = 1) ∨ (gr = true ∧ op = 5)) (B : Nat) (a : Addr) (b : Option Addr) (r s cap dap : Nat) (D S : Nat → Int) (z t : Int) (w : World) (hB : B ≤ w.heap.size) (h : Ints B w (some a) r D) (h' : Ints B w b s S) (hr : (r : Int) ≤ 1048576) (hs : (s : Int) ≤ 1048576) :
    Calls Try.prog 49 #[.agg #[.slice (some a) r cap, .slice b s dap], .int .i64 z, .int .i64 t, .bool gr] w fun e w' => TensR w.heap.size (poolP op r s D S z t) w e w' := by
  have hm : Mix (two1 op) := by rcases hop with ⟨_, rfl⟩ | ⟨_, rfl⟩; exact mix1; exact mix5
  obtain ⟨W0, hW0⟩ : ∃ W0, (w.alloc (.cells #[.slice (some a) r cap, .slice b s dap] 26)).alloc (.cells #[.slice none 0 0, .slice none 0 0] 26) = W0 := ⟨_, rfl⟩
  have hs0 : W0.heap.size = w.heap.size + 1 + 1 := by rw [← hW0]; simp
  have bl : Below w.heap.size w W0 := by rw [← hW0]; exact ((Below.refl _ _).alloc (Nat.le_refl _) _).alloc (by simp) _
  have n0 : Bx W0 w.heap.size (.slice (some a) r cap) (.slice b s dap) := by rw [← hW0]; exact ⟨by simp [go_sem], by simp [go_sem]⟩
  have m0 : Bx W0 (w.heap.size + 1) (.slice none 0 0) (.slice none 0 0) := by rw [← hW0]; exact ⟨by simp [go_sem], by simp [go_sem]⟩
  have g0 : Free W0 (w.heap.size + 1) := by rw [← hW0]; intro i; simp [go_sem]
  have H := hide (h.below (bl.mono hB))
  have H' := hide (h'.below (bl.mono hB))
  have BL := hide bl
  have HS0 := hide hs0
  have N0 := hide n0
  have M0 := hide m0
  have G0 := hide g0
  have HM := hide hm
  have HOP := hide hop
  have NO := hide (fun (hz : ¬ PoolOk r s D S z t) (w2 : World) (hb : Below w.heap.size w w2) => show TensR w.heap.size (poolP op r s D S z t) w (.returned (.agg #[.slice none 0 0, .slice none 0 0])) w2 by rw [poolP_no hm hz]; exact tensR_zero hb)
  obtain ⟨x0, x1⟩ := n0
  clear h h' bl m0 g0 hs0 hm hop
  go_enter Try.func49, Try.ntmps49
  go_wp2_with fail
  clear hW0
  refine (specTensorOk B (some a) b r s cap dap D S _ (by have := HS0.out; omega) H.out H'.out hr hs).mono ?_
  rintro e w1 ⟨rfl, b1⟩
  have z0 := HS0.out
  have N1 := hide (N0.out.below b1 (by omega))
  have M1 := hide (M0.out.below b1 (by omega))
  have G1 := hide (G0.out.below b1 (by omega))
  have B1 := hide (BL.out.trans (b1.mono BL.out.size))
  have H1 := hide (H.out.below (b1.mono (by omega)))
  have H1' := hide (H'.out.below (b1.mono (by omega)))
  have s1 : w.heap.size + 1 < w1.heap.size := by have := b1.size; omega
  clear b1 x0 x1 z0
  obtain ⟨x0, x1⟩ := N1.out
  obtain ⟨y0, y1⟩ := M1.out
  have gg := G1.out
  unfold Free at gg
  cases ht : tok r s D S with
  | false =>
    have NN := hide (show ¬ PoolOk r s D S z t from fun e => by have := e.1; rw [ht] at this; exact absurd this (by decide))
    clear ht
    go_wp2_with fail
    refine bodyPost_ret (v := .agg #[.slice none 0 0, .slice none 0 0]) (by simp [results, Try.results49, go_sem, y0, y1]) rfl (NO.out NN.out _ (by
      repeat (refine Below.setCell ?_ (by simp) _)
      exact B1.out))
  | true =>
  by_cases hr2 : (r : Int) < 2
  · have NN := hide (show ¬ PoolOk r s D S z t from fun e => by have := e.2.1; omega)
    have hr2' : decide ((r : Int) < 2) = true := decide_eq_true hr2
    clear ht hr2
    go_wp2_with fail
    refine bodyPost_ret (v := .agg #[.slice none 0 0, .slice none 0 0]) (by simp [results, Try.results49, go_sem, y0, y1]) rfl (NO.out NN.out _ (by
      repeat (refine Below.setCell ?_ (by simp) _)
      exact B1.out))
  obtain ⟨q, rfl⟩ : ∃ q, r = q + 2 := ⟨r - 2, by omega⟩
  obtain ⟨td, ts, tw⟩ := tok_split ht
  have HT := hide ht
  have TD := hide td
  have TS := hide ts
  have TW := hide tw
  have q4 : q ≤ 4 := by have := (dok_iff.1 td).1; omega
  have s4 : (s : Int) ≤ 4096 := by rw [← ts]; exact (szR_rng D (q + 2)).2
  have dq := dok_len td (j := q) (by omega)
  have dq1 := dok_len td (j := q + 1) (by omega)
  have hr2a : decide (((q + 2 : Nat) : Int) < 2) = false := decide_eq_false (by omega)
  have hr2b : decide ((q : Int) + 2 < 2) = false := decide_eq_false (by omega)
  have wa : IntKind.i64.wrap (((q + 2 : Nat) : Int) - 2) = (q : Int) := by rw [wrap_in (by omega) (by omega)]; omega
  have wb : IntKind.i64.wrap ((q : Int) + 2 - 2) = (q : Int) := by rw [wrap_in (by omega) (by omega)]; omega
  have wc' : IntKind.i64.wrap (((q + 2 : Nat) : Int) - 1) = ((q + 1 : Nat) : Int) := by rw [wrap_in (by omega) (by omega)]; omega
  have wd : IntKind.i64.wrap ((q : Int) + 2 - 1) = ((q + 1 : Nat) : Int) := by rw [wrap_in (by omega) (by omega)]; omega
  rcases H1.out with h0 | ⟨ab, ao, hae, hab, hac⟩
  · omega
  injection hae with hae
  subst hae
  have ck := (hac q (by omega)).1
  have ck1 := (hac (q + 1) (by omega)).1
  have kI : (q : Int) < ((q + 2 : Nat) : Int) := by omega
  have kI2 : (q : Int) < (q : Int) + 2 := by omega
  have kJ : ((q + 1 : Nat) : Int) < ((q + 2 : Nat) : Int) := by omega
  have kJ2 : (q : Int) + 1 < (q : Int) + 2 := by omega
  have CH := hide (fun (W : World) => l5Out (D q) z t W dq.2)
  have CG := hide (fun (W : World) => l5Out (D (q + 1)) z t W dq1.2)
  have HV0 := hide (show poolN (D q) z t = 0 → ¬ PoolOk (q + 2) s D S z t from fun e c => by
    have y : 1 ≤ z ∧ 1 ≤ t ∧ z ≤ D q := ⟨c.2.2.1, c.2.2.2.1, by have := c.2.2.2.2.1; rwa [show q + 2 - 2 = q by omega] at this⟩
    unfold poolN at e
    rw [if_pos y] at e
    have := (poolH_rng y.1 y.2.1 y.2.2).1
    omega)
  have GV0 := hide (show poolN (D (q + 1)) z t = 0 → ¬ PoolOk (q + 2) s D S z t from fun e c => by
    have y : 1 ≤ z ∧ 1 ≤ t ∧ z ≤ D (q + 1) := ⟨c.2.2.1, c.2.2.2.1, by have := c.2.2.2.2.2; rwa [show q + 2 - 1 = q + 1 by omega] at this⟩
    unfold poolN at e
    rw [if_pos y] at e
    have := (poolH_rng y.1 y.2.1 y.2.2).1
    omega)
  have YS := hide (show poolN (D q) z t ≠ 0 → poolN (D (q + 1)) z t ≠ 0 → PoolOk (q + 2) s D S z t ∧ poolN (D q) z t = poolH (D q) z t ∧ poolN (D (q + 1)) z t = poolH (D (q + 1)) z t from fun e1 e2 => by
    have y1 : 1 ≤ z ∧ 1 ≤ t ∧ z ≤ D q := by
      by_cases c : 1 ≤ z ∧ 1 ≤ t ∧ z ≤ D q
      · exact c
      · exact absurd (by unfold poolN; rw [if_neg c]) e1
    have y2 : 1 ≤ z ∧ 1 ≤ t ∧ z ≤ D (q + 1) := by
      by_cases c : 1 ≤ z ∧ 1 ≤ t ∧ z ≤ D (q + 1)
      · exact c
      · exact absurd (by unfold poolN; rw [if_neg c]) e2
    refine ⟨⟨HT.out, by omega, y1.1, y1.2.1, by rw [show q + 2 - 2 = q by omega]; exact y1.2.2, by rw [show q + 2 - 1 = q + 1 by omega]; exact y2.2.2⟩, ?_, ?_⟩
    · unfold poolN; rw [if_pos y1]
    · unfold poolN; rw [if_pos y2])
  obtain ⟨hv, hhv⟩ : ∃ hv, poolN (D q) z t = hv := ⟨_, rfl⟩
  obtain ⟨gv, hgv⟩ : ∃ gv, poolN (D (q + 1)) z t = gv := ⟨_, rfl⟩
  rw [hhv] at CH HV0 YS
  rw [hgv] at CG GV0 YS
  clear hac ht td ts tw hr2 hhv hgv
  go_wp2_with fail
  refine (CH.out _).mono ?_
  rintro e w1' ⟨rfl, hw⟩
  have hw := hw.symm
  subst hw
  go_wp2_with fail
  refine (CG.out _).mono ?_
  rintro e w1' ⟨rfl, hw⟩
  have hw := hw.symm
  subst hw
  by_cases e1 : hv = 0
  · have e1' : (hv == 0) = true := beq_iff_eq.2 e1
    have NN := hide (HV0.out e1)
    clear e1
    go_wp2_with fail
    refine bodyPost_ret (v := .agg #[.slice none 0 0, .slice none 0 0]) (by simp [results, Try.results49, go_sem, y0, y1]) rfl (NO.out NN.out _ (by
      repeat (refine Below.setCell ?_ (by simp) _)
      exact B1.out))
  have e1' : (hv == 0) = false := beq_eq_false_iff_ne.2 e1
  by_cases e2 : gv = 0
  · have e2' : (gv == 0) = true := beq_iff_eq.2 e2
    have NN := hide (GV0.out e2)
    clear e1 e2
    go_wp2_with fail
    refine bodyPost_ret (v := .agg #[.slice none 0 0, .slice none 0 0]) (by simp [results, Try.results49, go_sem, y0, y1]) rfl (NO.out NN.out _ (by
      repeat (refine Below.setCell ?_ (by simp) _)
      exact B1.out))
  have e2' : (gv == 0) = false := beq_eq_false_iff_ne.2 e2
  obtain ⟨yok, yh, yg⟩ := YS.out e1 e2
  have z1 : 1 ≤ z := yok.2.2.1
  have t1 : 1 ≤ t := yok.2.2.2.1
  obtain ⟨Z, rfl⟩ : ∃ Z : Nat, z = Z := ⟨z.toNat, by omega⟩
  have zd : (Z : Int) ≤ 4096 := by have := yok.2.2.2.2.1; rw [show q + 2 - 2 = q by omega] at this; omega
  have hrg := poolH_rng z1 t1 (show (Z : Int) ≤ D q by have := yok.2.2.2.2.1; rwa [show q + 2 - 2 = q by omega] at this)
  have grg := poolH_rng z1 t1 (show (Z : Int) ≤ D (q + 1) by have := yok.2.2.2.2.2; rwa [show q + 2 - 1 = q + 1 by omega] at this)
  rw [← yh] at hrg
  rw [← yg] at grg
  have bh' : 1 ≤ hv ∧ hv ≤ 4096 := by omega
  have bg' : 1 ≤ gv ∧ gv ≤ 4096 := by omega
  obtain ⟨V, ez, hdE, hV⟩ := poolP_is HM.out yok
  have EE := hide (show up1 (up1 D q hv) (q + 1) gv = poolE q D Z t by rw [yh, yg]; rfl)
  have YOK := hide yok
  have EZ := hide ez
  have HDE := hide hdE
  have HVV := hide hV
  clear e1 e2 yok yh yg hrg grg ez hdE hV YS HV0 GV0 CH CG
  go_wp2_with fail
  refine (l4With B (some ⟨ab, ao, none⟩) (q + 2) cap q D hv _ (by omega) H1.out hr (by omega) (by unfold bd; omega)).mono ?_
  rintro e w2 ⟨g1, c1, rfl, r1, hg1, hg2, b2⟩
  have N2 := hide (N1.out.below b2 (by omega))
  have M2 := hide (M1.out.below b2 (by omega))
  have G2 := hide (G1.out.below b2 (by omega))
  have B2 := hide (B1.out.trans (b2.mono B1.out.size))
  have H2 := hide (H1.out.below (b2.mono (by omega)))
  have H2' := hide (H1'.out.below (b2.mono (by omega)))
  have R1 := hide r1
  have s2 : w1.heap.size ≤ w2.heap.size := b2.size
  clear b2 r1 x0 x1 y0 y1 gg ck ck1
  go_wp2_with fail
  refine (l4With w2.heap.size (some ⟨g1, 0, none⟩) (q + 2) c1 (q + 1) (up1 D q hv) gv _ (Nat.le_refl _) (R1.out.ints hg2) hr (by omega) (by unfold bd; omega)).mono ?_
  rw [EE.out]
  rintro e w3 ⟨g2, c2, rfl, r2, hg3, hg4, b3⟩
  have PYE := hide (fun (j a b : Nat) => show poolY q D S Z t j a b = S (od D (up1 (up1 (dg (poolE q D Z t) (q + 2) j) q (dg (poolE q D Z t) (q + 2) j q * t + a)) (q + 1) (dg (poolE q D Z t) (q + 2) j (q + 1) * t + b)) (q + 2)).toNat from rfl)
  obtain ⟨E, hE⟩ : ∃ E, poolE q D Z t = E := ⟨_, rfl⟩
  rw [hE] at r2 EZ HDE HVV PYE
  obtain ⟨N, hN⟩ : ∃ N, cntT (q + 2) E = N := ⟨_, rfl⟩
  have hn1 : szR E (q + 2) = (N : Int) := by rw [← hN]; exact (cntT_cast (q + 2) E).symm
  have n4 : (N : Int) ≤ 4096 := by rw [← hn1]; exact (szR_rng E (q + 2)).2
  rw [hN] at EZ HVV
  rw [Int.toNat_natCast] at HVV
  have HN1 := hide hn1
  have N3 := hide (N2.out.below b3 (by omega))
  have M3 := hide (M2.out.below b3 (by omega))
  have G3 := hide (G2.out.below b3 (by omega))
  have B3 := hide (B2.out.trans (b3.mono B2.out.size))
  have H3 := hide (H2.out.below (b3.mono (by omega)))
  have H3' := hide (H2'.out.below (b3.mono (by omega)))
  have R2 := hide r2
  have s3 : w2.heap.size ≤ w3.heap.size := b3.size
  clear b3 r2 hE hN hn1 EE
  go_wp2_with fail
  refine (l4New w3.heap.size ⟨g2, 0, none⟩ (q + 2) c2 N E _ (Nat.le_refl _) (R2.out.ints hg4) hr HN1.out n4).mono ?_
  rintro e w4 ⟨va, vc, g, rfl, ov, rg, lg, hg, hne, b4⟩
  have sb := b4.size
  obtain ⟨W4, hW4⟩ : ∃ W4, w4.alloc (.cells #[.slice va (q + 2) vc, .slice (some ⟨g, 0, none⟩) N N] 26) = W4 := ⟨_, rfl⟩
  have b5 : Below w4.heap.size w4 W4 := by rw [← hW4]; exact (Below.refl _ _).alloc (Nat.le_refl _) _
  have z4 : W4.heap.size = w4.heap.size + 1 := by rw [← hW4]; simp
  have T4 := hide (show Bx W4 w4.heap.size (.slice va (q + 2) vc) (.slice (some ⟨g, 0, none⟩) N N) by rw [← hW4]; exact bx_new w4 _ _ _)
  have N4 := hide ((N3.out.below b4 (by omega)).below b5 (by omega))
  have M4 := hide ((M3.out.below b4 (by omega)).below b5 (by omega))
  have G4 := hide ((G3.out.below b4 (by omega)).below b5 (by omega))
  have H4 := hide ((H3.out.below (b4.mono (by omega))).below (b5.mono (by omega)))
  have H4' := hide ((H3'.out.below (b4.mono (by omega))).below (b5.mono (by omega)))
  have B4 := hide ((B3.out.trans (b4.mono B3.out.size)).trans (b5.mono (by omega)))
  have OV := hide (ov.below b5)
  have RG := hide (rg.below b5 hg)
  have HNE := hide hne
  have Z4 := hide z4
  have zg : w.heap.size + 1 < g := by omega
  have zw : w.heap.size + 1 < w4.heap.size := by omega
  clear ov rg b4 b5 sb hne z4
  obtain ⟨x0, x1⟩ := T4.out
  go_wp2_with fail
  clear hW4
  go_loopw [13] (fun i wx => ∃ j : Nat, j ≤ N ∧ i = .int .i64 j ∧ Bx wx w4.heap.size (.slice va (q + 2) vc) (.slice (some ⟨g, 0, none⟩) N N) ∧ Rw wx g N (fun p => if p < j then V p else 0) ∧ Kept (· = g) W4 wx) (fun i _ => N - (intOf i).toNat)
  case atStart => exact ⟨0, Nat.zero_le _, rfl, T4.out, RG.out.same (fun t ht => by simp), Kept.refl _ _⟩
  case round =>
    obtain ⟨X, rfl⟩ : ∃ X, X = wr := ⟨_, rfl⟩
    obtain ⟨j, hj, rfl, hbx, hrw, hkp⟩ := hrel
    have HBX := hide hbx
    have HRW := hide hrw
    have HKP := hide hkp
    have lX : w4.heap.size + 1 ≤ X.heap.size := by have := HKP.out.size; have := Z4.out; omega
    clear x0 x1
    obtain ⟨u0, u1⟩ := hbx
    clear hrw hkp
    by_cases hlt : j < N
    · have jI : (j : Int) < N := by omega
      have OVX := hide (OV.out.kept HKP.out (fun b q e => HNE.out b q e))
      have HDD := hide (fun i hi => dok_len HDE.out (j := i) hi)
      obtain ⟨hYN, hVj⟩ := HVV.out j hlt
      have YN := hide hYN
      have VJ := hide hVj
      clear hYN hVj
      go_wp2_with fail
      refine (l3Index X.heap.size va (q + 2) vc E j _ OVX.out.ints (Nat.le_refl _) (by omega) HDD.out (by omega) (by omega)).mono ?_
      rintro e X1 ⟨rfl, ra, sa, ba⟩
      have RA := hide ra
      have KX := hide (show Kept (· = g) W4 X1 from HKP.out.trans (Kept.of_below ba))
      have RX := hide (HRW.out.below ba (by omega))
      have lX1 : X.heap.size < X1.heap.size := sa
      have dgr := dg_rng E (q + 2) (fun i hi => (HDD.out i hi).1) (j : Int)
      obtain ⟨aq, haq⟩ : ∃ aq : Nat, dg E (q + 2) j q = aq := ⟨(dg E (q + 2) j q).toNat, by have := dgr q (by omega); omega⟩
      obtain ⟨aq1, haq1⟩ : ∃ aq1 : Nat, dg E (q + 2) j (q + 1) = aq1 := ⟨(dg E (q + 2) j (q + 1)).toNat, by have := dgr (q + 1) (by omega); omega⟩
      have HAQ := hide haq
      have HAQ1 := hide haq1
      obtain ⟨Y, hY⟩ : ∃ Y : Nat → Nat → Int, (fun a b => poolY q D S Z t j a b) = Y := ⟨_, rfl⟩
      have PY := hide (fun (a b : Nat) => show S (od D (up1 (up1 (dg E (q + 2) j) q ((aq : Int) * t + a)) (q + 1) ((aq1 : Int) * t + b)) (q + 2)).toNat = Y a b by rw [← hY]; show _ = poolY q D S Z t j a b; rw [PYE.out j a b, haq, haq1])
      have YI := hide (fun (a b : Nat) (ha : a < Z) (hb : b < Z) => show isN (Y a b) by rw [← hY]; exact (YN.out a b (by omega) (by omega)).1)
      have YR := hide (fun (a b : Nat) (ha : a < Z) (hb : b < Z) => show ∀ i, i < q + 2 → 0 ≤ up1 (up1 (dg E (q + 2) j) q ((aq : Int) * t + a)) (q + 1) ((aq1 : Int) * t + b) i ∧ up1 (up1 (dg E (q + 2) j) q ((aq : Int) * t + a)) (q + 1) ((aq1 : Int) * t + b) i < D i by rw [← haq, ← haq1]; exact (YN.out a b (by omega) (by omega)).2)
      have VY := hide (show V j = fo (two1 op) (fun a => fo (two1 op) (Y a) (Z - 1)) (Z - 1) by rw [VJ.out, ← hY])
      clear ra ba dgr haq haq1 hY YN VJ u0 u1
      go_wp2_with fail
      go_loopw [15] (fun i wx => ∃ a : Nat, a ≤ Z ∧ i = .int .i64 a ∧ Rw wx g N (fun p => if p = j then poolC (two1 op) Z Y a 0 else if p < j then V p else 0) ∧ Kept (· = g) X1 wx) (fun i _ => Z - (intOf i).toNat)
      case atStart => exact ⟨0, Nat.zero_le _, rfl, RX.out.same (fun p hp => by
        by_cases c : p = j
        · subst c; simp [poolC]
        · simp [c]), Kept.refl _ _⟩
      case round =>
        obtain ⟨X2, rfl⟩ : ∃ X2, X2 = wr := ⟨_, rfl⟩
        obtain ⟨ia, hia, rfl, hr2, hk2⟩ := hrel
        have HR2 := hide hr2
        have HK2 := hide hk2
        clear hr2 hk2
        by_cases hal : ia < Z
        · have aI : (ia : Int) < Z := by omega
          go_wp2_with fail
          go_loopw [16] (fun i wx => ∃ b : Nat, b ≤ Z ∧ i = .int .i64 b ∧ Rw wx g N (fun p => if p = j then poolC (two1 op) Z Y ia b else if p < j then V p else 0) ∧ Kept (· = g) X1 wx) (fun i _ => Z - (intOf i).toNat)
          case atStart => exact ⟨0, Nat.zero_le _, rfl, HR2.out, HK2.out⟩
          case round =>
            obtain ⟨X3, rfl⟩ : ∃ X3, X3 = wr := ⟨_, rfl⟩
            obtain ⟨ib, hib, rfl, hr3, hk3⟩ := hrel
            have HR3 := hide hr3
            have HK3 := hide hk3
            clear hr3 hk3
            by_cases hbl : ib < Z
            · have bI : (ib : Int) < Z := by omega
              have KW := hide (show Kept (· = g) W4 X3 from KX.out.trans HK3.out)
              have lW : W4.heap.size ≤ X3.heap.size := KW.out.size
              have zW := Z4.out
              have l31 : X1.heap.size ≤ X3.heap.size := HK3.out.size
              have N5 := hide (N4.out.kept KW.out (by omega) (by show ¬ w.heap.size = g; omega))
              have T5 := hide (T4.out.kept KW.out (by omega) (by show ¬ w4.heap.size = g; omega))
              have H5 := hide (H4.out.kept (by omega) KW.out (fun y hy e => by have e : y = g := e; omega))
              have H5' := hide (H4'.out.kept (by omega) KW.out (fun y hy e => by have e : y = g := e; omega))
              have RA3 := hide (RA.out.kept HK3.out (show ¬ X.heap.size = g by omega))
              clear zW
              obtain ⟨ca, _, _⟩ := RA3.out q (by omega)
              obtain ⟨ca1, _, _⟩ := RA3.out (q + 1) (by omega)
              rw [HAQ.out] at ca
              rw [HAQ1.out] at ca1
              have r1 := YR.out ia ib hal hbl q (by omega)
              rw [up1_ne _ _ (by omega), up1_at] at r1
              have r2 := YR.out ia ib hal hbl (q + 1) (by omega)
              rw [up1_at] at r2
              have p1 : 0 ≤ (aq : Int) * t := Int.mul_nonneg (by omega) (by omega)
              have p2 : 0 ≤ (aq1 : Int) * t := Int.mul_nonneg (by omega) (by omega)
              obtain ⟨mq, hmq⟩ : ∃ mq : Nat, (aq : Int) * t = mq := ⟨((aq : Int) * t).toNat, by omega⟩
              obtain ⟨mq1, hmq1⟩ : ∃ mq1 : Nat, (aq1 : Int) * t = mq1 := ⟨((aq1 : Int) * t).toNat, by omega⟩
              rw [hmq] at r1
              rw [hmq1] at r2
              obtain ⟨iv, hiv⟩ : ∃ iv : Nat, (mq : Int) + ia = iv := ⟨mq + ia, by omega⟩
              obtain ⟨jv, hjv⟩ : ∃ jv : Nat, (mq1 : Int) + ib = jv := ⟨mq1 + ib, by omega⟩
              have wm1 : IntKind.i64.wrap ((aq : Int) * t) = mq := by rw [hmq]; exact wrap_in (by omega) (by omega)
              have wm2 : IntKind.i64.wrap ((mq : Int) + ia) = iv := by rw [hiv]; exact wrap_in (by omega) (by omega)
              have wn1 : IntKind.i64.wrap ((aq1 : Int) * t) = mq1 := by rw [hmq1]; exact wrap_in (by omega) (by omega)
              have wn2 : IntKind.i64.wrap ((mq1 : Int) + ib) = jv := by rw [hjv]; exact wrap_in (by omega) (by omega)
              have iv4 : (iv : Int) ≤ 4096 ∧ (jv : Int) ≤ 4096 := by omega
              have PYY := hide (show S (od D (up1 (up1 (dg E (q + 2) j) q (iv : Int)) (q + 1) (jv : Int)) (q + 2)).toNat = Y ia ib by rw [← hiv, ← hjv, ← hmq, ← hmq1]; exact PY.out ia ib)
              have IXR := hide (show ∀ i, i < q + 2 → 0 ≤ up1 (up1 (dg E (q + 2) j) q (iv : Int)) (q + 1) (jv : Int) i ∧ up1 (up1 (dg E (q + 2) j) q (iv : Int)) (q + 1) (jv : Int) i < D i by rw [← hiv, ← hjv, ← hmq, ← hmq1]; exact YR.out ia ib hal hbl)
              have C1 := hide (fun (W : World) (hW : Below X3.heap.size X3 W) => l4With X3.heap.size (some ⟨X.heap.size, 0, none⟩) (q + 2) (q + 2) q (dg E (q + 2) j) iv W hW.size ((RA3.out.below hW (by omega)).ints (by omega)) hr (by omega) (by unfold bd; omega))
              have C2 := hide (fun (W : World) (gi ci : Nat) (lt : gi < W.heap.size) (rw1 : Rw W gi (q + 2) (up1 (dg E (q + 2) j) q (iv : Int))) => l4With W.heap.size (some ⟨gi, 0, none⟩) (q + 2) ci (q + 1) (up1 (dg E (q + 2) j) q (iv : Int)) jv W (Nat.le_refl _) (rw1.ints lt) hr (by omega) (by unfold bd; omega))
              have C3 := hide (fun (W : World) (hW : Below X3.heap.size X3 W) (gi ci : Nat) (lt : gi < W.heap.size) (rw1 : Rw W gi (q + 2) (up1 (up1 (dg E (q + 2) j) q (iv : Int)) (q + 1) (jv : Int))) => l4Get W.heap.size (some ⟨ab, ao, none⟩) b (some ⟨gi, 0, none⟩) (q + 2) s cap dap (q + 2) ci D S (up1 (up1 (dg E (q + 2) j) q (iv : Int)) (q + 1) (jv : Int)) W (Nat.le_refl _) ((H5.out.below (hW.mono (by omega))).mono (by have := hW.size; omega)) ((H5'.out.below (hW.mono (by omega))).mono (by have := hW.size; omega)) (rw1.ints lt) (Nat.le_refl _) HT.out IXR.out)
              rw [PYY.out] at C3
              obtain ⟨yv, hyv⟩ : ∃ yv, Y ia ib = yv := ⟨_, rfl⟩
              rw [hyv] at C3
              have HYV := hide hyv
              have A0 := hide (show Below X3.heap.size X3 X3.drew from (Below.refl _ _).drew)
              have A1 := hide (fun (W : World) (hW : Below X3.drew.heap.size X3.drew W) => show Below X3.heap.size X3 W from A0.out.trans hW)
              have A2 := hide (fun (W W' : World) (hW : Below X3.heap.size X3 W) (hW' : Below W.heap.size W W') => show Below X3.heap.size X3 W' from hW.trans (hW'.mono hW.size))
              have A3 := hide (fun (W : World) (hW : Below X3.heap.size X3 W) => N5.out.below hW (by omega))
              have A4 := hide (fun (W : World) (hW : Below X3.heap.size X3 W) => show W.cell? ⟨X.heap.size, q, none⟩ = some (.int .i64 (aq : Int)) from (hW.cell (p := ⟨X.heap.size, q, none⟩) (by show X.heap.size < X3.heap.size; omega)).trans ca)
              have A5 := hide (fun (W : World) (hW : Below X3.heap.size X3 W) => show W.cell? ⟨X.heap.size, q + 1, none⟩ = some (.int .i64 (aq1 : Int)) from (hW.cell (p := ⟨X.heap.size, q + 1, none⟩) (by show X.heap.size < X3.heap.size; omega)).trans ca1)
              obtain ⟨v0, v1⟩ := N5.out
              have we : IntKind.i64.wrap (q : Int) = (q : Int) := wrap_in (by omega) (by omega)
              have wf : IntKind.i64.wrap ((q : Int) + 1) = (q : Int) + 1 := wrap_in (by omega) (by omega)
              have wg : IntKind.i64.wrap ((q : Int) + 2 - 1) = (q : Int) + 1 := by rw [wrap_in (by omega) (by omega)]; omega
              have tn : ((q : Int) + 1).toNat = q + 1 := by omega
              have tp : (0 : Int) ≤ (q : Int) + 1 := by omega
              clear r1 r2 p1 p2 hmq hmq1 hiv hjv hyv
              go_wp2_with fail
              go_region_held3 (fun w' => w'.cell? ⟨w.heap.size, 0, none⟩ = some (.slice (some ⟨ab, ao, none⟩) (q + 2) cap) ∧ w'.cell? ⟨w.heap.size, 1, none⟩ = some (.slice b s dap) ∧ w'.cell? ⟨X.heap.size, q, none⟩ = some (.int .i64 (aq : Int)) ∧ w'.cell? ⟨X.heap.size, q + 1, none⟩ = some (.int .i64 (aq1 : Int)))
                ((try dsimp only) <;> (repeat' apply And.intro) <;> (first | with_reducible assumption | assumption))
                (first
                | (go_at_call_of 35 (Value.int .i64 (iv : Int))
                   refine (C1.out _ A0.out).mono ?_
                   rintro e wA ⟨gi, gc, rfl, qi, hgi, lgi, bA⟩
                   have bA' := hide (A1.out wA bA)
                   obtain ⟨k0, k1⟩ := A3.out wA bA'.out
                   have k2 := A4.out wA bA'.out
                   have k3 := A5.out wA bA'.out
                   have QI := hide qi
                   clear bA qi)
                | (go_at_call_of 35 (Value.int .i64 (jv : Int))
                   refine (C2.out wA gi gc lgi QI.out).mono ?_
                   rintro e wB ⟨gk, gd, rfl, qk, hgk, lgk, bB⟩
                   have bB' := hide (A2.out wA wB bA'.out bB)
                   obtain ⟨k0', k1'⟩ := A3.out wB bB'.out
                   have k2' := A4.out wB bB'.out
                   have k3' := A5.out wB bB'.out
                   have QK := hide qk
                   clear bB qk)
                | (go_at_call 41
                   refine (C3.out wB bB'.out gk gd lgk QK.out).mono ?_
                   rintro e wC ⟨rfl, bC⟩
                   have bC' := hide (A2.out wB wC bB'.out bC)
                   obtain ⟨k0'', k1''⟩ := A3.out wC bC'.out
                   have k2'' := A4.out wC bC'.out
                   have k3'' := A5.out wC bC'.out
                   clear bC))
              have bC := bC'.out
              have gX : g < X3.heap.size := by have := Z4.out; omega
              have gC : g < wC.heap.size := by have := bC.size; omega
              have HR5 := hide (HR3.out.below bC gX)
              have K5 := hide (show Kept (· = g) X1 wC from HK3.out.trans (Kept.of_below bC))
              have T6 := hide (T5.out.below bC (by have := Z4.out; omega))
              obtain ⟨cj, fj, _⟩ := HR5.out j hlt
              dsimp only at cj
              rw [if_pos rfl] at cj
              obtain ⟨h0', h1'⟩ := T6.out
              have yN : isN yv := by rw [← HYV.out]; exact YI.out ia ib hal hbl
              have cN := poolC_isN HM.out (show 1 ≤ Z by omega) (y := Y) (a := ia) (b := ib) (by omega) (fun i hi b hb => .inl (YI.out i b (by omega) hb)) (.inl hal)
              have ST := hide (show 0 < ia + ib → poolC (two1 op) Z Y ia (ib + 1) = two1 op (poolC (two1 op) Z Y ia ib) yv from fun e => by rw [← HYV.out]; exact poolC_step e)
              have SF := hide (show ia + ib = 0 → poolC (two1 op) Z Y ia (ib + 1) = yv ∧ poolC (two1 op) Z Y ia ib = 0 from fun e => by
                have e1 : ia = 0 := by omega
                have e2 : ib = 0 := by omega
                rw [← HYV.out, e1, e2]
                exact ⟨rfl, rfl⟩)
              obtain ⟨cv, hcv⟩ : ∃ cv, poolC (two1 op) Z Y ia ib = cv := ⟨_, rfl⟩
              obtain ⟨cn, hcn⟩ : ∃ cn, poolC (two1 op) Z Y ia (ib + 1) = cn := ⟨_, rfl⟩
              rw [hcv] at cj cN ST SF
              rw [hcn] at ST SF
              have HCN := hide hcn
              have HCV := hide hcv
              have CN := hide cN
              have YNN := hide yN
              unfold isN at cN yN
              clear hcv hcn bC k0 k1 k2 k3 k0' k1' k2' k3' k0'' k1'' k2'' k3'' v0 v1 ca ca1 C1 C2 C3 A0 A1 A2 A3 A4 A5 wm1 wm2 wn1 wn2
              rcases HOP.out with ⟨rfl, rfl⟩ | ⟨rfl, rfl⟩
              · have PL := hide (show (cv + yv) % 2147483647 = cn by
                  by_cases e : ia + ib = 0
                  · obtain ⟨s1, s2⟩ := SF.out e
                    omega
                  · have := ST.out (by omega)
                    rw [this]
                    unfold two1
                    simp)
                have CP := hide (fun (W : World) => Base.specPlus cv yv W (by omega) (by omega) (by omega) (by omega))
                rw [PL.out] at CP
                have BCN := hide (show bd cn by have := PL.out; unfold bd; omega)
                clear cN yN ST SF
                go_wp2_with fail
                go_region_with (first
                  | (go_at_call 40; refine (CP.out _).mono ?_; rintro e w1 ⟨rfl, rfl⟩))
                all_goals (go_wp2_with fail)
                all_goals go_roundw
                all_goals first
                    | (simp only [intOf]; omega)
                    | (simp [intOf]; omega)
                    | exact ⟨ib + 1, by omega, by go_num, ((rw_drew HR5.out).set j _ BCN.out).same (fun p hp => by
                        rw [HCN.out]
                        by_cases c : p = j
                        · simp [c]
                        · simp [c]), (kept_drew K5.out).trans (Kept.setCell _ ⟨g, j, none⟩ _)⟩
              · have wab : IntKind.i64.wrap ((ia : Int) + ib) = (ia : Int) + ib := wrap_in (by omega) (by omega)
                by_cases e0 : ia + ib = 0
                · have e0' : ((ia : Int) + (ib : Int) == 0) = true := beq_iff_eq.2 (by omega)
                  have ecn := (SF.out e0).1
                  have BCN := hide (show bd yv by unfold bd; omega)
                  have ECN := hide ecn
                  clear e0 ecn cN yN ST SF
                  go_wp2_with fail
                  go_quiet (fail)
                  go_wp2_with fail
                  go_roundw
                  all_goals first
                    | (simp only [intOf]; omega)
                    | (simp [intOf]; omega)
                    | exact ⟨ib + 1, by omega, by go_num, ((HR5.out.below (below_drewN (Below.refl wC.heap.size wC) _) gC).set j _ BCN.out).same (fun p hp => by
                        rw [HCN.out, ECN.out]
                        by_cases c : p = j
                        · simp [c]
                        · simp [c]), (K5.out.trans (Kept.of_below (below_drewN (Below.refl wC.heap.size wC) _))).trans (Kept.setCell _ ⟨g, j, none⟩ _)⟩
                · have e0' : ((ia : Int) + (ib : Int) == 0) = false := beq_eq_false_iff_ne.2 (by omega)
                  have ecn := ST.out (by omega)
                  have CS1 := hide (fun (W : World) => Base.specSigned yv W (by omega) (by omega))
                  have CS2 := hide (fun (W : World) => Base.specSigned cv W (by omega) (by omega))
                  have E5 := hide (show two1 5 cv yv = if Base.sg (cv % 2147483647) < Base.sg (yv % 2147483647) then yv else cv by unfold two1; simp)
                  obtain ⟨sy, hsy⟩ : ∃ sy, Base.sg (yv % 2147483647) = sy := ⟨_, rfl⟩
                  obtain ⟨sc, hsc⟩ : ∃ sc, Base.sg (cv % 2147483647) = sc := ⟨_, rfl⟩
                  rw [hsy] at CS1 E5
                  rw [hsc] at CS2 E5
                  by_cases lt : sc < sy
                  · have lt' : decide (sc < sy) = true := decide_eq_true lt
                    have ECN := hide (show cn = yv by rw [ecn, E5.out, if_pos lt])
                    have BCN := hide (show bd yv by unfold bd; omega)
                    clear e0 ecn cN yN ST SF lt hsy hsc
                    go_wp2_with fail
                    go_quiet (first
                      | (go_at_call_of 65 (Value.int .i64 yv); exact Calls.quiet_of_same (CS1.out _))
                      | (go_at_call_of 65 (Value.int .i64 cv); exact Calls.quiet_of_same (CS2.out _)))
                    go_wp2_with fail
                    go_roundw
                    all_goals first
                      | (simp only [intOf]; omega)
                      | (simp [intOf]; omega)
                      | exact ⟨ib + 1, by omega, by go_num, ((HR5.out.below (below_drewN (Below.refl wC.heap.size wC) _) gC).set j _ BCN.out).same (fun p hp => by
                          rw [HCN.out, ECN.out]
                          by_cases c : p = j
                          · simp [c]
                          · simp [c]), (K5.out.trans (Kept.of_below (below_drewN (Below.refl wC.heap.size wC) _))).trans (Kept.setCell _ ⟨g, j, none⟩ _)⟩
                  · have lt' : decide (sc < sy) = false := decide_eq_false lt
                    have ECN := hide (show cn = cv by rw [ecn, E5.out, if_neg lt])
                    clear e0 ecn cN yN ST SF lt hsy hsc
                    go_wp2_with fail
                    go_quiet (first
                      | (go_at_call_of 65 (Value.int .i64 yv); exact Calls.quiet_of_same (CS1.out _))
                      | (go_at_call_of 65 (Value.int .i64 cv); exact Calls.quiet_of_same (CS2.out _)))
                    go_wp2_with fail
                    go_roundw
                    all_goals first
                      | (simp only [intOf]; omega)
                      | (simp [intOf]; omega)
                      | exact ⟨ib + 1, by omega, by go_num, (HR5.out.below (below_drewN (Below.refl wC.heap.size wC) _) gC).same (fun p hp => by
                          rw [HCN.out, ECN.out, HCV.out]), (K5.out.trans (Kept.of_below (below_drewN (Below.refl wC.heap.size wC) _)))⟩
            · have eb : ib = Z := by omega
              have R6 := hide (HR3.out.same (E := fun p => if p = j then poolC (two1 op) Z Y (ia + 1) 0 else if p < j then V p else 0) (fun p hp => by
                have e := poolC_row HM.out (show 1 ≤ Z by omega) (y := Y) (a := ia) (fun i hi b hb => YI.out i b (by omega) hb)
                rw [eb, e]))
              clear eb
              go_wp2_with fail
              go_roundw
              all_goals first
                | (simp only [intOf]; omega)
                | (simp [intOf]; omega)
                | exact ⟨ia + 1, by omega, by go_num, R6.out, HK3.out⟩
        · have ea : ia = Z := by omega
          have R6 := hide (HR2.out.same (E := fun p => if p < j + 1 then V p else 0) (fun p hp => by
            have e := poolC_end (f := two1 op) (show 1 ≤ Z by omega) (y := Y)
            by_cases c : p = j
            · subst c
              rw [if_pos (by omega), if_pos rfl, ea, e]
              exact VY.out
            · rw [if_neg c]
              by_cases c2 : p < j
              · rw [if_pos (by omega), if_pos c2]
              · rw [if_neg (by omega), if_neg c2]))
          have KW := hide (show Kept (· = g) W4 X2 from KX.out.trans HK2.out)
          have T5 := hide (T4.out.kept KW.out (by have := Z4.out; omega) (by show ¬ w4.heap.size = g; omega))
          clear ea
          obtain ⟨x0, x1⟩ := T5.out
          go_wp2_with fail
          go_roundw
          all_goals first
            | (simp only [intOf]; omega)
            | (simp [intOf]; omega)
            | exact ⟨j + 1, by omega, by go_num, T5.out, R6.out, KW.out⟩
    · have e : j = N := by omega
      have kp := HKP.out
      have n1 : ¬ w.heap.size + 1 = g := by omega
      have M5 := hide (M4.out.kept kp (by have := Z4.out; omega) n1)
      have G5 := hide (G4.out.kept kp (by have := Z4.out; omega) n1)
      have OV5 := hide (OV.out.kept kp (fun b q e => HNE.out b q e))
      have B5 := hide (B4.out.trans (kp.below B4.out.size (fun j e => by have e : j = g := e; omega)))
      have R5 := hide (HRW.out.same (E := V) (fun t ht => by rw [if_pos (by omega)]))
      clear kp
      obtain ⟨y0, y1⟩ := M5.out
      have gg := G5.out
      unfold Free at gg
      go_wp2_with fail
      refine bodyPost_ret (v := .agg #[.slice va (q + 2) vc, .slice (some ⟨g, 0, none⟩) N N]) (by simp [results, Try.results49, go_sem, y0, y1]) rfl ?_
      show TensR w.heap.size (poolP op (q + 2) s D S Z t) w _ _
      rw [EZ.out]
      exact tens_end (v := ⟨q + 2, N, E, V⟩) (B := w.heap.size + 1 + 1) ⟨OV5.out.mono (by omega), .inr ⟨g, rfl, by omega, R5.out⟩, fun j q1 q2 => by
          obtain ⟨_, ad, e', e''⟩ := q2
          injection e' with e'
          subst e'
          have e'' : g = j := e''
          exact HNE.out j q1 e''.symm⟩ (by omega) (by omega) B5.out
end Vo
end Go.Proofs.Ytdenfcckmpkomaa
