/- Gather of the model. -/
import Derived.Test.YtajigcbpooblbaaTk
namespace Go.Proofs.Ytajigcbpooblbaa
namespace Vo
open Go.ChangeShapes Go.WideShapes Go.ChangeAt Go.RowKit Go.Joins Go.Sort
open Vl Vp Vr
set_option linter.unusedVariables false
set_option linter.unusedSimpArgs false

theorem gathP_axis {r s q : Nat} {D S I : Nat → Int} {x : Int} (h : ¬ (tok r s D S = true ∧ 0 ≤ x ∧ x < r)) : gathP r s q D S I x = PT.zero := by
  unfold gathP
  split
  · exact lineP_no (fun e => h e.1)
  · rfl
theorem gathP_dims {r s q k : Nat} {D S I : Nat → Int} (h : dok r (up1 D k q) = false) : gathP r s q D S I (k : Int) = PT.zero := by
  unfold gathP
  split
  · exact lineP_no (fun e => by rw [Int.toNat_natCast, h] at e; exact absurd e.2 (by decide))
  · rfl
/-- where an index of other dims along an axis stands -/
theorem od_turned {r k : Nat} {D : Nat → Int} {n : Int} (hd : dok r (up1 D k n) = true) (hk : k < r) (j : Nat) (hj : (j : Int) < szR (up1 D k n) r) (x : Int) : od D (up1 (dg (up1 D k n) r j) k x) r = mv (D k) (bhd D r k) n x j := by
  obtain ⟨e1, e2⟩ := dok_pr hd
  have := od_moved (a := k) hk e2 (D k) x (j : Int) (by omega) (by omega)
  rwa [up1_up1, up1_self, bhd_up1, up1_at] at this
theorem at_turned {r k : Nat} {D : Nat → Int} {n : Int} (hd : dok r (up1 D k n) = true) (hk : k < r) (j : Nat) (hj : (j : Int) < szR (up1 D k n) r) : dg (up1 D k n) r j k = (j : Int) / bhd D r k % n := by
  obtain ⟨e1, e2⟩ := dok_pr hd
  rw [dg_axis hk e2 (j : Int) (by omega) (by omega), bhd_up1, up1_at]
set_option maxRecDepth 100000 in
set_option maxHeartbeats 3000000 in
theorem specGather (B : Nat) (a : Addr) (b : Option Addr) (ci : Addr) (r s q cap dap cap' : Nat) (D S I : Nat → Int) (x : Int) (w : World) (hB : B ≤ w.heap.size) (h : Ints B w (some a) r D) (h' : Ints B w b s S) (hI : Ints B w (some ci) q I) (hr : (r : Int) ≤ 1048576) (hs : (s : Int) ≤ 1048576) (hq : (q : Int) ≤ 1048576) :
    Calls Try.prog 16 #[.agg #[.slice (some a) r cap, .slice b s dap], .int .i64 x, .slice (some ci) q cap'] w fun e w' => TensR w.heap.size (gathP r s q D S I x) w e w' := by
  obtain ⟨W0, hW0⟩ : ∃ W0, (w.alloc (.cells #[.slice (some a) r cap, .slice b s dap] 26)).alloc (.cells #[.slice none 0 0, .slice none 0 0] 26) = W0 := ⟨_, rfl⟩
  have hs0 : W0.heap.size = w.heap.size + 1 + 1 := by rw [← hW0]; simp
  have bl : Below w.heap.size w W0 := by rw [← hW0]; exact ((Below.refl _ _).alloc (Nat.le_refl _) _).alloc (by simp) _
  have n0 : Bx W0 w.heap.size (.slice (some a) r cap) (.slice b s dap) := by
    rw [← hW0]; exact (bx_new w (.slice (some a) r cap) (.slice b s dap) 26).below ((Below.refl (w.heap.size + 1) _).alloc (by simp) _) (by omega)
  have m0 : Bx W0 (w.heap.size + 1) (.slice none 0 0) (.slice none 0 0) := by
    have q := bx_new (w.alloc (.cells #[.slice (some a) r cap, .slice b s dap] 26)) (.slice none 0 0) (.slice none 0 0) 26
    rw [World.size_alloc] at q
    rw [← hW0]; exact q
  have g0 : Free W0 (w.heap.size + 1) := by
    have q := free_new (w.alloc (.cells #[.slice (some a) r cap, .slice b s dap] 26)) #[.slice none 0 0, .slice none 0 0] 26
    rw [World.size_alloc] at q
    rw [← hW0]; exact q
  have H := hide (h.below (bl.mono hB))
  have H' := hide (h'.below (bl.mono hB))
  have HI := hide (hI.below (bl.mono hB))
  have BL := hide bl
  have HS0 := hide hs0
  have N0 := hide n0
  have M0 := hide m0
  have G0 := hide g0
  obtain ⟨x0, x1⟩ := n0
  clear h h' hI bl m0 g0 hs0
  go_enter Try.func16, Try.ntmps16
  go_wp2_with fail
  clear hW0
  refine (l4Axis B (some a) b r s cap dap D S x _ (by have := HS0.out; omega) H.out H'.out hr hs).mono ?_
  rintro e w1 ⟨rfl, b1⟩
  have z0 := HS0.out
  have N1 := hide (N0.out.below b1 (by omega))
  have M1 := hide (M0.out.below b1 (by omega))
  have G1 := hide (G0.out.below b1 (by omega))
  have B1 := hide (BL.out.trans (b1.mono BL.out.size))
  have H1 := hide (H.out.below (b1.mono (by omega)))
  have H1' := hide (H'.out.below (b1.mono (by omega)))
  have HI1 := hide (HI.out.below (b1.mono (by omega)))
  have s1 : w.heap.size + 1 < w1.heap.size := by have := b1.size; omega
  clear b1 x0 x1 z0
  obtain ⟨x0, x1⟩ := N1.out
  obtain ⟨y0, y1⟩ := M1.out
  have gg := G1.out
  unfold Free at gg
  by_cases hx : tok r s D S = true ∧ 0 ≤ x ∧ x < r
  rotate_left
  · have ez := hide (gathP_axis (q := q) (I := I) hx)
    rw [decide_eq_false hx]
    clear hx
    go_wp2_with fail
    refine bodyPost_ret (v := .agg #[.slice none 0 0, .slice none 0 0]) (by simp [results, Try.results16, go_sem, y0, y1]) rfl (by
      rw [ez.out]
      refine tensR_zero ?_
      repeat (refine Below.setCell ?_ (by simp) _)
      exact B1.out)
  rw [decide_eq_true hx]
  obtain ⟨ht, hx0, hx1⟩ := hx
  obtain ⟨k, rfl⟩ : ∃ k : Nat, x = k := ⟨x.toNat, by omega⟩
  have hk : k < r := by omega
  have hl : lenA r s D S (k : Int) = D k := by rw [lenA_yes ⟨ht, hx0, hx1⟩, Int.toNat_natCast]
  obtain ⟨td, ts, tw⟩ := tok_split ht
  obtain ⟨dk0, dk1⟩ := dok_len td hk
  have r6 : r ≤ 6 := (dok_iff.1 td).1
  have HT := hide ht
  have TD := hide td
  have TS := hide ts
  have TW := hide tw
  have HLA := hide hl
  have s4 : (s : Int) ≤ 4096 := by rw [← ts]; exact (szR_rng D r).2
  clear ht hx0 hx1 td ts tw hl
  by_cases hq0 : q = 0
  · have hq0' : ((q : Int) == 0) = true := by rw [hq0]; rfl
    have ez := hide (gathP_dims (s := s) (S := S) (I := I) (r := r) (q := q) (k := k) (D := D) (by
      cases hd : dok r (up1 D k q) with
      | false => rfl
      | true => have := (dok_len hd hk).1; rw [up1_at] at this; omega))
    clear hq0
    go_wp2_with fail
    refine bodyPost_ret (v := .agg #[.slice none 0 0, .slice none 0 0]) (by simp [results, Try.results16, go_sem, y0, y1]) rfl (by
      rw [ez.out]
      refine tensR_zero ?_
      repeat (refine Below.setCell ?_ (by simp) _)
      exact B1.out)
  have hq0' : ((q : Int) == 0) = false := beq_eq_false_iff_ne.2 (by omega)
  have q1 : 1 ≤ q := by omega
  rcases H1.out with h0 | ⟨ab, ao, hae, hab, hac⟩
  · omega
  injection hae with hae
  subst hae
  have ca := (hac k hk).1
  have kI : (k : Int) < r := by omega
  clear hac hq0
  go_wp2_with fail
  refine (l4Within B (some ci) q cap' I (D k) _ HI1.out hq).mono ?_
  rintro e w1' ⟨rfl, hw⟩
  have hw := hw.symm
  subst hw
  cases hv : wi q I (D k) with
  | false =>
    have ez := hide (gathP_no (r := r) (s := s) (D := D) (S := S) (x := (k : Int)) (q := q) (I := I) (by rw [HLA.out]; exact hv))
    clear hv
    go_wp2_with fail
    refine bodyPost_ret (v := .agg #[.slice none 0 0, .slice none 0 0]) (by simp [results, Try.results16, go_sem, y0, y1]) rfl (by
      rw [ez.out]
      refine tensR_zero ?_
      repeat (refine Below.setCell ?_ (by simp) _)
      exact B1.out)
  | true =>
  have HW := hide (of_decide_eq_true (p := WI q I (D k)) hv)
  have EZ := hide (gathP_yes (r := r) (s := s) (D := D) (S := S) (x := (k : Int)) (q := q) (I := I) (by rw [HLA.out]; exact hv))
  clear hv ca
  go_wp2_with fail
  refine (l4With B (some ⟨ab, ao, none⟩) r cap k D q _ (by omega) H1.out hr hk (by unfold bd; omega)).mono ?_
  rintro e w2 ⟨g1, c1, rfl, r1, hg1, hg2, b2⟩
  have N2 := hide (N1.out.below b2 (by omega))
  have M2 := hide (M1.out.below b2 (by omega))
  have G2 := hide (G1.out.below b2 (by omega))
  have B2 := hide (B1.out.trans (b2.mono B1.out.size))
  have H2 := hide (H1.out.below (b2.mono (by omega)))
  have H2' := hide (H1'.out.below (b2.mono (by omega)))
  have HI2 := hide (HI1.out.below (b2.mono (by omega)))
  have R1 := hide r1
  have s2 : w1.heap.size ≤ w2.heap.size := b2.size
  clear b2 r1 x0 x1 y0 y1 gg
  obtain ⟨x0, x1⟩ := N2.out
  obtain ⟨y0, y1⟩ := M2.out
  have gg := G2.out
  unfold Free at gg
  go_wp2_with fail
  refine (Vs.specDimsOk w2.heap.size (some ⟨g1, 0, none⟩) r c1 (up1 D k q) _ (R1.out.ints hg2) hr).mono ?_
  rintro e w2' ⟨rfl, hw⟩
  have hw := hw.symm
  subst hw
  cases hd : dok r (up1 D k q) with
  | false =>
    have ez := hide (gathP_dims (s := s) (S := S) (I := I) hd)
    clear hd
    go_wp2_with fail
    refine bodyPost_ret (v := .agg #[.slice none 0 0, .slice none 0 0]) (by simp [results, Try.results16, go_sem, y0, y1]) rfl (by
      rw [ez.out]
      refine tensR_zero ?_
      repeat (refine Below.setCell ?_ (by simp) _)
      exact B2.out)
  | true =>
  have ez := hide (EZ.out.trans (lineP_yes (G := gathG I) HT.out hk hd))
  obtain ⟨V, hV⟩ : ∃ V : Nat → Int, (fun j => gathG I (lineAt S (D k) (bhd D r k) (q : Int) j) ((j : Int) / bhd D r k % (q : Int)).toNat : Nat → Int) = V := ⟨_, rfl⟩
  rw [hV] at ez
  have DO := hide (fun (i : Nat) (hi : i < r) (hne : i ≠ k) => up1_ne D (q : Int) hne)
  have OT := hide (fun (j : Nat) (hj : (j : Int) < szR (up1 D k q) r) (y : Int) => od_turned hd hk j hj y)
  have AT := hide (fun (j : Nat) (hj : (j : Int) < szR (up1 D k q) r) => at_turned hd hk j hj)
  obtain ⟨E, hE⟩ : ∃ E, up1 D k (q : Int) = E := ⟨_, rfl⟩
  rw [hE] at ez hd R1 OT AT DO
  obtain ⟨n, hn⟩ : ∃ n, cntT r E = n := ⟨_, rfl⟩
  have hn1 : szR E r = (n : Int) := by rw [← hn]; exact (cntT_cast r E).symm
  rw [hn] at ez
  rw [hn1] at OT AT
  have n4 : (n : Int) ≤ 4096 := by rw [← hn1]; exact (szR_rng E r).2
  have HD := hide hd
  have HN1 := hide hn1
  have HV := hide hV
  clear hd hE hn hn1 hV EZ
  go_wp2_with fail
  refine (l4New w2.heap.size ⟨g1, 0, none⟩ r c1 n E _ (Nat.le_refl _) (R1.out.ints hg2) hr HN1.out n4).mono ?_
  rintro e w3 ⟨va, vc, g, rfl, ov, rg, lg, hg, hne, b3⟩
  have sb := b3.size
  obtain ⟨W3, hW3⟩ : ∃ W3, w3.alloc (.cells #[.slice va r vc, .slice (some ⟨g, 0, none⟩) n n] 26) = W3 := ⟨_, rfl⟩
  have b4 : Below w3.heap.size w3 W3 := by rw [← hW3]; exact (Below.refl _ _).alloc (Nat.le_refl _) _
  have z3 : W3.heap.size = w3.heap.size + 1 := by rw [← hW3]; simp
  have T3 := hide (show Bx W3 w3.heap.size (.slice va r vc) (.slice (some ⟨g, 0, none⟩) n n) by rw [← hW3]; exact bx_new w3 _ _ _)
  have N3 := hide ((N2.out.below b3 (by omega)).below b4 (by omega))
  have M3 := hide ((M2.out.below b3 (by omega)).below b4 (by omega))
  have G3 := hide ((G2.out.below b3 (by omega)).below b4 (by omega))
  have H3 := hide ((H2.out.below (b3.mono (by omega))).below (b4.mono (by omega)))
  have H3' := hide ((H2'.out.below (b3.mono (by omega))).below (b4.mono (by omega)))
  have HI3 := hide ((HI2.out.below (b3.mono (by omega))).below (b4.mono (by omega)))
  have R3 := hide ((R1.out.below b3 hg2).below b4 (by omega))
  have B3 := hide ((B2.out.trans (b3.mono B2.out.size)).trans (b4.mono (by omega)))
  have OV := hide (ov.below b4)
  have RG := hide (rg.below b4 hg)
  have HNE := hide hne
  have Z3 := hide z3
  have zg : w.heap.size + 1 < g := by omega
  have zg1 : g1 < g := by omega
  have z4 : w.heap.size + 1 < w3.heap.size := by omega
  clear ov rg b3 b4 sb hne z3 x0 x1 y0 y1 gg
  obtain ⟨x0, x1⟩ := T3.out
  go_wp2_with fail
  clear hW3
  go_loopw [9] (fun i wx => ∃ j : Nat, j ≤ n ∧ i = .int .i64 j ∧ Bx wx w3.heap.size (.slice va r vc) (.slice (some ⟨g, 0, none⟩) n n) ∧ Bx wx w.heap.size (.slice (some ⟨ab, ao, none⟩) r cap) (.slice b s dap) ∧ Rw wx g n (fun t => if t < j then V t else 0) ∧ Kept (· = g) W3 wx) (fun i _ => n - (intOf i).toNat)
  case atStart => exact ⟨0, Nat.zero_le _, rfl, T3.out, N3.out, RG.out.same (fun t ht => by simp), Kept.refl _ _⟩
  case round =>
    obtain ⟨X, rfl⟩ : ∃ X, X = wr := ⟨_, rfl⟩
    obtain ⟨j, hj, rfl, hbx, hbt, hrw, hkp⟩ := hrel
    have HBX := hide hbx
    have HBT := hide hbt
    have HRW := hide hrw
    have HKP := hide hkp
    have lX : w3.heap.size + 1 ≤ X.heap.size := by have := HKP.out.size; have := Z3.out; omega
    clear x0 x1
    obtain ⟨u0, u1⟩ := hbx
    clear hrw hkp hbt
    by_cases hlt : j < n
    · have jI : (j : Int) < n := by omega
      have HA := hide (H3.out.kept (by have := Z3.out; omega) HKP.out (fun y hy e => by have e : y = g := e; omega))
      have HA' := hide (H3'.out.kept (by have := Z3.out; omega) HKP.out (fun y hy e => by have e : y = g := e; omega))
      have HAI := hide (HI3.out.kept (by have := Z3.out; omega) HKP.out (fun y hy e => by have e : y = g := e; omega))
      have RE := hide (R3.out.kept HKP.out (show ¬ g1 = g by omega))
      have HDD := hide (fun i hi => dok_len HD.out (j := i) hi)
      go_wp2_with fail
      refine (l3Index X.heap.size (some ⟨g1, 0, none⟩) r c1 E j _ (RE.out.ints (by omega)) (Nat.le_refl _) (by omega) HDD.out (by omega) (by omega)).mono ?_
      rintro e X1 ⟨rfl, ra, sa, ba⟩
      have dgr := dg_rng E r (fun i hi => (HDD.out i hi).1) (j : Int)
      obtain ⟨av, hav⟩ : ∃ av : Nat, dg E r j k = av := ⟨(dg E r j k).toNat, by have := dgr k hk; omega⟩
      have hat := AT.out j jI
      have av1 : av < q := by
        have : (j : Int) / bhd D r k % (q : Int) < q := Int.emod_lt_of_pos _ (by omega)
        omega
      obtain ⟨iv, hiv⟩ : ∃ iv : Nat, I av = iv := ⟨(I av).toNat, by have := HW.out av av1; omega⟩
      have iv1 : (iv : Int) < D k := by have := HW.out av av1; omega
      have VE := hide (show V j = S (od D (up1 (dg E r j) k iv) r).toNat by
        rw [← HV.out, OT.out j jI]
        show gathG I (lineAt S (D k) (bhd D r k) (q : Int) j) ((j : Int) / bhd D r k % (q : Int)).toNat = _
        rw [← hat, hav, Int.toNat_natCast]
        unfold gathG
        rw [hiv, Int.toNat_natCast]
        rfl)
      have INR := hide (show ∀ i, i < r → 0 ≤ up1 (dg E r j) k iv i ∧ up1 (dg E r j) k iv i < D i from fun i hi => by
        by_cases c : i = k
        · subst c; rw [up1_at]; omega
        · rw [up1_ne _ _ c, ← DO.out i hi c]; exact dgr i hi)
      have BV := hide (show bd (V j) by
        rw [VE.out]
        have o := od_rng D _ r INR.out
        have e := (dok_pr TD.out).1
        have := TW.out (od D (up1 (dg E r j) k iv) r).toNat (by have := TS.out; omega)
        unfold bd; omega)
      have RA := hide ra
      have BA := hide ba
      obtain ⟨ca, _, _⟩ := ra k hk
      rw [hav] at ca
      have HBT1 := hide (HBT.out.below ba (by omega))
      have HBX1 := hide (HBX.out.below ba (by omega))
      have HRW1 := hide (HRW.out.below ba (by omega))
      have HA1 := hide (HA.out.below (ba.mono (by omega)))
      have HA1' := hide (HA'.out.below (ba.mono (by omega)))
      rcases HAI.out.below (ba.mono (by omega)) with h0 | ⟨ib, io, hie, hib, hic⟩
      · omega
      injection hie with hie
      subst hie
      have ci := (hic av av1).1
      rw [hiv] at ci
      have aI : (av : Int) < q := by omega
      have KX := hide (show Kept (· = g) W3 X1 from HKP.out.trans (Kept.of_below ba))
      have lX1 : X.heap.size < X1.heap.size := sa
      clear hic ra ba dgr hat hav hiv u0 u1
      obtain ⟨x0, x1⟩ := HBT1.out
      obtain ⟨u0, u1⟩ := HBX1.out
      obtain ⟨c2, f2, _⟩ := HRW1.out j hlt
      have zX : X1.drew.heap.size = X1.heap.size := rfl
      go_wp2_with fail
      go_region_with (first
        | (go_at_call 45
           refine (l4With X1.heap.size _ r r k (dg E r j) iv X1.drew (Nat.le_refl _) (by exact RA.out.ints sa) (by omega) hk (by unfold bd; omega)).mono ?_
           rintro e wA ⟨gi, gc, rfl, qi, hgi, lgi, bA⟩
           have HBTA := hide (Bx.below (w := X1.drew) HBT1.out bA (by show w.heap.size < X1.heap.size; omega))
           have HBXA := hide (Bx.below (w := X1.drew) HBX1.out bA (by show w3.heap.size < X1.heap.size; omega))
           have HAA := hide (Ints.below (w := X1.drew) HA1.out (bA.mono (by show B ≤ X1.heap.size; omega)))
           have HAA' := hide (Ints.below (w := X1.drew) HA1'.out (bA.mono (by show B ≤ X1.heap.size; omega)))
           have HRWA := hide (Rw.below (w := X1.drew) HRW1.out bA (by show g < X1.heap.size; omega))
           have QI := hide qi
           have sA : X1.heap.size ≤ wA.heap.size := bA.size
           obtain ⟨p0, p1⟩ := HBTA.out
           obtain ⟨v0, v1⟩ := HBXA.out)
        | (go_at_call 47
           refine (l4Get wA.heap.size _ b _ r s cap dap r gc D S (up1 (dg E r j) k iv) wA (Nat.le_refl _) (HAA.out.mono (by omega)) (HAA'.out.mono (by omega)) (QI.out.ints lgi) (Nat.le_refl _) HT.out INR.out).mono ?_
           rintro e wB ⟨rfl, bB⟩
           have HBTB := hide (HBTA.out.below bB (by omega))
           have HBXB := hide (HBXA.out.below bB (by omega))
           have HRWB := hide (HRWA.out.below bB (by omega))
           have sB : wA.heap.size ≤ wB.heap.size := bB.size
           obtain ⟨q0, q1'⟩ := HBXB.out
           obtain ⟨c2', f2', _⟩ := HRWB.out j hlt))
      all_goals (go_wp2_with fail)
      all_goals go_roundw
      all_goals first
        | (simp only [intOf]; omega)
        | (simp [intOf]; omega)
        | (rw [← VE.out]
           exact ⟨j + 1, by omega, by go_num, HBXB.out.kept (Kept.setCell _ ⟨g, j, none⟩ _) (by omega) (by show ¬ w3.heap.size = g; omega), HBTB.out.kept (Kept.setCell _ ⟨g, j, none⟩ _) (by omega) (by show ¬ w.heap.size = g; omega), (HRWB.out.set j (V j) BV.out).same (fun t ht => by by_cases c : t = j <;> by_cases c2 : t < j <;> simp [c, c2] <;> omega), ((KX.out.trans (Kept.of_below ((Below.refl _ X1).drew.trans bA))).trans (Kept.of_below bB)).trans (Kept.setCell _ ⟨g, j, none⟩ _)⟩)
    · have e : j = n := by omega
      have kp := HKP.out
      have n1 : ¬ w.heap.size + 1 = g := by omega
      have M4 := hide (M3.out.kept kp (by have := Z3.out; omega) n1)
      have G4 := hide (G3.out.kept kp (by have := Z3.out; omega) n1)
      have OV4 := hide (OV.out.kept kp (fun b q e => HNE.out b q e))
      have B4 := hide (B3.out.trans (kp.below B3.out.size (fun j e => by have e : j = g := e; omega)))
      have R4 := hide (HRW.out.same (E := V) (fun t ht => by simp; intro; omega))
      clear kp
      obtain ⟨y0, y1⟩ := M4.out
      have gg := G4.out
      unfold Free at gg
      go_wp2_with fail
      refine bodyPost_ret (v := .agg #[.slice va r vc, .slice (some ⟨g, 0, none⟩) n n]) (by simp [results, Try.results16, go_sem, y0, y1]) rfl ?_
      show TensR w.heap.size (gathP r s q D S I (k : Int)) w _ _
      rw [ez.out]
      exact tens_end (v := ⟨r, n, E, V⟩) (B := w.heap.size + 1 + 1) ⟨OV4.out.mono (by omega), .inr ⟨g, rfl, by omega, R4.out⟩, fun j q1 q2 => by
          obtain ⟨_, ad, e', e''⟩ := q2
          injection e' with e'
          subst e'
          have e'' : g = j := e''
          exact HNE.out j q1 e''.symm⟩ (by omega) (by omega) B4.out
end Vo
end Go.Proofs.Ytajigcbpooblbaa
