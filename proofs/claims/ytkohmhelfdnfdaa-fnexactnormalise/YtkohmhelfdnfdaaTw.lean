/- Normalise of the model. -/
import Derived.Test.YtkohmhelfdnfdaaTu
import Derived.Deep.RegionHeld3
namespace Go.Proofs.Ytkohmhelfdnfdaa
namespace Vo
open Go.ChangeShapes Go.WideShapes Go.ChangeAt Go.RowKit Go.Joins Go.Sort
open Vl Vp Vr
set_option linter.unusedVariables false
set_option linter.unusedSimpArgs false
set_option maxHeartbeats 4000000 in
theorem specNormalise (B : Nat) (a : Addr) (b : Option Addr) (r s cap dap : Nat) (D S : Nat → Int) (x low : Int) (w : World) (hB : B ≤ w.heap.size) (h : Ints B w (some a) r D) (h' : Ints B w b s S) (hr : (r : Int) ≤ 1048576) (hs : (s : Int) ≤ 1048576) (hlow : bd low) :
    Calls Try.prog 19 #[.agg #[.slice (some a) r cap, .slice b s dap], .int .i64 x, .int .i64 low] w fun e w' => TensR w.heap.size (lineP r s D S x (lenA r s D S x) (nrmG (lenA r s D S x).toNat low)) w e w' := by
  obtain ⟨W0, hW0⟩ : ∃ W0, (w.alloc (.cells #[.slice (some a) r cap, .slice b s dap] 26)).alloc (.cells #[.slice none 0 0, .slice none 0 0] 26) = W0 := ⟨_, rfl⟩
  have hs0 : W0.heap.size = w.heap.size + 1 + 1 := by rw [← hW0]; simp
  have bl : Below w.heap.size w W0 := by rw [← hW0]; exact ((Below.refl _ _).alloc (Nat.le_refl _) _).alloc (by simp) _
  have n0 : Bx W0 w.heap.size (.slice (some a) r cap) (.slice b s dap) := by
    rw [← hW0]; exact (bx_new w (.slice (some a) r cap) (.slice b s dap) 26).below ((Below.refl (w.heap.size + 1) _).alloc (by simp) _) (by omega)
  have m0 : Bx W0 (w.heap.size + 1) (.slice none 0 0) (.slice none 0 0) := by
    have q := bx_new (w.alloc (.cells #[.slice (some a) r cap, .slice b s dap] 26)) (.slice none 0 0) (.slice none 0 0) 26
    rw [World.size_alloc] at q
    rw [← hW0]; exact q
  have g0 : Free W0 (w.heap.size + 1) := by
    have q := free_new (w.alloc (.cells #[.slice (some a) r cap, .slice b s dap] 26)) #[.slice none 0 0, .slice none 0 0] 26
    rw [World.size_alloc] at q
    rw [← hW0]; exact q
  have H := hide (h.below (bl.mono hB))
  have H' := hide (h'.below (bl.mono hB))
  have BL := hide bl
  have HS0 := hide hs0
  have N0 := hide n0
  have M0 := hide m0
  have G0 := hide g0
  obtain ⟨x0, x1⟩ := n0
  clear h h' bl m0 g0 hs0
  go_enter Try.func19, Try.ntmps19
  go_wp2_with fail
  clear hW0
  refine (l4Axis B (some a) b r s cap dap D S x _ (by have := HS0.out; omega) H.out H'.out hr hs).mono ?_
  rintro e w1 ⟨rfl, b1⟩
  have z0 := HS0.out
  have N1 := hide (N0.out.below b1 (by omega))
  have M1 := hide (M0.out.below b1 (by omega))
  have G1 := hide (G0.out.below b1 (by omega))
  have B1 := hide (BL.out.trans (b1.mono BL.out.size))
  have H1 := hide (H.out.below (b1.mono (by omega)))
  have H1' := hide (H'.out.below (b1.mono (by omega)))
  have s1 : w.heap.size + 1 < w1.heap.size := by have := b1.size; omega
  clear b1 x0 x1 z0
  obtain ⟨x0, x1⟩ := N1.out
  obtain ⟨y0, y1⟩ := M1.out
  have gg := G1.out
  unfold Free at gg
  by_cases hx : tok r s D S = true ∧ 0 ≤ x ∧ x < r
  rotate_left
  · have ez := hide (lineP_no (n := lenA r s D S x) (G := nrmG (lenA r s D S x).toNat low) (fun q => hx q.1))
    rw [decide_eq_false hx]
    clear hx
    go_wp2_with fail
    refine bodyPost_ret (v := .agg #[.slice none 0 0, .slice none 0 0]) (by simp [results, Try.results19, go_sem, y0, y1]) rfl (by
      rw [ez.out]
      refine tensR_zero ?_
      repeat (refine Below.setCell ?_ (by simp) _)
      exact B1.out)
  rw [decide_eq_true hx]
  obtain ⟨ht, hx0, hx1⟩ := hx
  obtain ⟨k, rfl⟩ : ∃ k : Nat, x = k := ⟨x.toNat, by omega⟩
  have hk : k < r := by omega
  have hl : lenA r s D S (k : Int) = D k := by rw [lenA_yes ⟨ht, hx0, hx1⟩, Int.toNat_natCast]
  obtain ⟨td, ts, tw⟩ := tok_split ht
  obtain ⟨dk0, dk1⟩ := dok_len td hk
  have ez := hide (show lineP r s D S (k : Int) (lenA r s D S (k : Int)) (nrmG (lenA r s D S (k : Int)).toNat low) = ⟨r, s, D, fun j => nrmG (D k).toNat low (lineAt S (D k) (bhd D r k) (D k) j) ((j : Int) / bhd D r k % D k).toNat⟩ from (congrArg (fun z => lineP r s D S (k : Int) z (nrmG z.toNat low)) hl).trans (lineP_same ht hk))
  obtain ⟨len, hlen⟩ : ∃ len : Nat, D k = len := ⟨(D k).toNat, by omega⟩
  obtain ⟨V, hV⟩ : ∃ V : Nat → Int, (fun j => nrmG (D k).toNat low (lineAt S (D k) (bhd D r k) (D k) j) ((j : Int) / bhd D r k % D k).toNat : Nat → Int) = V := ⟨_, rfl⟩
  rw [hV] at ez
  have l1 : 1 ≤ len := by omega
  have l2 : len ≤ 4096 := by omega
  have r6 : r ≤ 6 := (dok_iff.1 td).1
  have lS : (s : Int) ≤ 4096 := by rw [← ts]; exact (szR_rng D r).2
  have HT := hide ht
  have TD := hide td
  have TS := hide ts
  have TW := hide tw
  have DK := hide hlen
  have HV := hide hV
  have HLO := hide hlow
  clear ht hx0 hx1 td ts tw dk0 dk1 hlen hl hV hlow
  go_wp2_with fail
  refine (l4New B a r cap s D _ (by omega) H1.out hr TS.out lS).mono ?_
  rintro e w2 ⟨va, vc, g, rfl, ov, rg, lg, hg, hne, b2⟩
  have sb := b2.size
  obtain ⟨W2, hW2⟩ : ∃ W2, w2.alloc (.cells #[.slice va r vc, .slice (some ⟨g, 0, none⟩) s s] 26) = W2 := ⟨_, rfl⟩
  have b3 : Below w2.heap.size w2 W2 := by rw [← hW2]; exact (Below.refl _ _).alloc (Nat.le_refl _) _
  have z2 : W2.heap.size = w2.heap.size + 1 := by rw [← hW2]; simp
  have T2 := hide (show Bx W2 w2.heap.size (.slice va r vc) (.slice (some ⟨g, 0, none⟩) s s) by rw [← hW2]; exact bx_new w2 _ _ _)
  have N2 := hide ((N1.out.below b2 (by omega)).below b3 (by omega))
  have M2 := hide ((M1.out.below b2 (by omega)).below b3 (by omega))
  have G2 := hide ((G1.out.below b2 (by omega)).below b3 (by omega))
  have H2 := hide ((H1.out.below (b2.mono (by omega))).below (b3.mono (by omega)))
  have H2' := hide ((H1'.out.below (b2.mono (by omega))).below (b3.mono (by omega)))
  have B2 := hide ((B1.out.trans (b2.mono B1.out.size)).trans (b3.mono (by omega)))
  have OV := hide (ov.below b3)
  have RG := hide (rg.below b3 hg)
  have HNE := hide hne
  have Z2 := hide z2
  have zg : w.heap.size + 1 < g := by omega
  have z3 : w.heap.size + 1 < w2.heap.size := by omega
  clear ov rg b2 b3 sb hne z2 x0 x1 y0 y1 gg
  obtain ⟨x0, x1⟩ := N2.out
  go_wp2_with fail
  clear hW2
  go_loopw [8] (fun i wx => ∃ j : Nat, j ≤ s ∧ i = .int .i64 j ∧ Bx wx w2.heap.size (.slice va r vc) (.slice (some ⟨g, 0, none⟩) s s) ∧ Bx wx w.heap.size (.slice (some a) r cap) (.slice b s dap) ∧ Rw wx g s (fun t => if t < j then V t else 0) ∧ Kept (· = g) W2 wx) (fun i _ => s - (intOf i).toNat)
  case atStart => exact ⟨0, Nat.zero_le _, rfl, T2.out, N2.out, RG.out.same (fun t ht => by simp), Kept.refl _ _⟩
  case round =>
    obtain ⟨X, rfl⟩ : ∃ X, X = wr := ⟨_, rfl⟩
    obtain ⟨j, hj, rfl, hbx, hbt, hrw, hkp⟩ := hrel
    have HBX := hide hbx
    have HBT := hide hbt
    have HRW := hide hrw
    have HKP := hide hkp
    have lX : w2.heap.size + 1 ≤ X.heap.size := by have := HKP.out.size; have := Z2.out; omega
    clear x0 x1
    obtain ⟨x0, x1⟩ := hbt
    clear hrw hkp hbx
    by_cases hlt : j < s
    · have jI : (j : Int) < s := by omega
      have HA := hide (H2.out.kept (by have := Z2.out; omega) HKP.out (fun y hy e => by have e : y = g := e; omega))
      have HA' := hide (H2'.out.kept (by have := Z2.out; omega) HKP.out (fun y hy e => by have e : y = g := e; omega))
      have HD := hide (fun i hi => dok_len TD.out (j := i) hi)
      obtain ⟨L, hL⟩ : ∃ L, lineAt S (D k) (bhd D r k) (D k) j = L := ⟨_, rfl⟩
      have dgr := dg_rng D r (fun i hi => (HD.out i hi).1) (j : Int)
      obtain ⟨av, hav⟩ : ∃ av : Nat, dg D r j k = av := ⟨(dg D r j k).toNat, by have := dgr k hk; omega⟩
      have av1 : av < len := by have := dgr k hk; have := DK.out; omega
      have VE := hide (show V j = nrmG len low L av by
        rw [← HV.out]
        show nrmG (D k).toNat low (lineAt S (D k) (bhd D r k) (D k) j) ((j : Int) / bhd D r k % D k).toNat = _
        have e2 := dok_pr TD.out
        rw [hL, ← dg_axis hk e2.2 (j : Int) (by omega) (by rw [← e2.1, TS.out]; omega), hav, Int.toNat_natCast, DK.out, Int.toNat_natCast])
      have LE := hide (show L av = S j by
        have e2 := dok_pr TD.out
        have e3 := dg_axis hk e2.2 (j : Int) (by omega) (by rw [← e2.1, TS.out]; omega)
        rw [hav] at e3
        rw [← hL]
        show S (mv (D k) (bhd D r k) (D k) (av : Int) j).toNat = S j
        unfold mv
        rw [e3, part_back _ _ _ (by have := DK.out; omega) (bhd_pos e2.2), Int.toNat_natCast])
      have hLr := hide (show WI len L 2147483647 from fun u hu => by
        rw [← hL]
        have e2 := dok_pr TD.out
        have m1 := mv_rng (l := D k) (b := bhd D r k) (n := D k) (x := (u : Int)) (j := (j : Int)) (A := pr D k) (bhd_pos e2.2) (by have := DK.out; omega) (by omega) (by have := DK.out; omega) (by omega) (by rw [← pr_axis D hk, ← e2.1, TS.out]; omega)
        rw [← pr_axis D hk, ← e2.1, TS.out] at m1
        exact TW.out _ (by omega))
      have HL0 := hide hL
      have DG := hide dgr
      have HAV := hide hav
      clear hL dgr hav
      go_upto_region 7 with fail
      go_cut [9] from 21 to 78 (fun v wx => ∃ gl cl, v = .slice (some ⟨gl, 0, none⟩) len cl ∧ X.heap.size ≤ gl ∧ gl < wx.heap.size ∧ Rw wx gl len L ∧ Below X.heap.size X wx)
      case first =>
        go_region_with (first
          | (go_at_call 29
             refine (l3Index B (some a) r cap D j X.drew (by exact HA.out) (by show B ≤ X.heap.size; omega) (by omega) HD.out (by omega) (by omega)).mono ?_
             rintro e X1 ⟨rfl, ra, sa, ba⟩
             have HBT1 := hide (Bx.below (w := X.drew) HBT.out ba (by show w.heap.size < X.heap.size; omega))
             have HB1 := hide (Ints.below (w := X.drew) HA.out (ba.mono (by show B ≤ X.heap.size; omega)))
             have HB1' := hide (Ints.below (w := X.drew) HA'.out (ba.mono (by show B ≤ X.heap.size; omega)))
             have RA := hide ra
             have BA := hide ba
             have sX : X.heap.size ≤ X1.heap.size := ba.size
             obtain ⟨p0, p1⟩ := HBT1.out)
          | (go_at_call 30
             refine (l4Line X1.heap.size (some a) b _ r s cap dap k r len D S (dg D r j) _ (Nat.le_refl _) (HB1.out.mono (by omega)) (HB1'.out.mono (by omega)) (RA.out.ints sa) HT.out DG.out hk DK.out).mono ?_
             rintro e X2 ⟨gl, cl, rfl, hgl, lgl, rl, b5⟩
             rw [lineAt_od (s := s) TD.out hk j (by rw [TS.out]; omega), HL0.out] at rl))
        all_goals (go_wp2_with fail)
        all_goals go_meet
        all_goals exact ⟨gl, cl, rfl, by omega, lgl, rl, ((Below.refl X.heap.size X).drew.trans BA.out).trans (b5.mono sX)⟩
      case rest =>
      obtain ⟨gl, cl, rfl, hgl, lgl, rl, b5⟩ := hcut
      obtain ⟨X2, rfl⟩ : ∃ X2, X2 = wc := ⟨_, rfl⟩
      have RL := hide rl
      have HBX2 := hide (HBX.out.below b5 (by omega))
      have HBT2 := hide (HBT.out.below b5 (by omega))
      have HRW2 := hide (HRW.out.below b5 (by omega))
      have HD2 := hide (HA'.out.below (b5.mono (by omega)))
      have KX := hide (show Kept (· = g) W2 X2 from HKP.out.trans (Kept.of_below b5))
      have lX2 : X.heap.size ≤ X2.heap.size := b5.size
      clear rl b5 x0 x1
      have sr := scanS_rng L len
      obtain ⟨mean, hmean⟩ : ∃ mean, nmM len L = mean := ⟨_, rfl⟩
      have mr : 0 ≤ mean ∧ mean < 2147483647 := by rw [← hmean]; exact ov_rng _ _
      have CO := hide (fun (X : World) => Base.specOver (scanS L len) len X (by omega) (by omega) (by omega) (by omega))
      rw [show (scanS L len % 2147483647 * Num.pw ((len : Int) % 2147483647) 2147483645) % 2147483647 = mean from hmean] at CO
      have ND := hide (show ∀ k, nmD len L k = (L k - mean) % 2147483647 from fun k => by unfold nmD; rw [hmean])
      clear hmean
      go_wp2_with fail
      refine (l5Sum gl len cl L _ RL.out hLr.out (by omega)).mono ?_
      rintro e w1 ⟨rfl, hw⟩
      have hw := hw.symm
      subst hw
      go_wp2_with fail
      refine (CO.out _).mono ?_
      rintro e w1 ⟨rfl, hw⟩
      have hw := hw.symm
      subst hw
      go_wp2_with fail
      go_loopw [11, 12] (fun v i wx => ∃ t : Nat, t ≤ len ∧ i = .int .i64 t ∧ v = .int .i64 (sqS (nmD len L) t) ∧ Below X2.heap.size X2 wx) (fun _ i _ => len - (intOf i).toNat)
      case atStart => exact ⟨0, Nat.zero_le _, rfl, rfl, Below.refl _ _⟩
      case round =>
        obtain ⟨Y, rfl⟩ : ∃ Y, Y = wr := ⟨_, rfl⟩
        obtain ⟨t, ht, rfl, rfl, hby⟩ := hrel
        have RLY := hide (RL.out.below hby lgl)
        have HBY := hide hby
        clear hby
        by_cases htl : t < len
        · have tl : (t : Int) < len := by omega
          obtain ⟨c1, f1, _⟩ := RLY.out t htl
          have q1 := hLr.out t htl
          have q2 := sqS_rng (nmD len L) t
          have q3 := nmD_rng len L t
          obtain ⟨d, hd⟩ : ∃ d, nmD len L t = d := ⟨_, rfl⟩
          rw [hd] at q3
          obtain ⟨p, hp⟩ : ∃ p, (d % 2147483647 * (d % 2147483647)) % 2147483647 = p := ⟨_, rfl⟩
          have p0 : 0 ≤ p ∧ p < 2147483647 := by rw [← hp]; omega
          have TS' := hide (show sqS (nmD len L) (t + 1) = (sqS (nmD len L) t + p) % 2147483647 by rw [← hp, ← hd]; rfl)
          have CM := hide (fun (X : World) => Base.specMinus (L t) mean X (by omega) (by omega) (by omega) (by omega))
          rw [← ND.out t, hd] at CM
          have CT := hide (fun (X : World) => Base.specTimes d d X (by omega) (by omega) (by omega) (by omega))
          rw [hp] at CT
          have CP := hide (fun (X : World) => Base.specPlus (sqS (nmD len L) t) p X (by omega) (by omega) (by omega) (by omega))
          rw [← TS'.out] at CP
          clear hd hp
          go_wp2_with fail
          go_region_with (first
            | (go_at_call 48; refine (CM.out _).mono ?_; rintro e w1 ⟨rfl, rfl⟩)
            | (go_at_call 47; refine (CT.out _).mono ?_; rintro e w1 ⟨rfl, rfl⟩)
            | (go_at_call 46; refine (CP.out _).mono ?_; rintro e w1 ⟨rfl, rfl⟩))
          all_goals (go_wp2_with fail)
          all_goals go_roundw
          all_goals first
            | (simp only [intOf]; omega)
            | (simp [intOf]; omega)
            | exact ⟨t + 1, by omega, by go_num, rfl, HBY.out.drew⟩
            | exact ⟨⟨t + 1, by omega, by go_num, rfl, HBY.out.drew⟩, by simp [intOf]; omega⟩
        · obtain rfl : t = len := by omega
          have HBX3 := hide (HBX2.out.below HBY.out (by omega))
          have HBT3 := hide (HBT2.out.below HBY.out (by omega))
          have HRW3 := hide (HRW2.out.below HBY.out (by omega))
          have KY := hide (show Kept (· = g) W2 Y from KX.out.trans (Kept.of_below HBY.out))
          obtain ⟨c2, f2, _⟩ := HRW3.out j hlt
          rcases HD2.out.below (HBY.out.mono (by omega)) with h0 | ⟨b', off, rfl, hbB, hc⟩
          · omega
          have cj := (hc j hlt).1
          rw [← LE.out] at cj
          obtain ⟨x0, x1⟩ := HBT3.out
          obtain ⟨u0, u1⟩ := HBX3.out
          have qa := hLr.out av av1
          have q2 := sqS_rng (nmD t L) t
          have q3 := nmD_rng t L av
          obtain ⟨q, hq⟩ : ∃ q, ov (sqS (nmD t L) t) t = q := ⟨_, rfl⟩
          have qr : 0 ≤ q ∧ q < 2147483647 := by rw [← hq]; exact ov_rng _ _
          obtain ⟨v, hv⟩ : ∃ v, nmV t low L = v := ⟨_, rfl⟩
          have vr : 0 ≤ v ∧ v < 2147483647 := by rw [← hv]; exact nmV_rng _ _ _
          obtain ⟨d, hd⟩ : ∃ d, nmD t L av = d := ⟨_, rfl⟩
          rw [hd] at q3
          have C1 := hide (fun (X : World) => Base.specMinus (L av) mean X (by omega) (by omega) (by omega) (by omega))
          rw [← ND.out av, hd] at C1
          have C2 := hide (fun (X' : World) => Base.specOver (sqS (nmD t L) t) t X' (by omega) (by omega) (by omega) (by omega))
          rw [show (sqS (nmD t L) t % 2147483647 * Num.pw ((t : Int) % 2147483647) 2147483645) % 2147483647 = q from hq] at C2
          have bl := HLO.out
          have C3 := hide (fun (X' : World) => Base.specPlus q low X' (by omega) (by omega) bl.1 bl.2)
          rw [show (q + low) % 2147483647 = v by rw [← hv]; unfold nmV; rw [hq]] at C3
          have C4 := hide (fun (X' : World) => Base.specOver d v X' (by omega) (by omega) (by omega) (by omega))
          rw [show (d % 2147483647 * Num.pw (v % 2147483647) 2147483645) % 2147483647 = V j by rw [VE.out]; unfold nrmG ov; rw [hd, hv]] at C4
          have BV := hide (show bd (V j) by rw [VE.out]; have := ov_rng (nmD t L av) (nmV t low L); unfold nrmG bd; omega)
          have C2 := hide (show ∀ X' : World, Calls Try.prog 44 #[.int .i64 (sqS (nmD t L) t), .int .i64 t] X' fun e w' => e = .returned (.int .i64 q) ∧ w' = X' from C2.out)
          obtain ⟨sq, hsq⟩ : ∃ sq, sqS (nmD t L) t = sq := ⟨_, rfl⟩
          rw [hsq] at C2 q2 ⊢
          clear hq hv hd hc bl hsq
          go_wp2_with fail
          go_region_with (first
            | (go_at_call 48; refine (C1.out _).mono ?_; rintro e w1 ⟨rfl, rfl⟩)
            | (go_at_call_of 44 (Value.int IntKind.i64 sq); refine (C2.out _).mono ?_; rintro e w1 ⟨rfl, rfl⟩)
            | (go_at_call 46; refine (C3.out _).mono ?_; rintro e w1 ⟨rfl, rfl⟩)
            | (go_at_call_of 44 (Value.int IntKind.i64 d); refine (C4.out _).mono ?_; rintro e w1 ⟨rfl, rfl⟩))
          all_goals (go_wp2_with fail)
          all_goals go_roundw
          all_goals first
            | (simp only [intOf]; omega)
            | (simp [intOf]; omega)
            | exact ⟨j + 1, by omega, by go_num, (show Bx Y.drew w2.heap.size (.slice va r vc) (.slice (some ⟨g, 0, none⟩) s s) from HBX3.out).kept (Kept.setCell _ ⟨g, j, none⟩ _) (by show w2.heap.size < Y.heap.size; have := HBY.out.size; omega) (by show ¬ w2.heap.size = g; omega), (show Bx Y.drew w.heap.size (.slice (some a) r cap) _ from HBT3.out).kept (Kept.setCell _ ⟨g, j, none⟩ _) (by show w.heap.size < Y.heap.size; have := HBY.out.size; omega) (by show ¬ w.heap.size = g; omega), ((rw_drew HRW3.out).set j (V j) BV.out).same (fun t ht => by by_cases c : t = j <;> by_cases c2 : t < j <;> simp [c, c2] <;> omega), (kept_drew KY.out).trans (Kept.setCell _ ⟨g, j, none⟩ _)⟩
    · have e : j = s := by omega
      have kp := HKP.out
      have n1 : ¬ w.heap.size + 1 = g := by omega
      have M3 := hide (M2.out.kept kp (by have := Z2.out; omega) n1)
      have G3 := hide (G2.out.kept kp (by have := Z2.out; omega) n1)
      have OV3 := hide (OV.out.kept kp (fun b q e => HNE.out b q e))
      have B3 := hide (B2.out.trans (kp.below B2.out.size (fun j e => by have e : j = g := e; omega)))
      have R3 := hide (HRW.out.same (E := V) (fun t ht => by simp; intro; omega))
      have u := HBX.out
      clear kp
      obtain ⟨u0, u1⟩ := u
      obtain ⟨y0, y1⟩ := M3.out
      have gg := G3.out
      unfold Free at gg
      go_wp2_with fail
      refine bodyPost_ret (v := .agg #[.slice va r vc, .slice (some ⟨g, 0, none⟩) s s]) (by simp [results, Try.results19, go_sem, y0, y1]) rfl ?_
      show TensR w.heap.size (lineP r s D S (k : Int) (lenA r s D S (k : Int)) (nrmG (lenA r s D S (k : Int)).toNat low)) w _ _
      rw [ez.out]
      exact tens_end (v := ⟨r, s, D, V⟩) (B := w.heap.size + 1 + 1) ⟨OV3.out.mono (by omega), .inr ⟨g, rfl, by omega, R3.out⟩, fun j q1 q2 => by
          obtain ⟨_, ad, e', e''⟩ := q2
          injection e' with e'
          subst e'
          have e'' : g = j := e''
          exact HNE.out j q1 e''.symm⟩ (by omega) (by omega) B3.out
end Vo
end Go.Proofs.Ytkohmhelfdnfdaa
