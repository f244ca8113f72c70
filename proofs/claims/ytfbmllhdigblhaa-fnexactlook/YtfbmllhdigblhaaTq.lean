/- Look of the model. -/
import Derived.Test.YtfbmllhdigblhaaTo
namespace Go.Proofs.Ytfbmllhdigblhaa
namespace Vo
open Go.ChangeShapes Go.WideShapes Go.ChangeAt Go.RowKit Go.Joins Go.Sort
open Vl Vp Vr
set_option linter.unusedVariables false
set_option linter.unusedSimpArgs false
theorem bx_set1 {w : World} {p : Nat} {v0 v1 : Value} (h : Bx w p v0 v1) (u1 : Value) : Bx (w.setCell ⟨p, 1, none⟩ u1) p v0 u1 := by
  refine ⟨?_, World.cell?_setCell_same _ _ _ h.2⟩
  rw [World.cell?_setCell_other _ _ _ _ (by intro e; cases e)]
  exact h.1
set_option maxRecDepth 100000 in
set_option maxHeartbeats 3000000 in
theorem specLook (B : Nat) (a b : Option Addr) (c : Addr) (d : Option Addr) (r s cap dap q u cap' dap' : Nat) (D S E T : Nat → Int) (o n : Int) (w : World) (hB : B ≤ w.heap.size) (h : Ints B w a r D) (h' : Ints B w b s S) (hv : Ints B w (some c) q E) (hv' : Ints B w d u T) (hr : (r : Int) ≤ 1048576) (hs : (s : Int) ≤ 1048576) (hq : (q : Int) ≤ 1048576) (hu : (u : Int) ≤ 1048576) :
    Calls Try.prog 11 #[.agg #[.slice a r cap, .slice b s dap], .agg #[.slice (some c) q cap', .slice d u dap', .int .i64 o, .int .i64 n]] w fun e w' => TensR w.heap.size (lookP r s D S q u E T o n) w e w' := by
  obtain ⟨i0, hi0, hz0, hz1, hz2⟩ := info_parts infoInt
  obtain ⟨W0, hW0⟩ : ∃ W0, ((w.alloc (.cells #[.slice a r cap, .slice b s dap] 29)).alloc (.cells #[.slice (some c) q cap', .slice d u dap', .int .i64 o, .int .i64 n] 32)).alloc (.cells #[.slice none 0 0, .slice none 0 0] 29) = W0 := ⟨_, rfl⟩
  have hs0 : W0.heap.size = w.heap.size + 1 + 1 + 1 := by rw [← hW0]; simp
  have bl : Below w.heap.size w W0 := by rw [← hW0]; exact (((Below.refl _ _).alloc (Nat.le_refl _) _).alloc (by simp) _).alloc (by simp; omega) _
  have n0 : Bx W0 w.heap.size (.slice a r cap) (.slice b s dap) := by
    rw [← hW0]; exact (bx_new w (.slice a r cap) (.slice b s dap) 29).below (((Below.refl (w.heap.size + 1) _).alloc (by simp) _).alloc (by simp) _) (by omega)
  have v0 : Box W0 (w.heap.size + 1) (.slice (some c) q cap') (.slice d u dap') (.int .i64 o) (.int .i64 n) := by
    have q := (box_new (w.alloc (.cells #[.slice a r cap, .slice b s dap] 29)) (.slice (some c) q cap') (.slice d u dap') (.int .i64 o) (.int .i64 n) 32)
    rw [World.size_alloc] at q
    rw [← hW0]; exact q.below ((Below.refl (w.heap.size + 1 + 1) _).alloc (by simp) _) (by omega)
  have m0 : Bx W0 (w.heap.size + 1 + 1) (.slice none 0 0) (.slice none 0 0) := by
    have q := bx_new ((w.alloc (.cells #[.slice a r cap, .slice b s dap] 29)).alloc (.cells #[.slice (some c) q cap', .slice d u dap', .int .i64 o, .int .i64 n] 32)) (.slice none 0 0) (.slice none 0 0) 29
    rw [World.size_alloc, World.size_alloc] at q
    rw [← hW0]; exact q
  have g0 : Free W0 (w.heap.size + 1 + 1) := by
    have q := free_new ((w.alloc (.cells #[.slice a r cap, .slice b s dap] 29)).alloc (.cells #[.slice (some c) q cap', .slice d u dap', .int .i64 o, .int .i64 n] 32)) #[.slice none 0 0, .slice none 0 0] 29
    rw [World.size_alloc, World.size_alloc] at q
    rw [← hW0]; exact q
  have H := hide (h.below (bl.mono hB))
  have H' := hide (h'.below (bl.mono hB))
  have HV := hide (hv.below (bl.mono hB))
  have HV' := hide (hv'.below (bl.mono hB))
  have BL := hide bl
  have HS0 := hide hs0
  have N0 := hide n0
  have V0 := hide v0
  have M0 := hide m0
  have G0 := hide g0
  obtain ⟨x0, x1⟩ := n0
  clear h h' hv hv' bl v0 m0 g0 hs0
  go_enter Try.func11, Try.ntmps11
  go_wp2_with fail
  clear hW0
  refine (specTensorOk B a b r s cap dap D S _ (by have := HS0.out; omega) H.out H'.out hr hs).mono ?_
  rintro e w1 ⟨rfl, b1⟩
  have z0 := HS0.out
  have N1 := hide (N0.out.below b1 (by omega))
  have V1 := hide (V0.out.below b1 (by omega))
  have M1 := hide (M0.out.below b1 (by omega))
  have G1 := hide (G0.out.below b1 (by omega))
  have B1 := hide (BL.out.trans (b1.mono BL.out.size))
  have H1' := hide (H'.out.below (b1.mono (by omega)))
  have HV1 := hide (HV.out.below (b1.mono (by omega)))
  have HV1' := hide (HV'.out.below (b1.mono (by omega)))
  have s1 : w.heap.size + 1 + 1 < w1.heap.size := by have := b1.size; omega
  clear b1 x0 x1 z0
  cases ht : tok r s D S with
  | false =>
    obtain ⟨y0, y1⟩ := M1.out
    have gg := G1.out
    unfold Free at gg
    have ez := hide (lookP_no (q := q) (u := u) (E := E) (T := T) (o := o) (n := n) (fun q => by rw [ht] at q; exact absurd q.1 (by decide)))
    clear ht
    go_wp2_with fail
    refine bodyPost_ret (v := .agg #[.slice none 0 0, .slice none 0 0]) (by simp [results, Try.results11, go_sem, y0, y1]) rfl (by
      rw [ez.out]
      refine tensR_zero ?_
      repeat (refine Below.setCell ?_ (by simp; omega) _)
      exact B1.out)
  | true =>
  have HT := hide ht
  clear ht
  obtain ⟨v0, v1, v2, v3⟩ := V1.out
  go_wp2_with fail
  refine (specViewOk B (some c) d q u cap' dap' E T o n _ (by omega) HV1.out HV1'.out hq hu).mono ?_
  rintro e w2 ⟨rfl, b2⟩
  have N2 := hide (N1.out.below b2 (by omega))
  have V2 := hide (V1.out.below b2 (by omega))
  have M2 := hide (M1.out.below b2 (by omega))
  have G2 := hide (G1.out.below b2 (by omega))
  have B2 := hide (B1.out.trans (b2.mono B1.out.size))
  have H2' := hide (H1'.out.below (b2.mono (by omega)))
  have HV2 := hide (HV1.out.below (b2.mono (by omega)))
  have HV2' := hide (HV1'.out.below (b2.mono (by omega)))
  have s2 : w1.heap.size ≤ w2.heap.size := b2.size
  clear b2 v0 v1 v2 v3
  obtain ⟨y0, y1⟩ := M2.out
  have gg := G2.out
  unfold Free at gg
  obtain ⟨x0, x1⟩ := N2.out
  obtain ⟨v0, v1, v2, v3⟩ := V2.out
  cases hv : vok q u E T o n with
  | false =>
    have ez := hide (lookP_no (r := r) (s := s) (D := D) (S := S) (q := q) (u := u) (E := E) (T := T) (o := o) (n := n) (fun q => by rw [hv] at q; exact absurd q.2.1 (by decide)))
    clear hv
    go_wp2_with fail
    refine bodyPost_ret (v := .agg #[.slice none 0 0, .slice none 0 0]) (by simp [results, Try.results11, go_sem, y0, y1]) rfl (by
      rw [ez.out]
      refine tensR_zero ?_
      repeat (refine Below.setCell ?_ (by simp; omega) _)
      exact B2.out)
  | true =>
  by_cases hn : n = s
  rotate_left
  · have hn' : (n != (s : Int)) = true := bne_iff_ne.2 hn
    have ez := hide (lookP_no (r := r) (s := s) (D := D) (S := S) (q := q) (u := u) (E := E) (T := T) (o := o) (n := n) (fun q => hn q.2.2))
    clear hv hn
    go_wp2_with fail
    refine bodyPost_ret (v := .agg #[.slice none 0 0, .slice none 0 0]) (by simp [results, Try.results11, go_sem, y0, y1]) rfl (by
      rw [ez.out]
      refine tensR_zero ?_
      repeat (refine Below.setCell ?_ (by simp; omega) _)
      exact B2.out)
  have hn' : (n != (s : Int)) = false := by rw [bne_eq_false_iff_eq]; exact hn
  have ez := hide (lookP_yes ⟨HT.out, hv, hn⟩)
  have V := hide (vok_iff.1 hv)
  have PL := hide (fun k => (vok_iff.1 hv).place k)
  have CN := hide (cntS_yes hv)
  have HN := hide hn
  clear hv hn y0 y1 gg
  obtain rfl : u = q := V.out.2.1
  obtain ⟨N, hNN⟩ : ∃ N, cntS u u E T o n = N := ⟨_, rfl⟩
  rw [hNN] at CN ez
  have N4 : (N : Int) ≤ 4096 := by rw [CN.out]; exact (szR_rng E u).2
  clear hNN
  obtain ⟨F, hF⟩ : ∃ F : Nat → Int, (fun j => S (plcN E T u o j).toNat : Nat → Int) = F := ⟨_, rfl⟩
  rw [hF] at ez
  have HF := hide hF
  clear hF
  go_wp2_with fail
  refine (l3Ints B c u cap' E _ HV2.out (by omega) hq).mono ?_
  rintro e w3 ⟨va, rfl, rva, b3⟩
  obtain ⟨aa, ac, rfl, ova⟩ := rva.own
  obtain ⟨W3, hW3⟩ : ∃ W3, w3.alloc (.cells #[.slice aa u ac, .slice none 0 0] 29) = W3 := ⟨_, rfl⟩
  have b4 : Below w3.heap.size w3 W3 := by rw [← hW3]; exact (Below.refl _ _).alloc (Nat.le_refl _) _
  have z3 : W3.heap.size = w3.heap.size + 1 := by rw [← hW3]; simp
  have sb := b3.size
  have O3 := hide (show Bx W3 w3.heap.size (.slice aa u ac) (.slice none 0 0) by rw [← hW3]; exact bx_new w3 _ _ _)
  have OF3 := hide (show Free W3 w3.heap.size by rw [← hW3]; exact free_new w3 _ _)
  have N3 := hide ((N2.out.below b3 (by omega)).below b4 (by omega))
  have V3 := hide ((V2.out.below b3 (by omega)).below b4 (by omega))
  have M3 := hide ((M2.out.below b3 (by omega)).below b4 (by omega))
  have G3 := hide ((G2.out.below b3 (by omega)).below b4 (by omega))
  have B3 := hide ((B2.out.trans (b3.mono B2.out.size)).trans (b4.mono (by have := B2.out.size; omega)))
  have H3' := hide ((H2'.out.below (b3.mono (by omega))).below (b4.mono (by omega)))
  have HV3 := hide ((HV2.out.below (b3.mono (by omega))).below (b4.mono (by omega)))
  have HV3' := hide ((HV2'.out.below (b3.mono (by omega))).below (b4.mono (by omega)))
  have OA := hide (ova.below b4)
  have LA := hide (fun j (hj : Blk aa u j) => (ova.blk hj).2)
  have Z3 := hide z3
  have s3 : w.heap.size + 1 + 1 < w3.heap.size := by omega
  have s23 : w2.heap.size ≤ w3.heap.size := sb
  clear b3 b4 rva ova z3 sb x0 x1 v0 v1 v2 v3
  obtain ⟨v0, v1, v2, v3⟩ := V3.out
  rw [← hW3] at v0 v1 v2 v3
  have HW3 := hide hW3
  clear hW3
  go_wp2_with fail
  rw [HW3.out]
  clear HW3
  refine (l3All B (some c) d u cap' dap' N E T o n _ (by have := Z3.out; omega) HV3.out HV3'.out V.out.1 V.out.2.2.2.2.2.2.1 V.out.2.2.2.2.1 (by have := V.out.2.2.2.2.2.1; have := V.out.2.2.2.1; omega) CN.out).mono ?_
  rintro e w4 ⟨gp, cp, rfl, hgp, lgp, rp, b4⟩
  have z3 := Z3.out
  have RP := hide rp
  have O4 := hide (O3.out.below b4 (by omega))
  have OF4 := hide (OF3.out.below b4 (by omega))
  have N4' := hide (N3.out.below b4 (by omega))
  have M4 := hide (M3.out.below b4 (by omega))
  have G4 := hide (G3.out.below b4 (by omega))
  have B4 := hide (B3.out.trans (b4.mono B3.out.size))
  have H4' := hide (H3'.out.below (b4.mono (by omega)))
  have OA4 := hide (OA.out.below b4)
  have s4 : w3.heap.size + 1 ≤ w4.heap.size := by have := b4.size; omega
  have hgp' : w3.heap.size + 1 ≤ gp := by omega
  clear rp b4 v0 v1 v2 v3 z3 hgp
  go_wp2_with fail
  go_loopw [7] (fun i wx => ∃ (k : Nat) (vb : Value), k ≤ N ∧ i = .int .i64 k ∧ RowV w4.heap.size wx vb k F ∧ Bx wx w3.heap.size (.slice aa u ac) vb ∧ Free wx w3.heap.size ∧ Kept (· = w3.heap.size) w4 wx) (fun i _ => N - (intOf i).toNat)
  case atStart => exact ⟨0, _, Nat.zero_le _, rfl, ⟨World.ownsRow_nil _ _ _ _, fun _ h => by omega⟩, O4.out, OF4.out, Kept.refl _ _⟩
  case round =>
    obtain ⟨k, vb, hk, rfl, hrb, hbx, hfr, hkp⟩ := hrel
    have RB := hide hrb
    have XX := hide hbx
    have FX := hide hfr
    have HKP := hide hkp
    have ls : w4.heap.size ≤ wr.heap.size := hkp.size
    obtain ⟨ob, oc, rfl, _⟩ := hrb.own
    clear hrb hbx hfr hkp
    obtain ⟨u0, u1⟩ := XX.out
    have fx := FX.out
    unfold Free at fx
    have XT := N4'.out.kept HKP.out (by omega) (show ¬ w.heap.size = w3.heap.size by omega)
    obtain ⟨x0, x1⟩ := XT
    by_cases hlt : k < N
    · have kI : (k : Int) < N := by omega
      have pl := PL.out k
      obtain ⟨p, hp⟩ : ∃ p : Nat, o + rel E T u k = p := ⟨(o + rel E T u k).toNat, by omega⟩
      have EF := hide (show F k = S p by
        rw [← HF.out]
        show S (o + rel E T u k).toNat = S p
        rw [hp, Int.toNat_natCast])
      rw [hp] at pl
      obtain ⟨cp0, _, _⟩ := (RP.out.kept HKP.out (show ¬ gp = w3.heap.size by omega)) k hlt
      have cp1 : wr.cell? ⟨gp, k, none⟩ = some (.int .i64 (o + rel E T u k)) := cp0
      clear cp0
      rw [hp] at cp1
      have pI : (p : Int) < s := by have := HN.out; omega
      have hI := H4'.out.kept (by omega) HKP.out (fun y hy e => by have e : y = w3.heap.size := e; omega)
      have BS := hide (hI.bd p (by omega))
      rcases hI with h0 | ⟨b1, o1, rfl, hb1, hc1⟩
      · omega
      have cd := (hc1 p (by omega)).1
      have zP : w3.heap.size < wr.heap.size := by omega
      have nbl := hide (show ¬ (Value.slice ob k oc).ownBlock = some w3.heap.size from fun hj => by have := (RB.out.lt hj).1; omega)
      clear hc1 hp pl
      go_wp2_with fail
      go_region_law (first
          | (refine step_append_lies _ (by rfl) _ _ _ (by rfl) w4.heap.size 3 i0 _ 1 8 Try.underlying22 hi0 hz0 hz1 hz2 rfl (by omega) (.slice ob k oc) k (ints k F) (by rfl) ((RB.out.1.alloc _).drew)
                ⟨wr.heap.size, 0, none⟩ 1 1 [.int .i64 (S p)] (by rfl) (by rfl) (World.news_of_block (cs := #[.int .i64 (S p)]) (t := 3) (fr := (0, 0)) (heap_alloc_new wr _)) (by simp [Value.oneCell'])
                (by omega) (by unfold maxLen; omega) (by omega) (by simp; omega) (wr.heap.size + 1) (by simp) ?_
             intro g' c'' w5 hown3 hgrow hat hlt3
             have KA : Kept (fun j => (Value.slice ob k oc).ownBlock = some j) wr w5 := (Kept.of_below (((Below.refl _ wr).alloc (Nat.le_refl _) (.cells #[.int .i64 (S p)] 3)).drew)).trans ⟨hgrow.os, hgrow.tape, hgrow.output, hgrow.size, fun j hj hn => hgrow.block j hj (fun q => hn q.symm)⟩
             have e1 : ∀ i, w5.cell? ⟨w3.heap.size, i, none⟩ = wr.cell? ⟨w3.heap.size, i, none⟩ := fun i => World.cell?_of_block (w := wr) (a := ⟨w3.heap.size, i, none⟩) (KA.block w3.heap.size zP (fun q => nbl.out q))
             have e2 : ∀ i, w5.frozen? ⟨w3.heap.size, i, none⟩ = wr.frozen? ⟨w3.heap.size, i, none⟩ := fun i => World.frozen?_of_block (w := wr) (a := ⟨w3.heap.size, i, none⟩) (KA.block w3.heap.size zP (fun q => nbl.out q))))
      all_goals (go_wp2_with fail)
      all_goals go_roundw
      all_goals first
          | (simp [intOf]; omega)
          | (have ks := Kept.setCell w5 ⟨w3.heap.size, 1, none⟩ (.slice (some ⟨g', 0, none⟩) (k + 1) c'')
             have RB3 : RowV w4.heap.size w5 (.slice (some ⟨g', 0, none⟩) (k + 1) c'') (k + 1) F := ⟨by rw [← ints_succ, EF.out]; exact hown3, fun j hj => by
               by_cases e : j = k
               · rw [e, EF.out]; exact BS.out
               · exact RB.out.2 j (by omega)⟩
             have X3 := XX.out.kept KA zP (fun q => nbl.out q)
             have F3 := FX.out.kept KA zP (fun q => nbl.out q)
             exact ⟨k + 1, _, by omega, by go_num, RB3.kept ks (fun j q q' => by have := (RB3.lt q).1; have e : j = w3.heap.size := q'; omega), bx_set1 X3 _, F3.set _ _, (Kept.then HKP.out KA (fun j q => .inl (RB.out.lt q).1)).trans ks⟩)
    · have e : k = N := by omega
      subst e
      have kp := HKP.out
      have M5 := hide (M4.out.kept kp (by omega) (show ¬ w.heap.size + 1 + 1 = w3.heap.size by omega))
      have G5 := hide (G4.out.kept kp (by omega) (show ¬ w.heap.size + 1 + 1 = w3.heap.size by omega))
      have OA5 := hide (OA4.out.kept kp (fun y hy e => by have e : y = w3.heap.size := e; have := LA.out y hy; omega))
      have B5 := hide (B4.out.trans (kp.below B4.out.size (fun j e => by have e : j = w3.heap.size := e; omega)))
      obtain ⟨ob', oc', hoe, OD⟩ := RB.out.own
      have OD5 := hide OD
      cases hoe
      clear kp OD
      obtain ⟨y0, y1⟩ := M5.out
      have gg := G5.out
      unfold Free at gg
      go_wp2_with fail
      refine bodyPost_ret (v := .agg #[.slice aa u ac, .slice ob k oc]) (by simp [results, Try.results11, go_sem, y0, y1]) rfl ?_
      show TensR w.heap.size (lookP r s D S u u E T o n) w _ _
      rw [ez.out]
      exact tens_end (v := ⟨u, k, E, F⟩) (P := w.heap.size + 1 + 1) (B := w2.heap.size) ⟨OA5.out, OD5.out.mono (by omega), fun j q1 q2 => by
        have := LA.out j q1
        have := (OD5.out.blk q2).1
        omega⟩ (by omega) (by omega) B5.out
end Vo
end Go.Proofs.Ytfbmllhdigblhaa
