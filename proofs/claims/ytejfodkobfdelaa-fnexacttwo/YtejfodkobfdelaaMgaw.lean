/- Lemmas for the proof of the law. -/
import Derived.Test.YtejfodkobfdelaaMgau
import Derived.Test.YtejfodkobfdelaaMgat
import Derived.Test.YtejfodkobfdelaaMgav
import Derived.Test.YtejfodkobfdelaaMgao
import Derived.Deep.RegionHeld3
import Derived.Test.YtejfodkobfdelaaMgaq
import Derived.Lib.QuietBelow
/- Two of the model. -/
namespace Go.Proofs.Ytejfodkobfdelaa
namespace Vo
open Go.ChangeShapes Go.WideShapes Go.ChangeAt Go.RowKit Go.Joins Go.Sort
open Vl Vp Vr
set_option linter.unusedVariables false
set_option linter.unusedSimpArgs false
set_option maxRecDepth 100000 in
set_option maxHeartbeats 4000000 in
theorem specTwo (B : Nat) (a b a' b' : Option Addr) (r s cap dap r' s' cap' dap' : Nat) (D S D' S' : Nat → Int) (op : Int) (w : World) (hB : B ≤ w.heap.size) (h : Ints B w a r D) (h1 : Ints B w b s S) (h' : Ints B w a' r' D') (h1' : Ints B w b' s' S') (hr : (r : Int) ≤ 1048576) (hs : (s : Int) ≤ 1048576) (hr' : (r' : Int) ≤ 1048576) (hs' : (s' : Int) ≤ 1048576) :
    Calls Try.prog 16 #[.int .i64 op, .agg #[.slice a r cap, .slice b s dap], .agg #[.slice a' r' cap', .slice b' s' dap']] w fun e w' => TensR w.heap.size (twoP op r s D S r' s' D' S') w e w' := by
  obtain ⟨W0, hW0⟩ : ∃ W0, ((w.alloc (.cells #[.slice a r cap, .slice b s dap] 38)).alloc (.cells #[.slice a' r' cap', .slice b' s' dap'] 38)).alloc (.cells #[.slice none 0 0, .slice none 0 0] 38) = W0 := ⟨_, rfl⟩
  have hs0 : W0.heap.size = w.heap.size + 1 + 1 + 1 := by rw [← hW0]; simp
  have bl : Below w.heap.size w W0 := by rw [← hW0]; exact (((Below.refl _ _).alloc (Nat.le_refl _) _).alloc (by simp) _).alloc (by simp <;> omega) _
  have n0 : Bx W0 w.heap.size (.slice a r cap) (.slice b s dap) := by
    rw [← hW0]; exact (bx_new w (.slice a r cap) (.slice b s dap) 38).below (((Below.refl (w.heap.size + 1) _).alloc (by simp) _).alloc (by simp) _) (by omega)
  have u0 : Bx W0 (w.heap.size + 1) (.slice a' r' cap') (.slice b' s' dap') := by
    have q := (bx_new (w.alloc (.cells #[.slice a r cap, .slice b s dap] 38)) (.slice a' r' cap') (.slice b' s' dap') 38)
    rw [World.size_alloc] at q
    rw [← hW0]; exact q.below ((Below.refl (w.heap.size + 1 + 1) _).alloc (by simp) _) (by omega)
  have m0 : Bx W0 (w.heap.size + 1 + 1) (.slice none 0 0) (.slice none 0 0) := by
    have q := bx_new ((w.alloc (.cells #[.slice a r cap, .slice b s dap] 38)).alloc (.cells #[.slice a' r' cap', .slice b' s' dap'] 38)) (.slice none 0 0) (.slice none 0 0) 38
    rw [World.size_alloc, World.size_alloc] at q
    rw [← hW0]; exact q
  have g0 : Free W0 (w.heap.size + 1 + 1) := by
    have q := free_new ((w.alloc (.cells #[.slice a r cap, .slice b s dap] 38)).alloc (.cells #[.slice a' r' cap', .slice b' s' dap'] 38)) #[.slice none 0 0, .slice none 0 0] 38
    rw [World.size_alloc, World.size_alloc] at q
    rw [← hW0]; exact q
  have HW := hide (show (Ints B w a r D ∧ Ints B w b s S) ∧ Ints B w a' r' D' ∧ Ints B w b' s' S' from ⟨⟨h, h1⟩, h', h1'⟩)
  have BL := hide bl
  have HS0 := hide hs0
  have N0 := hide n0
  have U0 := hide u0
  have M0 := hide m0
  have G0 := hide g0
  obtain ⟨x0, x1⟩ := n0
  clear h h1 h' h1' bl m0 g0 hs0 u0
  go_enter Try.func16, Try.ntmps16
  go_wp2_with fail
  clear hW0
  refine (specTensorOk B a b r s cap dap D S W0 (by have := HS0.out; omega) (HW.out.1.1.below (BL.out.mono hB)) (HW.out.1.2.below (BL.out.mono hB)) hr hs).mono ?_
  rintro e w1 ⟨rfl, b1⟩
  have z0 := HS0.out
  have N1 := hide (N0.out.below b1 (by omega))
  have U1 := hide (U0.out.below b1 (by omega))
  have M1 := hide (M0.out.below b1 (by omega))
  have G1 := hide (G0.out.below b1 (by omega))
  have BB1 := hide (BL.out.trans (b1.mono BL.out.size))
  have s1 : w.heap.size + 1 + 1 < w1.heap.size := by have := b1.size; omega
  clear b1 z0 x0 x1 N0 U0 M0 G0
  cases ht : tok r s D S with
  | false =>
    have ez := hide (twoP_no (op := op) (r := r) (s := s) (D := D) (S := S) (r' := r') (s' := s') (D' := D') (S' := S') (fun h => by rw [ht] at h; exact absurd h.2.1.1 (by decide)))
    obtain ⟨y0, y1⟩ := M1.out
    have gg := G1.out
    unfold Free at gg
    have B1 := BB1
    clear ht
    go_wp2_with fail
    refine bodyPost_ret (v := .agg #[.slice none 0 0, .slice none 0 0]) (by simp [results, Try.results16, go_sem, y0, y1]) rfl (by
      rw [ez.out]
      refine tensR_zero ?_
      repeat (refine Below.setCell ?_ (by simp <;> omega) _)
      exact B1.out)
  | true =>
  have HT := hide ht
  clear ht
  obtain ⟨u0, u1⟩ := U1.out
  go_wp2_with fail
  refine (specTensorOk B a' b' r' s' cap' dap' D' S' w1 (by omega) (HW.out.2.1.below (BB1.out.mono hB)) (HW.out.2.2.below (BB1.out.mono hB)) hr' hs').mono ?_
  rintro e w2 ⟨rfl, b1⟩
  have N2 := hide (N1.out.below b1 (by omega))
  have U2 := hide (U1.out.below b1 (by omega))
  have M2 := hide (M1.out.below b1 (by omega))
  have G2 := hide (G1.out.below b1 (by omega))
  have BB2 := hide (BB1.out.trans (b1.mono BB1.out.size))
  have s2 : w.heap.size + 1 + 1 < w2.heap.size := by have := b1.size; omega
  clear b1 u0 u1 N1 U1 M1 G1
  obtain ⟨y0, y1⟩ := M2.out
  have gg := G2.out
  unfold Free at gg
  cases ht : tok r' s' D' S' with
  | false =>
    have ez := hide (twoP_no (op := op) (r := r) (s := s) (D := D) (S := S) (r' := r') (s' := s') (D' := D') (S' := S') (fun h => by rw [ht] at h; exact absurd h.2.1.2 (by decide)))
    have B1 := BB2
    clear ht
    go_wp2_with fail
    refine bodyPost_ret (v := .agg #[.slice none 0 0, .slice none 0 0]) (by simp [results, Try.results16, go_sem, y0, y1]) rfl (by
      rw [ez.out]
      refine tensR_zero ?_
      repeat (refine Below.setCell ?_ (by simp <;> omega) _)
      exact B1.out)
  | true =>
  have HT' := hide ht
  clear ht
  by_cases o1 : op < 1
  · have o1' : decide (op < 1) = true := decide_eq_true o1
    have ez := hide (twoP_no (op := op) (r := r) (s := s) (D := D) (S := S) (r' := r') (s' := s') (D' := D') (S' := S') (fun h => by omega))
    have B1 := BB2
    clear o1
    go_wp2_with fail
    refine bodyPost_ret (v := .agg #[.slice none 0 0, .slice none 0 0]) (by simp [results, Try.results16, go_sem, y0, y1]) rfl (by
      rw [ez.out]
      refine tensR_zero ?_
      repeat (refine Below.setCell ?_ (by simp <;> omega) _)
      exact B1.out)
  have o1' : decide (op < 1) = false := decide_eq_false o1
  by_cases o8 : 8 < op
  · have o8' : decide (8 < op) = true := decide_eq_true o8
    have ez := hide (twoP_no (op := op) (r := r) (s := s) (D := D) (S := S) (r' := r') (s' := s') (D' := D') (S' := S') (fun h => by omega))
    have B1 := BB2
    clear o1 o8
    go_wp2_with fail
    refine bodyPost_ret (v := .agg #[.slice none 0 0, .slice none 0 0]) (by simp [results, Try.results16, go_sem, y0, y1]) rfl (by
      rw [ez.out]
      refine tensR_zero ?_
      repeat (refine Below.setCell ?_ (by simp <;> omega) _)
      exact B1.out)
  have o8' : decide (8 < op) = false := decide_eq_false o8
  have OP := hide (show 1 ≤ op ∧ op ≤ 8 by omega)
  clear o1 o8 y0 y1 gg
  obtain ⟨td, ts, tw⟩ := tok_split HT.out
  obtain ⟨td', ts', tw'⟩ := tok_split HT'.out
  have r6 : r ≤ 6 := (dok_iff.1 td).1
  have r6' : r' ≤ 6 := (dok_iff.1 td').1
  have TD := hide td
  have TD' := hide td'
  have TW := hide tw
  have TW' := hide tw'
  have TS := hide ts
  have TS' := hide ts'
  clear td td' ts ts' tw tw'
  obtain ⟨x0, x1⟩ := N2.out
  obtain ⟨u0, u1⟩ := U2.out
  go_wp2_with fail
  refine (specJointS B a a' r r' cap cap' D D' w2 (HW.out.1.1.below (BB2.out.mono hB)) (HW.out.2.1.below (BB2.out.mono hB)) (by omega) hr hr').mono ?_
  rintro e w3 ⟨ja, jc, rfl, oj, b1⟩
  have N3 := hide (N2.out.below b1 (by omega))
  have U3 := hide (U2.out.below b1 (by omega))
  have M3 := hide (M2.out.below b1 (by omega))
  have G3 := hide (G2.out.below b1 (by omega))
  have BB3 := hide (BB2.out.trans (b1.mono BB2.out.size))
  have s3 : w2.heap.size ≤ w3.heap.size := b1.size
  clear b1 x0 x1 u0 u1 N2 U2 M2 G2 o1' o8'
  obtain ⟨x0, x1⟩ := N3.out
  obtain ⟨u0, u1⟩ := U3.out
  by_cases hj : JOk r r' D D'
  rotate_left
  · have ez := hide (twoP_no (op := op) (r := r) (s := s) (D := D) (S := S) (r' := r') (s' := s') (D' := D') (S' := S') (fun h => hj h.2.2))
    have hpos := joint_no TD.out TD'.out hj
    rw [jn_no hj]
    obtain ⟨y0, y1⟩ := M3.out
    have gg := G3.out
    unfold Free at gg
    have B1 := BB3
    clear hj oj
    by_cases c : 0 < r
    · have c' : decide ((0 : Int) < (r : Int)) = true := decide_eq_true (by omega)
      go_wp2_with fail
      refine bodyPost_ret (v := .agg #[.slice none 0 0, .slice none 0 0]) (by simp [results, Try.results16, go_sem, y0, y1]) rfl (by
        rw [ez.out]
        refine tensR_zero ?_
        repeat (refine Below.setCell ?_ (by simp <;> omega) _)
        exact B1.out)
    · have c' : decide ((0 : Int) < (r : Int)) = false := decide_eq_false (by omega)
      have c0 : 0 < r' := by omega
      have c2 : decide ((0 : Int) < (r' : Int)) = true := decide_eq_true (by omega)
      go_wp2_with fail
      refine bodyPost_ret (v := .agg #[.slice none 0 0, .slice none 0 0]) (by simp [results, Try.results16, go_sem, y0, y1]) rfl (by
        rw [ez.out]
        refine tensR_zero ?_
        repeat (refine Below.setCell ?_ (by simp <;> omega) _)
        exact B1.out)
  have EZ := hide (show twoP op r s D S r' s' D' S' = ⟨max r r', cntT (max r r') (jt r r' D D'), jt r r' D D', fun k => two1 op (sprN r (max r r') D S (jt r r' D D') k) (sprN r' (max r r') D' S' (jt r r' D D') k)⟩ by unfold twoP; rw [if_pos ⟨OP.out, ⟨HT.out, HT'.out⟩, hj⟩])
  have SP := hide (spr_of_joint hj)
  have SP' := hide (spr_of_joint2 hj)
  rw [jn_yes hj] at oj ⊢
  obtain ⟨N, hN⟩ : ∃ N, max r r' = N := ⟨_, rfl⟩
  obtain ⟨E, hE⟩ : ∃ E, jt r r' D D' = E := ⟨_, rfl⟩
  rw [hN, hE] at EZ SP SP' oj
  rw [hN]
  have rN : r ≤ N := by omega
  have rN' : r' ≤ N := by omega
  have N6 : N ≤ 6 := by omega
  obtain ⟨V, hV⟩ : ∃ V : Nat → Int, (fun k => two1 op (sprN r N D S E k) (sprN r' N D' S' E k) : Nat → Int) = V := ⟨_, rfl⟩
  rw [hV] at EZ
  obtain ⟨K, hK⟩ : ∃ K : Nat, cntT N E = K := ⟨_, rfl⟩
  rw [hK] at EZ
  have hdE : dok N E = true := SP.out.1
  have HDE := hide hdE
  have HKs := hide (show szR E N = (K : Int) by rw [← hK]; exact (cntT_cast N E).symm)
  have K4 : (K : Int) ≤ 4096 := by rw [← hK]; exact cntT_le _ _
  have HV := hide hV
  have OJ := hide oj
  have t1 : decide ((N : Int) < (r : Int)) = false := decide_eq_false (by omega)
  have t2 : decide ((N : Int) < (r' : Int)) = false := decide_eq_false (by omega)
  clear hN hE hV hK hj oj hdE
  go_wp2_with fail
  refine (l4New w3.heap.size ja N jc K E w3 (Nat.le_refl _) OJ.out.ints (by omega) HKs.out K4).mono ?_
  rintro e w4 ⟨va, vc, g, rfl, ov, rg, lg, hg, hne, b1⟩
  clear t1 t2 x0 x1 u0 u1
  have sb := b1.size
  obtain ⟨W5, hW5⟩ : ∃ W5, w4.alloc (.cells #[.slice va N vc, .slice (some ⟨g, 0, none⟩) K K] 38) = W5 := ⟨_, rfl⟩
  have b2 : Below w4.heap.size w4 W5 := by rw [← hW5]; exact (Below.refl _ _).alloc (Nat.le_refl _) _
  have z5 : W5.heap.size = w4.heap.size + 1 := by rw [← hW5]; simp
  have T5 := hide (show Bx W5 w4.heap.size (.slice va N vc) (.slice (some ⟨g, 0, none⟩) K K) by rw [← hW5]; exact bx_new w4 _ _ _)
  have N5 := hide ((N3.out.below b1 (by omega)).below b2 (by omega))
  have U5 := hide ((U3.out.below b1 (by omega)).below b2 (by omega))
  have M5 := hide ((M3.out.below b1 (by omega)).below b2 (by omega))
  have G5 := hide ((G3.out.below b1 (by omega)).below b2 (by omega))
  have BB5 := hide ((BB3.out.trans (b1.mono BB3.out.size)).trans (b2.mono (by omega)))
  have OJ5 := hide ((OJ.out.ints.below b1).below (b2.mono (by omega)))
  have OV := hide (ov.below b2)
  have RG := hide (rg.below b2 hg)
  have HNE := hide hne
  have Z5 := hide z5
  have zg : w3.heap.size < g := by omega
  have wg : w.heap.size ≤ g := by have := BB3.out.size; omega
  clear ov rg b1 b2 sb hne z5 N3 U3 M3 G3
  obtain ⟨v0, v1⟩ := T5.out
  go_wp2_with fail
  clear hW5
  go_loopw [9] (fun i wx => ∃ j : Nat, j ≤ K ∧ i = .int .i64 j ∧ Bx wx w4.heap.size (.slice va N vc) (.slice (some ⟨g, 0, none⟩) K K) ∧ Bx wx w.heap.size (.slice a r cap) (.slice b s dap) ∧ Bx wx (w.heap.size + 1) (.slice a' r' cap') (.slice b' s' dap') ∧ Rw wx g K (fun t => if t < j then V t else 0) ∧ Kept (· = g) W5 wx) (fun i _ => K - (intOf i).toNat)
  case atStart => exact ⟨0, Nat.zero_le _, rfl, T5.out, N5.out, U5.out, RG.out.same (fun t ht => by simp), Kept.refl _ _⟩
  case round =>
    obtain ⟨X, rfl⟩ : ∃ X, X = wr := ⟨_, rfl⟩
    obtain ⟨j, hj, rfl, hbx, hbt, hbu, hrw, hkp⟩ := hrel
    have HBX := hide hbx
    have HBT := hide hbt
    have HBU := hide hbu
    have HRW := hide hrw
    have HKP := hide hkp
    have lX : w4.heap.size + 1 ≤ X.heap.size := by have := HKP.out.size; have := Z5.out; omega
    have bWX := (BB5.out.trans (hkp.below BB5.out.size (fun y e => by have e : y = g := e; omega)))
    have BWX := hide bWX
    clear hbt hbu hrw hkp v0 v1 bWX
    obtain ⟨v0, v1⟩ := hbx
    by_cases hlt : j < K
    · have jI : (j : Int) < K := by omega
      have OJX := hide (OJ5.out.kept (by have := Z5.out; omega) HKP.out (fun y hy e => by have e : y = g := e; omega))
      have HDD := hide (fun i hi => dok_len HDE.out (j := i) hi)
      go_wp2_with fail
      refine (l3Index w3.heap.size (some ja) N jc E j X OJX.out (by omega) (by omega) HDD.out (by omega) (by omega)).mono ?_
      rintro e X1 ⟨rfl, ra, sa, ba⟩
      have dgr := dg_rng E N (fun i hi => (HDD.out i hi).1) (j : Int)
      have lX1 : X.heap.size < X1.heap.size := sa
      have HBX1 := hide (HBX.out.below ba (by omega))
      have HBT1 := hide (HBT.out.below ba (by omega))
      have HBU1 := hide (HBU.out.below ba (by omega))
      have HRW1 := hide (HRW.out.below ba (by omega))
      have BW1 := hide (BWX.out.trans (ba.mono BWX.out.size))
      have KX := hide (show Kept (· = g) W5 X1 from HKP.out.trans (Kept.of_below ba))
      have RA := hide ra
      have I1 := hide (sprI_rng SP.out (fun i hi => (dok_len TD.out hi).1) dgr)
      have I2 := hide (sprI_rng SP'.out (fun i hi => (dok_len TD'.out hi).1) dgr)
      obtain ⟨p, hp⟩ : ∃ p, sprN r N D S E j = p := ⟨_, rfl⟩
      obtain ⟨p', hp'⟩ : ∃ p', sprN r' N D' S' E j = p' := ⟨_, rfl⟩
      have C1 := hide (fun (W : World) (hW : Below X1.heap.size X1 W) => show Calls Try.prog 36 #[.agg #[.slice a r cap, .slice b s dap], .slice (some ⟨X.heap.size, 0, none⟩) N N] W fun e w' => e = .returned (.int .i64 p) ∧ Below W.heap.size W w' from by
        rw [← hp]
        exact l4Spread W.heap.size a b (some ⟨X.heap.size, 0, none⟩) r s cap dap N N D S (dg E N j) W (Nat.le_refl _) ((HW.out.1.1.below ((BW1.out.trans (hW.mono BW1.out.size)).mono hB)).mono (by have := hW.size; omega)) ((HW.out.1.2.below ((BW1.out.trans (hW.mono BW1.out.size)).mono hB)).mono (by have := hW.size; omega)) ((RA.out.below hW sa).ints (by have := hW.size; omega)) HT.out rN N6 I1.out)
      have C2 := hide (fun (W : World) (hW : Below X1.heap.size X1 W) => show Calls Try.prog 36 #[.agg #[.slice a' r' cap', .slice b' s' dap'], .slice (some ⟨X.heap.size, 0, none⟩) N N] W fun e w' => e = .returned (.int .i64 p') ∧ Below W.heap.size W w' from by
        rw [← hp']
        exact l4Spread W.heap.size a' b' (some ⟨X.heap.size, 0, none⟩) r' s' cap' dap' N N D' S' (dg E N j) W (Nat.le_refl _) ((HW.out.2.1.below ((BW1.out.trans (hW.mono BW1.out.size)).mono hB)).mono (by have := hW.size; omega)) ((HW.out.2.2.below ((BW1.out.trans (hW.mono BW1.out.size)).mono hB)).mono (by have := hW.size; omega)) ((RA.out.below hW sa).ints (by have := hW.size; omega)) HT'.out rN' N6 I2.out)
      have np : isN p := by
        rw [← hp]
        have o := od_rng D _ r I1.out
        have := TW.out (od D (sprI r N D (dg E N j)) r).toNat (by have := (dok_pr TD.out).1; have := TS.out; omega)
        exact this
      have np' : isN p' := by
        rw [← hp']
        have o := od_rng D' _ r' I2.out
        have := TW'.out (od D' (sprI r' N D' (dg E N j)) r').toNat (by have := (dok_pr TD'.out).1; have := TS'.out; omega)
        exact this
      have VE := hide (show two1 op p p' = V j by rw [← HV.out, ← hp, ← hp'])
      have BV := hide (show bd (V j) by rw [← VE.out]; have := two1_rng (op := op) np np'; unfold isN at this; unfold bd; omega)
      have C3 := hide (fun (W : World) => l4Two op p p' W np np' OP.out.1 OP.out.2)
      rw [VE.out] at C3
      have bb0 := hide (show Below X1.heap.size X1 X1.drew from (Below.refl _ _).drew)
      have F1 := hide (fun (W : World) (hW : Below X1.heap.size X1 W) => HBT1.out.below hW (by omega))
      have F2 := hide (fun (W : World) (hW : Below X1.heap.size X1 W) => HBU1.out.below hW (by omega))
      have F3 := hide (fun (W : World) (hW : Below X1.heap.size X1 W) => HBX1.out.below hW (by omega))
      have F4 := hide (fun (W : World) (hW : Below X1.heap.size X1 W) => HRW1.out.below hW (by omega))
      have F5 := hide (fun (W W' : World) (hW : Below X1.heap.size X1 W) (h2 : Below W.heap.size W W') => hW.trans (h2.mono hW.size))
      have FIN := hide (fun (W : World) (hW : Below X1.heap.size X1 W) => And.intro ((F3.out _ hW).kept (Kept.setCell W ⟨g, j, none⟩ (.int .i64 (V j))) (by have := hW.size; omega) (by show ¬ w4.heap.size = g; omega)) (And.intro ((F1.out _ hW).kept (Kept.setCell W ⟨g, j, none⟩ (.int .i64 (V j))) (by have := hW.size; omega) (by show ¬ w.heap.size = g; omega)) (And.intro ((F2.out _ hW).kept (Kept.setCell W ⟨g, j, none⟩ (.int .i64 (V j))) (by have := hW.size; omega) (by show ¬ w.heap.size + 1 = g; omega)) (And.intro (((F4.out _ hW).set j (V j) BV.out).same (E := fun t => if t < j + 1 then V t else 0) (fun t ht => by by_cases c : t = j <;> by_cases c2 : t < j <;> simp [c, c2] <;> omega)) ((KX.out.trans (Kept.of_below hW)).trans (Kept.setCell W ⟨g, j, none⟩ (.int .i64 (V j)))))))) 
      have ng1 : w.heap.size ≠ g := by omega
      have ng2 : w.heap.size + 1 ≠ g := by omega
      have ng3 : w4.heap.size ≠ g := by omega
      obtain ⟨x0, x1⟩ := HBT1.out
      obtain ⟨u0, u1⟩ := HBU1.out
      obtain ⟨cg, fg, _⟩ := HRW1.out j hlt
      clear ra ba dgr np np' hp hp' v0 v1
      obtain ⟨v0, v1⟩ := HBX1.out
      go_wp2_with fail
      go_region_held3 (fun w' => w'.cell? ⟨w.heap.size, 0, none⟩ = some (.slice a r cap) ∧ w'.cell? ⟨w.heap.size, 1, none⟩ = some (.slice b s dap) ∧ w'.cell? ⟨w.heap.size + 1, 0, none⟩ = some (.slice a' r' cap') ∧ w'.cell? ⟨w.heap.size + 1, 1, none⟩ = some (.slice b' s' dap') ∧ w'.cell? ⟨w4.heap.size, 1, none⟩ = some (.slice (some ⟨g, 0, none⟩) K K))
        ((try dsimp only) <;> (repeat' apply And.intro) <;> (repeat (first | with_reducible assumption | with_reducible apply drew_old | (with_reducible apply se_old; (focus (first | (dsimp only; omega) | (simp; done) | (simp; omega)))) | assumption)))
        (first
        | (go_at_call_of 36 (Value.agg #[Value.slice a r cap, Value.slice b s dap])
           first
             | (refine (C1.out _ bbB.out).mono ?_
                rintro e wA ⟨rfl, bA⟩
                have bbA := hide (F5.out _ wA bbB.out bA))
             | (refine (C1.out _ bb0.out).mono ?_
                rintro e wA ⟨rfl, bA⟩
                have bbA := hide (F5.out _ wA bb0.out bA))
           obtain ⟨h0, h1⟩ := F1.out wA bbA.out
           obtain ⟨h2, h3⟩ := F2.out wA bbA.out
           obtain ⟨h4, h5⟩ := F3.out wA bbA.out
           obtain ⟨h6, h7, _⟩ := F4.out wA bbA.out j hlt
           clear bA)
        | (go_at_call_of 36 (Value.agg #[Value.slice a' r' cap', Value.slice b' s' dap'])
           first
             | (refine (C2.out _ bbA.out).mono ?_
                rintro e wB ⟨rfl, bB⟩
                have bbB := hide (F5.out _ wB bbA.out bB))
             | (refine (C2.out _ bb0.out).mono ?_
                rintro e wB ⟨rfl, bB⟩
                have bbB := hide (F5.out _ wB bb0.out bB))
           obtain ⟨k0, k1⟩ := F1.out wB bbB.out
           obtain ⟨k2, k3⟩ := F2.out wB bbB.out
           obtain ⟨k4, k5⟩ := F3.out wB bbB.out
           obtain ⟨k6, k7, _⟩ := F4.out wB bbB.out j hlt
           clear bB)
        | (go_at_call 35; refine (C3.out _).mono ?_; rintro e w9 ⟨rfl, rfl⟩))
      all_goals (go_wp2_with fail)
      all_goals go_roundw
      all_goals first
        | (simp only [intOf]; omega)
        | (simp [intOf]; omega)
        | exact ⟨j + 1, hlt, by go_num, FIN.out _ bbB.out⟩
        | exact ⟨j + 1, hlt, by go_num, FIN.out _ bbA.out⟩
    · have e : j = K := by omega
      have kp := HKP.out
      have n1 : ¬ w.heap.size + 1 + 1 = g := by omega
      have M6 := hide (M5.out.kept kp (by have := Z5.out; omega) n1)
      have G6 := hide (G5.out.kept kp (by have := Z5.out; omega) n1)
      have OV6 := hide (OV.out.kept kp (fun b q e => HNE.out b q e))
      have R6 := hide (HRW.out.same (E := V) (fun t ht => by simp; intro; omega))
      clear kp
      obtain ⟨y0, y1⟩ := M6.out
      have gg := G6.out
      unfold Free at gg
      go_wp2_with fail
      refine bodyPost_ret (v := .agg #[.slice va N vc, .slice (some ⟨g, 0, none⟩) K K]) (by simp [results, Try.results16, go_sem, y0, y1]) rfl ?_
      show TensR w.heap.size (twoP op r s D S r' s' D' S') w _ _
      rw [EZ.out]
      exact tens_end (v := ⟨N, K, E, V⟩) (B := w.heap.size + 1 + 1 + 1) ⟨OV6.out.mono (by omega), .inr ⟨g, rfl, by omega, R6.out⟩, fun j q1 q2 => by
          obtain ⟨_, ad, e', e''⟩ := q2
          injection e' with e'
          subst e'
          have e'' : g = j := e''
          exact HNE.out j q1 e''.symm⟩ (by omega) (by omega) BWX.out
end Vo
end Go.Proofs.Ytejfodkobfdelaa

/- Two: the closure; elementwise of three captures. -/
namespace Go.Proofs.Ytejfodkobfdelaa
namespace Vo
open Go.ChangeShapes Go.WideShapes Go.ChangeAt Go.RowKit Go.Joins Go.Sort
open Vl Vp Vr
set_option linter.unusedVariables false
set_option linter.unusedSimpArgs false
set_option maxHeartbeats 1000000 in
theorem elementwise3 (N : Nat) (F : Nat) (c c' c'' : Value) (G : Nat → Int) (w : World) (hN : (N : Int) ≤ 4194304) (hG : ∀ k, k < N → bd (G k)) (eF : ∀ args w, (callFunc F args).run Try.prog w = .ok (.enter F args) w)
    (hf : ∀ (k : Nat) (W : World), k < N → Below w.heap.size w W → Calls Try.prog F #[.int .i64 k, c, c', c''] W fun e W' => e = .returned (.int .i64 (G k)) ∧ Below W.heap.size W W') :
    Calls Try.prog 41 #[.int .i64 N, .func (.func F) #[] #[c, c', c'']] w fun e w' => e = .returned (.slice (some ⟨w.heap.size, 0, none⟩) N N) ∧ Rw w' w.heap.size N G ∧ w.heap.size < w'.heap.size ∧ Below w.heap.size w w' := by
  have hmk := make_int N (by omega)
  have HF := hide hf
  have HG := hide hG
  clear hf hG
  go_enter Try.func41, Try.ntmps41
  go_wp2_with fail
  go_loopw [11] (fun i wx => ∃ k : Nat, k ≤ N ∧ i = .int .i64 k ∧ Rw wx w.heap.size N (fun t => if t < k then G t else 0) ∧ w.heap.size < wx.heap.size ∧ Below w.heap.size w wx) (fun i _ => N - (intOf i).toNat)
  case atStart => exact ⟨0, Nat.zero_le _, rfl, (rw_new w N _).same (fun t ht => by simp), by simp, (Below.refl _ _).alloc (Nat.le_refl _) _⟩
  case round =>
    obtain ⟨k, hk, rfl, hw, hs, hb⟩ := hrel
    have HW := hide hw
    have HB := hide hb
    clear hw hb
    by_cases hlt : k < N
    · have hkI : (k : Int) < N := by omega
      go_wp2_with fail
      refine (HF.out k _ hlt HB.out).mono ?_
      rintro e w1 ⟨rfl, b1⟩
      have HW1 := hide (HW.out.below b1 hs)
      have HB1 := hide (HB.out.trans (b1.mono HB.out.size))
      have hs1 : w.heap.size < w1.heap.size := Nat.lt_of_lt_of_le hs b1.size
      obtain ⟨c2, f2, _⟩ := HW1.out k hlt
      clear b1
      go_wp2_with fail
      go_roundw
      case rel => exact ⟨k + 1, by omega, by go_num, (HW1.out.set k (G k) (HG.out k hlt)).same (fun t ht => by by_cases c : t = k <;> by_cases c2 : t < k <;> simp [c, c2] <;> omega), by simpa [World.setCell] using hs1, HB1.out.setCell (p := ⟨w.heap.size, k, none⟩) (Nat.le_refl _) _⟩
      case measure => simp [intOf]; omega
    · have e : k = N := by omega
      go_wp2_with fail
      go_ret
      exact ⟨rfl, HW.out.same (fun t ht => by simp; intro; omega), hs, HB.out⟩
set_option maxHeartbeats 1000000 in
theorem twoPiece (op : Int) (F : Nat) (hF : TwoV op F) (a b a' b' : Option Addr) (r s cap dap r' s' cap' dap' k Pf Pt Pu : Nat) (S S' : Nat → Int) (B : Nat) (W : World) (hf : W.cell? ⟨Pf, 0, none⟩ = some (.func (.func F) #[] #[])) (ht : Bx W Pt (.slice a r cap) (.slice b s dap)) (hu : Bx W Pu (.slice a' r' cap') (.slice b' s' dap')) (h : Ints B W b s S) (h' : Ints B W b' s' S') (hk : k < s) (hk' : k < s') (hn : isN (S k)) (hn' : isN (S' k)) (hs : (s : Int) ≤ 1048576) (hs' : (s' : Int) ≤ 1048576) :
    Calls Try.prog 42 #[.int .i64 k, .pointer (some ⟨Pf, 0, none⟩), .pointer (some ⟨Pt, 0, none⟩), .pointer (some ⟨Pu, 0, none⟩)] W fun e W' => e = .returned (.int .i64 (two1 op (S k) (S' k))) ∧ Below W.heap.size W W' := by
  rcases h with h0 | ⟨b1, o1, rfl, hb1, hc⟩
  · omega
  rcases h' with h0 | ⟨b2, o2, rfl, hb2, hc'⟩
  · omega
  have eF := hF.1
  have k0 := cell_regrown hf
  have k1 := cell_regrown ht.2
  have k2 := cell_regrown (hc k hk).1
  have k3 := cell_regrown hu.2
  have k4 := cell_regrown (hc' k hk').1
  have kI : (k : Int) < s := by omega
  have kI' : (k : Int) < s' := by omega
  have CF := hide (fun (q : Nat) (os : Array Obj) => show Calls Try.prog F #[.int .i64 (S k), .int .i64 (S' k)] (Sort.grow (redrawn W q) os) (fun e w'' => e = .returned (.int .i64 (two1 op (S k) (S' k))) ∧ ∃ p : Regrown, w'' = Sort.grow (redrawn W p.d) p.os) from Calls.regrown_of ((hF.2 (S k) (S' k) _ hn hn').mono (fun e w' q => ⟨q.1, q.2 ▸ Below.refl _ _⟩)))
  clear hc hc' hF hf ht hu
  go_enter Try.func42, Try.ntmps42
  go_wp2_with fail
  refine wp_region_quiet_below (by kernel_rfl) (by kernel_rfl) ?_
  repeat (quiet_step (exact CF.out _ _))
  refine wpQuiet_nil ?_
  intro _ hw'
  obtain ⟨⟨dq, osq⟩, hw''⟩ := hw'
  subst hw''
  go_wp2_with fail
  go_ret
  exact ⟨rfl, below_regrown W dq osq⟩
end Vo
end Go.Proofs.Ytejfodkobfdelaa
