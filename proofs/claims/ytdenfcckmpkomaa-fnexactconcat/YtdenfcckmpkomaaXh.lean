/- Concat of the model, where it answers. -/
import Derived.Test.YtdenfcckmpkomaaXd
import Derived.Deep.RegionHeld3
import Derived.BigQuiet
namespace Go.Proofs.Ytdenfcckmpkomaa
namespace Vo
open Go.ChangeShapes Go.WideShapes Go.ChangeAt Go.RowKit Go.Joins Go.Sort
open Vl Vp
set_option linter.unusedVariables false
set_option linter.unusedSimpArgs false
theorem se_oldX {W : World} {q p : Addr} {v u : Value} (h : W.cell? q = some v) (hn : q.block ≠ p.block) : (W.setCell p u).cell? q = some v := (World.cell?_setCell_other _ _ _ _ (fun e => hn (by rw [e]))).trans h
set_option maxRecDepth 100000 in
set_option maxHeartbeats 8000000 in
/-- tensors that fit -/
theorem specConcatYes (B : Nat) (a : Option Addr) (n cap : Nat) (x : Int) (T : Nat → TV) (w : World) (hB : B ≤ w.heap.size) (h : TL B w a n T) (hn : (n : Int) ≤ 1048576) (hl : TLen n T 1048576) (ho : ConOk n x T) (hd : dok (T 0).r (conD n x T) = true) :
    Calls Try.prog 21 #[.slice a n cap, .int .i64 x] w fun e w' => TensR w.heap.size (conP n x T) w e w' := by
  obtain ⟨W0, hW0⟩ : ∃ W0, w.alloc (.cells #[.slice none 0 0, .slice none 0 0] 26) = W0 := ⟨_, rfl⟩
  have hs0 : W0.heap.size = w.heap.size + 1 := by rw [← hW0]; simp
  have bl : Below w.heap.size w W0 := by rw [← hW0]; exact (Below.refl _ _).alloc (Nat.le_refl _) _
  have m0 : Bx W0 w.heap.size (.slice none 0 0) (.slice none 0 0) := by rw [← hW0]; exact bx_new w (.slice none 0 0) (.slice none 0 0) 26
  have g0 : Free W0 w.heap.size := by rw [← hW0]; exact free_new w #[.slice none 0 0, .slice none 0 0] 26
  have H := hide (h.below (bl.mono hB))
  have HL := hide hl
  have HO := hide ho
  have HD := hide hd
  have n0 := ho.1
  have n6 := ho.2.1
  clear ho hd
  have BL := hide bl
  have HS0 := hide hs0
  have M0 := hide m0
  have G0 := hide g0
  have NO := hide (fun (hz : conP n x T = PT.zero) (w2 : World) (hb : Below w.heap.size w w2) => show TensR w.heap.size (conP n x T) w (.returned (.agg #[.slice none 0 0, .slice none 0 0])) w2 by rw [hz]; exact tensR_zero hb)
  obtain ⟨y0, y1⟩ := m0
  have gg := g0
  unfold Free at gg
  clear h hl bl hs0 g0
  have n1' : ((n : Int) == 0) = false := beq_eq_false_iff_ne.2 (by omega)
  have n6' : decide ((6 : Int) < (n : Int)) = false := decide_eq_false (by omega)
  have n6'' : decide (6 < n) = false := decide_eq_false (by omega)
  have nI : (0 : Int) < n := by omega
  go_enter Try.func21, Try.ntmps21
  go_wp2_with fail
  clear n1' n6' n6'' y0 y1 gg hW0
  go_loopw [5, 6] (fun v i wx => ∃ j : Nat, j ≤ n ∧ i = .int .i64 j ∧ v = .int .i64 (tot (conL x T) j) ∧ (AxOk x T j ∧ FitOk x.toNat T j) ∧ Below W0.heap.size W0 wx) (fun _ i _ => n - (intOf i).toNat)
  case atStart => exact ⟨0, Nat.zero_le _, rfl, rfl, ⟨fun i hi => by omega, fun i hi => by omega⟩, Below.refl _ _⟩
  case round =>
    obtain ⟨X, rfl⟩ : ∃ X, X = wr := ⟨_, rfl⟩
    obtain ⟨j, hj, rfl, rfl, ⟨hax, hft⟩, hby⟩ := hrel
    have AX := hide hax
    have FT := hide hft
    have HBY := hide hby
    have zX : w.heap.size < X.heap.size := by have := hby.size; have := HS0.out; omega
    have MX := hide (M0.out.below hby (by have := HS0.out; omega))
    have GX := hide (G0.out.below hby (by have := HS0.out; omega))
    have BX := hide (BL.out.trans (hby.mono BL.out.size))
    have HX := hide (H.out.below (hby.mono (by have := HS0.out; omega)))
    obtain ⟨t0, t1⟩ := ax_rng hax
    clear hax hft hby
    by_cases hlt : j < n
    · have jI : (j : Int) < n := by omega
      rcases HX.out with q0 | ⟨tb, tf, rfl, htb, hct⟩
      · omega
      obtain ⟨c0, c1, ia, ib⟩ := hct j hlt
      obtain ⟨d0, d1, ja, jb⟩ := hct 0 (by omega)
      rw [Nat.zero_mul, Nat.add_zero] at d0 d1
      obtain ⟨lr, ls⟩ := HL.out j hlt
      have l0 := (HL.out 0 (by omega)).1
      have CA := hide (fun (W : World) (hW : Below X.heap.size X W) => l4Axis B (T j).a (T j).b (T j).r (T j).s (T j).cap (T j).dap (T j).D (T j).S x W (by have := hW.size; omega) (ia.below (hW.mono (by omega))) (ib.below (hW.mono (by omega))) lr ls)
      have F1 := hide (fun (W : World) (hW : Below X.heap.size X W) => show (W.cell? ⟨tb, tf + j * 2, none⟩ = some (.slice (T j).a (T j).r (T j).cap) ∧ W.cell? ⟨tb, tf + j * 2 + 1, none⟩ = some (.slice (T j).b (T j).s (T j).dap)) ∧ W.cell? ⟨tb, tf, none⟩ = some (.slice (T 0).a (T 0).r (T 0).cap) from
        ⟨⟨(hW.cell (p := ⟨tb, tf + j * 2, none⟩) (by show tb < X.heap.size; omega)).trans c0, (hW.cell (p := ⟨tb, tf + j * 2 + 1, none⟩) (by show tb < X.heap.size; omega)).trans c1⟩, (hW.cell (p := ⟨tb, tf, none⟩) (by show tb < X.heap.size; omega)).trans d0⟩)
      have bb0 := hide (show Below X.heap.size X X.drew from (Below.refl _ _).drew)
      obtain ⟨hy, hr, hfit⟩ := HO.out.2.2 j hlt
      obtain ⟨ht, x0, x1⟩ := hy
      obtain ⟨k, rfl⟩ : ∃ k : Nat, x = k := ⟨x.toNat, by omega⟩
      have kr : k < (T j).r := by omega
      have kI : (k : Int) < (T j).r := x1
      have hr' : (((T j).r : Int) != ((T 0).r : Int)) = false := by rw [hr]; simp
      have AX1 := hide (show AxOk k T (j + 1) from fun i hi => by
        by_cases c : i = j
        · subst c; exact ⟨ht, x0, x1⟩
        · exact AX.out i (by omega))
      have dk := dok_len (tok_split ht).1 kr
      have wt : IntKind.i64.wrap (tot (conL k T) j + (T j).D k) = tot (conL k T) j + (T j).D k := by rw [IntKind.wrap_i64]; omega
      have CA3 := hide (show ∀ (W : World) (hW : Below X.heap.size X W), Calls Try.prog 34 #[.agg #[.slice (T j).a (T j).r (T j).cap, .slice (T j).b (T j).s (T j).dap], .int .i64 k] W fun e w' => e = .returned (.bool true) ∧ Below W.heap.size W w' from fun W hW => by have := CA.out W hW; rwa [decide_eq_true (show tok (T j).r (T j).s (T j).D (T j).S = true ∧ 0 ≤ (k : Int) ∧ (k : Int) < (T j).r from ⟨ht, x0, x1⟩)] at this)
      have CW1 := hide (fun (W : World) (hW : Below X.heap.size X W) => l4With B (T j).a (T j).r (T j).cap k (T j).D 1 W (by have := hW.size; omega) (ia.below (hW.mono (by omega))) lr kr (by unfold bd; omega))
      have CW2 := hide (fun (W : World) (hW : Below X.heap.size X W) => l4With B (T 0).a (T 0).r (T 0).cap k (T 0).D 1 W (by have := hW.size; omega) (ja.below (hW.mono (by omega))) l0 (by omega) (by unfold bd; omega))
      obtain ⟨ba, oa, ea⟩ : ∃ ba oa, (T j).a = some ⟨ba, oa, none⟩ := by
        rcases ia with e | ⟨b, o, e, _⟩
        · omega
        · exact ⟨b, o, e⟩
      have FD := hide (fun (W : World) (hW : Below X.heap.size X W) => show W.cell? ⟨ba, oa + k, none⟩ = some (.int .i64 ((T j).D k)) by
        rcases ia.below (hW.mono (by omega)) with e | ⟨b, o, e, _, hcc⟩
        · omega
        · rw [ea] at e
          injection e with e
          injection e with e1 e2
          subst e1 e2
          exact (hcc k kr).1)
      have CE := hide (fun (W : World) (g1 g2 c1 c2 : Nat) (r1 : Rw W g1 (T j).r (up1 (T j).D k 1)) (l1 : g1 < W.heap.size) (r2 : Rw W g2 (T 0).r (up1 (T 0).D k 1)) (l2 : g2 < W.heap.size) => sameI W.heap.size (some ⟨g1, 0, none⟩) (some ⟨g2, 0, none⟩) (T j).r (T 0).r c1 c2 (up1 (T j).D k 1) (up1 (T 0).D k 1) W (Nat.le_refl _) (r1.ints l1) (r2.ints l2) lr l0)
      have ef := hide (show (∀ t, t < (T 0).r → t ≠ k → (T j).D t = (T 0).D t) ↔ ((T j).r = (T 0).r ∧ ∀ t, t < (T j).r → up1 (T j).D k 1 t = up1 (T 0).D k 1 t) from
        ⟨fun e => ⟨hr, fun t ht => by
          by_cases c : t = k
          · subst c; rw [up1_at, up1_at]
          · rw [up1_ne _ _ c, up1_ne _ _ c]; exact e t (by omega) c⟩, fun e t ht hn => by
          have := e.2 t (by omega)
          rwa [up1_ne _ _ hn, up1_ne _ _ hn] at this⟩)
      rw [ea] at c0 F1 CA3 CW1
      have HR := hide hr
      have nN : 0 < n := by omega
      clear ia ib ja jb hct CA ea ht x0 x1 hr
      have CQ := hide (show ∃ q : Bool, (q = true ↔ ∀ t, t < (T 0).r → t ≠ k → (T j).D t = (T 0).D t) ∧ ∀ (W : World) (g1 g2 c1 c2 : Nat) (r1 : Rw W g1 (T j).r (up1 (T j).D k 1)) (l1 : g1 < W.heap.size) (r2 : Rw W g2 (T 0).r (up1 (T 0).D k 1)) (l2 : g2 < W.heap.size), Calls Try.prog 53 #[.slice (some ⟨g1, 0, none⟩) (T j).r c1, .slice (some ⟨g2, 0, none⟩) (T 0).r c2] W fun e w' => e = .returned (.bool q) ∧ Below W.heap.size W w' from
        ⟨decide (∀ t, t < (T 0).r → t ≠ k → (T j).D t = (T 0).D t), decide_eq_true_iff, fun W g1 g2 c1 c2 r1 l1 r2 l2 => (CE.out W g1 g2 c1 c2 r1 l1 r2 l2).mono (fun e w' ⟨⟨z, he, hz⟩, hb⟩ => ⟨by
          rw [he]
          congr 2
          rw [Bool.eq_iff_iff, hz, decide_eq_true_iff, ef.out], hb⟩)⟩)
      obtain ⟨q, hq, hce⟩ := CQ.out
      have HQ := hide hq
      have HCE := hide hce
      clear hq hce CQ CE ef
      obtain rfl : q = true := HQ.out.2 (fun t ht hn => hfit t ht (by simpa using hn))
      clear hfit
      have FT1 := hide (show FitOk k T (j + 1) from fun t ht => by
        by_cases c : t = j
        · subst c; exact ⟨HR.out, fun u hu hn => HQ.out.1 rfl u hu hn⟩
        · have := FT.out t (by omega)
          rwa [Int.toNat_natCast] at this)
      go_wp2_with fail
      go_region_held3 (fun w' => w'.cell? ⟨tb, tf + j * 2, none⟩ = some (.slice (some ⟨ba, oa, none⟩) (T j).r (T j).cap) ∧ w'.cell? ⟨tb, tf + j * 2 + 1, none⟩ = some (.slice (T j).b (T j).s (T j).dap) ∧ w'.cell? ⟨tb, tf, none⟩ = some (.slice (T 0).a (T 0).r (T 0).cap))
        ((try dsimp only) <;> (repeat' apply And.intro) <;> (first | with_reducible assumption | assumption))
        (first
        | (go_at_call 34
           refine (CA3.out _ bb0.out).mono ?_
           rintro e wA ⟨rfl, bA⟩
           have bbA := hide (bel_two bb0.out bA)
           obtain ⟨⟨f0, f1⟩, f2⟩ := F1.out wA bbA.out
           clear bA)
        | (go_at_call_of 35 (Value.slice (some ⟨ba, oa, none⟩) (T j).r (T j).cap)
           first
           | (refine (CW1.out _ bbC.out).mono ?_
              rintro e wB ⟨g1, e1, rfl, r1, lo1, hi1, bB⟩
              have P1 := hide r1
              have P2 := hide (R2.out.below bB hi2)
              have hj2 := Nat.lt_of_lt_of_le hi2 bB.size
              have bbB := hide (bel_two bbC.out bB)
              clear bB r1)
           | (refine (CW1.out _ bbA.out).mono ?_
              rintro e wB ⟨g1, e1, rfl, r1, lo1, hi1, bB⟩
              have R1 := hide r1
              have bbB := hide (bel_two bbA.out bB)
              clear bB r1)
           obtain ⟨⟨h0, h1⟩, h2⟩ := F1.out wB bbB.out)
        | (go_at_call_of 35 (Value.slice (T 0).a (T 0).r (T 0).cap)
           first
           | (refine (CW2.out _ bbB.out).mono ?_
              rintro e wC ⟨g2, e2, rfl, r2, lo2, hi2, bC⟩
              have P1 := hide (R1.out.below bC hi1)
              have P2 := hide r2
              have hj1 := Nat.lt_of_lt_of_le hi1 bC.size
              have bbC := hide (bel_two bbB.out bC)
              clear bC r2)
           | (refine (CW2.out _ bbA.out).mono ?_
              rintro e wC ⟨g2, e2, rfl, r2, lo2, hi2, bC⟩
              have R2 := hide r2
              have bbC := hide (bel_two bbA.out bC)
              clear bC r2)
           obtain ⟨⟨m0, m1⟩, m2⟩ := F1.out wC bbC.out)
        | (go_at_call 53
           first
           | (refine (HCE.out wC g1 g2 e1 e2 P1.out hj1 P2.out hi2).mono ?_
              rintro e wD ⟨rfl, bD⟩
              have bbD := hide (bel_two bbC.out bD)
              clear bD)
           | (refine (HCE.out wB g1 g2 e1 e2 P1.out hi1 P2.out hj2).mono ?_
              rintro e wD ⟨rfl, bD⟩
              have bbD := hide (bel_two bbB.out bD)
              clear bD)
           obtain ⟨⟨v0, v1⟩, v2⟩ := F1.out wD bbD.out))
      all_goals (
        have cd := FD.out wD bbD.out
        have BY1 := hide (HBY.out.trans (bbD.out.mono HBY.out.size))
        go_wp2_with fail
        go_roundw)
      all_goals first
        | (simp only [intOf]; omega)
        | (simp [intOf]; omega)
        | exact ⟨j + 1, by omega, by go_num, rfl, ⟨AX1.out, by rw [Int.toNat_natCast]; exact FT1.out⟩, BY1.out⟩
    · obtain rfl : j = n := by omega
      obtain ⟨_, x0, x1⟩ := AX.out 0 (by omega)
      obtain ⟨k, rfl⟩ : ∃ k : Nat, x = k := ⟨x.toNat, by omega⟩
      have k0 : k < (T 0).r := by omega
      obtain ⟨N, hN⟩ : ∃ N, tot (conL k T) j = N := ⟨_, rfl⟩
      rw [hN] at t0 t1
      have bN : bd N := ⟨by omega, by omega⟩
      have eD := hide (show up1 (T 0).D k N = conD j k T by unfold conD; rw [hN]; rfl)
      rcases HX.out with q0 | ⟨tb, tf, rfl, htb, hct⟩
      · omega
      obtain ⟨c0, c1, ia, ib⟩ := hct 0 (by omega)
      rw [Nat.zero_mul, Nat.add_zero] at c0 c1
      have lr := (HL.out 0 (by omega)).1
      have CW := hide (l4With B (T 0).a (T 0).r (T 0).cap k (T 0).D N X (by omega) ia lr k0 bN)
      rw [hN]
      clear hct ia ib c1 hN
      go_wp2_with fail
      refine CW.out.mono ?_
      rintro e w1 ⟨g, gc, rfl, rw1, hg, hg2, b1⟩
      have B1 := hide (BX.out.trans (b1.mono BX.out.size))
      have M1 := hide (MX.out.below b1 zX)
      have G1 := hide (GX.out.below b1 zX)
      have H1 := hide (HX.out.below (b1.mono (by omega)))
      have z1 : w.heap.size < w1.heap.size := by omega
      have CD := hide (Vs.specDimsOk w1.heap.size (some ⟨g, 0, none⟩) (T 0).r gc (up1 (T 0).D k N) w1 (rw1.ints hg2) lr)
      rw [eD.out, HD.out] at CD
      have R1 := hide (show Rw w1 g (T 0).r (conD j k T) by rw [← eD.out]; exact rw1)
      clear b1 rw1 c0 CW MX GX HBY
      go_wp2_with fail
      refine CD.out.mono ?_
      rintro e w2 ⟨rfl, hw⟩
      have hw := hw.symm
      subst hw
      obtain ⟨K, hK⟩ : ∃ K, cntT (T 0).r (conD j k T) = K := ⟨_, rfl⟩
      have eK : szR (conD j k T) (T 0).r = (K : Int) := by rw [← hK, cntT_cast]
      have lK : (K : Int) ≤ 4096 := by rw [← hK]; exact cntT_le _ _
      have EK := hide eK
      have ez := hide (conP_yes HO.out HD.out)
      rw [hK] at ez
      clear hK eK CD
      go_wp2_with fail
      refine (l4New w1.heap.size ⟨g, 0, none⟩ (T 0).r gc K (conD j k T) _ (Nat.le_refl _) (R1.out.ints hg2) lr EK.out lK).mono ?_
      rintro e w2 ⟨va, vc, g3, rfl, ov, rg, lg, hg3, hne, b2⟩
      obtain ⟨W2, hW2⟩ : ∃ W2, w2.alloc (.cells #[.slice va (T 0).r vc, .slice (some ⟨g3, 0, none⟩) K K] 26) = W2 := ⟨_, rfl⟩
      have b3 : Below w2.heap.size w2 W2 := by rw [← hW2]; exact (Below.refl _ _).alloc (Nat.le_refl _) _
      have z2 : w2.heap.size < W2.heap.size := by rw [← hW2]; simp
      have sb := b2.size
      have T2 := hide (show Bx W2 w2.heap.size (.slice va (T 0).r vc) (.slice (some ⟨g3, 0, none⟩) K K) by rw [← hW2]; exact bx_new w2 _ _ _)
      have b23 : Below w1.heap.size w1 W2 := b2.trans (b3.mono sb)
      have M2 := hide (M1.out.below b23 z1)
      have G2 := hide (G1.out.below b23 z1)
      have B2 := hide (B1.out.trans (b23.mono B1.out.size))
      have OV := hide (ov.below b3)
      have RG := hide (rg.below b3 hg3)
      have HNE := hide hne
      have H2 := hide (H1.out.below (b23.mono (by omega)))
      have R2 := hide (R1.out.below b23 hg2)
      clear ov rg b2 b3 b23 hne M1 G1 B1 H1 R1 HX BX
      go_wp2_with fail
      clear hW2
      go_loopw [9] (fun i wx => ∃ p : Nat, p ≤ K ∧ i = .int .i64 p ∧ Bx wx w2.heap.size (.slice va (T 0).r vc) (.slice (some ⟨g3, 0, none⟩) K K) ∧ Rw wx g3 K (fun t => if t < p then conS j k T t else 0) ∧ Kept (· = g3) W2 wx) (fun i _ => K - (intOf i).toNat)
      case atStart => exact ⟨0, Nat.zero_le _, rfl, T2.out, RG.out.same (fun t ht => by simp), Kept.refl _ _⟩
      case round =>
        obtain ⟨X2, rfl⟩ : ∃ X2, X2 = wr := ⟨_, rfl⟩
        obtain ⟨p, hp, rfl, hbx, hrw, hkp⟩ := hrel
        have HBX := hide hbx
        have HRW := hide hrw
        have HKP := hide hkp
        have sX : W2.heap.size ≤ X2.heap.size := hkp.size
        obtain ⟨u0, u1⟩ := hbx
        clear hrw hkp
        by_cases hlt : p < K
        · have pI : (p : Int) < K := by omega
          have d6 := dok_iff.1 HD.out
          have CI := hide (l3Index W2.heap.size (some ⟨g, 0, none⟩) (T 0).r gc (conD j k T) p X2 ((R2.out.kept HKP.out (show ¬ g = g3 by omega)).ints (by omega)) sX (by omega) (fun t ht => dok_len HD.out ht) (by omega) (by omega))
          have PP := hide (show (0 : Int) ≤ p ∧ (p : Int) < pr (conD j k T) (T 0).r by
            have e := EK.out
            rcases szR_cases (conD j k T) (T 0).r with q | q
            · omega
            · omega)
          have one := hide (show ∀ t, t < (T 0).r → 1 ≤ conD j k T t from fun t ht => (dok_len HD.out ht).1)
          have dr := hide (fun t (ht : t < (T 0).r) => dg_rng (conD j k T) (T 0).r one.out p t ht)
          obtain ⟨y, hy⟩ : ∃ y, dg (conD j k T) (T 0).r p k = y := ⟨_, rfl⟩
          have yr := dr.out k k0
          have eNN : conD j k T k = tot (conL k T) j := up1_at _ _ _
          rw [hy, eNN] at yr
          have YR := hide yr
          have HY := hide hy
          clear d6 yr eNN hy
          go_wp2_with fail
          refine CI.out.mono ?_
          rintro e X3 ⟨rfl, rw3, z3, b3⟩
          have R3 := hide rw3
          have B3 := hide b3
          clear rw3 b3 CI u0 u1
          go_wp2_with fail
          go_loopw [11] (fun v wx => ∃ kk : Nat, kk < j ∧ v = .int .i64 kk ∧ tot (conL k T) kk ≤ y ∧ Rw wx X2.heap.size (T 0).r (up1 (dg (conD j k T) (T 0).r p) k (y - tot (conL k T) kk)) ∧ Kept (· = X2.heap.size) X3 wx) (fun v _ => j - (intOf v).toNat)
          case atStart => exact ⟨0, by omega, rfl, by have := YR.out; show (0 : Int) ≤ y; omega, by
            have : y - tot (conL k T) 0 = y := by show y - 0 = y; omega
            rw [this, ← HY.out, up1_self]; exact R3.out, Kept.refl _ _⟩
          case round =>
            obtain ⟨Y, rfl⟩ : ∃ Y, Y = wr := ⟨_, rfl⟩
            obtain ⟨kk, hkk, rfl, hty, hra, hka⟩ := hrel
            have RA := hide hra
            have KA := hide hka
            have sY : X3.heap.size ≤ Y.heap.size := hka.size
            have K2 := hide (show Kept (fun q => q = g3 ∨ q = X2.heap.size) W2 Y from ((HKP.out.mono (fun q _ e => .inl e)).trans (Kept.of_below B3.out)).trans (hka.mono (fun q _ e => .inr e)))
            have bY : Below w2.heap.size W2 Y ∨ True := .inr trivial
            have HY2 := hide (show TL B Y (some ⟨tb, tf, none⟩) j T by
              refine H2.out.below ?_
              exact K2.out.below (by omega) (fun q e => by rcases e with e | e <;> omega))
            clear hra hka bY
            rcases HY2.out with q0 | ⟨tb2, tf2, et, htb2, hct⟩
            · omega
            injection et with et
            injection et with et1 et2
            subst et1 et2
            obtain ⟨c0, c1, ia, ib⟩ := hct kk hkk
            obtain ⟨⟨htk, _, hxk⟩, erk, edk⟩ := HO.out.2.2 kk hkk
            have krk : k < (T kk).r := by omega
            have krI : (k : Int) < (T kk).r := by omega
            have k0I : (k : Int) < (T 0).r := by omega
            have kkI : (kk : Int) < j := by omega
            obtain ⟨ba, oa, ea⟩ : ∃ ba oa, (T kk).a = some ⟨ba, oa, none⟩ := by
              rcases ia with e | ⟨b, o, e, _⟩
              · omega
              · exact ⟨b, o, e⟩
            have cd : Y.cell? ⟨ba, oa + k, none⟩ = some (.int .i64 ((T kk).D k)) ∧ ba < B := by
              rcases ia with e | ⟨b, o, e, hb, hcc⟩
              · omega
              · rw [ea] at e
                injection e with e
                injection e with e1 e2
                subst e1 e2
                exact ⟨(hcc k krk).1, hb⟩
            obtain ⟨cd, hba⟩ := cd
            rw [ea] at c0
            have lkk : 1 ≤ (T kk).D k ∧ (T kk).D k ≤ 4096 := dok_len (tok_split htk).1 krk
            obtain ⟨ca, fa, _⟩ := RA.out k k0
            rw [up1_at] at ca
            have YR2 := YR.out
            have tj := (ax_rng AX.out).2
            have tn : 0 ≤ tot (conL k T) kk := (ax_rng (j := kk) (fun i hi => AX.out i (by omega))).1
            have EA := hide ea
            have IA := hide ia
            have IB := hide ib
            have HTK := hide htk
            have ERK := hide erk
            have t1L : tot (conL k T) (kk + 1) = tot (conL k T) kk + (T kk).D k := rfl
            have TL1 := hide t1L
            clear hct ia ib htk erk edk hxk ea
            by_cases ge : (T kk).D k ≤ y - tot (conL k T) kk
            · have ge' : decide ((T kk).D k ≤ y - tot (conL k T) kk) = true := decide_eq_true ge
              have nx : kk + 1 < j := by
                rcases Nat.lt_or_ge (kk + 1) j with q | q
                · exact q
                · obtain rfl : kk + 1 = j := by omega
                  omega
              have ws : IntKind.i64.wrap (y - tot (conL k T) kk - (T kk).D k) = y - tot (conL k T) kk - (T kk).D k := by rw [IntKind.wrap_i64]; omega
              have bS := hide (show bd (y - tot (conL k T) kk - (T kk).D k) by unfold bd; omega)
              have GE := hide ge
              clear ge t1L
              go_wp2_with fail
              go_quiet (fail)
              have bz := hide (below_draws Y.heap.size Y nq)
              generalize Y.drewN nq = Z at bz ⊢
              have caZ := (bz.out.cell (p := ⟨X2.heap.size, k, none⟩) (by show X2.heap.size < Y.heap.size; omega)).trans ca
              have faZ := (bz.out.frozen (p := ⟨X2.heap.size, k, none⟩) (by show X2.heap.size < Y.heap.size; omega)).trans fa
              have c0Z := (bz.out.cell (p := ⟨tb, tf + kk * 2, none⟩) (by show tb < Y.heap.size; omega)).trans c0
              have cdZ := (bz.out.cell (p := ⟨ba, oa + k, none⟩) (by show ba < Y.heap.size; omega)).trans cd
              clear ca fa c0 c1 cd
              go_wp2_with fail
              go_region
              all_goals (go_wp2_with fail)
              all_goals go_roundw
              all_goals first
                | (simp only [intOf]; omega)
                | (simp [intOf]; omega)
                | exact ⟨kk + 1, nx, by go_num, by have := GE.out; have := TL1.out; omega, by
                    have q := (RA.out.below bz.out (by omega)).set k (y - tot (conL k T) kk - (T kk).D k) bS.out
                    refine Rw.same (D := fun t => if t = k then y - tot (conL k T) kk - (T kk).D k else up1 (dg (conD j k T) (T 0).r p) k (y - tot (conL k T) kk) t) ?_ (fun t ht => ?_)
                    · exact q
                    · by_cases c : t = k
                      · subst c; rw [if_pos rfl, up1_at]; have := TL1.out; omega
                      · rw [if_neg c, up1_ne _ _ c, up1_ne _ _ c], (KA.out.trans (Kept.of_below bz.out)).trans (kept_drew (Kept.setCell Z ⟨X2.heap.size, k, none⟩ _))⟩
            · have ge' : decide ((T kk).D k ≤ y - tot (conL k T) kk) = false := decide_eq_false ge
              have eS := hide (conS_at HO.out HD.out hkk PP.out.1 PP.out.2 (up1 (dg (conD j k T) (T 0).r p) k (y - tot (conL k T) kk)) (by rw [Int.toNat_natCast, HY.out]; exact hty) (by rw [Int.toNat_natCast, HY.out]; omega) (fun t ht => by rw [Int.toNat_natCast, HY.out]))
              have INR := hide (show ∀ t, t < (T kk).r → 0 ≤ up1 (dg (conD j k T) (T 0).r p) k (y - tot (conL k T) kk) t ∧ up1 (dg (conD j k T) (T 0).r p) k (y - tot (conL k T) kk) t < (T kk).D t from fun t ht => by
                by_cases c : t = k
                · subst c; rw [up1_at]; omega
                · rw [up1_ne _ _ c]
                  have q := dr.out t (by have := ERK.out; omega)
                  have q2 := (HO.out.2.2 kk hkk).2.2 t (by have := ERK.out; omega) (by simpa using c)
                  have q3 : conD j k T t = (T 0).D t := up1_ne _ _ (by simpa using c)
                  rw [q3] at q
                  rw [q2]
                  exact q)
              have lkr := (HL.out kk hkk)
              have CG := hide (fun (W : World) (hW : Below Y.heap.size Y W) => l4Get Y.heap.size (T kk).a (T kk).b (some ⟨X2.heap.size, 0, none⟩) (T kk).r (T kk).s (T kk).cap (T kk).dap (T 0).r (T 0).r (T kk).D (T kk).S (up1 (dg (conD j k T) (T 0).r p) k (y - tot (conL k T) kk)) W hW.size ((IA.out.mono (by omega)).below hW) ((IB.out.mono (by omega)).below hW) (((RA.out.ints (B := Y.heap.size) (by omega))).below hW) (by have := ERK.out; omega) HTK.out INR.out)
              rw [EA.out] at CG
              rw [← eS.out] at CG
              have HBY := hide (show Bx Y w2.heap.size (.slice va (T 0).r vc) (.slice (some ⟨g3, 0, none⟩) K K) from (HBX.out.below B3.out (by omega)).kept KA.out (by omega) (by show ¬ w2.heap.size = X2.heap.size; omega))
              have RWY := hide (show Rw Y g3 K (fun t => if t < p then conS j k T t else 0) from (HRW.out.below B3.out (by omega)).kept KA.out (by show ¬ g3 = X2.heap.size; omega))
              have bC := hide (show bd (conS j k T p) by
                rw [eS.out]
                have ho := od_rng (T kk).D (up1 (dg (conD j k T) (T 0).r p) k (y - tot (conL k T) kk)) (T kk).r INR.out
                refine IB.out.bd _ ?_
                obtain ⟨td, ts, _⟩ := tok_split HTK.out
                rcases szR_cases (T kk).D (T kk).r with e | ⟨_, e, _, _⟩
                · have := (dok_iff.1 td).2; omega
                · omega)
              clear ge t1L tn
              go_wp2_with fail
              go_quiet (fail)
              have bz := hide (below_draws Y.heap.size Y nq)
              generalize Y.drewN nq = Z at bz ⊢
              have sZ : Y.heap.size ≤ Z.heap.size := bz.out.size
              have FF := hide (fun (W : World) (hW : Below Z.heap.size Z W) => show ((W.cell? ⟨tb, tf + kk * 2, none⟩ = some (.slice (some ⟨ba, oa, none⟩) (T kk).r (T kk).cap) ∧ W.cell? ⟨tb, tf + kk * 2 + 1, none⟩ = some (.slice (T kk).b (T kk).s (T kk).dap)) ∧ W.cell? ⟨w2.heap.size, 1, none⟩ = some (.slice (some ⟨g3, 0, none⟩) K K)) ∧ W.cell? ⟨g3, p, none⟩ = some (.int .i64 0) ∧ W.frozen? ⟨g3, p, none⟩ = false by
                have bw := bz.out.trans (hW.mono sZ)
                obtain ⟨cg, fg, _⟩ := RWY.out p hlt
                have cg : Y.cell? ⟨g3, p, none⟩ = some (.int .i64 0) := by simpa using cg
                exact ⟨⟨⟨(bw.cell (p := ⟨tb, tf + kk * 2, none⟩) (by show tb < Y.heap.size; omega)).trans c0, (bw.cell (p := ⟨tb, tf + kk * 2 + 1, none⟩) (by show tb < Y.heap.size; omega)).trans c1⟩, (bw.cell (p := ⟨w2.heap.size, 1, none⟩) (by show w2.heap.size < Y.heap.size; omega)).trans HBY.out.2⟩, (bw.cell (p := ⟨g3, p, none⟩) (by show g3 < Y.heap.size; omega)).trans cg, (bw.frozen (p := ⟨g3, p, none⟩) (by show g3 < Y.heap.size; omega)).trans fg⟩)
              obtain ⟨⟨⟨f0, f1⟩, f2⟩, f3, f4⟩ := FF.out Z (Below.refl _ _)
              have bb0 := hide (show Below Z.heap.size Z Z.drew from (Below.refl _ _).drew)
              have CG2 := hide (fun (W : World) (hW : Below Z.heap.size Z W) => CG.out W (bz.out.trans (hW.mono sZ)))
              clear ca fa c0 c1 cd CG
              go_wp2_with fail
              go_region_held3 (fun w' => w'.cell? ⟨tb, tf + kk * 2, none⟩ = some (.slice (some ⟨ba, oa, none⟩) (T kk).r (T kk).cap) ∧ w'.cell? ⟨tb, tf + kk * 2 + 1, none⟩ = some (.slice (T kk).b (T kk).s (T kk).dap) ∧ w'.cell? ⟨w2.heap.size, 1, none⟩ = some (.slice (some ⟨g3, 0, none⟩) K K))
                ((try dsimp only) <;> (repeat' apply And.intro) <;> (repeat (first | with_reducible assumption | with_reducible apply drew_old | (with_reducible apply se_oldX; rotate_left; (focus (first | (dsimp only; omega) | (simp; done) | (simp; omega)))) | assumption)))
                (first
                | (go_at_call 41
                   refine (CG2.out _ bb0.out).mono ?_
                   rintro e wG ⟨rfl, bG⟩
                   have bbG := hide (bel_two bb0.out bG)
                   obtain ⟨⟨⟨h0, h1⟩, h2⟩, h3, h4⟩ := FF.out wG bbG.out
                   clear bG))
              all_goals (go_wp2_with fail)
              all_goals go_roundw
              all_goals first
                | (simp only [intOf]; omega)
                | (simp [intOf]; omega)
                | exact ⟨p + 1, by omega, by go_num, by
                    have q := HBY.out.below (bz.out.trans (bbG.out.mono sZ)) (by omega)
                    exact q.kept (Kept.setCell wG ⟨g3, p, none⟩ _) (by have := bbG.out.size; omega) (by show ¬ w2.heap.size = g3; omega), by
                    have q := (RWY.out.below (bz.out.trans (bbG.out.mono sZ)) (by omega)).set p (conS j k T p) bC.out
                    exact q.same (fun t ht => by by_cases c : t = p <;> by_cases c2 : t < p <;> simp [c, c2] <;> omega), by
                    have q : Kept (· = g3) W2 Y := ⟨K2.out.os, K2.out.tape, K2.out.output, K2.out.size, fun b hb hn => K2.out.block b hb (fun e => by rcases e with e | e <;> omega)⟩
                    exact (q.trans (Kept.of_below (bz.out.trans (bbG.out.mono sZ)))).trans (Kept.setCell wG ⟨g3, p, none⟩ _)⟩
        · obtain rfl : p = K := by omega
          have kp := HKP.out
          have n1 : ¬ w.heap.size = g3 := by omega
          have M3 := hide (M2.out.kept kp (by omega) n1)
          have G3 := hide (G2.out.kept kp (by omega) n1)
          have OV3 := hide (OV.out.kept kp (fun b q e => HNE.out b q e))
          have B3 := hide (B2.out.trans (kp.below B2.out.size (fun q e => by have e : q = g3 := e; omega)))
          have R3 := hide (HRW.out.same (E := fun t => conS j k T t) (fun t ht => by simp; intro; omega))
          clear kp
          have VO := hide (show VOwn (w.heap.size + 1) X2 va (some ⟨g3, 0, none⟩) (conP j k T).r (conP j k T).s (conP j k T).D (conP j k T).S by
            rw [ez.out]
            exact ⟨OV3.out.mono (by omega), .inr ⟨g3, rfl, by omega, R3.out⟩, fun q q1 q2 => by
              obtain ⟨_, ad, e', e''⟩ := q2
              injection e' with e'
              subst e'
              have e'' : g3 = q := e''
              exact HNE.out q q1 e''.symm⟩)
          have E1 := hide (show (conP j k T).r = (T 0).r by rw [ez.out])
          have E2 := hide (show (conP j k T).s = p by rw [ez.out])
          obtain ⟨y0, y1⟩ := M3.out
          have gg := G3.out
          unfold Free at gg
          go_wp2_with fail
          have fin := tens_end (c := vc) (d := p) VO.out (show w.heap.size < w.heap.size + 1 by omega) (Nat.le_refl _) B3.out
          rw [E1.out, E2.out] at fin
          refine bodyPost_ret (v := .agg #[.slice va (T 0).r vc, .slice (some ⟨g3, 0, none⟩) p p]) (by simp [results, Try.results21, go_sem, y0, y1]) rfl ?_
          exact fin
theorem specConcat (B : Nat) (a : Option Addr) (n cap : Nat) (x : Int) (T : Nat → TV) (w : World) (hB : B ≤ w.heap.size) (h : TL B w a n T) (hn : (n : Int) ≤ 1048576) (hl : TLen n T 1048576) :
    Calls Try.prog 21 #[.slice a n cap, .int .i64 x] w fun e w' => TensR w.heap.size (conP n x T) w e w' := by
  by_cases c : ConOk n x T ∧ dok (T 0).r (conD n x T) = true
  · exact specConcatYes B a n cap x T w hB h hn hl c.1 c.2
  · exact specConcatNo B a n cap x T w hB h hn hl c
end Vo
end Go.Proofs.Ytdenfcckmpkomaa
