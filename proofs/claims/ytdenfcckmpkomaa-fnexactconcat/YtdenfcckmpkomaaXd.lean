/- Concat of the model: do the tensors fit? -/
import Derived.Test.YtdenfcckmpkomaaXc
import Derived.Deep.RegionHeld3
import Derived.BigQuiet
namespace Go.Proofs.Ytdenfcckmpkomaa
namespace Vo
open Go.ChangeShapes Go.WideShapes Go.ChangeAt Go.RowKit Go.Joins Go.Sort
open Vl Vp
set_option linter.unusedVariables false
set_option linter.unusedSimpArgs false
theorem bel_two {X W W' : World} (h : Below X.heap.size X W) (h' : Below W.heap.size W W') : Below X.heap.size X W' := h.trans (h'.mono h.size)
set_option maxRecDepth 100000 in
set_option maxHeartbeats 8000000 in
/-- tensors that do not fit, or of which the dims would be none -/
theorem specConcatNo (B : Nat) (a : Option Addr) (n cap : Nat) (x : Int) (T : Nat → TV) (w : World) (hB : B ≤ w.heap.size) (h : TL B w a n T) (hn : (n : Int) ≤ 1048576) (hl : TLen n T 1048576) (hbad : ¬ (ConOk n x T ∧ dok (T 0).r (conD n x T) = true)) :
    Calls Try.prog 21 #[.slice a n cap, .int .i64 x] w fun e w' => TensR w.heap.size (conP n x T) w e w' := by
  obtain ⟨W0, hW0⟩ : ∃ W0, w.alloc (.cells #[.slice none 0 0, .slice none 0 0] 26) = W0 := ⟨_, rfl⟩
  have hs0 : W0.heap.size = w.heap.size + 1 := by rw [← hW0]; simp
  have bl : Below w.heap.size w W0 := by rw [← hW0]; exact (Below.refl _ _).alloc (Nat.le_refl _) _
  have m0 : Bx W0 w.heap.size (.slice none 0 0) (.slice none 0 0) := by rw [← hW0]; exact bx_new w (.slice none 0 0) (.slice none 0 0) 26
  have g0 : Free W0 w.heap.size := by rw [← hW0]; exact free_new w #[.slice none 0 0, .slice none 0 0] 26
  have H := hide (h.below (bl.mono hB))
  have HL := hide hl
  have HBAD := hide hbad
  clear hbad
  have BL := hide bl
  have HS0 := hide hs0
  have M0 := hide m0
  have G0 := hide g0
  have NO := hide (fun (hz : conP n x T = PT.zero) (w2 : World) (hb : Below w.heap.size w w2) => show TensR w.heap.size (conP n x T) w (.returned (.agg #[.slice none 0 0, .slice none 0 0])) w2 by rw [hz]; exact tensR_zero hb)
  obtain ⟨y0, y1⟩ := m0
  have gg := g0
  unfold Free at gg
  clear h hl bl hs0 g0
  by_cases n1 : n = 0
  · have n1' : ((n : Int) == 0) = true := beq_iff_eq.2 (by omega)
    have ez := hide (conP_no (n := n) (x := x) (T := T) (fun e => by have := e.1.1; omega))
    clear n1
    go_enter Try.func21, Try.ntmps21
    go_wp2_with fail
    refine bodyPost_ret (v := .agg #[.slice none 0 0, .slice none 0 0]) (by simp [results, Try.results21, go_sem, y0, y1]) rfl (NO.out ez.out _ (by
      repeat (refine Below.setCell ?_ (by simp) _)
      exact BL.out))
  have n1' : ((n : Int) == 0) = false := beq_eq_false_iff_ne.2 (by omega)
  by_cases n6 : n ≤ 6
  rotate_left
  · have n6' : decide ((6 : Int) < (n : Int)) = true := decide_eq_true (by omega)
    have n6'' : decide (6 < n) = true := decide_eq_true (by omega)
    have ez := hide (conP_no (n := n) (x := x) (T := T) (fun e => n6 e.1.2.1))
    clear n6
    go_enter Try.func21, Try.ntmps21
    go_wp2_with fail
    refine bodyPost_ret (v := .agg #[.slice none 0 0, .slice none 0 0]) (by simp [results, Try.results21, go_sem, y0, y1]) rfl (NO.out ez.out _ (by
      repeat (refine Below.setCell ?_ (by simp) _)
      exact BL.out))
  have n6' : decide ((6 : Int) < (n : Int)) = false := decide_eq_false (by omega)
  have n6'' : decide (6 < n) = false := decide_eq_false (by omega)
  have nI : (0 : Int) < n := by omega
  go_enter Try.func21, Try.ntmps21
  go_wp2_with fail
  clear n1' n6' n6'' y0 y1 gg hW0
  go_loopw [5, 6] (fun v i wx => ∃ j : Nat, j ≤ n ∧ i = .int .i64 j ∧ v = .int .i64 (tot (conL x T) j) ∧ (AxOk x T j ∧ FitOk x.toNat T j) ∧ Below W0.heap.size W0 wx) (fun _ i _ => n - (intOf i).toNat)
  case atStart => exact ⟨0, Nat.zero_le _, rfl, rfl, ⟨fun i hi => by omega, fun i hi => by omega⟩, Below.refl _ _⟩
  case round =>
    obtain ⟨X, rfl⟩ : ∃ X, X = wr := ⟨_, rfl⟩
    obtain ⟨j, hj, rfl, rfl, ⟨hax, hft⟩, hby⟩ := hrel
    have AX := hide hax
    have FT := hide hft
    have HBY := hide hby
    have zX : w.heap.size < X.heap.size := by have := hby.size; have := HS0.out; omega
    have MX := hide (M0.out.below hby (by have := HS0.out; omega))
    have GX := hide (G0.out.below hby (by have := HS0.out; omega))
    have BX := hide (BL.out.trans (hby.mono BL.out.size))
    have HX := hide (H.out.below (hby.mono (by have := HS0.out; omega)))
    obtain ⟨t0, t1⟩ := ax_rng hax
    clear hax hft hby
    by_cases hlt : j < n
    · have jI : (j : Int) < n := by omega
      rcases HX.out with q0 | ⟨tb, tf, rfl, htb, hct⟩
      · omega
      obtain ⟨c0, c1, ia, ib⟩ := hct j hlt
      obtain ⟨d0, d1, ja, jb⟩ := hct 0 (by omega)
      rw [Nat.zero_mul, Nat.add_zero] at d0 d1
      obtain ⟨lr, ls⟩ := HL.out j hlt
      have l0 := (HL.out 0 (by omega)).1
      have CA := hide (fun (W : World) (hW : Below X.heap.size X W) => l4Axis B (T j).a (T j).b (T j).r (T j).s (T j).cap (T j).dap (T j).D (T j).S x W (by have := hW.size; omega) (ia.below (hW.mono (by omega))) (ib.below (hW.mono (by omega))) lr ls)
      have F1 := hide (fun (W : World) (hW : Below X.heap.size X W) => show (W.cell? ⟨tb, tf + j * 2, none⟩ = some (.slice (T j).a (T j).r (T j).cap) ∧ W.cell? ⟨tb, tf + j * 2 + 1, none⟩ = some (.slice (T j).b (T j).s (T j).dap)) ∧ W.cell? ⟨tb, tf, none⟩ = some (.slice (T 0).a (T 0).r (T 0).cap) from
        ⟨⟨(hW.cell (p := ⟨tb, tf + j * 2, none⟩) (by show tb < X.heap.size; omega)).trans c0, (hW.cell (p := ⟨tb, tf + j * 2 + 1, none⟩) (by show tb < X.heap.size; omega)).trans c1⟩, (hW.cell (p := ⟨tb, tf, none⟩) (by show tb < X.heap.size; omega)).trans d0⟩)
      have bb0 := hide (show Below X.heap.size X X.drew from (Below.refl _ _).drew)
      by_cases hy : tok (T j).r (T j).s (T j).D (T j).S = true ∧ 0 ≤ x ∧ x < (T j).r
      rotate_left
      · have ez := hide (conP_no (n := n) (x := x) (T := T) (fun e => hy (e.1.2.2 j hlt).1))
        have CF := hide (fun (q1 : Nat) (os : Array Obj) => show Calls Try.prog 34 #[.agg #[.slice (T j).a (T j).r (T j).cap, .slice (T j).b (T j).s (T j).dap], .int .i64 x] (Sort.grow (redrawn X q1) os) (fun e w'' => e = .returned (.bool false) ∧ ∃ p : Regrown, w'' = Sort.grow (redrawn X p.d) p.os) from Calls.regrown_of (by have := CA.out (Sort.grow (redrawn X q1) os) (below_regrown X q1 os); rwa [decide_eq_false hy] at this))
        have k0 := cell_regrown c0
        have k1 := cell_regrown c1
        have k2 := cell_regrown d0
        clear hy CA ia ib ja jb hct c0 c1 d0 d1 F1 bb0
        go_wp2_with fail
        refine wp_region_quiet_below (by kernel_rfl) (by kernel_rfl) ?_
        repeat (go_big_quiet_step (first | (go_at_call 34; exact CF.out _ _)))
        refine wpQuiet_nil ?_
        intro _ hw'
        obtain ⟨⟨dq, osq⟩, hw''⟩ := hw'
        subst hw''
        have bbA := hide (below_regrown X dq osq)
        have M1 := hide (MX.out.below bbA.out zX)
        have G1 := hide (GX.out.below bbA.out zX)
        have B1 := hide (BX.out.trans (bbA.out.mono BX.out.size))
        obtain ⟨y0, y1⟩ := M1.out
        have gg := G1.out
        unfold Free at gg
        clear k0 k1 k2
        go_wp2_with fail
        refine bodyPost_ret (v := .agg #[.slice none 0 0, .slice none 0 0]) (by simp [results, Try.results21, go_sem, y0, y1]) rfl (NO.out ez.out _ (by
          repeat (refine Below.setCell ?_ (by simp) _)
          exact B1.out))
      by_cases hr : (T j).r = (T 0).r
      rotate_left
      · have ez := hide (conP_no (n := n) (x := x) (T := T) (fun e => hr (e.1.2.2 j hlt).2.1))
        have hr' : (((T j).r : Int) != ((T 0).r : Int)) = true := bne_iff_ne.2 (by omega)
        have CF := hide (fun (q1 : Nat) (os : Array Obj) => show Calls Try.prog 34 #[.agg #[.slice (T j).a (T j).r (T j).cap, .slice (T j).b (T j).s (T j).dap], .int .i64 x] (Sort.grow (redrawn X q1) os) (fun e w'' => e = .returned (.bool true) ∧ ∃ p : Regrown, w'' = Sort.grow (redrawn X p.d) p.os) from Calls.regrown_of (by have := CA.out (Sort.grow (redrawn X q1) os) (below_regrown X q1 os); rwa [decide_eq_true hy] at this))
        have k0 := cell_regrown c0
        have k1 := cell_regrown c1
        have k2 := cell_regrown d0
        clear hy hr CA ia ib ja jb hct c0 c1 d0 d1 F1 bb0
        go_wp2_with fail
        refine wp_region_quiet_below (by kernel_rfl) (by kernel_rfl) ?_
        repeat (go_big_quiet_step (first | (go_at_call 34; exact CF.out _ _)))
        refine wpQuiet_nil ?_
        intro _ hw'
        obtain ⟨⟨dq, osq⟩, hw''⟩ := hw'
        subst hw''
        have bbA := hide (below_regrown X dq osq)
        have M1 := hide (MX.out.below bbA.out zX)
        have G1 := hide (GX.out.below bbA.out zX)
        have B1 := hide (BX.out.trans (bbA.out.mono BX.out.size))
        obtain ⟨y0, y1⟩ := M1.out
        have gg := G1.out
        unfold Free at gg
        clear k0 k1 k2
        go_wp2_with fail
        refine bodyPost_ret (v := .agg #[.slice none 0 0, .slice none 0 0]) (by simp [results, Try.results21, go_sem, y0, y1]) rfl (NO.out ez.out _ (by
          repeat (refine Below.setCell ?_ (by simp) _)
          exact B1.out))
      obtain ⟨ht, x0, x1⟩ := hy
      obtain ⟨k, rfl⟩ : ∃ k : Nat, x = k := ⟨x.toNat, by omega⟩
      have kr : k < (T j).r := by omega
      have kI : (k : Int) < (T j).r := x1
      have hr' : (((T j).r : Int) != ((T 0).r : Int)) = false := by rw [hr]; simp
      have AX1 := hide (show AxOk k T (j + 1) from fun i hi => by
        by_cases c : i = j
        · subst c; exact ⟨ht, x0, x1⟩
        · exact AX.out i (by omega))
      have dk := dok_len (tok_split ht).1 kr
      have wt : IntKind.i64.wrap (tot (conL k T) j + (T j).D k) = tot (conL k T) j + (T j).D k := by rw [IntKind.wrap_i64]; omega
      have CA3 := hide (show ∀ (W : World) (hW : Below X.heap.size X W), Calls Try.prog 34 #[.agg #[.slice (T j).a (T j).r (T j).cap, .slice (T j).b (T j).s (T j).dap], .int .i64 k] W fun e w' => e = .returned (.bool true) ∧ Below W.heap.size W w' from fun W hW => by have := CA.out W hW; rwa [decide_eq_true (show tok (T j).r (T j).s (T j).D (T j).S = true ∧ 0 ≤ (k : Int) ∧ (k : Int) < (T j).r from ⟨ht, x0, x1⟩)] at this)
      have CW1 := hide (fun (W : World) (hW : Below X.heap.size X W) => l4With B (T j).a (T j).r (T j).cap k (T j).D 1 W (by have := hW.size; omega) (ia.below (hW.mono (by omega))) lr kr (by unfold bd; omega))
      have CW2 := hide (fun (W : World) (hW : Below X.heap.size X W) => l4With B (T 0).a (T 0).r (T 0).cap k (T 0).D 1 W (by have := hW.size; omega) (ja.below (hW.mono (by omega))) l0 (by omega) (by unfold bd; omega))
      obtain ⟨ba, oa, ea⟩ : ∃ ba oa, (T j).a = some ⟨ba, oa, none⟩ := by
        rcases ia with e | ⟨b, o, e, _⟩
        · omega
        · exact ⟨b, o, e⟩
      have FD := hide (fun (W : World) (hW : Below X.heap.size X W) => show W.cell? ⟨ba, oa + k, none⟩ = some (.int .i64 ((T j).D k)) by
        rcases ia.below (hW.mono (by omega)) with e | ⟨b, o, e, _, hcc⟩
        · omega
        · rw [ea] at e
          injection e with e
          injection e with e1 e2
          subst e1 e2
          exact (hcc k kr).1)
      have CE := hide (fun (W : World) (g1 g2 c1 c2 : Nat) (r1 : Rw W g1 (T j).r (up1 (T j).D k 1)) (l1 : g1 < W.heap.size) (r2 : Rw W g2 (T 0).r (up1 (T 0).D k 1)) (l2 : g2 < W.heap.size) => sameI W.heap.size (some ⟨g1, 0, none⟩) (some ⟨g2, 0, none⟩) (T j).r (T 0).r c1 c2 (up1 (T j).D k 1) (up1 (T 0).D k 1) W (Nat.le_refl _) (r1.ints l1) (r2.ints l2) lr l0)
      have ef := hide (show (∀ t, t < (T 0).r → t ≠ k → (T j).D t = (T 0).D t) ↔ ((T j).r = (T 0).r ∧ ∀ t, t < (T j).r → up1 (T j).D k 1 t = up1 (T 0).D k 1 t) from
        ⟨fun e => ⟨hr, fun t ht => by
          by_cases c : t = k
          · subst c; rw [up1_at, up1_at]
          · rw [up1_ne _ _ c, up1_ne _ _ c]; exact e t (by omega) c⟩, fun e t ht hn => by
          have := e.2 t (by omega)
          rwa [up1_ne _ _ hn, up1_ne _ _ hn] at this⟩)
      rw [ea] at c0 F1 CA3 CW1
      have HR := hide hr
      have nN : 0 < n := by omega
      clear ia ib ja jb hct CA ea ht x0 x1 hr
      have CQ := hide (show ∃ q : Bool, (q = true ↔ ∀ t, t < (T 0).r → t ≠ k → (T j).D t = (T 0).D t) ∧ ∀ (W : World) (g1 g2 c1 c2 : Nat) (r1 : Rw W g1 (T j).r (up1 (T j).D k 1)) (l1 : g1 < W.heap.size) (r2 : Rw W g2 (T 0).r (up1 (T 0).D k 1)) (l2 : g2 < W.heap.size), Calls Try.prog 53 #[.slice (some ⟨g1, 0, none⟩) (T j).r c1, .slice (some ⟨g2, 0, none⟩) (T 0).r c2] W fun e w' => e = .returned (.bool q) ∧ Below W.heap.size W w' from
        ⟨decide (∀ t, t < (T 0).r → t ≠ k → (T j).D t = (T 0).D t), decide_eq_true_iff, fun W g1 g2 c1 c2 r1 l1 r2 l2 => (CE.out W g1 g2 c1 c2 r1 l1 r2 l2).mono (fun e w' ⟨⟨z, he, hz⟩, hb⟩ => ⟨by
          rw [he]
          congr 2
          rw [Bool.eq_iff_iff, hz, decide_eq_true_iff, ef.out], hb⟩)⟩)
      obtain ⟨q, hq, hce⟩ := CQ.out
      have HQ := hide hq
      have HCE := hide hce
      clear hq hce CQ CE ef
      cases q with
      | false =>
        have ez := hide (conP_no (n := n) (x := k) (T := T) (fun e => Bool.noConfusion (HQ.out.2 (fun t ht hn => (e.1.2.2 j hlt).2.2 t ht (by simpa using hn)))))
        go_wp2_with fail
        go_region_held3 (fun w' => w'.cell? ⟨tb, tf + j * 2, none⟩ = some (.slice (some ⟨ba, oa, none⟩) (T j).r (T j).cap) ∧ w'.cell? ⟨tb, tf + j * 2 + 1, none⟩ = some (.slice (T j).b (T j).s (T j).dap) ∧ w'.cell? ⟨tb, tf, none⟩ = some (.slice (T 0).a (T 0).r (T 0).cap))
          ((try dsimp only) <;> (repeat' apply And.intro) <;> (first | with_reducible assumption | assumption))
          (first
          | (go_at_call 34
             refine (CA3.out _ bb0.out).mono ?_
             rintro e wA ⟨rfl, bA⟩
             have bbA := hide (bel_two bb0.out bA)
             obtain ⟨⟨f0, f1⟩, f2⟩ := F1.out wA bbA.out
             clear bA)
          | (go_at_call_of 35 (Value.slice (some ⟨ba, oa, none⟩) (T j).r (T j).cap)
             first
             | (refine (CW1.out _ bbC.out).mono ?_
                rintro e wB ⟨g1, e1, rfl, r1, lo1, hi1, bB⟩
                have P1 := hide r1
                have P2 := hide (R2.out.below bB hi2)
                have hj2 := Nat.lt_of_lt_of_le hi2 bB.size
                have bbB := hide (bel_two bbC.out bB)
                clear bB r1)
             | (refine (CW1.out _ bbA.out).mono ?_
                rintro e wB ⟨g1, e1, rfl, r1, lo1, hi1, bB⟩
                have R1 := hide r1
                have bbB := hide (bel_two bbA.out bB)
                clear bB r1)
             obtain ⟨⟨h0, h1⟩, h2⟩ := F1.out wB bbB.out)
          | (go_at_call_of 35 (Value.slice (T 0).a (T 0).r (T 0).cap)
             first
             | (refine (CW2.out _ bbB.out).mono ?_
                rintro e wC ⟨g2, e2, rfl, r2, lo2, hi2, bC⟩
                have P1 := hide (R1.out.below bC hi1)
                have P2 := hide r2
                have hj1 := Nat.lt_of_lt_of_le hi1 bC.size
                have bbC := hide (bel_two bbB.out bC)
                clear bC r2)
             | (refine (CW2.out _ bbA.out).mono ?_
                rintro e wC ⟨g2, e2, rfl, r2, lo2, hi2, bC⟩
                have R2 := hide r2
                have bbC := hide (bel_two bbA.out bC)
                clear bC r2)
             obtain ⟨⟨m0, m1⟩, m2⟩ := F1.out wC bbC.out)
          | (go_at_call 53
             first
             | (refine (HCE.out wC g1 g2 e1 e2 P1.out hj1 P2.out hi2).mono ?_
                rintro e wD ⟨rfl, bD⟩
                have bbD := hide (bel_two bbC.out bD)
                clear bD)
             | (refine (HCE.out wB g1 g2 e1 e2 P1.out hi1 P2.out hj2).mono ?_
                rintro e wD ⟨rfl, bD⟩
                have bbD := hide (bel_two bbB.out bD)
                clear bD)
             obtain ⟨⟨v0, v1⟩, v2⟩ := F1.out wD bbD.out))
        all_goals (
          have M1 := hide (MX.out.below bbD.out zX)
          have G1 := hide (GX.out.below bbD.out zX)
          have B1 := hide (BX.out.trans (bbD.out.mono BX.out.size))
          obtain ⟨y0, y1⟩ := M1.out
          have gg := G1.out
          unfold Free at gg
          go_wp2_with fail
          refine bodyPost_ret (v := .agg #[.slice none 0 0, .slice none 0 0]) (by simp [results, Try.results21, go_sem, y0, y1]) rfl (NO.out ez.out _ (by
            repeat (refine Below.setCell ?_ (by simp) _)
            exact B1.out)))
      | true =>
        have FT1 := hide (show FitOk k T (j + 1) from fun t ht => by
          by_cases c : t = j
          · subst c; exact ⟨HR.out, fun u hu hn => HQ.out.1 rfl u hu hn⟩
          · have := FT.out t (by omega)
            rwa [Int.toNat_natCast] at this)
        go_wp2_with fail
        go_region_held3 (fun w' => w'.cell? ⟨tb, tf + j * 2, none⟩ = some (.slice (some ⟨ba, oa, none⟩) (T j).r (T j).cap) ∧ w'.cell? ⟨tb, tf + j * 2 + 1, none⟩ = some (.slice (T j).b (T j).s (T j).dap) ∧ w'.cell? ⟨tb, tf, none⟩ = some (.slice (T 0).a (T 0).r (T 0).cap))
          ((try dsimp only) <;> (repeat' apply And.intro) <;> (first | with_reducible assumption | assumption))
          (first
          | (go_at_call 34
             refine (CA3.out _ bb0.out).mono ?_
             rintro e wA ⟨rfl, bA⟩
             have bbA := hide (bel_two bb0.out bA)
             obtain ⟨⟨f0, f1⟩, f2⟩ := F1.out wA bbA.out
             clear bA)
          | (go_at_call_of 35 (Value.slice (some ⟨ba, oa, none⟩) (T j).r (T j).cap)
             first
             | (refine (CW1.out _ bbC.out).mono ?_
                rintro e wB ⟨g1, e1, rfl, r1, lo1, hi1, bB⟩
                have P1 := hide r1
                have P2 := hide (R2.out.below bB hi2)
                have hj2 := Nat.lt_of_lt_of_le hi2 bB.size
                have bbB := hide (bel_two bbC.out bB)
                clear bB r1)
             | (refine (CW1.out _ bbA.out).mono ?_
                rintro e wB ⟨g1, e1, rfl, r1, lo1, hi1, bB⟩
                have R1 := hide r1
                have bbB := hide (bel_two bbA.out bB)
                clear bB r1)
             obtain ⟨⟨h0, h1⟩, h2⟩ := F1.out wB bbB.out)
          | (go_at_call_of 35 (Value.slice (T 0).a (T 0).r (T 0).cap)
             first
             | (refine (CW2.out _ bbB.out).mono ?_
                rintro e wC ⟨g2, e2, rfl, r2, lo2, hi2, bC⟩
                have P1 := hide (R1.out.below bC hi1)
                have P2 := hide r2
                have hj1 := Nat.lt_of_lt_of_le hi1 bC.size
                have bbC := hide (bel_two bbB.out bC)
                clear bC r2)
             | (refine (CW2.out _ bbA.out).mono ?_
                rintro e wC ⟨g2, e2, rfl, r2, lo2, hi2, bC⟩
                have R2 := hide r2
                have bbC := hide (bel_two bbA.out bC)
                clear bC r2)
             obtain ⟨⟨m0, m1⟩, m2⟩ := F1.out wC bbC.out)
          | (go_at_call 53
             first
             | (refine (HCE.out wC g1 g2 e1 e2 P1.out hj1 P2.out hi2).mono ?_
                rintro e wD ⟨rfl, bD⟩
                have bbD := hide (bel_two bbC.out bD)
                clear bD)
             | (refine (HCE.out wB g1 g2 e1 e2 P1.out hi1 P2.out hj2).mono ?_
                rintro e wD ⟨rfl, bD⟩
                have bbD := hide (bel_two bbB.out bD)
                clear bD)
             obtain ⟨⟨v0, v1⟩, v2⟩ := F1.out wD bbD.out))
        all_goals (
          have cd := FD.out wD bbD.out
          have BY1 := hide (HBY.out.trans (bbD.out.mono HBY.out.size))
          go_wp2_with fail
          go_roundw)
        all_goals first
          | (simp only [intOf]; omega)
          | (simp [intOf]; omega)
          | exact ⟨j + 1, by omega, by go_num, rfl, ⟨AX1.out, by rw [Int.toNat_natCast]; exact FT1.out⟩, BY1.out⟩
    · obtain rfl : j = n := by omega
      have CO := hide (show ConOk j x T from ⟨by omega, n6, fun t ht => ⟨AX.out t ht, (FT.out t ht).1, (FT.out t ht).2⟩⟩)
      have ez := hide (conP_no HBAD.out)
      have dn := hide (show dok (T 0).r (conD j x T) = false from Bool.eq_false_iff.2 (fun q => HBAD.out ⟨CO.out, q⟩))
      obtain ⟨_, x0, x1⟩ := AX.out 0 (by omega)
      obtain ⟨k, rfl⟩ : ∃ k : Nat, x = k := ⟨x.toNat, by omega⟩
      have k0 : k < (T 0).r := by omega
      obtain ⟨N, hN⟩ : ∃ N, tot (conL k T) j = N := ⟨_, rfl⟩
      rw [hN] at t0 t1
      have bN : bd N := ⟨by omega, by omega⟩
      have eD := hide (show up1 (T 0).D k N = conD j k T by unfold conD; rw [hN]; rfl)
      rcases HX.out with q0 | ⟨tb, tf, rfl, htb, hct⟩
      · omega
      obtain ⟨c0, c1, ia, ib⟩ := hct 0 (by omega)
      rw [Nat.zero_mul, Nat.add_zero] at c0 c1
      have lr := (HL.out 0 (by omega)).1
      have CW := hide (l4With B (T 0).a (T 0).r (T 0).cap k (T 0).D N X (by omega) ia lr k0 bN)
      rw [hN]
      clear hct ia ib c1 hN
      go_wp2_with fail
      refine CW.out.mono ?_
      rintro e w1 ⟨g, gc, rfl, rw1, hg, hg2, b1⟩
      have B1 := hide (BX.out.trans (b1.mono BX.out.size))
      have M1 := hide (MX.out.below b1 zX)
      have G1 := hide (GX.out.below b1 zX)
      have CD := hide (Vs.specDimsOk w1.heap.size (some ⟨g, 0, none⟩) (T 0).r gc (up1 (T 0).D k N) w1 (rw1.ints hg2) lr)
      rw [eD.out, dn.out] at CD
      obtain ⟨y0, y1⟩ := M1.out
      have gg := G1.out
      unfold Free at gg
      clear b1 rw1 c0 CW
      go_wp2_with fail
      refine CD.out.mono ?_
      rintro e w2 ⟨rfl, hw⟩
      have hw := hw.symm
      subst hw
      go_wp2_with fail
      refine bodyPost_ret (v := .agg #[.slice none 0 0, .slice none 0 0]) (by simp [results, Try.results21, go_sem, y0, y1]) rfl (NO.out ez.out _ (by
        repeat (refine Below.setCell ?_ (by simp) _)
        exact B1.out))
end Vo
end Go.Proofs.Ytdenfcckmpkomaa
