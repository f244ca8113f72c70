/- Reshape of the model. -/
import Derived.Test.YtejfodkobfdelaaUi
namespace Go.Proofs.Ytejfodkobfdelaa
namespace Vo
open Go.ChangeShapes Go.WideShapes Go.ChangeAt Go.RowKit Go.Joins Go.Sort
open Vl Vp Vr
set_option linter.unusedVariables false
set_option linter.unusedSimpArgs false

theorem rel_nought (D S : Nat → Int) (r : Nat) : rel D S r 0 = 0 := by
  induction r with
  | zero => rfl
  | succ r ih =>
    show (0 % D r) * S r + rel D S r (0 / D r) = 0
    rw [Int.zero_emod, Int.zero_ediv, Int.zero_mul, ih]; rfl
/-- the strides that are made -/
def rsf (r q : Nat) (D S E : Nat → Int) (o : Int) : Nat → Nat → Int | 0 => fun _ => 0 | t + 1 => upd (rsf r q D S E o t) t (rsS r q D S E o t)
theorem rsf_at (r q : Nat) (D S E : Nat → Int) (o : Int) {t j : Nat} (hj : j < t) : rsf r q D S E o t j = rsS r q D S E o j := by
  induction t with
  | zero => omega
  | succ t ih =>
    simp only [rsf, upd]
    split
    · rename_i c; rw [c]
    · exact ih (by omega)
/-- a view in a variable whose strides are still to come -/
theorem ws_lit {W X : World} {C P q : Nat} {va : Value} {E f : Nat → Int} {o n : Int} (hb : Box X P va (.slice none 0 0) (.int .i64 o) (.int .i64 n)) (hf : Free X P) (ra : RowV C X va q E) (hP : ¬ va.ownBlock = some P) (lt : P < X.heap.size) (hC : W.heap.size + 1 < C) (hCX : C ≤ X.heap.size) (hCP : W.heap.size + 1 < P)
    (rb : Box X (W.heap.size + 1) (.slice none 0 0) (.slice none 0 0) (.int .i64 0) (.int .i64 0)) (rf : Free X (W.heap.size + 1)) (bl : Below W.heap.size W X) : WS W C P NoA va (.slice none 0 0) q 0 E f o n X := by
  have nn : ∀ k, ¬ (Value.slice none 0 0).ownBlock = some k := fun k e => by simp [Value.ownBlock] at e
  refine ⟨⟨hb, hf, ra, rowV_nil _ _ _, fun k _ e => nn k e, fun k e => ?_, lt, hCX⟩, rb, rf, fun k e => ?_, by omega, by omega, by omega, Kept.of_below bl, fun k e => ?_⟩
  · rcases e with e | e
    · exact fun h => hP (h ▸ e)
    · exact absurd e (nn k)
  · rcases e with e | e
    · have := (ra.lt e).1; omega
    · exact absurd e (nn k)
  · rcases e with e | e
    · have := (ra.lt e).1; exact .inr (by omega)
    · exact absurd e (nn k)
set_option maxRecDepth 100000 in
set_option maxHeartbeats 4000000 in
theorem specReshape (B : Nat) (a b : Option Addr) (c : Addr) (r s q cap dap : Nat) (D S E : Nat → Int) (o n : Int) (w : World) (hB : B ≤ w.heap.size) (h : Ints B w a r D) (h' : Ints B w b s S) (hI : Ints B w (some c) q E) (hr : (r : Int) ≤ 1048576) (hs : (s : Int) ≤ 1048576) (hq : (q : Int) ≤ 1048576) :
    Calls Try.prog 6 #[.agg #[.slice a r cap, .slice b s dap, .int .i64 o, .int .i64 n], .slice (some c) q q] w fun e w' => ViewR w.heap.size (turnedV r s D S o n (rshV r q D S E o n)) w e w' := by
  obtain ⟨W0, hW0⟩ : ∃ W0, (w.alloc (.cells #[.slice a r cap, .slice b s dap, .int .i64 o, .int .i64 n] 26)).alloc (.cells #[.slice none 0 0, .slice none 0 0, .int .i64 0, .int .i64 0] 26) = W0 := ⟨_, rfl⟩
  have hs0 : W0.heap.size = w.heap.size + 1 + 1 := by rw [← hW0]; simp
  have bl : Below w.heap.size w W0 := by rw [← hW0]; exact ((Below.refl _ _).alloc (Nat.le_refl _) _).alloc (by simp) _
  have n0 : Box W0 w.heap.size (.slice a r cap) (.slice b s dap) (.int .i64 o) (.int .i64 n) := by
    rw [← hW0]; exact (box_new w (.slice a r cap) (.slice b s dap) (.int .i64 o) (.int .i64 n) 26).below ((Below.refl (w.heap.size + 1) _).alloc (by simp) _) (by omega)
  have m0 : Box W0 (w.heap.size + 1) (.slice none 0 0) (.slice none 0 0) (.int .i64 0) (.int .i64 0) := by
    have q := box_new (w.alloc (.cells #[.slice a r cap, .slice b s dap, .int .i64 o, .int .i64 n] 26)) (.slice none 0 0) (.slice none 0 0) (.int .i64 0) (.int .i64 0) 26
    rw [World.size_alloc] at q
    rw [← hW0]; exact q
  have g0 : Free W0 (w.heap.size + 1) := by
    have q := free_new (w.alloc (.cells #[.slice a r cap, .slice b s dap, .int .i64 o, .int .i64 n] 26)) #[.slice none 0 0, .slice none 0 0, .int .i64 0, .int .i64 0] 26
    rw [World.size_alloc] at q
    rw [← hW0]; exact q
  have H := hide (h.below (bl.mono hB))
  have H' := hide (h'.below (bl.mono hB))
  have HI := hide (hI.below (bl.mono hB))
  have BL := hide bl
  have N0 := hide n0
  have M0 := hide m0
  have G0 := hide g0
  have HS0 := hide hs0
  obtain ⟨x0, x1, x2, x3⟩ := n0
  have HW0 := hide (show Ints B w a r D ∧ Ints B w b s S ∧ Ints B w (some c) q E from ⟨h, h', hI⟩)
  clear h h' hI bl m0 g0 hs0
  have k0 := cell_regrown x0
  have k1 := cell_regrown x1
  have k2 := cell_regrown x2
  have k3 := cell_regrown x3
  have zW : B ≤ W0.heap.size := by have := HS0.out; omega
  obtain ⟨vv, hvv⟩ : ∃ vv, vok r s D S o n = vv := ⟨_, rfl⟩
  obtain ⟨dd, hdd⟩ : ∃ dd, dok q E = dd := ⟨_, rfl⟩
  obtain ⟨zE, hzE⟩ : ∃ zE, szR E q = zE := ⟨_, rfl⟩
  obtain ⟨zD, hzD⟩ : ∃ zD, szR D r = zD := ⟨_, rfl⟩
  have cV : ∀ d os, Calls Try.prog 23 #[.agg #[.slice a r cap, .slice b s dap, .int .i64 o, .int .i64 n]] (Sort.grow (redrawn W0 d) os) fun e w'' => e = .returned (.bool vv) ∧ ∃ p : Regrown, w'' = Sort.grow (redrawn W0 p.d) p.os := fun d os => Calls.regrown_of (by rw [← hvv]; exact specViewOk B a b r s cap dap D S o n _ (Nat.le_trans zW (below_regrown W0 d os).size) (H.out.below ((below_regrown W0 d os).mono zW)) (H'.out.below ((below_regrown W0 d os).mono zW)) hr hs)
  have cD : ∀ d os, Calls Try.prog 24 #[.slice (some c) q q] (Sort.grow (redrawn W0 d) os) fun e w'' => e = .returned (.bool dd) ∧ ∃ p : Regrown, w'' = Sort.grow (redrawn W0 p.d) p.os := fun d os => Calls.regrown_of ((Vs.specDimsOk B (some c) q q E _ (HI.out.below ((below_regrown W0 d os).mono zW)) hq).mono (fun e w' q => ⟨by rw [← hdd]; exact q.1, q.2 ▸ Below.refl _ _⟩))
  have cE : ∀ d os, Calls Try.prog 25 #[.slice (some c) q q] (Sort.grow (redrawn W0 d) os) fun e w'' => e = .returned (.int .i64 zE) ∧ ∃ p : Regrown, w'' = Sort.grow (redrawn W0 p.d) p.os := fun d os => Calls.regrown_of ((Vs.l3Size B (some c) q q E _ (HI.out.below ((below_regrown W0 d os).mono zW)) hq).mono (fun e w' q => ⟨by rw [← hzE]; exact q.1, q.2 ▸ Below.refl _ _⟩))
  have cDD : ∀ d os, Calls Try.prog 25 #[.slice a r cap] (Sort.grow (redrawn W0 d) os) fun e w'' => e = .returned (.int .i64 zD) ∧ ∃ p : Regrown, w'' = Sort.grow (redrawn W0 p.d) p.os := fun d os => Calls.regrown_of ((Vs.l3Size B a r cap D _ (H.out.below ((below_regrown W0 d os).mono zW)) hr).mono (fun e w' q => ⟨by rw [← hzD]; exact q.1, q.2 ▸ Below.refl _ _⟩))
  have CV := hide cV
  have CD := hide cD
  have CE := hide cE
  have CDD := hide cDD
  have HVV := hide hvv
  have HDD := hide hdd
  have HZE := hide hzE
  have HZD := hide hzD
  clear cV cD cE cDD hvv hdd hzE hzD
  go_enter Try.func6, Try.ntmps6
  go_upto_region 1 with fail
  clear hW0
  go_cut [24] (fun v wx => v = .bool (!(vv && dd && (zE == zD))) ∧ Below W0.heap.size W0 wx)
  case first =>
    cases vv with
    | false =>
      refine wp_region_quiet_below (by kernel_rfl) (by kernel_rfl) ?_
      repeat (quiet_step (first | (go_at_call 23; exact CV.out _ _) | (go_at_call 24; exact CD.out _ _) | (go_at_call_of 25 (Value.slice (some c) q q); exact CE.out _ _) | (go_at_call_of 25 (Value.slice a r cap); exact CDD.out _ _)))
      refine wpQuiet_nil ?_
      intro _ hw'
      obtain ⟨⟨dq, osq⟩, hw''⟩ := hw'
      subst hw''
      go_wp2_with fail
      go_meet
      exact ⟨by simp [*], below_regrown W0 dq osq⟩
    | true =>
    cases dd with
    | false =>
      refine wp_region_quiet_below (by kernel_rfl) (by kernel_rfl) ?_
      repeat (quiet_step (first | (go_at_call 23; exact CV.out _ _) | (go_at_call 24; exact CD.out _ _) | (go_at_call_of 25 (Value.slice (some c) q q); exact CE.out _ _) | (go_at_call_of 25 (Value.slice a r cap); exact CDD.out _ _)))
      refine wpQuiet_nil ?_
      intro _ hw'
      obtain ⟨⟨dq, osq⟩, hw''⟩ := hw'
      subst hw''
      go_wp2_with fail
      go_meet
      exact ⟨by simp [*], below_regrown W0 dq osq⟩
    | true =>
    by_cases hz : zE = zD
    · have e1 : (zE != zD) = false := by rw [bne_eq_false_iff_eq]; exact hz
      have e2 : (zE == zD) = true := beq_iff_eq.2 hz
      clear hz
      refine wp_region_quiet_below (by kernel_rfl) (by kernel_rfl) ?_
      repeat (quiet_step (first | (go_at_call 23; exact CV.out _ _) | (go_at_call 24; exact CD.out _ _) | (go_at_call_of 25 (Value.slice (some c) q q); exact CE.out _ _) | (go_at_call_of 25 (Value.slice a r cap); exact CDD.out _ _)))
      refine wpQuiet_nil ?_
      intro _ hw'
      obtain ⟨⟨dq, osq⟩, hw''⟩ := hw'
      subst hw''
      go_wp2_with fail
      go_meet
      exact ⟨by simp [*], below_regrown W0 dq osq⟩
    · have e1 : (zE != zD) = true := by rw [bne_iff_ne]; exact hz
      have e2 : (zE == zD) = false := beq_eq_false_iff_ne.2 hz
      clear hz
      refine wp_region_quiet_below (by kernel_rfl) (by kernel_rfl) ?_
      repeat (quiet_step (first | (go_at_call 23; exact CV.out _ _) | (go_at_call 24; exact CD.out _ _) | (go_at_call_of 25 (Value.slice (some c) q q); exact CE.out _ _) | (go_at_call_of 25 (Value.slice a r cap); exact CDD.out _ _)))
      refine wpQuiet_nil ?_
      intro _ hw'
      obtain ⟨⟨dq, osq⟩, hw''⟩ := hw'
      subst hw''
      go_wp2_with fail
      go_meet
      exact ⟨by simp [*], below_regrown W0 dq osq⟩
  case rest =>
  obtain ⟨rfl, b1⟩ := hcut
  obtain ⟨w1, rfl⟩ : ∃ w1, w1 = wc := ⟨_, rfl⟩
  have zz := HS0.out
  have z1 : w.heap.size + 1 < w1.heap.size := by have := b1.size; omega
  have N1 := hide (N0.out.below b1 (by omega))
  have M1 := hide (M0.out.below b1 (by omega))
  have G1 := hide (G0.out.below b1 (by omega))
  have H1 := hide (H.out.below (b1.mono (by omega)))
  have H1' := hide (H'.out.below (b1.mono (by omega)))
  have HI1 := hide (HI.out.below (b1.mono (by omega)))
  have B1 := hide (BL.out.trans (b1.mono BL.out.size))
  clear b1 zz x0 x1 x2 x3 k0 k1 k2 k3 zW CV CD CE CDD
  obtain ⟨y0, y1, y2, y3⟩ := M1.out
  have gg := G1.out
  unfold Free at gg
  cases hall : (vv && dd && (zE == zD)) with
  | false =>
    have ez := hide (show turnedV r s D S o n (rshV r q D S E o n) = PV.zero by
      rw [rsh_turned]
      split
      · rename_i hv
        refine rshV_no (fun h => ?_)
        rw [← HVV.out, ← HDD.out, ← HZE.out, ← HZD.out, hv, h.1.1, h.1.2] at hall
        simp at hall
      · rfl)
    clear hall
    go_wp2_with fail
    refine bodyPost_ret (v := .agg #[.slice none 0 0, .slice none 0 0, .int .i64 0, .int .i64 0]) (by simp [results, Try.results6, go_sem, y0, y1, y2, y3]) rfl (by
      rw [ez.out]
      refine viewR_zero ?_
      repeat (refine Below.setCell ?_ (by simp) _)
      exact B1.out)
  | true =>
  rw [Bool.and_eq_true, Bool.and_eq_true] at hall
  have hv : vok r s D S o n = true := by rw [HVV.out]; exact hall.1.1
  have HV := hide (vok_iff.1 hv)
  have HD := hide (show dok q E = true by rw [HDD.out]; exact hall.1.2)
  have HSZ := hide (show szR E q = szR D r by rw [HZE.out, HZD.out]; exact beq_iff_eq.1 hall.2)
  have ET := hide (show turnedV r s D S o n (rshV r q D S E o n) = rshV r q D S E o n by rw [rsh_turned, if_pos hv])
  clear hall hv HVV HDD HZE HZD
  obtain rfl := HV.out.2.1
  have q6 : q ≤ 6 := (dok_iff.1 HD.out).1
  have r6 : s ≤ 6 := (dok_iff.1 HV.out.1).1
  obtain ⟨N, hN⟩ : ∃ N : Nat, szR D s = N := ⟨(szR D s).toNat, by have := (szR_rng D s).1; omega⟩
  have N1' : 1 ≤ N := by have := (dok_iff.1 HV.out.1).2; omega
  have N4 : (N : Int) ≤ 4096 := by rw [← hN]; exact (szR_rng D s).2
  have HN := hide hN
  have CA := hide (l3All B a b s cap dap N D S o n w1 (by omega) H1.out H1'.out HV.out.1 HV.out.2.2.2.2.2.2.1 HV.out.2.2.2.2.1 (by have := HV.out.2.2.2.2.2.1; have := HV.out.2.2.2.1; omega) hN.symm)
  clear hN y0 y1 y2 y3 gg
  obtain ⟨x0, x1, x2, x3⟩ := N1.out
  go_wp2_with fail
  refine CA.out.mono ?_
  rintro e w2 ⟨gp, pc, rfl, hgp, lgp, rp, b1⟩
  have RP2 := hide (show Rw w2 gp N (plcN D S s o) from rp)
  have s2 : w1.heap.size ≤ w2.heap.size := b1.size
  have N2 := hide (N1.out.below b1 (by omega))
  have M2 := hide (M1.out.below b1 (by omega))
  have G2 := hide (G1.out.below b1 (by omega))
  have HI2 := hide (HI1.out.below (b1.mono (by omega)))
  have B2 := hide (B1.out.trans (b1.mono B1.out.size))
  clear b1 rp x0 x1 x2 x3 N1 M1 G1 HI1 B1 CA H1 H1'
  have CI := hide (fun (W : World) (hW : Below w2.heap.size w2 W) => l3Ints B c q q E W (HI2.out.below (hW.mono (by omega))) (by have := hW.size; omega) hq)
  have lt2 : w.heap.size < w2.heap.size := by omega
  have z2 : w.heap.size + 1 < w2.heap.size := by omega
  have N0N : 0 < N := by omega
  have N0I : (0 : Int) < N := by omega
  have PO := hide (show plcN D S s o 0 = o by show o + rel D S s 0 = o; rw [rel_nought]; omega)
  obtain ⟨x0, x1, x2, x3⟩ := N2.out
  obtain ⟨c0, _, _⟩ := RP2.out 0 N0N
  rw [PO.out] at c0
  go_upto_region 4 with fail
  go_cut [6] (fun p6 wx => ∃ (P : Nat) (a1 : Option Addr) (c1 : Nat), p6 = .pointer (some ⟨P, 0, none⟩) ∧ w2.heap.size ≤ P ∧ WS w w2.heap.size P NoA (.slice a1 q c1) (.slice none 0 0) q 0 E (rsf s q D S E o 0) o n wx ∧ Below w2.heap.size w2 wx)
  case first =>
    go_region_held3 (fun w' => w'.cell? ⟨w.heap.size, 3, none⟩ = some (.int .i64 n) ∧ w'.cell? ⟨gp, 0, none⟩ = some (.int .i64 o))
      ((try dsimp only) <;> (repeat' apply And.intro) <;> (repeat (first | with_reducible assumption | with_reducible apply drew_old | with_reducible apply al_old | (with_reducible apply se_old; (focus (first | (dsimp only; omega) | (simp; done) | (simp; omega)))) | (with_reducible apply below_old; (focus (with_reducible assumption))))))
      (first
      | (go_at_call 27
         refine (CI.out _ (by first | exact (Below.refl _ _).drew | exact (Below.refl _ _).drew.alloc (Nat.le_refl _) _)).mono ?_
         rintro e wA ⟨va, rfl, hva, bA⟩
         obtain ⟨aa, ac, rfl, _⟩ := RowV.own hva
         have sA := bA.size
         simp only [World.size_alloc, drewSize] at sA
         first
           | (have eC := fun i => bA.cell (p := ⟨w2.heap.size, i, none⟩) (by simp only [World.size_alloc, drewSize]; omega)
              have fC := fun i => bA.frozen (p := ⟨w2.heap.size, i, none⟩) (by simp only [World.size_alloc, drewSize]; omega))
           | skip))
    all_goals (go_wp2_with fail)
    all_goals go_meet
    · have ba : Below w2.heap.size w2 wA := (Below.refl _ w2).drew.trans bA
      have bq : Below wA.heap.size wA (wA.alloc (.cells #[.slice aa q ac, .slice none 0 0, .int .i64 o, .int .i64 n] 26)) := (Below.refl _ _).alloc (Nat.le_refl _) _
      exact ⟨wA.heap.size, aa, ac, rfl, ba.size, ws_lit (box_new wA _ _ _ _ _) (free_new wA _ _) (rv_al (show RowV w2.heap.size wA _ q E from hva) _) (fun e => by have := (hva.lt e).2; omega) (by simp) z2 (by simp; omega) (by omega) ((M2.out.below ba z2).below bq (by omega)) ((G2.out.below ba z2).below bq (by omega)) ((B2.out.trans (ba.mono B2.out.size)).trans (bq.mono (by have := B2.out.size; omega))), ba.trans (bq.mono ba.size)⟩
    · have ba : Below w2.heap.size w2 wA := ((Below.refl _ w2).drew.alloc (Nat.le_refl _) _).trans (bA.mono (by simp only [World.size_alloc, drewSize]; omega))
      have bz := (box_new w2.drew (.slice none 0 0) (.slice none 0 0) (.int .i64 0) (.int .i64 0) 26).below bA (by simp only [World.size_alloc, drewSize]; omega)
      have fz := (free_new w2.drew #[.slice none 0 0, .slice none 0 0, .int .i64 0, .int .i64 0] 26).below bA (by simp only [World.size_alloc, drewSize]; omega)
      rw [drewSize] at bz fz
      have k4 := kept_sets4 wA w2.heap.size (.slice aa q ac) (.slice none 0 0) (.int .i64 o) (.int .i64 n)
      have rv := hva.mono (B' := w2.heap.size) (by simp only [World.size_alloc, drewSize]; omega)
      have nP : ¬ (Value.slice aa q ac).ownBlock = some w2.heap.size := fun e => by have q := (hva.lt e).1; simp only [World.size_alloc, drewSize] at q; omega
      have b4 := k4.below ba.size (fun j e => by have e : j = w2.heap.size := e; omega)
      exact ⟨w2.heap.size, aa, ac, rfl, Nat.le_refl _, ws_lit (box_sets4 bz _ _ _ _) ((((fz.set _ _).set _ _).set _ _).set _ _) (rv.kept k4 (fun k e h => by have h : k = w2.heap.size := h; subst h; exact nP e)) nP (by simp [World.setCell]; omega) z2 (by simp [World.setCell]; omega) z2 ((M2.out.below ba z2).kept k4 (by omega) (by show ¬ w.heap.size + 1 = w2.heap.size; omega)) ((G2.out.below ba z2).kept k4 (by omega) (by show ¬ w.heap.size + 1 = w2.heap.size; omega)) ((B2.out.trans (ba.mono B2.out.size)).trans (b4.mono B2.out.size)), ba.trans b4⟩
  case rest =>
  obtain ⟨P, a1, c1, rfl, lP, tz, b1⟩ := hcut
  obtain ⟨X0, rfl⟩ : ∃ X0, X0 = wc := ⟨_, rfl⟩
  have T0 := hide tz
  have RP3 := hide (RP2.out.below b1 lgp)
  clear tz b1 x0 x1 x2 x3 c0 CI N2 M2 G2 HI2 B2 RP2
  obtain ⟨i0, hi0, hz0, hz1, hz2⟩ := info_parts infoInt
  go_wp2_with fail
  go_loopw [7] (fun i wx => ∃ (t : Nat) (b1 : Option Addr) (d1 : Nat), t ≤ q ∧ i = .int .i64 t ∧ WS w w2.heap.size P NoA (.slice a1 q c1) (.slice b1 t d1) q t E (rsf s q D S E o t) o n wx ∧ Rw wx gp N (plcN D S s o)) (fun i _ => q - (intOf i).toNat)
  case atStart => exact ⟨0, none, 0, Nat.zero_le _, rfl, T0.out, RP3.out⟩
  case round =>
    obtain ⟨X, rfl⟩ : ∃ X, X = wr := ⟨_, rfl⟩
    obtain ⟨t, b1, d1, ht, rfl, hws, hrp⟩ := hrel
    have HWS := hide hws
    have HRP := hide hrp
    have zX := hws.sz
    have lPX := hws.pb.lt
    have hCX := hws.pb.hB
    have HIX := hide (HW0.out.2.2.below (hws.below.mono hB))
    clear hws hrp
    by_cases hlt : t < q
    · have tI : (t : Int) < q := by omega
      rcases HIX.out with h0 | ⟨bi, oi, hce, hbi, hci⟩
      · omega
      injection hce with hce
      subst hce
      have ci := (hci t hlt).1
      have HCI := hide (show Ints B X (some ⟨bi, oi, none⟩) q E from .inr ⟨bi, oi, rfl, hbi, hci⟩)
      clear hci
      have el := dok_len HD.out hlt
      by_cases d1' : 1 < E t
      rotate_left
      · have d2 : decide (1 < E t) = false := decide_eq_false d1'
        have RS0 := hide (show rsS s q D S E o t = 0 by
          unfold rsS stW
          rw [if_pos (by omega)]
          show plcN D S s o 0 - plcN D S s o 0 = 0
          omega)
        have VT := HWS
        have VRP := HRP
        clear d1'
        have OA := hide (VT.out.pb.rb.1.alloc (.cells #[.int .i64 (0)] 3))
        have HN' := hide (World.news_of_block (cs := #[.int .i64 (0)]) (t := 3) (fr := (0, 0)) (heap_alloc_new X _))
        have hb0 := VT.out.pb.hB
        obtain ⟨p0, p1, p2, p3⟩ := VT.out.pb.box
        have f0 := VT.out.pb.free
        unfold Free at f0
        go_wp2_with (at_builtin; refine wpList_append_own_at _ rfl _ _ 22 rfl w2.heap.size 3 i0 (.int .i64 0) 1 8 Try.underlying22 hi0 hz0 hz1 hz2 rfl (by decide) _ _ _ rfl OA.out ⟨X.heap.size, 0, none⟩ 1 1 [.int .i64 (0)] rfl rfl HN'.out (by simp [Value.oneCell']) (by unfold maxLen; omega) (by omega) (by simp; omega) ?_; intro v' w5 hown1 hgrow1 _ hat1; obtain ⟨g1, c5, rfl⟩ := own_some hown1; have T5 := hide (VT.out.growB ⟨by omega, by omega⟩ hown1 hgrow1 hat1); have K1 := hide (kept_row hgrow1); have np1 : ¬ (Value.slice b1 t d1).ownBlock = some P := (fun q => VT.out.pb.np _ (.inr q) rfl); have cP := fun i => World.cell?_of_block (w := X) (a := ⟨P, i, none⟩) (K1.out.block P VT.out.pb.lt np1); have fP := fun i => World.frozen?_of_block (w := X) (a := ⟨P, i, none⟩) (K1.out.block P VT.out.pb.lt np1); clear hown1 hgrow1 hat1 np1)
        go_roundw
        case rel => exact ⟨t + 1, some ⟨g1, 0, none⟩, c5, by omega, by go_num, (by have e : rsf s q D S E o (t + 1) = upd (rsf s q D S E o t) t (0) := (by simp only [rsf]; rw [RS0.out]); rw [e]; exact T5.out), (VRP.out.kept K1.out (fun e => by have := (VT.out.pb.rb.lt e).1; omega)).kept (Kept.setCell _ ⟨P, 1, none⟩ _) (by show ¬ gp = P; omega)⟩
        case measure => simp [intOf]; omega
      have d2 : decide (1 < E t) = true := decide_eq_true d1'
      have k1 : (t : Int) + 1 ≤ q := by omega
      have k0 : (0 : Int) ≤ (t : Int) + 1 := by omega
      have wr1 : IntKind.i64.wrap ((t : Int) + 1) = (t : Int) + 1 := by rw [IntKind.wrap_i64]; omega
      have ts := tail_size hlt HD.out
      have sr := stW_rng HD.out hlt
      have se : stW E q t = bh E q (q - 1 - t) := by unfold stW; rw [if_neg (by omega)]
      obtain ⟨u, hu⟩ : ∃ u : Nat, bh E q (q - 1 - t) = u := ⟨(bh E q (q - 1 - t)).toNat, by omega⟩
      rw [hu] at ts
      have hu2 : u < N := by have := HSZ.out; have := HN.out; omega
      have uI : (u : Int) < N := by omega
      obtain ⟨cu, _, _⟩ := HRP.out u hu2
      obtain ⟨c0, _, _⟩ := HRP.out 0 N0N
      have b1' := plcN_rng HV.out u
      have b2' := plcN_rng HV.out 0
      have RSE := hide (show rsS s q D S E o t = plcN D S s o u - plcN D S s o 0 by unfold rsS; rw [se, hu, Int.toNat_natCast])
      have e3 : IntKind.i64.wrap (plcN D S s o u - plcN D S s o 0) = rsS s q D S E o t := by rw [RSE.out, IntKind.wrap_i64]; omega
      have BR := hide (show bd (rsS s q D S E o t) by rw [RSE.out]; unfold bd; omega)
      have TS := hide ts
      clear d1' sr se hu b1' b2' ts
      go_upto_region 10 with fail
      clear d2
      go_cut [8] from 36 to 64 (fun v wx => v = .int .i64 (rsS s q D S E o t) ∧ Below X.heap.size X wx)
      case first =>
        by_cases c : q = t + 1
        · have c' : (q = t + 1) = True := eq_true c
          have CS := hide (fun (A : Option Addr) (W : World) => Vs.l3Size B A (q - (t + 1)) (q - (t + 1)) (fun j => E (t + 1 + j)) W (.inl (by omega)) (by omega))
          rw [TS.out] at CS
          clear c
          go_region_held3 (fun w' => w'.cell? ⟨gp, u, none⟩ = some (.int .i64 (plcN D S s o u)) ∧ w'.cell? ⟨gp, 0, none⟩ = some (.int .i64 (plcN D S s o 0)))
            ((try dsimp only) <;> (repeat' apply And.intro) <;> (first | with_reducible assumption | assumption))
            (first
            | (go_at_call 25; refine (CS.out _ _).mono ?_; rintro e w4 ⟨rfl, rfl⟩))
          all_goals (go_wp2_with fail)
          all_goals go_meet
          all_goals exact ⟨rfl, (Below.refl _ X).drew⟩
        · have c' : (q = t + 1) = False := eq_false c
          have CS := hide (fun (W : World) (hW : Ints B W (some ⟨bi, oi, none⟩) q E) => Vs.l3Size B (some ⟨bi, oi + (t + 1), none⟩) (q - (t + 1)) (q - (t + 1)) (fun j => E (t + 1 + j)) W (by
            rcases hW with h0 | ⟨b, off, e', h1, h2⟩
            · omega
            · injection e' with e'
              injection e' with e1' e2'
              subst e1' e2'
              exact .inr ⟨bi, oi + (t + 1), rfl, h1, fun j hj => by have := h2 (t + 1 + j) (by omega); rwa [show oi + (t + 1 + j) = oi + (t + 1) + j by omega] at this⟩) (by omega))
          rw [TS.out] at CS
          clear c
          go_region_held3 (fun w' => w'.cell? ⟨gp, u, none⟩ = some (.int .i64 (plcN D S s o u)) ∧ w'.cell? ⟨gp, 0, none⟩ = some (.int .i64 (plcN D S s o 0)))
            ((try dsimp only) <;> (repeat' apply And.intro) <;> (first | with_reducible assumption | assumption))
            (first
            | (go_at_call 25; refine (CS.out _ (by exact HCI.out)).mono ?_; rintro e w4 ⟨rfl, rfl⟩))
          all_goals (go_wp2_with fail)
          all_goals go_meet
          all_goals exact ⟨rfl, (Below.refl _ X).drew⟩
      case rest =>
      obtain ⟨rfl, b2⟩ := hcut
      obtain ⟨Y, rfl⟩ : ∃ Y, Y = wc := ⟨_, rfl⟩
      have VT := hide (HWS.out.later b2)
      have VRP := hide (HRP.out.below b2 (by omega))
      have sY : X.heap.size ≤ Y.heap.size := b2.size
      clear b2 cu c0 ci e3 k1 k0 wr1
      have OA := hide (VT.out.pb.rb.1.alloc (.cells #[.int .i64 (rsS s q D S E o t)] 3))
      have HN' := hide (World.news_of_block (cs := #[.int .i64 (rsS s q D S E o t)]) (t := 3) (fr := (0, 0)) (heap_alloc_new Y _))
      have hb0 := VT.out.pb.hB
      obtain ⟨p0, p1, p2, p3⟩ := VT.out.pb.box
      have f0 := VT.out.pb.free
      unfold Free at f0
      go_wp2_with (at_builtin; refine wpList_append_own_at _ rfl _ _ 22 rfl w2.heap.size 3 i0 (.int .i64 0) 1 8 Try.underlying22 hi0 hz0 hz1 hz2 rfl (by decide) _ _ _ rfl OA.out ⟨Y.heap.size, 0, none⟩ 1 1 [.int .i64 (rsS s q D S E o t)] rfl rfl HN'.out (by simp [Value.oneCell']) (by unfold maxLen; omega) (by omega) (by simp; omega) ?_; intro v' w5 hown1 hgrow1 _ hat1; obtain ⟨g1, c5, rfl⟩ := own_some hown1; have T5 := hide (VT.out.growB BR.out hown1 hgrow1 hat1); have K1 := hide (kept_row hgrow1); have np1 : ¬ (Value.slice b1 t d1).ownBlock = some P := (fun q => VT.out.pb.np _ (.inr q) rfl); have cP := fun i => World.cell?_of_block (w := Y) (a := ⟨P, i, none⟩) (K1.out.block P VT.out.pb.lt np1); have fP := fun i => World.frozen?_of_block (w := Y) (a := ⟨P, i, none⟩) (K1.out.block P VT.out.pb.lt np1); clear hown1 hgrow1 hat1 np1)
      go_roundw
      case rel => exact ⟨t + 1, some ⟨g1, 0, none⟩, c5, by omega, by go_num, (by have e : rsf s q D S E o (t + 1) = upd (rsf s q D S E o t) t (rsS s q D S E o t) := rfl; rw [e]; exact T5.out), (VRP.out.kept K1.out (fun e => by have := (VT.out.pb.rb.lt e).1; omega)).kept (Kept.setCell _ ⟨P, 1, none⟩ _) (by show ¬ gp = P; omega)⟩
      case measure => simp [intOf]; omega
    · obtain rfl : t = q := by omega
      have VO0 := HWS.out.own
      have OT := hide (VO0.t.same (E := rsS s t D S E o) (fun j hj => (rsf_at s t D S E o hj).symm))
      have OD := hide VO0.d
      clear VO0
      obtain ⟨p0, p1, p2, p3⟩ := HWS.out.pb.box
      go_wp2_with fail
      refine (specViewOk X.heap.size a1 b1 t t c1 d1 E (rsS s t D S E o) o n X (Nat.le_refl _) OD.out.ints OT.out.ints hq hq).mono ?_
      rintro e w4 ⟨rfl, b2⟩
      have T4 := hide (HWS.out.later b2)
      have RP4 := hide (HRP.out.below b2 (by omega))
      have OD4 := hide (OD.out.below b2)
      have OT4 := hide (OT.out.below b2)
      have s4 : X.heap.size ≤ w4.heap.size := b2.size
      clear b2 p0 p1 p2 p3
      cases hvw : vok t t E (rsS s t D S E o) o n with
      | false =>
        have ez := hide (ET.out.trans (rshV_no (fun h => by have := vok_iff.2 h.2.1; rw [hvw] at this; cases this)))
        obtain ⟨y0, y1, y2, y3⟩ := T4.out.rbox
        have gg := T4.out.rfree
        unfold Free at gg
        have B1 := hide T4.out.below
        clear hvw
        go_wp2_with fail
        refine bodyPost_ret (v := .agg #[.slice none 0 0, .slice none 0 0, .int .i64 0, .int .i64 0]) (by simp [results, Try.results6, go_sem, y0, y1, y2, y3]) rfl (by
          rw [ez.out]
          refine viewR_zero ?_
          repeat (refine Below.setCell ?_ (by simp) _)
          exact B1.out)
      | true =>
        have HVW := hide (vok_iff.1 hvw)
        clear hvw
        obtain ⟨p0, p1, p2, p3⟩ := T4.out.pb.box
        go_wp2_with fail
        refine (l3All w4.heap.size a1 b1 t c1 d1 N E (rsS s t D S E o) o n w4 (Nat.le_refl _) OD4.out.ints OT4.out.ints HVW.out.1 HVW.out.2.2.2.2.2.2.1 HVW.out.2.2.2.2.1 (by have := HVW.out.2.2.2.2.2.1; have := HVW.out.2.2.2.1; omega) (by rw [HSZ.out, HN.out])).mono ?_
        rintro e w5 ⟨g5, c5, rfl, hg5, lg5, r5, b2⟩
        have T5 := hide (T4.out.later b2)
        have RP5 := hide (RP4.out.below b2 (by omega))
        have R5 := hide (show Rw w5 g5 N (plcN E (rsS s t D S E o) t o) from r5)
        have s5 : w4.heap.size ≤ w5.heap.size := b2.size
        clear b2 r5 p0 p1 p2 p3
        go_wp2_with fail
        refine (sameI w5.heap.size (some ⟨g5, 0, none⟩) (some ⟨gp, 0, none⟩) N N c5 pc (plcN E (rsS s t D S E o) t o) (plcN D S s o) w5 (Nat.le_refl _) (R5.out.ints lg5) (RP5.out.ints (by omega)) (by omega) (by omega)).mono ?_
        rintro e w6 ⟨⟨z, rfl, hz⟩, b2⟩
        have T6 := hide (T5.out.later b2)
        have HZ := hide hz
        clear b2 hz
        obtain ⟨y0, y1, y2, y3⟩ := T6.out.rbox
        have gg := T6.out.rfree
        unfold Free at gg
        cases z with
        | false =>
          have ez := hide (ET.out.trans (rshV_no (fun h => by
            have := HZ.out.2 ⟨rfl, fun k hk => h.2.2 k (by have := HN.out; omega)⟩
            cases this)))
          have B1 := hide T6.out.below
          go_wp2_with fail
          refine bodyPost_ret (v := .agg #[.slice none 0 0, .slice none 0 0, .int .i64 0, .int .i64 0]) (by simp [results, Try.results6, go_sem, y0, y1, y2, y3]) rfl (by
            rw [ez.out]
            refine viewR_zero ?_
            repeat (refine Below.setCell ?_ (by simp) _)
            exact B1.out)
        | true =>
          have hz := HZ.out.1 rfl
          have ez := hide (ET.out.trans (rshV_yes ⟨⟨HD.out, HSZ.out⟩, HVW.out, fun k hk => hz.2 k (by have := HN.out; omega)⟩))
          obtain ⟨p0, p1, p2, p3⟩ := T6.out.pb.box
          clear hz
          go_wp2_with fail
          refine bodyPost_ret (v := .agg #[.slice a1 t c1, .slice b1 t d1, .int .i64 o, .int .i64 n]) (by simp [results, Try.results6, go_sem, y0, y1, y2, y3]) rfl ?_
          show ViewR w.heap.size (turnedV s s D S o n (rshV s t D S E o n)) w _ _
          rw [ez.out]
          obtain ⟨a', b', c', d', e, v, k⟩ := T6.out.viewR (by omega)
          exact ⟨a', b', c', d', e, ⟨v.d, v.t.same (fun j hj => (rsf_at s t D S E o hj).symm), v.ne⟩, k⟩
end Vo
end Go.Proofs.Ytejfodkobfdelaa
