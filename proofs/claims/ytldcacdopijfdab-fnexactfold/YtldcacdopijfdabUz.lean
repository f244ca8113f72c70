/- Fold of the model. -/
import Derived.Test.YtldcacdopijfdabUw
import Derived.Test.YtldcacdopijfdabTy
import Derived.BigQuiet
import Derived.Deep.RegionHeld3
namespace Go.Proofs.Ytldcacdopijfdab
namespace Vo
open Go.ChangeShapes Go.WideShapes Go.ChangeAt Go.RowKit Go.Joins Go.Sort
open Vl Vp Vr
set_option linter.unusedVariables false
set_option linter.unusedSimpArgs false
theorem RowV.room {B : Nat} {w : World} {a : Option Addr} {r c : Nat} {D : Nat → Int} (h : RowV B w (.slice a r c) r D) : r ≤ c := by
  obtain ⟨⟨_, ⟨e, e'⟩ | ⟨g, cap, cur, e, hg, hh, hc, rest⟩⟩, hb⟩ := h
  · injection e with e1 e2 e3; omega
  · injection e with e1 e2 e3; omega
theorem l4WithC (B : Nat) (a : Option Addr) (r cap k : Nat) (D : Nat → Int) (n : Int) (w : World) (hB : B ≤ w.heap.size) (h : Ints B w a r D) (hr : (r : Int) ≤ 1048576) (hk : k < r) (hn : bd n) :
    Calls Try.prog 31 #[.slice a r cap, .int .i64 k, .int .i64 n] w fun e w' => ∃ g c, e = .returned (.slice (some ⟨g, 0, none⟩) r c) ∧ Rw w' g r (up1 D k n) ∧ w.heap.size ≤ g ∧ g < w'.heap.size ∧ r ≤ c ∧ Below w.heap.size w w' := by
  have h0 := h
  rcases h with h | ⟨b1, o1, rfl, hb1, hc1⟩
  · omega
  have H := hide h0
  have kI : (k : Int) < r := by omega
  clear h0 hc1
  go_enter Try.func31, Try.ntmps31
  go_wp2_with fail
  refine (l3Ints B _ r cap D _ H.out hB hr).mono ?_
  rintro e w1 ⟨v, rfl, rv, b1⟩
  obtain ⟨va, vc, rfl, ov⟩ := rv.own
  have rm := rv.room
  rcases ov with q | ⟨g, rfl, hg, rw1⟩
  · omega
  have lt := rw1.lt (by omega)
  have B1 := hide b1
  have R1 := hide rw1
  have HN := hide hn
  obtain ⟨c1, f1, _⟩ := rw1 k hk
  clear rv b1 rw1 hn
  go_wp2_with fail
  go_ret
  exact ⟨g, vc, rfl, R1.out.set k n HN.out, hg, by simpa [World.setCell] using lt, rm, B1.out.setCell (p := ⟨g, k, none⟩) hg _⟩
/-- which way the model's tests go -/
theorem fold_ways {q k : Nat} {D : Nat → Int} {t n : Int} (hz : 1 ≤ D q) :
    (decide (t < 1) = true ∧ ¬ FoldOk q D k t n) ∨ (decide (t < 1) = false ∧ decide (n < 1) = true ∧ ¬ FoldOk q D k t n) ∨ (decide (t < 1) = false ∧ decide (n < 1) = false ∧ decide (4096 < n) = true ∧ (k < q → ¬ FoldOk q D k t n)) ∨
    (decide (t < 1) = false ∧ decide (n < 1) = false ∧ decide (4096 < n) = false ∧ 1 ≤ t ∧ 1 ≤ n ∧ n ≤ 4096) := by
  by_cases a1 : t < 1
  · exact .inl ⟨decide_eq_true a1, fun e => by have := e.1; omega⟩
  refine .inr ?_
  by_cases a2 : n < 1
  · exact .inl ⟨decide_eq_false a1, decide_eq_true a2, fun e => by have := e.2.1; omega⟩
  refine .inr ?_
  by_cases a3 : 4096 < n
  · exact .inl ⟨decide_eq_false a1, decide_eq_false a2, decide_eq_true a3, fun hk e => by have := (dok_len e.2.2.2 hk).2; rw [up1_at] at this; omega⟩
  exact .inr ⟨decide_eq_false a1, decide_eq_false a2, decide_eq_false a3, by omega, by omega, by omega⟩
set_option maxRecDepth 100000 in
set_option maxHeartbeats 3000000 in
theorem specFold (B : Nat) (a : Addr) (b : Option Addr) (r s cap dap : Nat) (D S : Nat → Int) (x t n : Int) (w : World) (hB : B ≤ w.heap.size) (h : Ints B w (some a) r D) (h' : Ints B w b s S) (hr : (r : Int) ≤ 1048576) (hs : (s : Int) ≤ 1048576) (hbn : bd n) (hbt : bd t) :
    Calls Try.prog 14 #[.agg #[.slice (some a) r cap, .slice b s dap], .int .i64 x, .int .i64 t, .int .i64 n] w fun e w' => TensR w.heap.size (foldP r s D S x t n) w e w' := by
  obtain ⟨W0, hW0⟩ : ∃ W0, (w.alloc (.cells #[.slice (some a) r cap, .slice b s dap] 35)).alloc (.cells #[.slice none 0 0, .slice none 0 0] 35) = W0 := ⟨_, rfl⟩
  have hs0 : W0.heap.size = w.heap.size + 1 + 1 := by rw [← hW0]; simp
  have bl : Below w.heap.size w W0 := by rw [← hW0]; exact ((Below.refl _ _).alloc (Nat.le_refl _) _).alloc (by simp) _
  have n0 : Bx W0 w.heap.size (.slice (some a) r cap) (.slice b s dap) := by
    rw [← hW0]; exact (bx_new w (.slice (some a) r cap) (.slice b s dap) 35).below ((Below.refl (w.heap.size + 1) _).alloc (by simp) _) (by omega)
  have m0 : Bx W0 (w.heap.size + 1) (.slice none 0 0) (.slice none 0 0) := by
    have q := bx_new (w.alloc (.cells #[.slice (some a) r cap, .slice b s dap] 35)) (.slice none 0 0) (.slice none 0 0) 35
    rw [World.size_alloc] at q
    rw [← hW0]; exact q
  have g0 : Free W0 (w.heap.size + 1) := by
    have q := free_new (w.alloc (.cells #[.slice (some a) r cap, .slice b s dap] 35)) #[.slice none 0 0, .slice none 0 0] 35
    rw [World.size_alloc] at q
    rw [← hW0]; exact q
  have wl : IntKind.i64.wrap ((r : Int) - 1) = (r : Int) - 1 := wrap_id (by omega) (by omega)
  have H := hide (h.below (bl.mono hB))
  have H' := hide (h'.below (bl.mono hB))
  have BL := hide bl
  have HS0 := hide hs0
  have N0 := hide n0
  have M0 := hide m0
  have G0 := hide g0
  obtain ⟨x0, x1⟩ := n0
  clear h h' bl m0 g0 hs0
  go_enter Try.func14, Try.ntmps14
  go_wp2_with fail
  clear hW0
  refine (l4Axis B (some a) b r s cap dap D S x _ (by have := HS0.out; omega) H.out H'.out hr hs).mono ?_
  rintro e w1 ⟨rfl, b1⟩
  have z0 := HS0.out
  have N1 := hide (N0.out.below b1 (by omega))
  have M1 := hide (M0.out.below b1 (by omega))
  have G1 := hide (G0.out.below b1 (by omega))
  have B1 := hide (BL.out.trans (b1.mono BL.out.size))
  have H1 := hide (H.out.below (b1.mono (by omega)))
  have H1' := hide (H'.out.below (b1.mono (by omega)))
  have s1 : w.heap.size + 1 < w1.heap.size := by have := b1.size; omega
  clear b1 x0 x1 z0
  obtain ⟨x0, x1⟩ := N1.out
  obtain ⟨y0, y1⟩ := M1.out
  have gg := G1.out
  unfold Free at gg
  have NO := hide (fun (hz : foldP r s D S x t n = PT.zero) (w2 : World) (hb : Below w.heap.size w w2) => show TensR w.heap.size (foldP r s D S x t n) w (.returned (.agg #[.slice none 0 0, .slice none 0 0])) w2 by rw [hz]; exact tensR_zero hb)
  by_cases hx : tok r s D S = true ∧ 0 ≤ x ∧ x < r
  rotate_left
  · have ez := hide (foldP_no (t := t) (n := n) (fun e => hx ⟨e.1, e.2.1, by have := e.2.2.1; omega⟩))
    rw [decide_eq_false hx]
    clear hx
    go_wp2_with fail
    refine bodyPost_ret (v := .agg #[.slice none 0 0, .slice none 0 0]) (by simp [results, Try.results14, go_sem, y0, y1]) rfl (NO.out ez.out _ (by
      repeat (refine Below.setCell ?_ (by simp) _)
      exact B1.out))
  rw [decide_eq_true hx]
  obtain ⟨ht, hx0, hx1⟩ := hx
  obtain ⟨k, rfl⟩ : ∃ k : Nat, x = k := ⟨x.toNat, by omega⟩
  have hk : k < r := by omega
  obtain ⟨q, rfl⟩ : ∃ q, r = q + 1 := ⟨r - 1, by omega⟩
  obtain ⟨td, ts, tw⟩ := tok_split ht
  have e9 : ((q + 1 : Nat) : Int) - 1 = (q : Int) := by omega
  simp only [e9]
  have EZ := hide (fun (hn : ¬ FoldOk q D k t n) => foldP_no (r := q + 1) (s := s) (D := D) (S := S) (x := (k : Int)) (t := t) (n := n) (fun e => hn (by have := e.2.2.2; rw [Int.toNat_natCast] at this; exact this)))
  by_cases hl : k = q
  · have ez := hide (foldP_no (r := q + 1) (s := s) (D := D) (S := S) (x := (k : Int)) (t := t) (n := n) (fun e => by have := e.2.2.1; omega))
    have hl' : ((k : Int) == (q : Int)) = true := beq_iff_eq.2 (by omega)
    clear hx0 hx1 ht e9 wl hl
    go_wp2_with fail
    refine bodyPost_ret (v := .agg #[.slice none 0 0, .slice none 0 0]) (by simp [results, Try.results14, go_sem, y0, y1]) rfl (NO.out ez.out _ (by
      repeat (refine Below.setCell ?_ (by simp) _)
      exact B1.out))
  have hl' : ((k : Int) == (q : Int)) = false := beq_eq_false_iff_ne.2 (by omega)
  have hkq : k < q := by omega
  have dq := dok_len td (j := q) (by omega)
  have dk := dok_len td (j := k) (by omega)
  have q5 : q ≤ 5 := by have := (dok_iff.1 td).1; omega
  have s4 : (s : Int) ≤ 4096 := by rw [← ts]; exact (szR_rng D (q + 1)).2
  have HT := hide ht
  have TD := hide td
  have TS := hide ts
  have TW := hide tw
  rcases H1.out with h0 | ⟨ab, ao, hae, hab, hac⟩
  · omega
  injection hae with hae
  subst hae
  have ck := (hac k (by omega)).1
  have cq := (hac q (by omega)).1
  have kI : (k : Int) < ((q + 1 : Nat) : Int) := by omega
  have qI : (q : Int) < ((q + 1 : Nat) : Int) := by omega
  clear hac ht hx0 hx1 td ts tw e9 wl hl
  rcases fold_ways (k := k) (t := t) (n := n) dq.1 with ⟨d1, no⟩ | ⟨d1, d2, no⟩ | ⟨d1, d2, d3, no⟩ | ⟨d1, d2, d3, t1, n1, n2⟩
  · have ez := hide (EZ.out no)
    clear no
    go_wp2_with fail
    refine bodyPost_ret (v := .agg #[.slice none 0 0, .slice none 0 0]) (by simp [results, Try.results14, go_sem, y0, y1]) rfl (NO.out ez.out _ (by
      repeat (refine Below.setCell ?_ (by simp) _)
      exact B1.out))
  · have ez := hide (EZ.out no)
    clear no
    go_wp2_with fail
    refine bodyPost_ret (v := .agg #[.slice none 0 0, .slice none 0 0]) (by simp [results, Try.results14, go_sem, y0, y1]) rfl (NO.out ez.out _ (by
      repeat (refine Below.setCell ?_ (by simp) _)
      exact B1.out))
  · have ez := hide (EZ.out (no hkq))
    clear no
    go_wp2_with fail
    refine bodyPost_ret (v := .agg #[.slice none 0 0, .slice none 0 0]) (by simp [results, Try.results14, go_sem, y0, y1]) rfl (NO.out ez.out _ (by
      repeat (refine Below.setCell ?_ (by simp) _)
      exact B1.out))
  by_cases hz : n < D q
  · have hz' : decide (n < D q) = true := decide_eq_true hz
    have ez := hide (EZ.out (fun e => by have := e.2.1; omega))
    clear hz
    go_wp2_with fail
    go_quiet (fail)
    go_wp2_with fail
    refine bodyPost_ret (v := .agg #[.slice none 0 0, .slice none 0 0]) (by simp [results, Try.results14, go_sem, y0, y1]) rfl (NO.out ez.out _ (by
      repeat (refine Below.setCell ?_ (by simp) _)
      exact below_drewN B1.out _))
  have hz' : decide (n < D q) = false := decide_eq_false hz
  obtain ⟨q1, q2, q3, q4, q6⟩ := win_wraps dq.1 t1 (show D q ≤ n by omega) n2
  have t0 : (t == 0) = false := by simp; omega
  obtain ⟨c, hc⟩ : ∃ c, (n - D q).tdiv t + 1 = c := ⟨_, rfl⟩
  obtain ⟨b', hb'⟩ : ∃ b', (n - D q).tdiv t = b' := ⟨_, rfl⟩
  have HC := hide hc
  rw [hb'] at q2 q3 hc
  have q3' : IntKind.i64.wrap (b' + 1) = c := q3.trans hc
  have HZ := hide (show D q ≤ n by omega)
  clear hc q3 q4 q6 hz
  by_cases hck : c = D k
  rotate_left
  · have hc' : (c != D k) = true := by rw [bne_iff_ne]; exact hck
    have ez := hide (EZ.out (fun e => hck (HC.out.symm.trans e.2.2.1)))
    clear hck
    go_wp2_with fail
    go_quiet (fail)
    go_wp2_with fail
    refine bodyPost_ret (v := .agg #[.slice none 0 0, .slice none 0 0]) (by simp [results, Try.results14, go_sem, y0, y1]) rfl (NO.out ez.out _ (by
      repeat (refine Below.setCell ?_ (by simp) _)
      exact below_drewN B1.out _))
  have hc' : (c != D k) = false := by rw [bne_eq_false_iff_eq]; exact hck
  have HCK := hide (show (n - D q).tdiv t + 1 = D k from HC.out.trans hck)
  clear hck
  go_wp2_with fail
  go_quiet (fail)
  go_wp2_with fail
  have bD : Below w1.heap.size w1 (w1.drewN nq) := below_drewN (Below.refl w1.heap.size w1) nq
  refine (l4WithC B (some ⟨ab, ao, none⟩) (q + 1) cap k D n _ (by show B ≤ w1.heap.size; omega) (H1.out.below (bD.mono (by omega))) hr (by omega) hbn).mono ?_
  rintro e w2 ⟨g1, c1, rfl, r1, hg1, hg2, rm, b2⟩
  have b2 : Below w1.heap.size w1 w2 := bD.trans b2
  have hg1 : w1.heap.size ≤ g1 := hg1
  have N2 := hide (N1.out.below b2 (by omega))
  have M2 := hide (M1.out.below b2 (by omega))
  have G2 := hide (G1.out.below b2 (by omega))
  have B2 := hide (B1.out.trans (b2.mono B1.out.size))
  have H2 := hide (H1.out.below (b2.mono (by omega)))
  have H2' := hide (H1'.out.below (b2.mono (by omega)))
  have R1 := hide (show Rw w2 g1 q (up1 D k n) from fun i hi => r1 i (by omega))
  have s2 : w1.heap.size ≤ w2.heap.size := b2.size
  have qc : (q : Int) ≤ c1 := by omega
  have qr : (q : Int) ≤ 1048576 := by omega
  have HBT := hide hbt
  clear b2 r1 x0 x1 y0 y1 gg bD ck cq q1 q2 q3' t0 hc' hz' d1 d2 d3 hl' hb'
  obtain ⟨x0, x1⟩ := N2.out
  obtain ⟨y0, y1⟩ := M2.out
  have gg := G2.out
  unfold Free at gg
  go_wp2_with fail
  refine (Vs.specDimsOk w2.heap.size (some ⟨g1, 0, none⟩) q c1 (up1 D k n) _ (R1.out.ints hg2) qr).mono ?_
  rintro e w2' ⟨rfl, hw⟩
  have hw := hw.symm
  subst hw
  cases hd : dok q (up1 D k n) with
  | false =>
    have ez := hide (EZ.out (fun e => by have := e.2.2.2; rw [hd] at this; exact absurd this (by decide)))
    clear hd
    go_wp2_with fail
    refine bodyPost_ret (v := .agg #[.slice none 0 0, .slice none 0 0]) (by simp [results, Try.results14, go_sem, y0, y1]) rfl (NO.out ez.out _ (by
      repeat (refine Below.setCell ?_ (by simp) _)
      exact B2.out))
  | true =>
  have FOK := hide (show FoldOk q D k t n from ⟨t1, HZ.out, HCK.out, hd⟩)
  have ez := hide (foldP_yes HT.out hkq FOK.out)
  have XR := hide (fun (j : Int) => foldX_rng hkq (dok_pr TD.out).2 FOK.out j)
  have PI := hide (fun (j : Nat) => show foldI q D k t n j = od (up1 D k n) (foldX q D k t j) q from rfl)
  obtain ⟨P, hP⟩ : ∃ P : Nat → Int, foldI q D k t n = P := ⟨_, rfl⟩
  rw [hP] at ez PI
  obtain ⟨E, hE⟩ : ∃ E, up1 D k n = E := ⟨_, rfl⟩
  rw [hE] at ez hd R1 XR PI
  obtain ⟨z, hn⟩ : ∃ z, cntT q E = z := ⟨_, rfl⟩
  have hn1 : szR E q = (z : Int) := by rw [← hn]; exact (cntT_cast q E).symm
  rw [hn] at ez
  have n4 : (z : Int) ≤ 4096 := by rw [← hn1]; exact (szR_rng E q).2
  have HD := hide hd
  have HN1 := hide hn1
  clear hd hE hn hn1 hP EZ NO
  go_wp2_with fail
  refine (l4New w2.heap.size ⟨g1, 0, none⟩ q c1 z E _ (Nat.le_refl _) (R1.out.ints hg2) qr HN1.out n4).mono ?_
  rintro e w3 ⟨va, vc, g, rfl, ov, rg, lg, hg, hne, b3⟩
  have sb := b3.size
  obtain ⟨W3, hW3⟩ : ∃ W3, w3.alloc (.cells #[.slice va q vc, .slice (some ⟨g, 0, none⟩) z z] 35) = W3 := ⟨_, rfl⟩
  have b4 : Below w3.heap.size w3 W3 := by rw [← hW3]; exact (Below.refl _ _).alloc (Nat.le_refl _) _
  have z3 : W3.heap.size = w3.heap.size + 1 := by rw [← hW3]; simp
  have T3 := hide (show Bx W3 w3.heap.size (.slice va q vc) (.slice (some ⟨g, 0, none⟩) z z) by rw [← hW3]; exact bx_new w3 _ _ _)
  have N3 := hide ((N2.out.below b3 (by omega)).below b4 (by omega))
  have M3 := hide ((M2.out.below b3 (by omega)).below b4 (by omega))
  have G3 := hide ((G2.out.below b3 (by omega)).below b4 (by omega))
  have H3 := hide ((H2.out.below (b3.mono (by omega))).below (b4.mono (by omega)))
  have H3' := hide ((H2'.out.below (b3.mono (by omega))).below (b4.mono (by omega)))
  have B3 := hide ((B2.out.trans (b3.mono B2.out.size)).trans (b4.mono (by omega)))
  have OV := hide (ov.below b4)
  have RG := hide (rg.below b4 hg)
  have HNE := hide hne
  have Z3 := hide z3
  have zg : w.heap.size + 1 < g := by omega
  have z4 : w.heap.size + 1 < w3.heap.size := by omega
  clear ov rg b3 b4 sb hne z3 x0 x1 y0 y1 gg
  obtain ⟨x0, x1⟩ := T3.out
  go_wp2_with fail
  clear hW3
  go_loopw [13] (fun i wx => ∃ j : Nat, j ≤ s ∧ i = .int .i64 j ∧ Bx wx w3.heap.size (.slice va q vc) (.slice (some ⟨g, 0, none⟩) z z) ∧ Bx wx w.heap.size (.slice (some ⟨ab, ao, none⟩) (q + 1) cap) (.slice b s dap) ∧ Rw wx g z (fun p => scaS P S (p : Int) j) ∧ Kept (· = g) W3 wx) (fun i _ => s - (intOf i).toNat)
  case atStart => exact ⟨0, Nat.zero_le _, rfl, T3.out, N3.out, RG.out.same (fun t ht => rfl), Kept.refl _ _⟩
  case round =>
    obtain ⟨X, rfl⟩ : ∃ X, X = wr := ⟨_, rfl⟩
    obtain ⟨j, hj, rfl, hbx, hbt, hrw, hkp⟩ := hrel
    have HBX := hide hbx
    have HBT' := hide hbt
    have HRW := hide hrw
    have HKP := hide hkp
    have lX : w3.heap.size + 1 ≤ X.heap.size := by have := HKP.out.size; have := Z3.out; omega
    clear x0 x1
    obtain ⟨u0, u1⟩ := hbt
    clear hrw hkp hbx
    by_cases hlt : j < s
    · have jI : (j : Int) < s := by omega
      have HA := hide (H3.out.kept (by have := Z3.out; omega) HKP.out (fun y hy e => by have e : y = g := e; omega))
      have HA' := hide (H3'.out.kept (by have := Z3.out; omega) HKP.out (fun y hy e => by have e : y = g := e; omega))
      have OVX := hide (OV.out.kept HKP.out (fun b q e => HNE.out b q e))
      have HDD := hide (fun i hi => dok_len TD.out (j := i) hi)
      go_wp2_with fail
      refine (l3Index X.heap.size (some ⟨ab, ao, none⟩) (q + 1) cap D j _ (HA.out.mono (by omega)) (Nat.le_refl _) (by omega) HDD.out (by omega) (by omega)).mono ?_
      rintro e X1 ⟨rfl, ra, sa, ba⟩
      have dgr := dg_rng D (q + 1) (fun i hi => (HDD.out i hi).1) (j : Int)
      have xr := XR.out (j : Int)
      obtain ⟨av, hav⟩ : ∃ av : Nat, dg D (q + 1) j k = av := ⟨(dg D (q + 1) j k).toNat, by have := dgr k (by omega); omega⟩
      obtain ⟨aq, haq⟩ : ∃ aq : Nat, dg D (q + 1) j q = aq := ⟨(dg D (q + 1) j q).toNat, by have := dgr q (by omega); omega⟩
      have fx : foldX q D k t j k = av * t + aq := by unfold foldX; rw [up1_at, hav, haq]
      have xk := xr k hkq
      rw [fx] at xk
      have ek : E k ≤ 4096 := (dok_len HD.out hkq).2
      have at0 : 0 ≤ (av : Int) * t := Int.mul_nonneg (by omega) (by omega)
      obtain ⟨m, hm⟩ : ∃ m : Nat, (av : Int) * t = m := ⟨((av : Int) * t).toNat, by omega⟩
      rw [hm] at xk
      obtain ⟨iv, hiv⟩ : ∃ iv : Nat, (m : Int) + aq = iv := ⟨((m : Int) + aq).toNat, by omega⟩
      have wm1 : IntKind.i64.wrap ((av : Int) * t) = m := by rw [hm]; exact wrap_id (by omega) (by omega)
      have wm2 : IntKind.i64.wrap ((m : Int) + aq) = iv := by rw [hiv]; exact wrap_id (by omega) (by omega)
      have FX := hide (show up1 (dg D (q + 1) j) k (iv : Int) = foldX q D k t j by unfold foldX; rw [hav, haq, hm, hiv])
      have XRJ := hide xr
      have ODR := od_rng E _ q xr
      obtain ⟨p0, hp0⟩ : ∃ p0 : Nat, od E (foldX q D k t j) q = p0 := ⟨(od E (foldX q D k t j) q).toNat, by omega⟩
      have p0z : p0 < z := by have := (dok_pr HD.out).1; have := HN1.out; omega
      have PJ := hide (show P j = p0 from (PI.out j).trans hp0)
      have RA := hide ra
      have BA := hide ba
      have HP0 := hide hp0
      obtain ⟨ca, _, _⟩ := ra k (by omega)
      obtain ⟨cq, _, _⟩ := ra q (by omega)
      rw [hav] at ca
      rw [haq] at cq
      have HBT1 := hide (HBT'.out.below ba (by omega))
      have HBX1 := hide (HBX.out.below ba (by omega))
      have HRW1 := hide (HRW.out.below ba (by omega))
      have HA1' := hide (HA'.out.below (ba.mono (by omega)))
      have OV1 := hide (OVX.out.below ba)
      have KX := hide (show Kept (· = g) W3 X1 from HKP.out.trans (Kept.of_below ba))
      have lX1 : X.heap.size < X1.heap.size := sa
      have iv4 : (iv : Int) ≤ 4096 := by omega
      have C1 := hide (fun (W : World) (hW : Below X1.heap.size X1 W) => l4WithC X1.heap.size (some ⟨X.heap.size, 0, none⟩) (q + 1) (q + 1) k (dg D (q + 1) j) iv W hW.size ((RA.out.below hW lX1).ints lX1) hr (by omega) (by unfold bd; omega))
      rw [FX.out] at C1
      clear ra ba dgr hav haq u0 u1 hp0 ODR xr xk fx hm hiv at0 ek
      go_wp2_with fail
      have kI2 : (k : Int) < (q : Int) + 1 := by omega
      have qI2 : (q : Int) < (q : Int) + 1 := by omega
      have F7 := hide (fun (W : World) (hW : Below X1.heap.size X1 W) => show W.cell? ⟨X.heap.size, k, none⟩ = some (.int .i64 (av : Int)) from (hW.cell (p := ⟨X.heap.size, k, none⟩) lX1).trans ca)
      have F8 := hide (fun (W : World) (hW : Below X1.heap.size X1 W) => show W.cell? ⟨X.heap.size, q, none⟩ = some (.int .i64 (aq : Int)) from (hW.cell (p := ⟨X.heap.size, q, none⟩) lX1).trans cq)
      have F9 := hide (show Below X1.heap.size X1 X1.drew from (Below.refl _ _).drew)
      have F10 := hide (fun (W : World) (hW : Below X1.drew.heap.size X1.drew W) => show Below X1.heap.size X1 W from F9.out.trans hW)
      go_region_held3 (fun w' => w'.cell? ⟨X.heap.size, k, none⟩ = some (.int .i64 (av : Int)) ∧ w'.cell? ⟨X.heap.size, q, none⟩ = some (.int .i64 (aq : Int)))
        ((try dsimp only) <;> (repeat' apply And.intro) <;> (first | with_reducible assumption | assumption))
        (first
        | (go_at_call 31
           refine (C1.out _ F9.out).mono ?_
           rintro e wA ⟨gi, gc, rfl, qi, hgi, lgi, rm2, bA⟩
           have bA' := hide (F10.out wA bA)
           have ca2 := F7.out wA bA'.out
           have cq2 := F8.out wA bA'.out
           have qc2 : (q : Int) ≤ gc := Int.le_trans (Int.ofNat_le.2 (Nat.le_succ q)) (Int.ofNat_le.2 rm2)
           clear bA))
      have bA := bA'.out
      have HBTA := hide (HBT1.out.below bA (by omega))
      have HBXA := hide (HBX1.out.below bA (by omega))
      have HAA' := hide (HA1'.out.below (bA.mono (by omega)))
      have HRWA := hide (HRW1.out.below bA (by omega))
      have OVA := hide (OV1.out.below bA)
      have QI := hide (show Rw wA gi q (foldX q D k t j) from fun i hi => qi i (by omega))
      have KA := hide (show Kept (· = g) W3 wA from KX.out.trans (Kept.of_below bA))
      have sA : X1.heap.size ≤ wA.heap.size := bA.size
      rcases HAA'.out with h0 | ⟨b2, o2, hbe, hb2, hc2⟩
      · omega
      subst hbe
      have cj := (hc2 j hlt).1
      have DV := hide (OVA.out.ints)
      have TOK := hide (show tok q z E (fun p => scaS P S (p : Int) j) = true by
        unfold tok wi
        simp only [Bool.and_eq_true, decide_eq_true_eq]
        exact ⟨⟨HD.out, HN1.out.symm⟩, fun u hu => scaS_rng _ _ _ _⟩)
      have sj := scaS_rng P S p0 j
      have sS := TW.out j hlt
      have CP := hide (fun (W : World) => Base.specPlus (scaS P S p0 j) (S j) W (by omega) (by omega) (by omega) (by omega))
      rw [← scaS_yes (L := S) PJ.out] at CP
      obtain ⟨p0', p1'⟩ := HBTA.out
      obtain ⟨v0, v1⟩ := HBXA.out
      clear hc2 bA qi ca cq ca2 cq2 C1 F7 F8 F9 F10 wm1 wm2
      go_wp2_with fail
      have CG := hide (l4Get wA.heap.size va (some ⟨g, 0, none⟩) (some ⟨gi, 0, none⟩) q z vc z q gc E (fun p => scaS P S (p : Int) j) (foldX q D k t j) wA.drew (Nat.le_refl _) (by exact DV.out) (by exact HRWA.out.ints (by omega)) (by exact QI.out.ints lgi) (Nat.le_refl _) TOK.out XRJ.out)
      rw [HP0.out, Int.toNat_natCast] at CG
      have CSet := hide (fun (W : World) (y : Int) (hW : Below wA.heap.size wA W) (hy : bd y) => l4Set wA.heap.size va (some ⟨gi, 0, none⟩) q z vc z q gc g p0 E (fun p => scaS P S (p : Int) j) (foldX q D k t j) y W hW.size (DV.out.below hW) ((QI.out.below hW lgi).ints lgi) (Nat.le_refl _) HD.out HN1.out XRJ.out HP0.out (HRWA.out.below hW (by omega)) (by have := hW.size; omega) hy)
      have BS1 := hide (show bd (scaS P S p0 (j + 1)) by have := scaS_rng P S p0 (j + 1); unfold bd; omega)
      have CB := hide (fun (W : World) (hW : Below wA.heap.size wA W) => show W.cell? ⟨b2, o2 + j, none⟩ = some (.int .i64 (S j)) from (hW.cell (p := ⟨b2, o2 + j, none⟩) (by show b2 < wA.heap.size; omega)).trans cj)
      have F1 := hide (fun (W : World) (hW : Below wA.heap.size wA W) => HBTA.out.below hW (by omega))
      have F2 := hide (fun (W : World) (hW : Below wA.heap.size wA W) => HBXA.out.below hW (by omega))
      have F3 := hide (fun (W W' : World) (hW : Below wA.heap.size wA W) (kC : Kept (· = g) W W') => (F1.out W hW).kept kC (by have := hW.size; omega) (by show ¬ w.heap.size = g; omega))
      have F4 := hide (fun (W W' : World) (hW : Below wA.heap.size wA W) (kC : Kept (· = g) W W') => (F2.out W hW).kept kC (by have := hW.size; omega) (by show ¬ w3.heap.size = g; omega))
      have F5 := hide (fun (W W' : World) (hW : Below wA.heap.size wA W) (kC : Kept (· = g) W W') => (World.cell?_of_block (w := W) (a := ⟨b2, o2 + j, none⟩) (kC.block b2 (by have := hW.size; omega) (by show ¬ b2 = g; omega))).trans (CB.out W hW))
      have F6 := hide (fun (W : World) (hB : Below wA.drew.heap.size wA.drew W) => show Below wA.heap.size wA W from (Below.refl _ _).drew.trans hB)
      clear sj sS
      go_region_held3 (fun w' => w'.cell? ⟨w.heap.size, 0, none⟩ = some (.slice (some ⟨ab, ao, none⟩) (q + 1) cap) ∧ w'.cell? ⟨w.heap.size, 1, none⟩ = some (.slice (some ⟨b2, o2, none⟩) s dap) ∧ w'.cell? ⟨w3.heap.size, 0, none⟩ = some (.slice va q vc) ∧ w'.cell? ⟨w3.heap.size, 1, none⟩ = some (.slice (some ⟨g, 0, none⟩) z z) ∧ w'.cell? ⟨b2, o2 + j, none⟩ = some (.int .i64 (S j)))
        ((try dsimp only) <;> (repeat' apply And.intro) <;> (first | with_reducible assumption | assumption))
        (first
        | (go_at_call 37
           refine CG.out.mono ?_
           rintro e wB ⟨rfl, bB⟩
           have bB' := hide (F6.out wB bB)
           have cj2 := CB.out wB bB'.out
           obtain ⟨q0', q1'⟩ := F1.out wB bB'.out
           obtain ⟨q2', q3'⟩ := F2.out wB bB'.out
           clear bB)
        | (go_at_call 36; refine (CP.out _).mono ?_; rintro e w1 ⟨rfl, rfl⟩)
        | (go_at_call 35
           refine (CSet.out _ _ bB'.out BS1.out).mono ?_
           rintro e wC ⟨⟨v, rfl⟩, rC, kC⟩
           have cj3 := F5.out _ _ bB'.out kC
           obtain ⟨s0', s1'⟩ := F3.out _ _ bB'.out kC
           obtain ⟨s2', s3'⟩ := F4.out _ _ bB'.out kC))
      all_goals (go_wp2_with fail)
      all_goals go_roundw
      all_goals first
        | (simp only [intOf]; omega)
        | (simp [intOf]; omega)
        | exact ⟨j + 1, by omega, by go_num, F4.out _ _ bB'.out kC, F3.out _ _ bB'.out kC, rC.same (fun t ht => by
            have e := PJ.out
            by_cases c : t = p0
            · subst c; simp
            · rw [scaS_no (show ¬ P j = (t : Int) by omega)]; simp [c]), (KA.out.trans (Kept.of_below bB'.out)).trans kC⟩
    · have e : j = s := by omega
      have kp := HKP.out
      have n1 : ¬ w.heap.size + 1 = g := by omega
      have M4 := hide (M3.out.kept kp (by have := Z3.out; omega) n1)
      have G4 := hide (G3.out.kept kp (by have := Z3.out; omega) n1)
      have OV4 := hide (OV.out.kept kp (fun b q e => HNE.out b q e))
      have B4 := hide (B3.out.trans (kp.below B3.out.size (fun j e => by have e : j = g := e; omega)))
      have R4 := hide (HRW.out.same (E := fun p => scaS P S (p : Int) s) (fun t ht => by rw [e]))
      clear kp
      obtain ⟨y0, y1⟩ := M4.out
      obtain ⟨v0, v1⟩ := HBX.out
      have gg := G4.out
      unfold Free at gg
      go_wp2_with fail
      refine bodyPost_ret (v := .agg #[.slice va q vc, .slice (some ⟨g, 0, none⟩) z z]) (by simp [results, Try.results14, go_sem, y0, y1]) rfl ?_
      show TensR w.heap.size (foldP (q + 1) s D S (k : Int) t n) w _ _
      rw [ez.out]
      exact tens_end (v := ⟨q, z, E, fun p => scaS P S (p : Int) s⟩) (B := w.heap.size + 1 + 1) ⟨OV4.out.mono (by omega), .inr ⟨g, rfl, by omega, R4.out⟩, fun j q1 q2 => by
          obtain ⟨_, ad, e', e''⟩ := q2
          injection e' with e'
          subst e'
          have e'' : g = j := e''
          exact HNE.out j q1 e''.symm⟩ (by omega) (by omega) B4.out
end Vo
end Go.Proofs.Ytldcacdopijfdab
