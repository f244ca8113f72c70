/- Pad of the model. -/
import Derived.Test.YtajigcbpooblbaaTy
import Derived.Test.YtajigcbpooblbaaTz
namespace Go.Proofs.Ytajigcbpooblbaa
namespace Vo
open Go.ChangeShapes Go.WideShapes Go.ChangeAt Go.RowKit Go.Joins Go.Sort
open Vl Vp Vr
set_option linter.unusedVariables false
set_option linter.unusedSimpArgs false

theorem scaB_none {I X A : Nat → Int} {p j : Int} {q : Nat} (h : ∀ t, t < q → ¬ (I t = p ∧ A t < j)) : scaB I X A p j q = 0 := by
  induction q with
  | zero => rfl
  | succ q ih => rw [scaB_no (h q (by omega))]; exact ih (fun t ht => h t (by omega))
/-- where no two belong to one place -/
theorem scaJ_set {S I : Nat → Int} {q k0 iv p0 j : Nat} {b n : Int} (hb : 1 ≤ b) (hn : 1 ≤ n) (hq : 1 ≤ q) (e0 : (j : Int) / b % (q : Int) = k0) (e1 : I k0 = iv) (hiv : (iv : Int) < n) (e2 : mv n b q iv j = p0) (inj : ∀ t, t < q → I t = iv → t = k0) (hS : 0 ≤ S j ∧ S j < 2147483647) :
    scaJ S I q b n ((j + 1 : Nat) : Int) p0 = S j ∧ ∀ p : Nat, p ≠ p0 → scaJ S I q b n ((j + 1 : Nat) : Int) p = scaJ S I q b n j p := by
  obtain ⟨st, st2⟩ := scaJ_step (S := S) hb hn hq e0 e1 hiv e2
  refine ⟨?_, st2⟩
  have m0 := Int.emod_nonneg (j : Int) (show b ≠ 0 by omega)
  have m1 := Int.emod_lt_of_pos (j : Int) (show 0 < b by omega)
  have bk := part_back (q : Int) b (j : Int) (by omega) hb
  rw [e0] at bk
  have p3 := part3 (n := n) (b := b) (x := (j : Int) / (q * b)) (k := (iv : Int)) (q := (j : Int) % b) hb (by omega) hiv m0 m1
  have e2' : ((j : Int) / (q * b) * n + iv) * b + (j : Int) % b = p0 := e2
  rw [e2'] at p3
  have eA : mv (q : Int) b n k0 p0 = j := by unfold mv; rw [p3.1, p3.2.2]; exact bk
  have z : scaJ S I q b n j p0 = 0 := scaB_none (fun t ht e => by
    obtain ⟨f1, f2⟩ := e
    rw [p3.2.1] at f1
    have et := inj t ht f1
    subst et
    have f2 : mv (q : Int) b n t p0 < j := f2
    omega)
  rw [st, z, Int.zero_add, Int.emod_eq_of_lt hS.1 hS.2]
theorem pad_ways (bf af gp : Int) :
    (¬ PadOk bf af gp ∧ (decide (bf < 0) = true ∨ (decide (bf < 0) = false ∧ decide (4096 < bf) = true) ∨ (decide (bf < 0) = false ∧ decide (4096 < bf) = false ∧ decide (af < 0) = true) ∨ (decide (bf < 0) = false ∧ decide (4096 < bf) = false ∧ decide (af < 0) = false ∧ decide (4096 < af) = true) ∨ (decide (bf < 0) = false ∧ decide (4096 < bf) = false ∧ decide (af < 0) = false ∧ decide (4096 < af) = false ∧ decide (gp < 0) = true) ∨ (decide (bf < 0) = false ∧ decide (4096 < bf) = false ∧ decide (af < 0) = false ∧ decide (4096 < af) = false ∧ decide (gp < 0) = false ∧ decide (4096 < gp) = true))) ∨
    (PadOk bf af gp ∧ decide (bf < 0) = false ∧ decide (4096 < bf) = false ∧ decide (af < 0) = false ∧ decide (4096 < af) = false ∧ decide (gp < 0) = false ∧ decide (4096 < gp) = false) := by
  simp only [decide_eq_true_eq, decide_eq_false_iff_not]
  unfold PadOk
  omega
set_option maxRecDepth 100000 in
set_option maxHeartbeats 3000000 in
theorem specPad (B : Nat) (a : Addr) (b : Option Addr) (r s cap dap : Nat) (D S : Nat → Int) (x bf af gp : Int) (w : World) (hB : B ≤ w.heap.size) (h : Ints B w (some a) r D) (h' : Ints B w b s S) (hr : (r : Int) ≤ 1048576) (hs : (s : Int) ≤ 1048576) :
    Calls Try.prog 23 #[.agg #[.slice (some a) r cap, .slice b s dap], .int .i64 x, .int .i64 bf, .int .i64 af, .int .i64 gp] w fun e w' => TensR w.heap.size (padP r s D S x bf af gp) w e w' := by
  obtain ⟨W0, hW0⟩ : ∃ W0, (w.alloc (.cells #[.slice (some a) r cap, .slice b s dap] 26)).alloc (.cells #[.slice none 0 0, .slice none 0 0] 26) = W0 := ⟨_, rfl⟩
  have hs0 : W0.heap.size = w.heap.size + 1 + 1 := by rw [← hW0]; simp
  have bl : Below w.heap.size w W0 := by rw [← hW0]; exact ((Below.refl _ _).alloc (Nat.le_refl _) _).alloc (by simp) _
  have n0 : Bx W0 w.heap.size (.slice (some a) r cap) (.slice b s dap) := by
    rw [← hW0]; exact (bx_new w (.slice (some a) r cap) (.slice b s dap) 26).below ((Below.refl (w.heap.size + 1) _).alloc (by simp) _) (by omega)
  have m0 : Bx W0 (w.heap.size + 1) (.slice none 0 0) (.slice none 0 0) := by
    have q := bx_new (w.alloc (.cells #[.slice (some a) r cap, .slice b s dap] 26)) (.slice none 0 0) (.slice none 0 0) 26
    rw [World.size_alloc] at q
    rw [← hW0]; exact q
  have g0 : Free W0 (w.heap.size + 1) := by
    have q := free_new (w.alloc (.cells #[.slice (some a) r cap, .slice b s dap] 26)) #[.slice none 0 0, .slice none 0 0] 26
    rw [World.size_alloc] at q
    rw [← hW0]; exact q
  have H := hide (h.below (bl.mono hB))
  have H' := hide (h'.below (bl.mono hB))
  have BL := hide bl
  have HS0 := hide hs0
  have N0 := hide n0
  have M0 := hide m0
  have G0 := hide g0
  obtain ⟨x0, x1⟩ := n0
  clear h h' bl m0 g0 hs0
  go_enter Try.func23, Try.ntmps23
  go_wp2_with fail
  clear hW0
  refine (l4Axis B (some a) b r s cap dap D S x _ (by have := HS0.out; omega) H.out H'.out hr hs).mono ?_
  rintro e w1 ⟨rfl, b1⟩
  have z0 := HS0.out
  have N1 := hide (N0.out.below b1 (by omega))
  have M1 := hide (M0.out.below b1 (by omega))
  have G1 := hide (G0.out.below b1 (by omega))
  have B1 := hide (BL.out.trans (b1.mono BL.out.size))
  have H1 := hide (H.out.below (b1.mono (by omega)))
  have H1' := hide (H'.out.below (b1.mono (by omega)))
  have s1 : w.heap.size + 1 < w1.heap.size := by have := b1.size; omega
  clear b1 x0 x1 z0
  obtain ⟨x0, x1⟩ := N1.out
  obtain ⟨y0, y1⟩ := M1.out
  have gg := G1.out
  unfold Free at gg
  by_cases hx : tok r s D S = true ∧ 0 ≤ x ∧ x < r
  rotate_left
  · have ez := hide (padP_no (r := r) (s := s) (D := D) (S := S) (x := x) (bf := bf) (af := af) (gp := gp) (fun q => q.1 (lenA_no hx)))
    rw [decide_eq_false hx]
    clear hx
    go_wp2_with fail
    refine bodyPost_ret (v := .agg #[.slice none 0 0, .slice none 0 0]) (by simp [results, Try.results23, go_sem, y0, y1]) rfl (by
      rw [ez.out]
      refine tensR_zero ?_
      repeat (refine Below.setCell ?_ (by simp) _)
      exact B1.out)
  rw [decide_eq_true hx]
  obtain ⟨ht, hx0, hx1⟩ := hx
  obtain ⟨k, rfl⟩ : ∃ k : Nat, x = k := ⟨x.toNat, by omega⟩
  have hk : k < r := by omega
  have hl : lenA r s D S (k : Int) = D k := by rw [lenA_yes ⟨ht, hx0, hx1⟩, Int.toNat_natCast]
  obtain ⟨td, ts, tw⟩ := tok_split ht
  obtain ⟨dk0, dk1⟩ := dok_len td hk
  have r6 : r ≤ 6 := (dok_iff.1 td).1
  have HT := hide ht
  have TD := hide td
  have TS := hide ts
  have TW := hide tw
  have HLA := hide hl
  have s4 : (s : Int) ≤ 4096 := by rw [← ts]; exact (szR_rng D r).2
  clear ht hx0 hx1 td ts tw hl
  rcases H1.out with h0 | ⟨ab, ao, hae, hab, hac⟩
  · omega
  injection hae with hae
  subst hae
  have ca := (hac k hk).1
  have kI : (k : Int) < r := by omega
  clear hac
  obtain ⟨q, hq0⟩ : ∃ q : Nat, D k = q := ⟨(D k).toNat, by omega⟩
  have q1 : 1 ≤ q := by omega
  have q4 : (q : Int) ≤ 4096 := by omega
  have HQ := hide (show (q : Int) = D k from hq0.symm)
  rw [hq0] at ca
  clear hq0
  rcases pad_ways bf af gp with ⟨hn, ways⟩ | ⟨hok, f1, f2, f3, f4, f5, f6⟩
  · have ez := hide (padP_no (r := r) (s := s) (D := D) (S := S) (x := (k : Int)) (bf := bf) (af := af) (gp := gp) (fun q => hn q.2))
    clear hn
    rcases ways with f1 | ⟨f1, f2⟩ | ⟨f1, f2, f3⟩ | ⟨f1, f2, f3, f4⟩ | ⟨f1, f2, f3, f4, f5⟩ | ⟨f1, f2, f3, f4, f5, f6⟩
    all_goals (go_wp2_with fail)
    all_goals (refine bodyPost_ret (v := .agg #[.slice none 0 0, .slice none 0 0]) (by simp [results, Try.results23, go_sem, y0, y1]) rfl (by
      rw [ez.out]
      refine tensR_zero ?_
      repeat (refine Below.setCell ?_ (by simp) _)
      exact B1.out))
  have pm := pad_mul hok q4 (k := 0) (by omega)
  obtain ⟨⟨a1, a2⟩, ⟨a3, a4⟩, a5, a6⟩ := hok
  have hok : PadOk bf af gp := ⟨⟨a1, a2⟩, ⟨a3, a4⟩, a5, a6⟩
  obtain ⟨y, hy⟩ : ∃ y, ((q : Int) - 1) * gp = y := ⟨_, rfl⟩
  have yy : ((q : Int) - 1) * (gp + 1) = y + ((q : Int) - 1) := by rw [Int.mul_add, hy, Int.mul_one]
  have y0' : 0 ≤ y := by rw [← hy]; exact Int.mul_nonneg (by omega) (by omega)
  obtain ⟨n, hn⟩ : ∃ n, padN q bf af gp = n := ⟨_, rfl⟩
  have ny : n = bf + q + y + af := by rw [← hn]; unfold padN; omega
  have e1 : IntKind.i64.wrap (bf + (q : Int)) = bf + q := by rw [IntKind.wrap_i64]; omega
  have e2 : IntKind.i64.wrap ((q : Int) - 1) = (q : Int) - 1 := by rw [IntKind.wrap_i64]; omega
  have e3 : IntKind.i64.wrap (((q : Int) - 1) * gp) = y := by rw [hy, IntKind.wrap_i64]; omega
  have e4 : IntKind.i64.wrap (bf + (q : Int) + y) = bf + q + y := by rw [IntKind.wrap_i64]; omega
  have e5 : IntKind.i64.wrap (bf + (q : Int) + y + af) = n := by rw [ny, IntKind.wrap_i64]; omega
  have hbn : bd n := by unfold bd; omega
  have HBN := hide hbn
  obtain ⟨I, hI⟩ : ∃ I, padI bf gp = I := ⟨_, rfl⟩
  have HW := hide (show WI q I n by rw [← hn, ← hI]; exact pad_wi hok q4)
  have IE := hide (show ∀ t : Nat, I t = bf + (t : Int) * (gp + 1) from fun t => by rw [← hI]; rfl)
  have IM := hide (show ∀ t : Nat, t < q → 0 ≤ (t : Int) * (gp + 1) ∧ (t : Int) * (gp + 1) ≤ 16777215 from fun t ht => by have := pad_mul hok q4 ht; omega)
  have IJ := hide (show ∀ t u : Nat, I t = I u → t = u from fun t u e => by
    rw [IE.out, IE.out] at e
    have e : (t : Int) * (gp + 1) = (u : Int) * (gp + 1) := by omega
    have := Int.eq_of_mul_eq_mul_right (show gp + 1 ≠ 0 by omega) e
    omega)
  have EZ := hide (show padP r s D S (k : Int) bf af gp = lineP r s D S (k : Int) n (scaG q I) by
    rw [padP_sca (q := q) (by rw [HLA.out, HQ.out]) (by omega) hok, hn, hI, scaP_yes (by rw [HLA.out, ← HQ.out, wi_yes HW.out]; simp)])
  have GP := hide (show 0 ≤ gp ∧ gp ≤ 4096 ∧ 0 ≤ bf ∧ bf ≤ 4096 from ⟨a5, a6, a1, a2⟩)
  clear pm a1 a2 a3 a4 a5 a6 hok hy yy y0' hn ny hI
  go_wp2_with fail
  refine (l4With B (some ⟨ab, ao, none⟩) r cap k D n _ (by omega) H1.out hr hk HBN.out).mono ?_
  rintro e w2 ⟨g1, c1, rfl, r1, hg1, hg2, b2⟩
  have N2 := hide (N1.out.below b2 (by omega))
  have M2 := hide (M1.out.below b2 (by omega))
  have G2 := hide (G1.out.below b2 (by omega))
  have B2 := hide (B1.out.trans (b2.mono B1.out.size))
  have H2 := hide (H1.out.below (b2.mono (by omega)))
  have H2' := hide (H1'.out.below (b2.mono (by omega)))
  have R1 := hide r1
  have s2 : w1.heap.size ≤ w2.heap.size := b2.size
  clear b2 r1 x0 x1 y0 y1 gg e1 e2 e3 e4 e5 ca hbn f1 f2 f3 f4 f5 f6
  obtain ⟨x0, x1⟩ := N2.out
  obtain ⟨y0, y1⟩ := M2.out
  have gg := G2.out
  unfold Free at gg
  go_wp2_with fail
  refine (Vs.specDimsOk w2.heap.size (some ⟨g1, 0, none⟩) r c1 (up1 D k n) _ (R1.out.ints hg2) hr).mono ?_
  rintro e w2' ⟨rfl, hw⟩
  have hw := hw.symm
  subst hw
  cases hd : dok r (up1 D k n) with
  | false =>
    have ez := hide (EZ.out.trans (lineP_no (fun e => by rw [Int.toNat_natCast, hd] at e; exact absurd e.2 (by decide))))
    clear hd
    go_wp2_with fail
    refine bodyPost_ret (v := .agg #[.slice none 0 0, .slice none 0 0]) (by simp [results, Try.results23, go_sem, y0, y1]) rfl (by
      rw [ez.out]
      refine tensR_zero ?_
      repeat (refine Below.setCell ?_ (by simp) _)
      exact B2.out)
  | true =>
  have ez := hide (EZ.out.trans (lineP_yes (G := scaG q I) HT.out hk hd))
  obtain ⟨V, hV⟩ : ∃ V : Nat → Int, (fun j => scaG q I (lineAt S (D k) (bhd D r k) n j) ((j : Int) / bhd D r k % n).toNat : Nat → Int) = V := ⟨_, rfl⟩
  rw [hV] at ez
  have n1 : 1 ≤ n := by have := (dok_len hd hk).1; rw [up1_at] at this; exact this
  have OT := hide (fun (j : Nat) (hj : (j : Int) < s) (y : Int) => show od (up1 D k n) (up1 (dg D r j) k y) r = mv n (bhd D r k) (D k) y j from od_moved hk (dok_pr TD.out).2 n y (j : Int) (by omega) (by rw [← (dok_pr TD.out).1, TS.out]; exact hj))
  have EK := hide (show up1 D k n k = n from up1_at _ _ _)
  have DO := hide (fun (i : Nat) (hne : i ≠ k) => up1_ne D n hne)
  have PE := hide (show pr (up1 D k n) r = pr D k * n * bhd D r k by rw [pr_axis _ hk, bhd_up1, up1_at, pr_same (E := D) (fun j hj => up1_ne D n (by omega))])
  obtain ⟨E, hE⟩ : ∃ E, up1 D k n = E := ⟨_, rfl⟩
  rw [hE] at ez hd R1 OT EK DO PE
  obtain ⟨z, hn⟩ : ∃ z, cntT r E = z := ⟨_, rfl⟩
  have hn1 : szR E r = (z : Int) := by rw [← hn]; exact (cntT_cast r E).symm
  rw [hn] at ez
  have n4 : (z : Int) ≤ 4096 := by rw [← hn1]; exact (szR_rng E r).2
  have HD := hide hd
  have HN1 := hide hn1
  have HV := hide hV
  clear hd hE hn hn1 hV EZ
  go_wp2_with fail
  refine (l4New w2.heap.size ⟨g1, 0, none⟩ r c1 z E _ (Nat.le_refl _) (R1.out.ints hg2) hr HN1.out n4).mono ?_
  rintro e w3 ⟨va, vc, g, rfl, ov, rg, lg, hg, hne, b3⟩
  have sb := b3.size
  obtain ⟨W3, hW3⟩ : ∃ W3, w3.alloc (.cells #[.slice va r vc, .slice (some ⟨g, 0, none⟩) z z] 26) = W3 := ⟨_, rfl⟩
  have b4 : Below w3.heap.size w3 W3 := by rw [← hW3]; exact (Below.refl _ _).alloc (Nat.le_refl _) _
  have z3 : W3.heap.size = w3.heap.size + 1 := by rw [← hW3]; simp
  have T3 := hide (show Bx W3 w3.heap.size (.slice va r vc) (.slice (some ⟨g, 0, none⟩) z z) by rw [← hW3]; exact bx_new w3 _ _ _)
  have N3 := hide ((N2.out.below b3 (by omega)).below b4 (by omega))
  have M3 := hide ((M2.out.below b3 (by omega)).below b4 (by omega))
  have G3 := hide ((G2.out.below b3 (by omega)).below b4 (by omega))
  have H3 := hide ((H2.out.below (b3.mono (by omega))).below (b4.mono (by omega)))
  have H3' := hide ((H2'.out.below (b3.mono (by omega))).below (b4.mono (by omega)))
  have R3 := hide ((R1.out.below b3 hg2).below b4 (by omega))
  have B3 := hide ((B2.out.trans (b3.mono B2.out.size)).trans (b4.mono (by omega)))
  have OV := hide (ov.below b4)
  have RG := hide (rg.below b4 hg)
  have HNE := hide hne
  have Z3 := hide z3
  have zg : w.heap.size + 1 < g := by omega
  have zg1 : g1 < g := by omega
  have z4 : w.heap.size + 1 < w3.heap.size := by omega
  clear ov rg b3 b4 sb hne z3 x0 x1 y0 y1 gg
  obtain ⟨x0, x1⟩ := T3.out
  go_wp2_with fail
  clear hW3
  have b1' : 1 ≤ bhd D r k := bhd_pos (dok_pr TD.out).2
  obtain ⟨b', hb'⟩ : ∃ b', bhd D r k = b' := ⟨_, rfl⟩
  rw [hb'] at HV OT PE b1'
  obtain ⟨A, hA⟩ : ∃ A, pr D k = A := ⟨_, rfl⟩
  rw [hA] at PE
  have PD := hide (show pr D r = A * (q : Int) * b' by rw [pr_axis D hk, hA, hb', HQ.out])
  have QD := HQ.out
  have ZE := hide (show (z : Int) = A * n * b' by rw [← HN1.out, (dok_pr HD.out).1]; exact PE.out)
  have SE := hide (show (s : Int) = A * (q : Int) * b' by rw [← TS.out, (dok_pr TD.out).1]; exact PD.out)
  have AX := hide (fun (j : Nat) (hj : (j : Int) < s) => show dg D r j k = (j : Int) / b' % (q : Int) by rw [dg_axis hk (dok_pr TD.out).2 (j : Int) (by omega) (by rw [← (dok_pr TD.out).1, TS.out]; exact hj), hb', HQ.out])
  rw [← QD] at HV OT
  have VF := hide (show ∀ p : Nat, (p : Int) < z → scaJ S I q b' n (s : Int) p = V p from fun p hp => by
    rw [← HV.out, scaJ_all b1' n1 (by omega) SE.out (by rw [← ZE.out]; exact hp)]
    show _ = scaS I (lineAt S (q : Int) b' n p) (((p : Int) / b' % n).toNat : Nat) q
    rw [Int.toNat_of_nonneg (Int.emod_nonneg _ (by omega))])
  have VZ := hide (show ∀ p : Nat, scaJ S I q b' n 0 p = 0 from fun p => scaJ_zero b1' n1 p)
  have VS := hide (fun (j : Nat) (hj : (j : Int) < s) (iv p0 : Nat) (k0 : Nat) (e0 : (j : Int) / b' % (q : Int) = k0) (e1 : I k0 = iv) (e2 : mv n b' q iv j = p0) => scaJ_set (S := S) (I := I) (q := q) (n := n) (j := j) b1' n1 (by omega) e0 e1 (by have := HW.out k0 (by have := Int.emod_lt_of_pos ((j : Int) / b') (show (0 : Int) < q by omega); omega); omega) e2 (fun t _ e => IJ.out t k0 (by rw [e, e1])) (TW.out j (by omega)))
  clear hb' hA QD
  go_loopw [14] (fun i wx => ∃ j : Nat, j ≤ s ∧ i = .int .i64 j ∧ Bx wx w3.heap.size (.slice va r vc) (.slice (some ⟨g, 0, none⟩) z z) ∧ Bx wx w.heap.size (.slice (some ⟨ab, ao, none⟩) r cap) (.slice b s dap) ∧ Rw wx g z (scaJ S I q b' n j) ∧ Kept (· = g) W3 wx) (fun i _ => s - (intOf i).toNat)
  case atStart => exact ⟨0, Nat.zero_le _, rfl, T3.out, N3.out, RG.out.same (fun t ht => by exact VZ.out t), Kept.refl _ _⟩
  case round =>
    obtain ⟨X, rfl⟩ : ∃ X, X = wr := ⟨_, rfl⟩
    obtain ⟨j, hj, rfl, hbx, hbt, hrw, hkp⟩ := hrel
    have HBX := hide hbx
    have HBT := hide hbt
    have HRW := hide hrw
    have HKP := hide hkp
    have lX : w3.heap.size + 1 ≤ X.heap.size := by have := HKP.out.size; have := Z3.out; omega
    clear x0 x1
    obtain ⟨u0, u1⟩ := hbt
    clear hrw hkp hbx
    by_cases hlt : j < s
    · have jI : (j : Int) < s := by omega
      have HA := hide (H3.out.kept (by have := Z3.out; omega) HKP.out (fun y hy e => by have e : y = g := e; omega))
      have HA' := hide (H3'.out.kept (by have := Z3.out; omega) HKP.out (fun y hy e => by have e : y = g := e; omega))
      have OVX := hide (OV.out.kept HKP.out (fun b q e => HNE.out b q e))
      have HDD := hide (fun i hi => dok_len TD.out (j := i) hi)
      go_wp2_with fail
      refine (l3Index X.heap.size (some ⟨ab, ao, none⟩) r cap D j _ (HA.out.mono (by omega)) (Nat.le_refl _) (by omega) HDD.out (by omega) (by omega)).mono ?_
      rintro e X1 ⟨rfl, ra, sa, ba⟩
      have dgr := dg_rng D r (fun i hi => (HDD.out i hi).1) (j : Int)
      obtain ⟨av, hav⟩ : ∃ av : Nat, dg D r j k = av := ⟨(dg D r j k).toNat, by have := dgr k hk; omega⟩
      have av1 : av < q := by have := (dgr k hk).2; have := HQ.out; omega
      obtain ⟨iv, hiv⟩ : ∃ iv : Nat, I av = iv := ⟨(I av).toNat, by have := HW.out av av1; omega⟩
      have iv1 : (iv : Int) < n := by have := HW.out av av1; omega
      have iv2 : n ≤ 4096 := by have := (dok_len HD.out hk).2; rw [EK.out] at this; exact this
      have INR := hide (show ∀ i, i < r → 0 ≤ up1 (dg D r j) k iv i ∧ up1 (dg D r j) k iv i < E i from fun i hi => by
        by_cases c : i = k
        · subst c; rw [up1_at, EK.out]; omega
        · rw [up1_ne _ _ c, DO.out i c]; exact dgr i hi)
      have ODR := od_rng E _ r INR.out
      obtain ⟨p0, hp0⟩ : ∃ p0 : Nat, od E (up1 (dg D r j) k iv) r = p0 := ⟨(od E (up1 (dg D r j) k iv) r).toNat, by omega⟩
      have p0z : p0 < z := by have := (dok_pr HD.out).1; have := HN1.out; omega
      have ST := hide (VS.out j jI iv p0 av (by rw [← AX.out j jI, hav]) hiv (by rw [← OT.out j jI, hp0]))
      have RA := hide ra
      have BA := hide ba
      have HP0 := hide hp0
      have HAV := hide hav
      have HIV := hide hiv
      obtain ⟨ca, _, _⟩ := ra k hk
      rw [hav] at ca
      have HBT1 := hide (HBT.out.below ba (by omega))
      have HBX1 := hide (HBX.out.below ba (by omega))
      have HRW1 := hide (HRW.out.below ba (by omega))
      have HA1 := hide (HA.out.below (ba.mono (by omega)))
      have HA1' := hide (HA'.out.below (ba.mono (by omega)))
      have OV1 := hide (OVX.out.below ba)
      have aI : (av : Int) < q := by omega
      have KX := hide (show Kept (· = g) W3 X1 from HKP.out.trans (Kept.of_below ba))
      have lX1 : X.heap.size < X1.heap.size := sa
      clear ra ba dgr hav hiv u0 u1 hp0 ODR
      have gpb := GP.out
      obtain ⟨y2, hy2⟩ : ∃ y2, (av : Int) * (gp + 1) = y2 := ⟨_, rfl⟩
      have y2b := IM.out av av1
      rw [hy2] at y2b
      have ivy : bf + y2 = iv := by rw [← hy2, ← IE.out av]; exact HIV.out
      have e6 : IntKind.i64.wrap (gp + 1) = gp + 1 := by rw [IntKind.wrap_i64]; omega
      have e7 : IntKind.i64.wrap ((av : Int) * (gp + 1)) = y2 := by rw [hy2, IntKind.wrap_i64]; omega
      have e8 : IntKind.i64.wrap (bf + y2) = iv := by rw [ivy, IntKind.wrap_i64]; omega
      have CW := hide (l4With X1.heap.size (some ⟨X.heap.size, 0, none⟩) r r k (dg D r j) iv X1.drew (Nat.le_refl _) (by exact RA.out.ints sa) (by omega) hk (by unfold bd; omega))
      rcases HA1'.out with h0 | ⟨b2, o2, hbe, hb2, hc2⟩
      · omega
      subst hbe
      have cj := (hc2 j hlt).1
      have DV := hide (OV1.out.ints)
      have sS := TW.out j hlt
      have BSj := hide (show bd (S j) by unfold bd; omega)
      obtain ⟨p0', p1'⟩ := HBT1.out
      obtain ⟨v0, v1⟩ := HBX1.out
      have F6 := hide (fun (W : World) (hW : Below X1.drew.heap.size X1.drew W) => show Below X1.heap.size X1 W from (Below.refl _ _).drew.trans hW)
      have F1 := hide (fun (W : World) (hW : Below X1.heap.size X1 W) => HBT1.out.below hW (by omega))
      have F2 := hide (fun (W : World) (hW : Below X1.heap.size X1 W) => HBX1.out.below hW (by omega))
      have CB := hide (fun (W : World) (hW : Below X1.heap.size X1 W) => show W.cell? ⟨b2, o2 + j, none⟩ = some (.int .i64 (S j)) from (hW.cell (p := ⟨b2, o2 + j, none⟩) (by show b2 < X1.heap.size; omega)).trans cj)
      have CK := hide (fun (W : World) (hW : Below X1.heap.size X1 W) => show W.cell? ⟨X.heap.size, k, none⟩ = some (.int .i64 av) from (hW.cell (p := ⟨X.heap.size, k, none⟩) (by show X.heap.size < X1.heap.size; omega)).trans ca)
      have F3 := hide (fun (W W' : World) (hW : Below X1.heap.size X1 W) (kC : Kept (· = g) W W') => (F1.out W hW).kept kC (by have := hW.size; omega) (by show ¬ w.heap.size = g; omega))
      have F4 := hide (fun (W W' : World) (hW : Below X1.heap.size X1 W) (kC : Kept (· = g) W W') => (F2.out W hW).kept kC (by have := hW.size; omega) (by show ¬ w3.heap.size = g; omega))
      have F5 := hide (fun (W W' : World) (hW : Below X1.heap.size X1 W) (kC : Kept (· = g) W W') => (World.cell?_of_block (w := W) (a := ⟨b2, o2 + j, none⟩) (kC.block b2 (by have := hW.size; omega) (by show ¬ b2 = g; omega))).trans (CB.out W hW))
      have F7 := hide (fun (W W' : World) (hW : Below X1.heap.size X1 W) (kC : Kept (· = g) W W') => (World.cell?_of_block (w := W) (a := ⟨X.heap.size, k, none⟩) (kC.block X.heap.size (by have := hW.size; omega) (by show ¬ X.heap.size = g; omega))).trans (CK.out W hW))
      have CSet := hide (fun (W : World) (gi gc : Nat) (hW : Below X1.heap.size X1 W) (lgi : gi < W.heap.size) (qi : Rw W gi r (up1 (dg D r j) k iv)) => l4Set W.heap.size va (some ⟨gi, 0, none⟩) r z vc z r gc g p0 E (scaJ S I q b' n j) (up1 (dg D r j) k iv) (S j) W (Nat.le_refl _) ((DV.out.below hW).mono hW.size) (qi.ints lgi) (Nat.le_refl _) HD.out HN1.out INR.out HP0.out (HRW1.out.below hW (by omega)) (by have := hW.size; omega) BSj.out)
      clear hc2 sS hy2 y2b ivy gpb
      go_wp2_with fail
      go_region_held3 (fun w' => w'.cell? ⟨w.heap.size, 0, none⟩ = some (.slice (some ⟨ab, ao, none⟩) r cap) ∧ w'.cell? ⟨w.heap.size, 1, none⟩ = some (.slice (some ⟨b2, o2, none⟩) s dap) ∧ w'.cell? ⟨w3.heap.size, 0, none⟩ = some (.slice va r vc) ∧ w'.cell? ⟨w3.heap.size, 1, none⟩ = some (.slice (some ⟨g, 0, none⟩) z z) ∧ w'.cell? ⟨b2, o2 + j, none⟩ = some (.int .i64 (S j)) ∧ w'.cell? ⟨X.heap.size, k, none⟩ = some (.int .i64 av))
        ((try dsimp only) <;> (repeat' apply And.intro) <;> (first | with_reducible assumption | assumption))
        (first
        | (go_at_call 45
           refine CW.out.mono ?_
           rintro e wB ⟨gi, gc, rfl, qi, hgi, lgi, bB⟩
           have bB' := hide (F6.out wB bB)
           have QI := hide qi
           have cj2 := CB.out wB bB'.out
           have ck2 := CK.out wB bB'.out
           obtain ⟨q0', q1'⟩ := F1.out wB bB'.out
           obtain ⟨q2', q3'⟩ := F2.out wB bB'.out
           clear bB qi)
        | (go_at_call 50
           refine (CSet.out _ gi gc bB'.out lgi QI.out).mono ?_
           rintro e wC ⟨⟨v, rfl⟩, rC, kC⟩
           have cj3 := F5.out _ _ bB'.out kC
           have ck3 := F7.out _ _ bB'.out kC
           obtain ⟨s0', s1'⟩ := F3.out _ _ bB'.out kC
           obtain ⟨s2', s3'⟩ := F4.out _ _ bB'.out kC))
      all_goals (go_wp2_with fail)
      all_goals go_roundw
      all_goals first
        | (simp only [intOf]; omega)
        | (simp [intOf]; omega)
        | exact ⟨j + 1, by omega, by go_num, F4.out _ _ bB'.out kC, F3.out _ _ bB'.out kC, rC.same (fun t ht => by
            by_cases c : t = p0
            · subst c; simp only [if_true]; exact ST.out.1
            · simp only [c, if_false]; exact ST.out.2 t c), (KX.out.trans (Kept.of_below bB'.out)).trans kC⟩
    · have e : j = s := by omega
      have kp := HKP.out
      have n1 : ¬ w.heap.size + 1 = g := by omega
      have M4 := hide (M3.out.kept kp (by have := Z3.out; omega) n1)
      have G4 := hide (G3.out.kept kp (by have := Z3.out; omega) n1)
      have OV4 := hide (OV.out.kept kp (fun b q e => HNE.out b q e))
      have B4 := hide (B3.out.trans (kp.below B3.out.size (fun j e => by have e : j = g := e; omega)))
      have R4 := hide (HRW.out.same (E := V) (fun t ht => by rw [e]; exact (VF.out t (by omega)).symm))
      clear kp
      obtain ⟨y0, y1⟩ := M4.out
      obtain ⟨v0, v1⟩ := HBX.out
      have gg := G4.out
      unfold Free at gg
      go_wp2_with fail
      refine bodyPost_ret (v := .agg #[.slice va r vc, .slice (some ⟨g, 0, none⟩) z z]) (by simp [results, Try.results23, go_sem, y0, y1]) rfl ?_
      show TensR w.heap.size (padP r s D S (k : Int) bf af gp) w _ _
      rw [ez.out]
      exact tens_end (v := ⟨r, z, E, V⟩) (B := w.heap.size + 1 + 1) ⟨OV4.out.mono (by omega), .inr ⟨g, rfl, by omega, R4.out⟩, fun j q1 q2 => by
          obtain ⟨_, ad, e', e''⟩ := q2
          injection e' with e'
          subst e'
          have e'' : g = j := e''
          exact HNE.out j q1 e''.symm⟩ (by omega) (by omega) B4.out
end Vo
end Go.Proofs.Ytajigcbpooblbaa
