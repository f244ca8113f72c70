/- Scatter of the model. -/
import Derived.Test.YtajigcbpooblbaaTx
import Derived.Deep.RegionHeld3
namespace Go.Proofs.Ytajigcbpooblbaa
namespace Vo
open Go.ChangeShapes Go.WideShapes Go.ChangeAt Go.RowKit Go.Joins Go.Sort
open Vl Vp Vr
set_option linter.unusedVariables false
set_option linter.unusedSimpArgs false

theorem scaP_axis {r s q : Nat} {D S I : Nat → Int} {x n : Int} (h : ¬ (tok r s D S = true ∧ 0 ≤ x ∧ x < r)) : scaP r s q D S I x n = PT.zero := by
  unfold scaP
  split
  · exact lineP_no (fun e => h e.1)
  · rfl
theorem scaP_dims {r s q k : Nat} {D S I : Nat → Int} {n : Int} (h : dok r (up1 D k n) = false) : scaP r s q D S I (k : Int) n = PT.zero := by
  unfold scaP
  split
  · exact lineP_no (fun e => by rw [Int.toNat_natCast, h] at e; exact absurd e.2 (by decide))
  · rfl
/-- of the first ones, those that belong to p and whose place is below j, added up -/
def scaB (I X A : Nat → Int) (p j : Int) : Nat → Int | 0 => 0 | t + 1 => if I t = p ∧ A t < j then (scaB I X A p j t + X t) % 2147483647 else scaB I X A p j t
theorem scaB_rng (I X A : Nat → Int) (p j : Int) (n : Nat) : 0 ≤ scaB I X A p j n ∧ scaB I X A p j n < 2147483647 := by
  induction n with
  | zero => simp [scaB]
  | succ n ih => unfold scaB; split <;> omega
theorem scaB_yes {I X A : Nat → Int} {p j : Int} {t : Nat} (h : I t = p ∧ A t < j) : scaB I X A p j (t + 1) = (scaB I X A p j t + X t) % 2147483647 := by show (if I t = p ∧ A t < j then _ else _) = _; rw [if_pos h]
theorem scaB_no {I X A : Nat → Int} {p j : Int} {t : Nat} (h : ¬ (I t = p ∧ A t < j)) : scaB I X A p j (t + 1) = scaB I X A p j t := by show (if I t = p ∧ A t < j then _ else _) = _; rw [if_neg h]
theorem scaB_zero {I X A : Nat → Int} {p : Int} {q : Nat} (h : ∀ t, t < q → 0 ≤ A t) : scaB I X A p 0 q = 0 := by
  induction q with
  | zero => rfl
  | succ q ih => rw [scaB_no (fun e => by have := h q (by omega); omega)]; exact ih (fun t ht => h t (by omega))
theorem scaB_all {I X A : Nat → Int} {p j : Int} {q : Nat} (h : ∀ t, t < q → A t < j) : scaB I X A p j q = scaS I X p q := by
  induction q with
  | zero => rfl
  | succ q ih =>
    have ih := ih (fun t ht => h t (by omega))
    by_cases c : I q = p
    · rw [scaB_yes ⟨c, h q (by omega)⟩, scaS_yes c, ih]
    · rw [scaB_no (fun e => c e.1), scaS_no c, ih]
theorem scaB_same {I X A : Nat → Int} {p j : Int} {q : Nat} (h : ∀ t, t < q → ¬ (I t = p ∧ A t = j)) : scaB I X A p (j + 1) q = scaB I X A p j q := by
  induction q with
  | zero => rfl
  | succ q ih =>
    have ih := ih (fun t ht => h t (by omega))
    have hq := h q (by omega)
    by_cases c : I q = p ∧ A q < j
    · rw [scaB_yes c, scaB_yes ⟨c.1, by omega⟩, ih]
    · rw [scaB_no c, scaB_no (fun e => by rcases e with ⟨e1, e2⟩; by_cases e3 : A q = j; exact hq ⟨e1, e3⟩; exact c ⟨e1, by omega⟩), ih]
theorem scaB_next {I X A : Nat → Int} {p j : Int} {q t0 : Nat} (mono : ∀ t u, t < u → A t < A u) (h0 : t0 < q) (hI : I t0 = p) (hA : A t0 = j) : scaB I X A p (j + 1) q = (scaB I X A p j q + X t0) % 2147483647 := by
  induction q with
  | zero => omega
  | succ q ih =>
    by_cases c : t0 = q
    · subst c
      rw [scaB_yes ⟨hI, by omega⟩, scaB_no (fun e => by omega), scaB_same (fun t ht e => by have := mono t t0 ht; omega)]
    · have m := mono t0 q (by omega)
      rw [scaB_no (fun e => by omega), scaB_no (fun e => by omega)]
      exact ih (by omega)
/-- what stands at place p when the places below j have been added -/
def scaJ (S I : Nat → Int) (q : Nat) (b n : Int) (j : Int) (p : Nat) : Int := scaB I (lineAt S (q : Int) b n p) (fun t => mv (q : Int) b n t p) ((p : Int) / b % n) j q
theorem scaJ_rng (S I : Nat → Int) (q : Nat) (b n j : Int) (p : Nat) : 0 ≤ scaJ S I q b n j p ∧ scaJ S I q b n j p < 2147483647 := scaB_rng _ _ _ _ _ _
theorem mv_mono {l b n j : Int} (hb : 1 ≤ b) {t u : Nat} (h : t < u) : mv l b n (t : Int) j < mv l b n (u : Int) j := by
  unfold mv
  have : (j / (n * b) * l + t) * b < (j / (n * b) * l + u) * b := Int.mul_lt_mul_of_pos_right (by omega) (by omega)
  omega
theorem scaJ_zero {S I : Nat → Int} {q : Nat} {b n : Int} (hb : 1 ≤ b) (hn : 1 ≤ n) (p : Nat) : scaJ S I q b n 0 p = 0 := by
  refine scaB_zero (fun t ht => ?_)
  have nb : 1 ≤ n * b := by have := Int.mul_le_mul hn hb (by omega) (by omega); omega
  have q0 : 0 ≤ (p : Int) / (n * b) := Int.ediv_nonneg (by omega) (by omega)
  have m0 := Int.emod_nonneg (p : Int) (show b ≠ 0 by omega)
  have t0 : 0 ≤ (p : Int) / (n * b) * q := Int.mul_nonneg q0 (by omega)
  have t2 : 0 ≤ ((p : Int) / (n * b) * q + t) * b := Int.mul_nonneg (by omega) (by omega)
  show 0 ≤ mv (q : Int) b n t p
  unfold mv
  omega
theorem scaJ_all {S I : Nat → Int} {q p : Nat} {b n A : Int} {s : Int} (hb : 1 ≤ b) (hn : 1 ≤ n) (hq : 1 ≤ q) (hs : s = A * q * b) (hp : (p : Int) < A * n * b) : scaJ S I q b n s p = scaS I (lineAt S (q : Int) b n p) ((p : Int) / b % n) q :=
  scaB_all (fun t ht => by rw [hs]; exact (mv_rng hb hn (by omega) (by omega) (by omega) hp).2)
theorem scaJ_step {S I : Nat → Int} {q k0 iv p0 j : Nat} {b n : Int} (hb : 1 ≤ b) (hn : 1 ≤ n) (hq : 1 ≤ q) (e0 : (j : Int) / b % (q : Int) = k0) (e1 : I k0 = iv) (hiv : (iv : Int) < n) (e2 : mv n b q iv j = p0) :
    scaJ S I q b n ((j + 1 : Nat) : Int) p0 = (scaJ S I q b n j p0 + S j) % 2147483647 ∧ ∀ p : Nat, p ≠ p0 → scaJ S I q b n ((j + 1 : Nat) : Int) p = scaJ S I q b n j p := by
  have m0 := Int.emod_nonneg (j : Int) (show b ≠ 0 by omega)
  have m1 := Int.emod_lt_of_pos (j : Int) (show 0 < b by omega)
  have hk0 : k0 < q := by have := Int.emod_lt_of_pos ((j : Int) / b) (show (0 : Int) < q by omega); omega
  have bk := part_back (q : Int) b (j : Int) (by omega) hb
  rw [e0] at bk
  have cj : (((j + 1 : Nat) : Int)) = (j : Int) + 1 := by omega
  rw [cj]
  constructor
  · have p3 := part3 (n := n) (b := b) (x := (j : Int) / (q * b)) (k := (iv : Int)) (q := (j : Int) % b) hb (by omega) hiv m0 m1
    have e2' : ((j : Int) / (q * b) * n + iv) * b + (j : Int) % b = p0 := e2
    rw [e2'] at p3
    have eA : mv (q : Int) b n k0 p0 = j := by unfold mv; rw [p3.1, p3.2.2]; exact bk
    have st := scaB_next (I := I) (X := lineAt S (q : Int) b n p0) (A := fun t => mv (q : Int) b n t p0) (p := (p0 : Int) / b % n) (j := (j : Int)) (q := q) (t0 := k0) (fun t u h => mv_mono hb h) hk0 (by rw [p3.2.1, e1]) eA
    have e3 : lineAt S (q : Int) b n p0 k0 = S j := by unfold lineAt; rw [eA, Int.toNat_natCast]
    rw [e3] at st
    exact st
  · intro p hp
    refine scaB_same (fun t ht e => hp ?_)
    obtain ⟨f1, f2⟩ := e
    have f2 : ((p : Int) / (n * b) * q + t) * b + (p : Int) % b = j := f2
    have n0 := Int.emod_nonneg (p : Int) (show b ≠ 0 by omega)
    have n1 := Int.emod_lt_of_pos (p : Int) (show 0 < b by omega)
    have p3 := part3 (n := (q : Int)) (b := b) (x := (p : Int) / (n * b)) (k := (t : Int)) (q := (p : Int) % b) hb (by omega) (by omega) n0 n1
    rw [f2] at p3
    have et : t = k0 := by omega
    subst et
    have pb := part_back n b (p : Int) hn hb
    rw [← f1, e1, ← p3.1, ← p3.2.2] at pb
    have e2' : ((j : Int) / (q * b) * n + iv) * b + (j : Int) % b = p0 := e2
    omega
set_option maxHeartbeats 1000000 in
theorem l4Set (B : Nat) (a c : Option Addr) (r s cap dap q cap' g p : Nat) (D F I : Nat → Int) (y : Int) (w : World) (hB : B ≤ w.heap.size) (h : Ints B w a r D) (h' : Ints B w c q I) (hq : r ≤ q) (td : dok r D = true) (ts : szR D r = s) (hi : ∀ j, j < r → 0 ≤ I j ∧ I j < D j) (hp : od D I r = p) (rg : Rw w g s F) (lg : g < w.heap.size) (hy : bd y) :
    Calls Try.prog 50 #[.agg #[.slice a r cap, .slice (some ⟨g, 0, none⟩) s dap], .slice c q cap', .int .i64 y] w fun e w' => (∃ v, e = .returned v) ∧ Rw w' g s (fun t => if t = p then y else F t) ∧ Kept (· = g) w w' := by
  have od1 := od_rng D I r hi
  have ps : p < s := by have := (dok_pr td).1; omega
  have s4 : (s : Int) ≤ 4096 := by rw [← ts]; exact (szR_rng D r).2
  have pI : (p : Int) < s := by omega
  obtain ⟨W0, hW0⟩ : ∃ W0, w.alloc (.cells #[.slice a r cap, .slice (some ⟨g, 0, none⟩) s dap] 26) = W0 := ⟨_, rfl⟩
  have bl : Below w.heap.size w W0 := by rw [← hW0]; exact (Below.refl _ _).alloc (Nat.le_refl _) _
  have z0 : W0.heap.size = w.heap.size + 1 := by rw [← hW0]; simp
  have n0 : Bx W0 w.heap.size (.slice a r cap) (.slice (some ⟨g, 0, none⟩) s dap) := by rw [← hW0]; exact bx_new w _ _ _
  have H := hide (h.below (bl.mono hB))
  have H' := hide (h'.below (bl.mono hB))
  have RG := hide (rg.below bl lg)
  have BL := hide bl
  have N0 := hide n0
  have HP := hide hp
  have HI := hide hi
  have TD := hide td
  have HY := hide hy
  have Z0 := hide z0
  obtain ⟨x0, x1⟩ := n0
  clear h h' rg bl hp hi td hy od1 z0 ts
  go_enter Try.func50, Try.ntmps50
  go_wp2_with fail
  clear hW0
  go_region_with (first
    | (go_at_call 79
       refine (l3Order B a c r cap q cap' D I W0.drew (by have := Z0.out; show B ≤ W0.heap.size; omega) H.out H'.out hq TD.out HI.out).mono ?_
       rintro e w1 ⟨rfl, b1⟩
       rw [HP.out]
       have RG1 := hide (Rw.below (w := W0.drew) RG.out b1 (by have := Z0.out; show g < W0.heap.size; omega))
       have N1 := hide (Bx.below (w := W0.drew) N0.out b1 (by have := Z0.out; show w.heap.size < W0.heap.size; omega))
       obtain ⟨k0, k1⟩ := N1.out
       obtain ⟨c1, f1, _⟩ := RG1.out p ps))
  all_goals (go_wp2_with fail)
  all_goals exact bodyPost_end (results_none rfl _ _ _) rfl ⟨⟨_, rfl⟩, RG1.out.set p y HY.out, ((Kept.of_below BL.out).trans (Kept.of_below ((Below.refl _ _).drew.trans b1))).trans (Kept.setCell _ ⟨g, p, none⟩ _)⟩
set_option maxRecDepth 100000 in
set_option maxHeartbeats 3000000 in
theorem specScatter (B : Nat) (a : Addr) (b : Option Addr) (ci : Addr) (r s q cap dap cap' : Nat) (D S I : Nat → Int) (x n : Int) (w : World) (hB : B ≤ w.heap.size) (h : Ints B w (some a) r D) (h' : Ints B w b s S) (hI : Ints B w (some ci) q I) (hr : (r : Int) ≤ 1048576) (hs : (s : Int) ≤ 1048576) (hq : (q : Int) ≤ 1048576) (hbn : bd n) :
    Calls Try.prog 21 #[.agg #[.slice (some a) r cap, .slice b s dap], .int .i64 x, .slice (some ci) q cap', .int .i64 n] w fun e w' => TensR w.heap.size (scaP r s q D S I x n) w e w' := by
  obtain ⟨W0, hW0⟩ : ∃ W0, (w.alloc (.cells #[.slice (some a) r cap, .slice b s dap] 26)).alloc (.cells #[.slice none 0 0, .slice none 0 0] 26) = W0 := ⟨_, rfl⟩
  have hs0 : W0.heap.size = w.heap.size + 1 + 1 := by rw [← hW0]; simp
  have bl : Below w.heap.size w W0 := by rw [← hW0]; exact ((Below.refl _ _).alloc (Nat.le_refl _) _).alloc (by simp) _
  have n0 : Bx W0 w.heap.size (.slice (some a) r cap) (.slice b s dap) := by
    rw [← hW0]; exact (bx_new w (.slice (some a) r cap) (.slice b s dap) 26).below ((Below.refl (w.heap.size + 1) _).alloc (by simp) _) (by omega)
  have m0 : Bx W0 (w.heap.size + 1) (.slice none 0 0) (.slice none 0 0) := by
    have q := bx_new (w.alloc (.cells #[.slice (some a) r cap, .slice b s dap] 26)) (.slice none 0 0) (.slice none 0 0) 26
    rw [World.size_alloc] at q
    rw [← hW0]; exact q
  have g0 : Free W0 (w.heap.size + 1) := by
    have q := free_new (w.alloc (.cells #[.slice (some a) r cap, .slice b s dap] 26)) #[.slice none 0 0, .slice none 0 0] 26
    rw [World.size_alloc] at q
    rw [← hW0]; exact q
  have H := hide (h.below (bl.mono hB))
  have H' := hide (h'.below (bl.mono hB))
  have HI := hide (hI.below (bl.mono hB))
  have BL := hide bl
  have HS0 := hide hs0
  have N0 := hide n0
  have M0 := hide m0
  have G0 := hide g0
  obtain ⟨x0, x1⟩ := n0
  clear h h' hI bl m0 g0 hs0
  go_enter Try.func21, Try.ntmps21
  go_wp2_with fail
  clear hW0
  refine (l4Axis B (some a) b r s cap dap D S x _ (by have := HS0.out; omega) H.out H'.out hr hs).mono ?_
  rintro e w1 ⟨rfl, b1⟩
  have z0 := HS0.out
  have N1 := hide (N0.out.below b1 (by omega))
  have M1 := hide (M0.out.below b1 (by omega))
  have G1 := hide (G0.out.below b1 (by omega))
  have B1 := hide (BL.out.trans (b1.mono BL.out.size))
  have H1 := hide (H.out.below (b1.mono (by omega)))
  have H1' := hide (H'.out.below (b1.mono (by omega)))
  have HI1 := hide (HI.out.below (b1.mono (by omega)))
  have s1 : w.heap.size + 1 < w1.heap.size := by have := b1.size; omega
  clear b1 x0 x1 z0
  obtain ⟨x0, x1⟩ := N1.out
  obtain ⟨y0, y1⟩ := M1.out
  have gg := G1.out
  unfold Free at gg
  by_cases hx : tok r s D S = true ∧ 0 ≤ x ∧ x < r
  rotate_left
  · have ez := hide (scaP_axis (q := q) (I := I) (n := n) hx)
    rw [decide_eq_false hx]
    clear hx
    go_wp2_with fail
    refine bodyPost_ret (v := .agg #[.slice none 0 0, .slice none 0 0]) (by simp [results, Try.results21, go_sem, y0, y1]) rfl (by
      rw [ez.out]
      refine tensR_zero ?_
      repeat (refine Below.setCell ?_ (by simp) _)
      exact B1.out)
  rw [decide_eq_true hx]
  obtain ⟨ht, hx0, hx1⟩ := hx
  obtain ⟨k, rfl⟩ : ∃ k : Nat, x = k := ⟨x.toNat, by omega⟩
  have hk : k < r := by omega
  have hl : lenA r s D S (k : Int) = D k := by rw [lenA_yes ⟨ht, hx0, hx1⟩, Int.toNat_natCast]
  obtain ⟨td, ts, tw⟩ := tok_split ht
  obtain ⟨dk0, dk1⟩ := dok_len td hk
  have r6 : r ≤ 6 := (dok_iff.1 td).1
  have HT := hide ht
  have TD := hide td
  have TS := hide ts
  have TW := hide tw
  have HLA := hide hl
  have s4 : (s : Int) ≤ 4096 := by rw [← ts]; exact (szR_rng D r).2
  clear ht hx0 hx1 td ts tw hl
  rcases H1.out with h0 | ⟨ab, ao, hae, hab, hac⟩
  · omega
  injection hae with hae
  subst hae
  have ca := (hac k hk).1
  have kI : (k : Int) < r := by omega
  clear hac
  by_cases hq0 : (q : Int) = D k
  rotate_left
  · have hq0' : ((q : Int) != D k) = true := by simp [hq0]
    have hq0'' : ((q : Int) == D k) = false := beq_eq_false_iff_ne.2 hq0
    have ez := hide (scaP_no (r := r) (s := s) (q := q) (D := D) (S := S) (I := I) (x := (k : Int)) (n := n) (by rw [HLA.out, decide_eq_false hq0, Bool.false_and]))
    clear hq0
    go_wp2_with fail
    refine bodyPost_ret (v := .agg #[.slice none 0 0, .slice none 0 0]) (by simp [results, Try.results21, go_sem, y0, y1]) rfl (by
      rw [ez.out]
      refine tensR_zero ?_
      repeat (refine Below.setCell ?_ (by simp) _)
      exact B1.out)
  have hq0' : ((q : Int) != D k) = false := by simp [hq0]
  have hq0'' : ((q : Int) == D k) = true := beq_iff_eq.2 hq0
  have q1 : 1 ≤ q := by omega
  have HQ := hide hq0
  have DK := hide (show decide ((q : Int) = lenA r s D S (k : Int)) = true by rw [HLA.out]; exact decide_eq_true hq0)
  clear hq0
  go_wp2_with fail
  refine (l4Within B (some ci) q cap' I n _ HI1.out hq).mono ?_
  rintro e w1' ⟨rfl, hw⟩
  have hw := hw.symm
  subst hw
  cases hv : wi q I n with
  | false =>
    have ez := hide (scaP_no (r := r) (s := s) (q := q) (D := D) (S := S) (I := I) (x := (k : Int)) (n := n) (by rw [hv, Bool.and_false]))
    clear hv
    go_wp2_with fail
    refine bodyPost_ret (v := .agg #[.slice none 0 0, .slice none 0 0]) (by simp [results, Try.results21, go_sem, y0, y1]) rfl (by
      rw [ez.out]
      refine tensR_zero ?_
      repeat (refine Below.setCell ?_ (by simp) _)
      exact B1.out)
  | true =>
  have HW := hide (of_decide_eq_true (p := WI q I n) hv)
  have EZ := hide (scaP_yes (r := r) (s := s) (q := q) (D := D) (S := S) (I := I) (x := (k : Int)) (n := n) (by rw [DK.out, hv, Bool.and_true]))
  clear hv ca hq0' hq0'' DK
  go_wp2_with fail
  refine (l4With B (some ⟨ab, ao, none⟩) r cap k D n _ (by omega) H1.out hr hk hbn).mono ?_
  rintro e w2 ⟨g1, c1, rfl, r1, hg1, hg2, b2⟩
  have N2 := hide (N1.out.below b2 (by omega))
  have M2 := hide (M1.out.below b2 (by omega))
  have G2 := hide (G1.out.below b2 (by omega))
  have B2 := hide (B1.out.trans (b2.mono B1.out.size))
  have H2 := hide (H1.out.below (b2.mono (by omega)))
  have H2' := hide (H1'.out.below (b2.mono (by omega)))
  have HI2 := hide (HI1.out.below (b2.mono (by omega)))
  have R1 := hide r1
  have s2 : w1.heap.size ≤ w2.heap.size := b2.size
  clear b2 r1 x0 x1 y0 y1 gg
  obtain ⟨x0, x1⟩ := N2.out
  obtain ⟨y0, y1⟩ := M2.out
  have gg := G2.out
  unfold Free at gg
  go_wp2_with fail
  refine (Vs.specDimsOk w2.heap.size (some ⟨g1, 0, none⟩) r c1 (up1 D k n) _ (R1.out.ints hg2) hr).mono ?_
  rintro e w2' ⟨rfl, hw⟩
  have hw := hw.symm
  subst hw
  cases hd : dok r (up1 D k n) with
  | false =>
    have ez := hide (scaP_dims (s := s) (S := S) (I := I) (q := q) hd)
    clear hd
    go_wp2_with fail
    refine bodyPost_ret (v := .agg #[.slice none 0 0, .slice none 0 0]) (by simp [results, Try.results21, go_sem, y0, y1]) rfl (by
      rw [ez.out]
      refine tensR_zero ?_
      repeat (refine Below.setCell ?_ (by simp) _)
      exact B2.out)
  | true =>
  have ez := hide (EZ.out.trans (lineP_yes (G := scaG q I) HT.out hk hd))
  obtain ⟨V, hV⟩ : ∃ V : Nat → Int, (fun j => scaG q I (lineAt S (D k) (bhd D r k) n j) ((j : Int) / bhd D r k % n).toNat : Nat → Int) = V := ⟨_, rfl⟩
  rw [hV] at ez
  have n1 : 1 ≤ n := by have := (dok_len hd hk).1; rw [up1_at] at this; exact this
  have OT := hide (fun (j : Nat) (hj : (j : Int) < s) (y : Int) => show od (up1 D k n) (up1 (dg D r j) k y) r = mv n (bhd D r k) (D k) y j from od_moved hk (dok_pr TD.out).2 n y (j : Int) (by omega) (by rw [← (dok_pr TD.out).1, TS.out]; exact hj))
  have EK := hide (show up1 D k n k = n from up1_at _ _ _)
  have DO := hide (fun (i : Nat) (hne : i ≠ k) => up1_ne D n hne)
  have PE := hide (show pr (up1 D k n) r = pr D k * n * bhd D r k by rw [pr_axis _ hk, bhd_up1, up1_at, pr_same (E := D) (fun j hj => up1_ne D n (by omega))])
  obtain ⟨E, hE⟩ : ∃ E, up1 D k n = E := ⟨_, rfl⟩
  rw [hE] at ez hd R1 OT EK DO PE
  obtain ⟨z, hn⟩ : ∃ z, cntT r E = z := ⟨_, rfl⟩
  have hn1 : szR E r = (z : Int) := by rw [← hn]; exact (cntT_cast r E).symm
  rw [hn] at ez
  have n4 : (z : Int) ≤ 4096 := by rw [← hn1]; exact (szR_rng E r).2
  have HD := hide hd
  have HN1 := hide hn1
  have HV := hide hV
  clear hd hE hn hn1 hV EZ
  go_wp2_with fail
  refine (l4New w2.heap.size ⟨g1, 0, none⟩ r c1 z E _ (Nat.le_refl _) (R1.out.ints hg2) hr HN1.out n4).mono ?_
  rintro e w3 ⟨va, vc, g, rfl, ov, rg, lg, hg, hne, b3⟩
  have sb := b3.size
  obtain ⟨W3, hW3⟩ : ∃ W3, w3.alloc (.cells #[.slice va r vc, .slice (some ⟨g, 0, none⟩) z z] 26) = W3 := ⟨_, rfl⟩
  have b4 : Below w3.heap.size w3 W3 := by rw [← hW3]; exact (Below.refl _ _).alloc (Nat.le_refl _) _
  have z3 : W3.heap.size = w3.heap.size + 1 := by rw [← hW3]; simp
  have T3 := hide (show Bx W3 w3.heap.size (.slice va r vc) (.slice (some ⟨g, 0, none⟩) z z) by rw [← hW3]; exact bx_new w3 _ _ _)
  have N3 := hide ((N2.out.below b3 (by omega)).below b4 (by omega))
  have M3 := hide ((M2.out.below b3 (by omega)).below b4 (by omega))
  have G3 := hide ((G2.out.below b3 (by omega)).below b4 (by omega))
  have H3 := hide ((H2.out.below (b3.mono (by omega))).below (b4.mono (by omega)))
  have H3' := hide ((H2'.out.below (b3.mono (by omega))).below (b4.mono (by omega)))
  have HI3 := hide ((HI2.out.below (b3.mono (by omega))).below (b4.mono (by omega)))
  have R3 := hide ((R1.out.below b3 hg2).below b4 (by omega))
  have B3 := hide ((B2.out.trans (b3.mono B2.out.size)).trans (b4.mono (by omega)))
  have OV := hide (ov.below b4)
  have RG := hide (rg.below b4 hg)
  have HNE := hide hne
  have Z3 := hide z3
  have zg : w.heap.size + 1 < g := by omega
  have zg1 : g1 < g := by omega
  have z4 : w.heap.size + 1 < w3.heap.size := by omega
  clear ov rg b3 b4 sb hne z3 x0 x1 y0 y1 gg
  obtain ⟨x0, x1⟩ := T3.out
  go_wp2_with fail
  clear hW3
  have b1' : 1 ≤ bhd D r k := bhd_pos (dok_pr TD.out).2
  obtain ⟨b', hb'⟩ : ∃ b', bhd D r k = b' := ⟨_, rfl⟩
  rw [hb'] at HV OT PE b1'
  obtain ⟨A, hA⟩ : ∃ A, pr D k = A := ⟨_, rfl⟩
  rw [hA] at PE
  have PD := hide (show pr D r = A * (q : Int) * b' by rw [pr_axis D hk, hA, hb', HQ.out])
  have QD := HQ.out
  have ZE := hide (show (z : Int) = A * n * b' by rw [← HN1.out, (dok_pr HD.out).1]; exact PE.out)
  have SE := hide (show (s : Int) = A * (q : Int) * b' by rw [← TS.out, (dok_pr TD.out).1]; exact PD.out)
  have AX := hide (fun (j : Nat) (hj : (j : Int) < s) => show dg D r j k = (j : Int) / b' % (q : Int) by rw [dg_axis hk (dok_pr TD.out).2 (j : Int) (by omega) (by rw [← (dok_pr TD.out).1, TS.out]; exact hj), hb', HQ.out])
  rw [← QD] at HV OT
  have VF := hide (show ∀ p : Nat, (p : Int) < z → scaJ S I q b' n (s : Int) p = V p from fun p hp => by
    rw [← HV.out, scaJ_all b1' n1 (by omega) SE.out (by rw [← ZE.out]; exact hp)]
    show _ = scaS I (lineAt S (q : Int) b' n p) (((p : Int) / b' % n).toNat : Nat) q
    rw [Int.toNat_of_nonneg (Int.emod_nonneg _ (by omega))])
  have VZ := hide (show ∀ p : Nat, scaJ S I q b' n 0 p = 0 from fun p => scaJ_zero b1' n1 p)
  have VS := hide (fun (j : Nat) (hj : (j : Int) < s) (iv p0 : Nat) (k0 : Nat) (e0 : (j : Int) / b' % (q : Int) = k0) (e1 : I k0 = iv) (e2 : mv n b' q iv j = p0) => scaJ_step (S := S) (I := I) (q := q) (n := n) (j := j) b1' n1 (by omega) e0 e1 (by have := HW.out k0 (by have := Int.emod_lt_of_pos ((j : Int) / b') (show (0 : Int) < q by omega); omega); omega) e2)
  clear hb' hA QD
  go_loopw [11] (fun i wx => ∃ j : Nat, j ≤ s ∧ i = .int .i64 j ∧ Bx wx w3.heap.size (.slice va r vc) (.slice (some ⟨g, 0, none⟩) z z) ∧ Bx wx w.heap.size (.slice (some ⟨ab, ao, none⟩) r cap) (.slice b s dap) ∧ Rw wx g z (scaJ S I q b' n j) ∧ Kept (· = g) W3 wx) (fun i _ => s - (intOf i).toNat)
  case atStart => exact ⟨0, Nat.zero_le _, rfl, T3.out, N3.out, RG.out.same (fun t ht => by exact VZ.out t), Kept.refl _ _⟩
  case round =>
    obtain ⟨X, rfl⟩ : ∃ X, X = wr := ⟨_, rfl⟩
    obtain ⟨j, hj, rfl, hbx, hbt, hrw, hkp⟩ := hrel
    have HBX := hide hbx
    have HBT := hide hbt
    have HRW := hide hrw
    have HKP := hide hkp
    have lX : w3.heap.size + 1 ≤ X.heap.size := by have := HKP.out.size; have := Z3.out; omega
    clear x0 x1
    obtain ⟨u0, u1⟩ := hbt
    clear hrw hkp hbx
    by_cases hlt : j < s
    · have jI : (j : Int) < s := by omega
      have HA := hide (H3.out.kept (by have := Z3.out; omega) HKP.out (fun y hy e => by have e : y = g := e; omega))
      have HA' := hide (H3'.out.kept (by have := Z3.out; omega) HKP.out (fun y hy e => by have e : y = g := e; omega))
      have HAI := hide (HI3.out.kept (by have := Z3.out; omega) HKP.out (fun y hy e => by have e : y = g := e; omega))
      have OVX := hide (OV.out.kept HKP.out (fun b q e => HNE.out b q e))
      have HDD := hide (fun i hi => dok_len TD.out (j := i) hi)
      go_wp2_with fail
      refine (l3Index X.heap.size (some ⟨ab, ao, none⟩) r cap D j _ (HA.out.mono (by omega)) (Nat.le_refl _) (by omega) HDD.out (by omega) (by omega)).mono ?_
      rintro e X1 ⟨rfl, ra, sa, ba⟩
      have dgr := dg_rng D r (fun i hi => (HDD.out i hi).1) (j : Int)
      obtain ⟨av, hav⟩ : ∃ av : Nat, dg D r j k = av := ⟨(dg D r j k).toNat, by have := dgr k hk; omega⟩
      have av1 : av < q := by have := (dgr k hk).2; have := HQ.out; omega
      obtain ⟨iv, hiv⟩ : ∃ iv : Nat, I av = iv := ⟨(I av).toNat, by have := HW.out av av1; omega⟩
      have iv1 : (iv : Int) < n := by have := HW.out av av1; omega
      have iv2 : n ≤ 4096 := by have := (dok_len HD.out hk).2; rw [EK.out] at this; exact this
      have INR := hide (show ∀ i, i < r → 0 ≤ up1 (dg D r j) k iv i ∧ up1 (dg D r j) k iv i < E i from fun i hi => by
        by_cases c : i = k
        · subst c; rw [up1_at, EK.out]; omega
        · rw [up1_ne _ _ c, DO.out i c]; exact dgr i hi)
      have ODR := od_rng E _ r INR.out
      obtain ⟨p0, hp0⟩ : ∃ p0 : Nat, od E (up1 (dg D r j) k iv) r = p0 := ⟨(od E (up1 (dg D r j) k iv) r).toNat, by omega⟩
      have p0z : p0 < z := by have := (dok_pr HD.out).1; have := HN1.out; omega
      have ST := hide (VS.out j jI iv p0 av (by rw [← AX.out j jI, hav]) hiv (by rw [← OT.out j jI, hp0]))
      have RA := hide ra
      have BA := hide ba
      have HP0 := hide hp0
      have HAV := hide hav
      have HIV := hide hiv
      obtain ⟨ca, _, _⟩ := ra k hk
      rw [hav] at ca
      have HBT1 := hide (HBT.out.below ba (by omega))
      have HBX1 := hide (HBX.out.below ba (by omega))
      have HRW1 := hide (HRW.out.below ba (by omega))
      have HA1 := hide (HA.out.below (ba.mono (by omega)))
      have HA1' := hide (HA'.out.below (ba.mono (by omega)))
      have OV1 := hide (OVX.out.below ba)
      rcases HAI.out.below (ba.mono (by omega)) with h0 | ⟨ib, io, hie, hib, hic⟩
      · omega
      injection hie with hie
      subst hie
      have ci := (hic av av1).1
      rw [hiv] at ci
      have aI : (av : Int) < q := by omega
      have KX := hide (show Kept (· = g) W3 X1 from HKP.out.trans (Kept.of_below ba))
      have lX1 : X.heap.size < X1.heap.size := sa
      clear hic ra ba dgr hav hiv u0 u1 hp0 ODR
      go_wp2_with fail
      refine (l4With X1.heap.size _ r r k (dg D r j) iv _ (Nat.le_refl _) (by exact RA.out.ints sa) (by omega) hk (by unfold bd; omega)).mono ?_
      rintro e wA ⟨gi, gc, rfl, qi, hgi, lgi, bA⟩
      clear ca ci
      have HBTA := hide (HBT1.out.below bA (by omega))
      have HBXA := hide (HBX1.out.below bA (by omega))
      have HAA' := hide (HA1'.out.below (bA.mono (by omega)))
      have HRWA := hide (HRW1.out.below bA (by omega))
      have OVA := hide (OV1.out.below bA)
      have QI := hide qi
      have KA := hide (show Kept (· = g) W3 wA from KX.out.trans (Kept.of_below bA))
      have sA : X1.heap.size ≤ wA.heap.size := bA.size
      rcases HAA'.out with h0 | ⟨b2, o2, hbe, hb2, hc2⟩
      · omega
      subst hbe
      have cj := (hc2 j hlt).1
      have DV := hide (OVA.out.ints)
      have TOK := hide (show tok r z E (scaJ S I q b' n j) = true by
        unfold tok wi
        simp only [Bool.and_eq_true, decide_eq_true_eq]
        exact ⟨⟨HD.out, HN1.out.symm⟩, fun u hu => scaJ_rng _ _ _ _ _ _ _⟩)
      have sj := scaJ_rng S I q b' n j p0
      have sS := TW.out j hlt
      have sj1 := scaJ_rng S I q b' n (j + 1) p0
      have CP := hide (fun (W : World) => Base.specPlus (scaJ S I q b' n j p0) (S j) W (by omega) (by omega) (by omega) (by omega))
      rw [← ST.out.1] at CP
      obtain ⟨p0', p1'⟩ := HBTA.out
      obtain ⟨v0, v1⟩ := HBXA.out
      clear hc2 bA qi
      go_wp2_with fail
      have CG := hide (l4Get wA.heap.size va (some ⟨g, 0, none⟩) (some ⟨gi, 0, none⟩) r z vc z r gc E (scaJ S I q b' n j) (up1 (dg D r j) k iv) wA.drew (Nat.le_refl _) (by exact DV.out) (by exact HRWA.out.ints (by omega)) (by exact QI.out.ints lgi) (Nat.le_refl _) TOK.out INR.out)
      rw [HP0.out, Int.toNat_natCast] at CG
      have CSet := hide (fun (W : World) (y : Int) (hW : Below wA.heap.size wA W) (hy : bd y) => l4Set wA.heap.size va (some ⟨gi, 0, none⟩) r z vc z r gc g p0 E (scaJ S I q b' n j) (up1 (dg D r j) k iv) y W hW.size (DV.out.below hW) ((QI.out.below hW lgi).ints lgi) (Nat.le_refl _) HD.out HN1.out INR.out HP0.out (HRWA.out.below hW (by omega)) (by have := hW.size; omega) hy)
      have BS1 := hide (show bd (scaJ S I q b' n ((j + 1 : Nat) : Int) p0) by have := scaJ_rng S I q b' n ((j + 1 : Nat) : Int) p0; unfold bd; omega)
      have CB := hide (fun (W : World) (hW : Below wA.heap.size wA W) => show W.cell? ⟨b2, o2 + j, none⟩ = some (.int .i64 (S j)) from (hW.cell (p := ⟨b2, o2 + j, none⟩) (by show b2 < wA.heap.size; omega)).trans cj)
      have F1 := hide (fun (W : World) (hW : Below wA.heap.size wA W) => HBTA.out.below hW (by omega))
      have F2 := hide (fun (W : World) (hW : Below wA.heap.size wA W) => HBXA.out.below hW (by omega))
      have F3 := hide (fun (W W' : World) (hW : Below wA.heap.size wA W) (kC : Kept (· = g) W W') => (F1.out W hW).kept kC (by have := hW.size; omega) (by show ¬ w.heap.size = g; omega))
      have F4 := hide (fun (W W' : World) (hW : Below wA.heap.size wA W) (kC : Kept (· = g) W W') => (F2.out W hW).kept kC (by have := hW.size; omega) (by show ¬ w3.heap.size = g; omega))
      have F5 := hide (fun (W W' : World) (hW : Below wA.heap.size wA W) (kC : Kept (· = g) W W') => (World.cell?_of_block (w := W) (a := ⟨b2, o2 + j, none⟩) (kC.block b2 (by have := hW.size; omega) (by show ¬ b2 = g; omega))).trans (CB.out W hW))
      have F6 := hide (fun (W : World) (hB : Below wA.drew.heap.size wA.drew W) => show Below wA.heap.size wA W from (Below.refl _ _).drew.trans hB)
      clear sj sS sj1
      go_region_held3 (fun w' => w'.cell? ⟨w.heap.size, 0, none⟩ = some (.slice (some ⟨ab, ao, none⟩) r cap) ∧ w'.cell? ⟨w.heap.size, 1, none⟩ = some (.slice (some ⟨b2, o2, none⟩) s dap) ∧ w'.cell? ⟨w3.heap.size, 0, none⟩ = some (.slice va r vc) ∧ w'.cell? ⟨w3.heap.size, 1, none⟩ = some (.slice (some ⟨g, 0, none⟩) z z) ∧ w'.cell? ⟨b2, o2 + j, none⟩ = some (.int .i64 (S j)))
        ((try dsimp only) <;> (repeat' apply And.intro) <;> (first | with_reducible assumption | assumption))
        (first
        | (go_at_call 47
           refine CG.out.mono ?_
           rintro e wB ⟨rfl, bB⟩
           have bB' := hide (F6.out wB bB)
           have cj2 := CB.out wB bB'.out
           obtain ⟨q0', q1'⟩ := F1.out wB bB'.out
           obtain ⟨q2', q3'⟩ := F2.out wB bB'.out
           clear bB)
        | (go_at_call 38; refine (CP.out _).mono ?_; rintro e w1 ⟨rfl, rfl⟩)
        | (go_at_call 50
           refine (CSet.out _ _ bB'.out BS1.out).mono ?_
           rintro e wC ⟨⟨v, rfl⟩, rC, kC⟩
           have cj3 := F5.out _ _ bB'.out kC
           obtain ⟨s0', s1'⟩ := F3.out _ _ bB'.out kC
           obtain ⟨s2', s3'⟩ := F4.out _ _ bB'.out kC))
      all_goals (go_wp2_with fail)
      all_goals go_roundw
      all_goals first
        | (simp only [intOf]; omega)
        | (simp [intOf]; omega)
        | exact ⟨j + 1, by omega, by go_num, F4.out _ _ bB'.out kC, F3.out _ _ bB'.out kC, rC.same (fun t ht => by
            by_cases c : t = p0
            · subst c; simp
            · simp only [c, if_false]; exact ST.out.2 t c), (KA.out.trans (Kept.of_below bB'.out)).trans kC⟩
    · have e : j = s := by omega
      have kp := HKP.out
      have n1 : ¬ w.heap.size + 1 = g := by omega
      have M4 := hide (M3.out.kept kp (by have := Z3.out; omega) n1)
      have G4 := hide (G3.out.kept kp (by have := Z3.out; omega) n1)
      have OV4 := hide (OV.out.kept kp (fun b q e => HNE.out b q e))
      have B4 := hide (B3.out.trans (kp.below B3.out.size (fun j e => by have e : j = g := e; omega)))
      have R4 := hide (HRW.out.same (E := V) (fun t ht => by rw [e]; exact (VF.out t (by omega)).symm))
      clear kp
      obtain ⟨y0, y1⟩ := M4.out
      obtain ⟨v0, v1⟩ := HBX.out
      have gg := G4.out
      unfold Free at gg
      go_wp2_with fail
      refine bodyPost_ret (v := .agg #[.slice va r vc, .slice (some ⟨g, 0, none⟩) z z]) (by simp [results, Try.results21, go_sem, y0, y1]) rfl ?_
      show TensR w.heap.size (scaP r s q D S I (k : Int) n) w _ _
      rw [ez.out]
      exact tens_end (v := ⟨r, z, E, V⟩) (B := w.heap.size + 1 + 1) ⟨OV4.out.mono (by omega), .inr ⟨g, rfl, by omega, R4.out⟩, fun j q1 q2 => by
          obtain ⟨_, ad, e', e''⟩ := q2
          injection e' with e'
          subst e'
          have e'' : g = j := e''
          exact HNE.out j q1 e''.symm⟩ (by omega) (by omega) B4.out
end Vo
end Go.Proofs.Ytajigcbpooblbaa
