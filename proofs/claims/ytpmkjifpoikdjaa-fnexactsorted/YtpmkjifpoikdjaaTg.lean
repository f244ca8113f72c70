/- linewise of the program. -/
import Derived.Test.YtpmkjifpoikdjaaTf
namespace Go.Proofs.Ytpmkjifpoikdjaa
namespace Vo
open Go.ChangeShapes Go.WideShapes Go.ChangeAt Go.RowKit Go.Joins
open Vl Vp Vr
set_option linter.unusedVariables false
set_option linter.unusedSimpArgs false

/-- a line of what comes out: the numbers of t that belong to place j -/
def lineAt (S : Nat → Int) (l b n : Int) (j : Int) : Nat → Int := fun t => S (mv l b n t j).toNat
/-- what comes of lines -/
def lineP (r s : Nat) (D S : Nat → Int) (x n : Int) (G : (Nat → Int) → Nat → Int) : PT :=
  if (tok r s D S = true ∧ 0 ≤ x ∧ x < r) ∧ dok r (up1 D x.toNat n) = true then
    ⟨r, cntT r (up1 D x.toNat n), up1 D x.toNat n, fun j => G (lineAt S (D x.toNat) (bhd D r x.toNat) n j) ((j : Int) / bhd D r x.toNat % n).toNat⟩ else PT.zero
theorem lineP_no {r s : Nat} {D S : Nat → Int} {x n : Int} {G : (Nat → Int) → Nat → Int} (h : ¬ ((tok r s D S = true ∧ 0 ≤ x ∧ x < r) ∧ dok r (up1 D x.toNat n) = true)) : lineP r s D S x n G = PT.zero := by unfold lineP; rw [if_neg h]
theorem lineP_yes {r s : Nat} {D S : Nat → Int} {k : Nat} {n : Int} {G : (Nat → Int) → Nat → Int} (h : tok r s D S = true) (hk : k < r) (hd : dok r (up1 D k n) = true) :
    lineP r s D S (k : Int) n G = ⟨r, cntT r (up1 D k n), up1 D k n, fun j => G (lineAt S (D k) (bhd D r k) n j) ((j : Int) / bhd D r k % n).toNat⟩ := by
  unfold lineP; rw [if_pos ⟨⟨h, by omega, by omega⟩, by rw [Int.toNat_natCast]; exact hd⟩, Int.toNat_natCast]
theorem lineP_le (r s : Nat) (D S : Nat → Int) (x n : Int) (G : (Nat → Int) → Nat → Int) : (lineP r s D S x n G).r ≤ r ∧ (((lineP r s D S x n G).s : Nat) : Int) ≤ 4096 := by
  unfold lineP
  split
  · exact ⟨Nat.le_refl _, cntT_le _ _⟩
  · exact ⟨Nat.zero_le _, by simp [PT.zero]⟩
/-- what a function value does with a line -/
def LineF (F : Nat) (caps : Array Value) (len N : Nat) (G : (Nat → Int) → Nat → Int) (w : World) : Prop :=
  ∀ (W : World) (g m : Nat) (L : Nat → Int), Below w.heap.size w W → w.heap.size ≤ g → w.heap.size ≤ m → g ≠ m → WI len L 2147483647 → Rw W g len L → Rw W m N (fun _ => 0) →
    Calls Try.prog F (#[.slice (some ⟨g, 0, none⟩) len len, .slice (some ⟨m, 0, none⟩) N N] ++ caps) W fun e W' => (∃ v, e = .returned v) ∧ Rw W' m N (G L) ∧ Kept (· = m) W W'
theorem dok_pr {r : Nat} {D : Nat → Int} (h : dok r D = true) : szR D r = pr D r ∧ ∀ j, j < r → 1 ≤ D j := by
  have := (dok_iff.1 h).2
  rcases szR_cases D r with q | ⟨q1, q2, _⟩
  · omega
  · exact ⟨q2, q1⟩
theorem behind_size {r k : Nat} {D : Nat → Int} (h : dok r D = true) (hk : k < r) : sz (r - (k + 1)) (fun t => D (k + 1 + t)) = bhd D r k := by
  have r6 := (dok_iff.1 h).1
  unfold sz
  rw [if_neg (by omega), tail_size hk h, bh_seg D r (r - 1 - k) (by omega)]
  unfold bhd
  rw [show r - 1 - k = r - (k + 1) by omega, show r - (r - (k + 1)) = k + 1 by omega]
theorem ite_iff {P Q : Prop} [Decidable P] [Decidable Q] (h : P ↔ Q) (a b : Int) : (if P then a else b) = if Q then a else b := by
  by_cases c : P
  · rw [if_pos c, if_pos (h.1 c)]
  · rw [if_neg c, if_neg (fun q => c (h.2 q))]
/-- line number i -/
def LN (S : Nat → Int) (l b i : Int) : Nat → Int := fun u => S ((i / b * l + u) * b + i % b).toNat
theorem lineAt_eq {S : Nat → Int} {l b n i p : Int} (hb : 1 ≤ b) (h : lnb b n p = i) : lineAt S l b n p = LN S l b i := by
  have q := lnb_parts (n := n) (j := p) hb
  rw [h] at q
  unfold lineAt LN mv
  rw [q.1, q.2]
/-- what stands in what comes out, ahead of line i's place t -/
def outF (V : Nat → Int) (b n i t : Int) : Nat → Int := fun p => if lnb b n p < i ∨ (lnb b n p = i ∧ (p : Int) / b % n < t) then V p else 0
theorem outF_next {V : Nat → Int} {b n i : Int} (hn : 1 ≤ n) (p : Nat) : outF V b n (i + 1) 0 p = outF V b n i n p := by
  have h1 := Int.emod_lt_of_pos ((p : Int) / b) (show 0 < n by omega)
  have h2 := Int.emod_nonneg ((p : Int) / b) (show n ≠ 0 by omega)
  unfold outF
  exact ite_iff (by generalize lnb b n p = x; omega) _ _
theorem outF_zero {V : Nat → Int} {b n : Int} (hb : 1 ≤ b) (hn : 1 ≤ n) (p : Nat) : outF V b n 0 0 p = 0 := by
  have h2 := Int.emod_nonneg ((p : Int) / b) (show n ≠ 0 by omega)
  have q0 : 0 ≤ (p : Int) / (n * b) := Int.ediv_nonneg (by omega) (Int.mul_nonneg (by omega) (by omega))
  have m0 := Int.emod_nonneg (p : Int) (show b ≠ 0 by omega)
  have t2 : 0 ≤ lnb b n p := by unfold lnb; have := Int.mul_nonneg q0 (show 0 ≤ b by omega); omega
  unfold outF
  exact if_neg (by omega)
theorem outF_last {V : Nat → Int} {b n M : Int} {p : Nat} (h : lnb b n p < M) : outF V b n M 0 p = V p := by
  unfold outF
  exact if_pos (.inl h)
theorem outF_step {V : Nat → Int} {b n i t : Int} {p0 : Nat} (hb : 1 ≤ b) (hn : 1 ≤ n) (ht : 0 ≤ t) (ht2 : t < n) (h : (p0 : Int) = (i / b * n + t) * b + i % b) (p : Nat) :
    outF V b n i (t + 1) p = if p = p0 then V p0 else outF V b n i t p := by
  have q := line_at (j := (p : Int)) (m := i) hb hn ht ht2
  by_cases c : p = p0
  · subst c
    rw [if_pos rfl]
    have := q.1 h
    unfold outF
    exact if_pos (.inr (by omega))
  · rw [if_neg c]
    have : ¬ (lnb b n p = i ∧ (p : Int) / b % n = t) := fun e => c (by have := q.2 e; omega)
    unfold outF
    exact ite_iff (by generalize lnb b n p = x at *; generalize (p : Int) / b % n = y at *; omega) _ _
/-- the numbers that a line's walk meets -/
theorem line_num {A l b i u q r : Nat} (hq : i / b = q) (hr : i % b = r) (hb : 1 ≤ b) (hi : i < A * b) (hu : u < l) : (q * l + u) * b + r < A * l * b ∧ q * l ≤ A * l * b ∧ (q * l + u) * b ≤ A * l * b := by
  have h1 : q < A := by rw [← hq]; exact Nat.div_lt_of_lt_mul (by rw [Nat.mul_comm]; exact hi)
  have h2 : r < b := by rw [← hr]; exact Nat.mod_lt _ (by omega)
  have t1 : (q + 1) * l ≤ A * l := Nat.mul_le_mul_right _ h1
  rw [Nat.add_mul] at t1
  have t3 : (q * l + u + 1) * b ≤ A * l * b := Nat.mul_le_mul_right _ (by omega)
  rw [Nat.add_mul (q * l + u)] at t3
  have t4 : A * l * 1 ≤ A * l * b := Nat.mul_le_mul_left _ hb
  omega
theorem LN_nat {S : Nat → Int} {l b i u q r : Nat} (hq : i / b = q) (hr : i % b = r) : LN S (l : Int) (b : Int) (i : Int) u = S ((q * l + u) * b + r) := by
  unfold LN
  rw [← hq, ← hr]
  congr 1
theorem rows2 (w : World) (l n : Nat) (t : TypeId) : Rw ((w.alloc (.cells (madeCells #[.int .i64 0] l) t)).alloc (.cells (madeCells #[.int .i64 0] n) t)) w.heap.size l (fun _ => 0) ∧ Rw ((w.alloc (.cells (madeCells #[.int .i64 0] l) t)).alloc (.cells (madeCells #[.int .i64 0] n) t)) (w.heap.size + 1) n (fun _ => 0) ∧ Below w.heap.size w ((w.alloc (.cells (madeCells #[.int .i64 0] l) t)).alloc (.cells (madeCells #[.int .i64 0] n) t)) := by
  refine ⟨(rw_new w l t).below ((Below.refl (w.heap.size + 1) _).alloc (by simp) _) (by omega), ?_, ((Below.refl _ _).alloc (Nat.le_refl _) _).alloc (by simp) _⟩
  have q := rw_new (w.alloc (.cells (madeCells #[.int .i64 0] l) t)) n t
  rwa [World.size_alloc] at q
theorem rw_drew {w : World} {g n : Nat} {f : Nat → Int} (h : Rw w g n f) : Rw w.drew g n f := h
theorem tail_ints {B : Nat} {w : World} {a : Option Addr} {r k : Nat} {D : Nat → Int} (h : Ints B w a r D) (hk : k < r) : Ints B w (Option.map (fun x => { block := x.block, off := x.off + (k + 1), spot := none }) a) (r - (k + 1)) (fun t => D (k + 1 + t)) := by
  rcases h with h | ⟨b, off, rfl, hb, hc⟩
  · omega
  · refine .inr ⟨b, off + (k + 1), rfl, hb, fun j hj => ?_⟩
    have := hc (k + 1 + j) (by omega)
    rwa [show off + (k + 1 + j) = off + (k + 1) + j by omega] at this
set_option maxRecDepth 100000 in
set_option maxHeartbeats 4000000 in
theorem linewise (F : Nat) (caps : Array Value) (G : (Nat → Int) → Nat → Int) (B : Nat) (a b : Option Addr) (r s cap dap : Nat) (D S : Nat → Int) (x n : Int) (w : World) (hB : B ≤ w.heap.size) (h : Ints B w a r D) (h' : Ints B w b s S) (hr : (r : Int) ≤ 1048576) (hs : (s : Int) ≤ 1048576) (hcap : r ≤ cap) (hn : bd n)
    (eF : ∀ args w, (callFunc F args).run Try.prog w = .ok (.enter F args) w)
    (hf : ∀ len N : Nat, lenA r s D S x = (len : Int) → n = (N : Int) → 1 ≤ len → 1 ≤ N → LineF F caps len N G w) :
    Calls Try.prog 43 #[.agg #[.slice a r cap, .slice b s dap], .int .i64 x, .int .i64 n, .func (.func F) #[] caps] w fun e w' => TensR w.heap.size (lineP r s D S x n G) w e w' := by
  obtain ⟨W0, hW0⟩ : ∃ W0, (w.alloc (.cells #[.slice a r cap, .slice b s dap] 37)).alloc (.cells #[.slice none 0 0, .slice none 0 0] 37) = W0 := ⟨_, rfl⟩
  have hs0 : W0.heap.size = w.heap.size + 1 + 1 := by rw [← hW0]; simp
  have bl : Below w.heap.size w W0 := by rw [← hW0]; exact ((Below.refl _ _).alloc (Nat.le_refl _) _).alloc (by simp) _
  have n0 : Bx W0 w.heap.size (.slice a r cap) (.slice b s dap) := by
    rw [← hW0]; exact (bx_new w (.slice a r cap) (.slice b s dap) 37).below ((Below.refl (w.heap.size + 1) _).alloc (by simp) _) (by omega)
  have m0 : Bx W0 (w.heap.size + 1) (.slice none 0 0) (.slice none 0 0) := by
    have q := bx_new (w.alloc (.cells #[.slice a r cap, .slice b s dap] 37)) (.slice none 0 0) (.slice none 0 0) 37
    rw [World.size_alloc] at q
    rw [← hW0]; exact q
  have g0 : Free W0 (w.heap.size + 1) := by
    have q := free_new (w.alloc (.cells #[.slice a r cap, .slice b s dap] 37)) #[.slice none 0 0, .slice none 0 0] 37
    rw [World.size_alloc] at q
    rw [← hW0]; exact q
  have H := hide (h.below (bl.mono hB))
  have H' := hide (h'.below (bl.mono hB))
  have BL := hide bl
  have HS0 := hide hs0
  have N0 := hide n0
  have M0 := hide m0
  have G0 := hide g0
  have HF := hide hf
  have HN := hide hn
  obtain ⟨x0, x1⟩ := n0
  clear h h' bl m0 g0 hs0 hf hn
  go_enter Try.func43, Try.ntmps43
  go_wp2_with fail
  clear hW0
  refine (lengthAt B a b r s cap dap D S x _ (by have := HS0.out; omega) H.out H'.out hr hs).mono ?_
  rintro e w1 ⟨rfl, b1⟩
  have z0 := HS0.out
  have N1 := hide (N0.out.below b1 (by omega))
  have M1 := hide (M0.out.below b1 (by omega))
  have G1 := hide (G0.out.below b1 (by omega))
  have B1 := hide (BL.out.trans (b1.mono BL.out.size))
  have H1 := hide (H.out.below (b1.mono (by omega)))
  have H1' := hide (H'.out.below (b1.mono (by omega)))
  have s1 : w.heap.size + 1 < w1.heap.size := by have := b1.size; omega
  clear b1 x0 x1 z0
  obtain ⟨x0, x1⟩ := N1.out
  obtain ⟨y0, y1⟩ := M1.out
  have gg := G1.out
  unfold Free at gg
  by_cases hx : tok r s D S = true ∧ 0 ≤ x ∧ x < r
  rotate_left
  · have ez := hide (lineP_no (n := n) (G := G) (fun q => hx q.1))
    rw [lenA_no hx]
    clear hx
    go_wp2_with fail
    refine bodyPost_ret (v := .agg #[.slice none 0 0, .slice none 0 0]) (by simp [results, Try.results43, go_sem, y0, y1]) rfl (by
      rw [ez.out]
      refine tensR_zero ?_
      repeat (refine Below.setCell ?_ (by simp) _)
      exact B1.out)
  obtain ⟨ht, hx0, hx1⟩ := hx
  obtain ⟨k, rfl⟩ : ∃ k : Nat, x = k := ⟨x.toNat, by omega⟩
  have hk : k < r := by omega
  obtain ⟨td, ts, tw⟩ := tok_split ht
  obtain ⟨dk0, dk1⟩ := dok_len td hk
  obtain ⟨len, hlen⟩ : ∃ len : Nat, D k = len := ⟨(D k).toNat, by omega⟩
  have hl : lenA r s D S (k : Int) = (len : Int) := by rw [lenA_yes ⟨ht, hx0, hx1⟩, Int.toNat_natCast]; exact hlen
  rw [hl]
  have HL := hide hl
  have l0 : ((len : Int) == 0) = false := beq_eq_false_iff_ne.2 (by omega)
  have l1 : 1 ≤ len := by omega
  have l2 : len ≤ 4096 := by omega
  have HT := hide ht
  have TD := hide td
  have TS := hide ts
  have TW := hide tw
  have DK := hide hlen
  clear ht hx0 hx1 td ts tw dk0 dk1 hlen hl
  go_wp2_with fail
  refine (withLength B a r cap k D n _ (by omega) H1.out hr hk HN.out).mono ?_
  rintro e w2 ⟨g2, c2, rfl, r2, hg2, hg3, b2⟩
  have N2 := hide (N1.out.below b2 (by omega))
  have M2 := hide (M1.out.below b2 (by omega))
  have G2 := hide (G1.out.below b2 (by omega))
  have B2 := hide (B1.out.trans (b2.mono B1.out.size))
  have H2 := hide (H1.out.below (b2.mono (by omega)))
  have H2' := hide (H1'.out.below (b2.mono (by omega)))
  have R2 := hide r2
  have s2 : w.heap.size + 1 < w2.heap.size := by have := b2.size; omega
  clear b2 r2 x0 x1 y0 y1 gg
  go_wp2_with fail
  refine (fillF w2.heap.size ⟨g2, 0, none⟩ r c2 (up1 D k n) 0 _ (Nat.le_refl _) (R2.out.ints hg3) hr (by unfold bd; omega)).mono ?_
  rintro e w3 ⟨fa, fb, fc, fd, rfl, fo, b3⟩
  obtain ⟨W3, hW3⟩ : ∃ W3, w3.alloc (.cells #[.slice fa (fillP r (up1 D k n) 0).r fc, .slice fb (fillP r (up1 D k n) 0).s fd] 37) = W3 := ⟨_, rfl⟩
  have b4 : Below w3.heap.size w3 W3 := by rw [← hW3]; exact (Below.refl _ _).alloc (Nat.le_refl _) _
  have z3 : W3.heap.size = w3.heap.size + 1 := by rw [← hW3]; simp
  have sb := b3.size
  have O3 := hide (show Bx W3 w3.heap.size (.slice fa (fillP r (up1 D k n) 0).r fc) (.slice fb (fillP r (up1 D k n) 0).s fd) by rw [← hW3]; exact bx_new w3 _ _ _)
  have N3 := hide ((N2.out.below b3 (by omega)).below b4 (by omega))
  have M3 := hide ((M2.out.below b3 (by omega)).below b4 (by omega))
  have G3 := hide ((G2.out.below b3 (by omega)).below b4 (by omega))
  have B3 := hide ((B2.out.trans (b3.mono B2.out.size)).trans (b4.mono (by have := B2.out.size; omega)))
  have H3 := hide ((H2.out.below (b3.mono (by omega))).below (b4.mono (by omega)))
  have H3' := hide ((H2'.out.below (b3.mono (by omega))).below (b4.mono (by omega)))
  have FO := hide (fo.below b4)
  have F3 := hide fo
  have Z3 := hide z3
  have s3 : w.heap.size + 1 < w3.heap.size := by omega
  clear b3 b4 fo z3 sb
  obtain ⟨u0, u1⟩ := O3.out
  go_wp2_with fail
  clear hW3
  cases hd : dok r (up1 D k n) with
  | false =>
    have ez := hide (lineP_no (r := r) (s := s) (D := D) (S := S) (x := (k : Int)) (n := n) (G := G) (fun q => by rw [Int.toNat_natCast, hd] at q; exact absurd q.2 (by decide)))
    have e0 : fillP r (up1 D k n) 0 = PT.zero := by unfold fillP; rw [hd]; simp
    rw [e0] at FO ⊢
    refine (tensorOk W3.heap.size fa fb 0 0 fc fd _ _ _ (Nat.le_refl _) (FO.out.d.ints) (FO.out.t.ints) (by omega) (by omega)).mono ?_
    rintro e w4 ⟨rfl, b4⟩
    rw [tok_no2 (r := 0) (s := 0) (by simp [szR])]
    have z3 := Z3.out
    have M4 := hide (M3.out.below b4 (by omega))
    have G4 := hide (G3.out.below b4 (by omega))
    have B4 := hide (B3.out.trans (b4.mono B3.out.size))
    clear b4 u0 u1 hd e0 z3
    obtain ⟨y0, y1⟩ := M4.out
    have gg := G4.out
    unfold Free at gg
    go_wp2_with fail
    refine bodyPost_ret (v := .agg #[.slice none 0 0, .slice none 0 0]) (by simp [results, Try.results43, go_sem, y0, y1]) rfl (by
      rw [ez.out]
      refine tensR_zero ?_
      repeat (refine Below.setCell ?_ (by simp) _)
      exact B4.out)
  | true =>
    have hn1 := dok_len hd hk
    rw [up1_at] at hn1
    obtain ⟨N, rfl⟩ : ∃ N : Nat, n = N := ⟨n.toNat, by omega⟩
    have N1' : 1 ≤ N := by omega
    have N2' : N ≤ 4096 := by omega
    have ez := hide (lineP_yes (G := G) HT.out hk hd)
    have e0 : fillP r (up1 D k N) 0 = ⟨r, cntT r (up1 D k N), up1 D k N, fun _ => 0 % 2147483647⟩ := by unfold fillP; rw [if_pos hd]
    rw [e0] at FO F3 O3 ⊢
    obtain ⟨E, hE⟩ : ∃ E, up1 D k (N : Int) = E := ⟨_, rfl⟩
    obtain ⟨q, hq⟩ : ∃ q, cntT r E = q := ⟨_, rfl⟩
    rw [hE, hq] at ez
    rw [hE] at e0 hd FO F3 O3 R2 ⊢
    rw [hq] at FO F3 O3 ⊢
    have q0 : (q : Int) = szR E r := by rw [← hq]; exact cntT_cast r E
    have q1 : 1 ≤ q := by have := (dok_iff.1 hd).2; omega
    have q4 : (q : Int) ≤ 4096 := by rw [q0]; exact (szR_rng E r).2
    have HE := hide hE
    have HD := hide hd
    have Q0 := hide q0
    clear hE hq e0 hn1 hd q0
    have fo : VOwn w2.heap.size W3 fa fb r q E (fun _ => 0 % 2147483647) := FO.out
    rcases fo.d with w0 | ⟨ga, rfl, hga, ra⟩
    · omega
    rcases fo.t with w0 | ⟨go, rfl, hgo, rg⟩
    · omega
    have lg3 : go < w3.heap.size := (show OwnL w2.heap.size w3 (some ⟨go, 0, none⟩) q (fun _ => 0 % 2147483647) from F3.out.t).blk (b := go) ⟨by omega, _, rfl, rfl⟩ |>.2
    have hne : ga ≠ go := fun e => fo.ne ga ⟨by omega, _, rfl, rfl⟩ ⟨by omega, _, rfl, e.symm⟩
    have la := ra.lt (by omega)
    have lg := rg.lt (by omega)
    have RA := hide ra
    have RG := hide rg
    clear FO F3 fo ra rg
    refine (tensorOk W3.heap.size _ _ r q fc fd E (fun _ => 0 % 2147483647) _ (Nat.le_refl _) (RA.out.ints la) (RG.out.ints lg) hr (by omega)).mono ?_
    rintro e w4 ⟨rfl, b4⟩
    rw [tok_yes HD.out Q0.out (fun j hj => by simp)]
    have z3 := Z3.out
    have N4 := hide (N3.out.below b4 (by omega))
    have M4 := hide (M3.out.below b4 (by omega))
    have G4 := hide (G3.out.below b4 (by omega))
    have O4 := hide (O3.out.below b4 (by omega))
    have B4 := hide (B3.out.trans (b4.mono B3.out.size))
    have H4 := hide (H3.out.below (b4.mono (by omega)))
    have H4' := hide (H3'.out.below (b4.mono (by omega)))
    have RA4 := hide (RA.out.below b4 la)
    have RG4 := hide (RG.out.below b4 lg)
    have s4 : w3.heap.size < w4.heap.size := by have := b4.size; omega
    have la4 : ga < w4.heap.size := by have := b4.size; omega
    have lg4 : go < w4.heap.size := by have := b4.size; omega
    clear b4 u0 u1 z3 la lg RA RG
    obtain ⟨x0, x1⟩ := N4.out
    obtain ⟨u0, u1⟩ := O4.out
    have k1 : (k : Int) + 1 ≤ r := by omega
    have k0 : (0 : Int) ≤ (k : Int) + 1 := by omega
    have wr1 : IntKind.i64.wrap ((k : Int) + 1) = (k : Int) + 1 := by rw [IntKind.wrap_i64]; omega
    go_upto_region 7 with fail
    obtain ⟨bb, hbb⟩ : ∃ bb : Nat, bhd D r k = bb := ⟨(bhd D r k).toNat, by have := bhd_pos (a := k) (dok_pr TD.out).2; omega⟩
    have b1 : 1 ≤ bb := by have := bhd_pos (a := k) (dok_pr TD.out).2; omega
    have BB := hide hbb
    go_cut [11] (fun v wx => v = .int .i64 bb ∧ wx = w4)
    case first =>
      have e1 := hide (behind_size TD.out hk)
      by_cases c : cap = k + 1
      · have c0 := hide (show r - (k + 1) = 0 by omega)
        have c' : (cap = k + 1) = True := eq_true c
        clear c hcap
        go_wp2_with fail
        refine (Vs.sizeOf B _ (r - (k + 1)) _ (fun t => D (k + 1 + t)) _ (.inl c0.out) (by omega)).mono ?_
        rintro e w5 ⟨rfl, rfl⟩
        rw [e1.out, BB.out]
        go_wp2_with fail
        go_meet
        exact ⟨rfl, rfl⟩
      · have c' : (cap = k + 1) = False := eq_false c
        clear c
        go_wp2_with fail
        refine (Vs.sizeOf B _ (r - (k + 1)) _ (fun t => D (k + 1 + t)) _ (tail_ints H4.out hk) (by omega)).mono ?_
        rintro e w5 ⟨rfl, rfl⟩
        rw [e1.out, BB.out]
        go_wp2_with fail
        go_meet
        exact ⟨rfl, rfl⟩
    case rest =>
    obtain ⟨rfl, hw⟩ := hcut
    have hw := hw.symm
    subst hw
    clear k0 k1 wr1 hbb hcap
    have hmk1 := make_int len (by omega)
    have hmk2 := make_int N (by omega)
    go_upto_region 8 with fail
    go_cut [12, 13] (fun l m wx => ∃ g q : Nat, l = .slice (some ⟨g, 0, none⟩) len len ∧ m = .slice (some ⟨q, 0, none⟩) N N ∧ g ≠ q ∧ w4.heap.size ≤ g ∧ w4.heap.size ≤ q ∧ Rw wx g len (fun _ => 0) ∧ Rw wx q N (fun _ => 0) ∧ Below w4.heap.size w4 wx)
    case first =>
      go_region
      all_goals (go_wp2_with fail)
      all_goals go_meet
      all_goals first
        | exact ⟨w4.heap.size, w4.heap.size + 1, rfl, rfl, by omega, by omega, by omega, rw_drew (rows2 w4 len N _).1, rw_drew (rows2 w4 len N _).2.1, (rows2 w4 len N _).2.2.drew⟩
        | exact ⟨w4.heap.size + 1, w4.heap.size, rfl, rfl, by omega, by omega, by omega, rw_drew (rows2 w4 N len _).2.1, rw_drew (rows2 w4 N len _).1, (rows2 w4 N len _).2.2.drew⟩
    case rest =>
    obtain ⟨g, m, rfl, rfl, hgm, hg, hm, rl, rm, b5⟩ := hcut
    have N5 := hide (N4.out.below b5 (by omega))
    have M5 := hide (M4.out.below b5 (by omega))
    have G5 := hide (G4.out.below b5 (by omega))
    have O5 := hide (O4.out.below b5 (by omega))
    have B5 := hide (B4.out.trans (b5.mono B4.out.size))
    have H5' := hide (H4'.out.below (b5.mono (by omega)))
    have RA5 := hide (RA4.out.below b5 la4)
    have RG5 := hide (RG4.out.below b5 lg4)
    have RL := hide rl
    have RM := hide rm
    have s5 : w4.heap.size ≤ wc.heap.size := b5.size
    have ll := rl.lt (by omega)
    have lm := rm.lt (by omega)
    clear b5 rl rm x0 x1 u0 u1 hmk1 hmk2
    obtain ⟨x0, x1⟩ := N5.out
    obtain ⟨u0, u1⟩ := O5.out
    obtain ⟨A, hA⟩ : ∃ A : Nat, pr D k = A := ⟨(pr D k).toNat, by have := pr_pos (D := D) (r := k) (fun j hj => (dok_pr TD.out).2 j (by omega)); omega⟩
    have sA : s = A * len * bb := by
      have e1 := (dok_pr TD.out).1
      rw [TS.out, pr_axis D hk, hA, DK.out, BB.out] at e1
      exact_mod_cast e1
    have qA : q = A * N * bb := by
      have e1 := (dok_pr HD.out).1
      rw [← Q0.out, ← HE.out, pr_axis _ hk, up1_at, bhd_up1, pr_same (E := D) (n := k) (fun j hj => up1_ne D _ (by omega)), hA, BB.out] at e1
      exact_mod_cast e1
    obtain ⟨M, hM⟩ : ∃ M, A * bb = M := ⟨_, rfl⟩
    have s4k : (s : Int) ≤ 4096 := by rw [← TS.out]; exact (szR_rng D r).2
    have Ml : M * len = s := by rw [sA, ← hM, Nat.mul_right_comm]
    have hM4 : M ≤ 4096 := by
      have : M * 1 ≤ M * len := Nat.mul_le_mul_left _ l1
      omega
    have hMd : (s : Int).tdiv (len : Int) = (M : Int) := by
      rw [Int.tdiv_eq_ediv_of_nonneg (by omega), ← Int.natCast_ediv, ← Ml, Nat.mul_div_cancel _ (by omega)]
    have SA := hide sA
    have QA := hide qA
    have HM := hide hM
    have HA := hide hA
    obtain ⟨V, hV⟩ : ∃ V : Nat → Int, (fun j => G (lineAt S (D k) (bhd D r k) (N : Int) j) ((j : Int) / bhd D r k % (N : Int)).toNat : Nat → Int) = V := ⟨_, rfl⟩
    rw [hV] at ez
    have HV := hide hV
    clear sA qA hM hA Ml hV
    go_wp2_with fail
    clear hMd
    go_loopw [51] (fun i wx => ∃ j : Nat, j ≤ M ∧ i = .int .i64 j ∧ Bx wx w.heap.size (.slice a r cap) (.slice b s dap) ∧ Bx wx w3.heap.size (.slice (some ⟨ga, 0, none⟩) r fc) (.slice (some ⟨go, 0, none⟩) q fd) ∧ (∃ L, Rw wx g len L) ∧ (∃ K, Rw wx m N K) ∧ Rw wx go q (outF V bb N j 0) ∧ Kept (fun y => y = g ∨ y = m ∨ y = go) wc wx) (fun i _ => M - (intOf i).toNat)
    case atStart => exact ⟨0, Nat.zero_le _, rfl, N5.out, O5.out, ⟨_, RL.out⟩, ⟨_, RM.out⟩, RG5.out.same (fun p hp => by rw [Int.natCast_zero, outF_zero (by omega) (by omega)]; rfl), Kept.refl _ _⟩
    case round =>
      obtain ⟨X, rfl⟩ : ∃ X, X = wr := ⟨_, rfl⟩
      obtain ⟨j, hj, rfl, hbt, hbo, ⟨L0, hl0⟩, ⟨K0, hk0⟩, hro, hkp⟩ := hrel
      have HBT := hide hbt
      have HBO := hide hbo
      have HL0 := hide hl0
      have HK0 := hide hk0
      have HRO := hide hro
      have HKP := hide hkp
      clear x0 x1 u0 u1
      obtain ⟨x0, x1⟩ := hbt
      obtain ⟨u0, u1⟩ := hbo
      clear hl0 hk0 hro hkp
      by_cases hlt : j < M
      · have jI : (j : Int) < M := by omega
        obtain ⟨qb, hqb⟩ : ∃ qb, j / bb = qb := ⟨_, rfl⟩
        obtain ⟨rb, hrb⟩ : ∃ rb, j % bb = rb := ⟨_, rfl⟩
        have hq1 : (j : Int).tdiv (bb : Int) = (qb : Int) := by rw [Int.tdiv_eq_ediv_of_nonneg (by omega), ← Int.natCast_ediv, hqb]
        have hq2 : (j : Int).tmod (bb : Int) = (rb : Int) := by rw [Int.tmod_eq_emod_of_nonneg (by omega), ← Int.natCast_emod, hrb]
        have qb4 : qb ≤ 4096 := by rw [← hqb]; exact Nat.le_trans (Nat.div_le_self _ _) (by omega)
        have rb4 : rb ≤ 4096 := by rw [← hrb]; exact Nat.le_trans (Nat.mod_le _ _) (by omega)
        have b0 : ((bb : Int) == 0) = false := beq_eq_false_iff_ne.2 (by omega)
        have HQ := hide hqb
        have HR := hide hrb
        clear hqb hrb
        go_wp2_with fail
        go_region
        go_wp2_with fail
        clear hq1 hq2
        go_loopw [62] (fun i wx => ∃ t : Nat, t ≤ len ∧ i = .int .i64 t ∧ Bx wx w.heap.size (.slice a r cap) (.slice b s dap) ∧ (∃ L, Rw wx g len L ∧ ∀ y, y < t → L y = LN S len bb j y) ∧ Kept (· = g) X wx) (fun i _ => len - (intOf i).toNat)
        case atStart => exact ⟨0, Nat.zero_le _, rfl, HBT.out, ⟨L0, HL0.out, fun y hy => by omega⟩, kept_drew (Kept.refl _ _)⟩
        case round =>
          obtain ⟨t, ht, rfl, hbt, ⟨L, hl, he⟩, hkp⟩ := hrel
          have HBT2 := hide hbt
          have HL2 := hide hl
          have HE2 := hide he
          have HKP2 := hide hkp
          clear x0 x1 u0 u1 hl he hkp
          obtain ⟨x0, x1⟩ := hbt
          have lX : wc.heap.size ≤ X.heap.size := HKP.out.size
          have lY : X.heap.size ≤ wr.heap.size := HKP2.out.size
          have jA : j < A * bb := by rw [HM.out]; exact hlt
          by_cases htl : t < len
          · have tI : (t : Int) < len := by omega
            obtain ⟨n1, n2, n3⟩ := line_num HQ.out HR.out b1 jA htl
            rw [← SA.out] at n1 n2 n3
            obtain ⟨v1, hv1⟩ : ∃ v1, qb * len = v1 := ⟨_, rfl⟩
            rw [hv1] at n1 n2 n3
            obtain ⟨v3, hv3⟩ : ∃ v3, (v1 + t) * bb = v3 := ⟨_, rfl⟩
            rw [hv3] at n1 n3
            have e1 : (qb : Int) * (len : Int) = (v1 : Int) := by rw [← hv1, Int.natCast_mul]
            have e3 : ((v1 : Int) + (t : Int)) * (bb : Int) = (v3 : Int) := by rw [← hv3, Int.natCast_mul, Int.natCast_add]
            have n1I : (v3 : Int) + (rb : Int) < s := by omega
            have eL := hide (show LN S len bb j t = S (v3 + rb) by rw [LN_nat HQ.out HR.out, hv1, hv3])
            have hI := (H5'.out.kept (by omega) HKP.out (fun y hy e => by rcases e with e | e | e <;> omega)).kept (by omega) HKP2.out (fun y hy e => by have e : y = g := e; omega)
            have bS := hide (hI.bd (v3 + rb) (by omega))
            rcases hI with h0 | ⟨b', off, rfl, hbB, hc⟩
            · omega
            have c1 := (hc (v3 + rb) (by omega)).1
            obtain ⟨c2, f2, _⟩ := HL2.out t htl
            clear hc hv1 hv3
            go_wp2_with fail
            go_roundw
            case rel =>
              exact ⟨t + 1, by omega, by go_num, HBT2.out.kept (Kept.setCell wr ⟨g, t, none⟩ _) (by omega) (by show ¬ w.heap.size = g; omega), ⟨_, HL2.out.set t (S (v3 + rb)) bS.out, fun y hy => by
                by_cases c : y = t
                · rw [if_pos c, c, eL.out]
                · rw [if_neg c]; exact HE2.out y (by omega)⟩, HKP2.out.trans (Kept.setCell wr ⟨g, t, none⟩ _)⟩
            case measure => simp [intOf]; omega
          · have RLN := hide (HL2.out.same (E := LN S len bb j) (fun y hy => (HE2.out y (by omega)).symm))
            have RK := HK0.out.kept HKP2.out (show ¬ m = g by omega)
            obtain ⟨X1, hX1⟩ : ∃ X1, wr.setCells m 0 (List.replicate N (.int .i64 0)) = X1 := ⟨_, rfl⟩
            have hcl := fun ty => clearRow (c := N) RK (by omega) ty
            have kp1 := hide (show Kept (· = m) wr X1 by rw [← hX1]; exact kept_setCells m _ 0 wr)
            have rm1 := hide (show Rw X1 m N (fun _ => 0) by rw [← hX1]; exact rw_cleared RK)
            rw [hX1] at hcl
            have lZ : wr.heap.size ≤ X1.heap.size := kp1.out.size
            have bX1 := hide (show Below w.heap.size w X1 from ((B5.out.trans (HKP.out.below (by have := B5.out.size; omega) (fun y e => by rcases e with e | e | e <;> omega))).trans (HKP2.out.below (by have := B5.out.size; omega) (fun y e => by have e : y = g := e; omega))).trans (kp1.out.below (by have := B5.out.size; omega) (fun y e => by have e : y = m := e; omega)))
            have LF := hide (HF.out len N HL.out rfl l1 N1')
            have TW2 := hide (show WI len (LN S len bb j) 2147483647 from fun y hy => by
              rw [LN_nat HQ.out HR.out]
              have := (line_num HQ.out HR.out b1 jA hy).1
              rw [← SA.out] at this
              exact TW.out _ this)
            clear RK hX1
            go_wp2_with fail
            refine (LF.out X1 g m (LN S len bb j) bX1.out (by omega) (by omega) hgm TW2.out (RLN.out.kept kp1.out (show ¬ g = m from hgm)) rm1.out).mono ?_
            rintro e X2 ⟨⟨v, rfl⟩, rm2, kp2⟩
            have RM2 := hide rm2
            have KP2 := hide kp2
            have lU : X1.heap.size ≤ X2.heap.size := kp2.size
            have HBO2 := hide (((HBO.out.kept HKP2.out (by omega) (show ¬ w3.heap.size = g by omega)).kept kp1.out (by omega) (show ¬ w3.heap.size = m by omega)).kept kp2 (by omega) (show ¬ w3.heap.size = m by omega))
            have HRO2 := hide (((HRO.out.kept HKP2.out (show ¬ go = g by omega)).kept kp1.out (show ¬ go = m by omega)).kept kp2 (show ¬ go = m by omega))
            have HBT3 := hide ((HBT2.out.kept kp1.out (by omega) (show ¬ w.heap.size = m by omega)).kept kp2 (by omega) (show ¬ w.heap.size = m by omega))
            have KA := hide (show Kept (fun y => y = g ∨ y = m ∨ y = go) X X2 from ((HKP2.out.mono (fun y _ e => .inl e)).trans (kp1.out.mono (fun y _ e => .inr (.inl e)))).trans (kp2.mono (fun y _ e => .inr (.inl e))))
            have RLN2 := hide ((RLN.out.kept kp1.out (show ¬ g = m from hgm)).kept kp2 (show ¬ g = m from hgm))
            clear rm2 kp2 hcl x0 x1
            go_wp2_with fail
            go_loopw [89] (fun i wx => ∃ t : Nat, t ≤ N ∧ i = .int .i64 t ∧ Bx wx w3.heap.size (.slice (some ⟨ga, 0, none⟩) r fc) (.slice (some ⟨go, 0, none⟩) q fd) ∧ Rw wx m N (G (LN S len bb j)) ∧ Rw wx go q (outF V bb N j t) ∧ Kept (· = go) X2 wx) (fun i _ => N - (intOf i).toNat)
            case atStart => exact ⟨0, Nat.zero_le _, rfl, HBO2.out, RM2.out, HRO2.out, Kept.refl _ _⟩
            case round =>
              obtain ⟨t3, ht3, rfl, hbo, hrm, hro, hkp⟩ := hrel
              have HBO3 := hide hbo
              have HRM3 := hide hrm
              have HRO3 := hide hro
              have HKP3 := hide hkp
              clear hrm hro hkp
              obtain ⟨u0, u1⟩ := hbo
              have lV : X2.heap.size ≤ wr.heap.size := HKP3.out.size
              by_cases htn : t3 < N
              · have tI : (t3 : Int) < N := by omega
                obtain ⟨n1, n2, n3⟩ := line_num HQ.out HR.out b1 jA htn
                rw [← QA.out] at n1 n2 n3
                obtain ⟨v1, hv1⟩ : ∃ v1, qb * N = v1 := ⟨_, rfl⟩
                rw [hv1] at n1 n2 n3
                obtain ⟨v3, hv3⟩ : ∃ v3, (v1 + t3) * bb = v3 := ⟨_, rfl⟩
                rw [hv3] at n1 n3
                have e1 : (qb : Int) * (N : Int) = (v1 : Int) := by rw [← hv1, Int.natCast_mul]
                have e3 : ((v1 : Int) + (t3 : Int)) * (bb : Int) = (v3 : Int) := by rw [← hv3, Int.natCast_mul, Int.natCast_add]
                have n1I : (v3 : Int) + (rb : Int) < q := by omega
                have p0 : (((v3 + rb : Nat)) : Int) = ((j : Int) / (bb : Int) * (N : Int) + (t3 : Int)) * (bb : Int) + (j : Int) % (bb : Int) := by
                  rw [← Int.natCast_ediv, ← Int.natCast_emod, HQ.out, HR.out, e1, e3]; simp
                have VE := hide (show V (v3 + rb) = G (LN S len bb j) t3 by
                  have la := (line_at (j := (((v3 + rb : Nat)) : Int)) (m := (j : Int)) (b := (bb : Int)) (n := (N : Int)) (k := (t3 : Int)) (by omega) (by omega) (by omega) (by omega)).1 p0
                  rw [← HV.out]
                  show G (lineAt S (D k) (bhd D r k) (N : Int) ((v3 + rb : Nat) : Int)) ((((v3 + rb : Nat)) : Int) / bhd D r k % (N : Int)).toNat = _
                  rw [DK.out, BB.out, lineAt_eq (by omega) la.1, la.2, Int.toNat_natCast])
                have ST := hide (fun p => outF_step (V := V) (b := (bb : Int)) (n := (N : Int)) (i := (j : Int)) (t := (t3 : Int)) (p0 := v3 + rb) (by omega) (by omega) (by omega) (by omega) p0 p)
                obtain ⟨c1, f1, bd1⟩ := HRM3.out t3 htn
                obtain ⟨c2, f2, _⟩ := HRO3.out (v3 + rb) (by omega)
                have BD1 := hide bd1
                clear hv1 hv3 p0 bd1
                go_wp2_with fail
                go_roundw
                case rel =>
                  exact ⟨t3 + 1, by omega, by go_num, HBO3.out.kept (Kept.setCell wr ⟨go, v3 + rb, none⟩ _) (by omega) (by show ¬ w3.heap.size = go; omega), HRM3.out.kept (Kept.setCell wr ⟨go, v3 + rb, none⟩ _) (by show ¬ m = go; omega), (HRO3.out.set (v3 + rb) _ BD1.out).same (fun p hp => by rw [Int.natCast_add, Int.natCast_one, ST.out p, VE.out]), HKP3.out.trans (Kept.setCell wr ⟨go, v3 + rb, none⟩ _)⟩
                case measure => simp [intOf]; omega
              · have e : t3 = N := by omega
                subst e
                clear u0 u1
                go_wp2_with fail
                go_roundw
                case rel =>
                  exact ⟨j + 1, by omega, by go_num, HBT3.out.kept HKP3.out (by omega) (by show ¬ w.heap.size = go; omega), HBO3.out, ⟨_, RLN2.out.kept HKP3.out (show ¬ g = go by omega)⟩, ⟨_, HRM3.out⟩, HRO3.out.same (fun p hp => by rw [Int.natCast_add, Int.natCast_one, outF_next (by omega)]), HKP.out.trans (KA.out.trans (HKP3.out.mono (fun y _ e => .inr (.inr e))))⟩
                case measure => simp [intOf]; omega
      · have e : j = M := by omega
        subst e
        have kp := HKP.out
        have M6 := hide (M5.out.kept kp (by omega) (fun e => by rcases e with e | e | e <;> omega))
        have G6 := hide (G5.out.kept kp (by omega) (fun e => by rcases e with e | e | e <;> omega))
        have RA6 := hide (RA5.out.kept kp (fun e => by rcases e with e | e | e <;> omega))
        have B6 := hide (B5.out.trans (kp.below B5.out.size (fun y e => by rcases e with e | e | e <;> omega)))
        have R6 := hide (HRO.out.same (E := V) (fun p hp => by
          refine (outF_last ?_).symm
          have hp' : (p : Int) < (A : Int) * N * bb := by have := QA.out; rw [this] at hp; exact_mod_cast hp
          have := (lnb_rng (b := (bb : Int)) (n := (N : Int)) (A := (A : Int)) (j := (p : Int)) (by omega) (by omega) (by omega) hp').2
          rw [← HM.out, Int.natCast_mul]
          exact this))
        clear kp
        obtain ⟨y0, y1⟩ := M6.out
        have gg := G6.out
        unfold Free at gg
        go_wp2_with fail
        refine bodyPost_ret (v := .agg #[.slice (some ⟨ga, 0, none⟩) r fc, .slice (some ⟨go, 0, none⟩) q fd]) (by simp [results, Try.results43, go_sem, y0, y1]) rfl ?_
        have k2 := kept_sets2 X (w.heap.size + 1) (.slice (some ⟨ga, 0, none⟩) r fc) (.slice (some ⟨go, 0, none⟩) q fd)
        show TensR w.heap.size (lineP r s D S (k : Int) (N : Int) G) w _ _
        rw [ez.out]
        refine ⟨_, _, fc, fd, rfl, ⟨.inr ⟨ga, rfl, by omega, RA6.out.kept k2 (by omega)⟩, .inr ⟨go, rfl, by omega, R6.out.kept k2 (by omega)⟩, fun y q1 q2 => ?_⟩, B6.out.trans (k2.below B6.out.size (fun y e => by have e : y = w.heap.size + 1 := e; omega))⟩
        obtain ⟨_, ad, e1, e1'⟩ := q1
        obtain ⟨_, ad', e2, e2'⟩ := q2
        injection e1 with e1
        injection e2 with e2
        subst e1
        subst e2
        exact hne (e1'.trans e2'.symm)
end Vo
end Go.Proofs.Ytpmkjifpoikdjaa
