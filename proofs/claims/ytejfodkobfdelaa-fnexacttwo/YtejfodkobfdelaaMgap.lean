/- Lemmas for the proof of the law. -/
import Derived.Test.YtejfodkobfdelaaMgao
import Derived.Laws.EntriesVeiled
import Derived.Test.YtejfodkobfdelaaMgah
import Derived.Deep.RegionLaw
/- One on both sides. -/
namespace Go.Proofs.Ytejfodkobfdelaa
namespace Vo
open Go.ChangeShapes Go.WideShapes Go.ChangeAt Go.RowKit Go.Joins Go.Sort
open Vl Vp Vr
set_option linter.unusedVariables false
set_option linter.unusedSimpArgs false

def oneP (op : Int) (r s : Nat) (D S : Nat → Int) : PT := if (1 ≤ op ∧ op ≤ 4) ∧ tok r s D S = true then ⟨r, s, D, fun j => one1 op (S j)⟩ else PT.zero
theorem oneP_le (op : Int) (r s : Nat) (D S : Nat → Int) : (oneP op r s D S).r ≤ r ∧ (oneP op r s D S).s ≤ s := by
  unfold oneP
  split
  · exact ⟨Nat.le_refl _, Nat.le_refl _⟩
  · exact ⟨Nat.zero_le _, Nat.zero_le _⟩
theorem oneP_no {op : Int} {r s : Nat} {D S : Nat → Int} (h : ¬ ((1 ≤ op ∧ op ≤ 4) ∧ tok r s D S = true)) : oneP op r s D S = PT.zero := by unfold oneP; rw [if_neg h]
theorem oneP_yes {op : Int} {r s : Nat} {D S : Nat → Int} (h1 : 1 ≤ op ∧ op ≤ 4) (h2 : tok r s D S = true) : oneP op r s D S = ⟨r, s, D, fun j => one1 op (S j)⟩ := by unfold oneP; rw [if_pos ⟨h1, h2⟩]
theorem tok_parts {r s : Nat} {D S : Nat → Int} (h : tok r s D S = true) : dok r D = true ∧ szR D r = (s : Int) ∧ WI s S 2147483647 := by
  unfold tok wi at h
  simp only [Bool.and_eq_true, decide_eq_true_eq] at h
  exact ⟨h.1.1, h.1.2.symm, h.2⟩
theorem one1_bd {op x : Int} (h : isN x) : bd (one1 op x) := by
  obtain ⟨h0, h1⟩ := h
  have p := Num.pw_bd (x % 2147483647) 2147483645
  unfold one1 bd
  split
  · omega
  · split
    · omega
    · split
      · omega
      · split <;> omega
end Vo
end Go.Proofs.Ytejfodkobfdelaa

/- Look on both sides. -/
namespace Go.Proofs.Ytejfodkobfdelaa
namespace Vo
open Go.ChangeShapes Go.WideShapes Go.ChangeAt Go.RowKit Go.Joins Go.Sort
open Vl Vp Vr
set_option linter.unusedVariables false
set_option linter.unusedSimpArgs false

def lookP (r s : Nat) (D S : Nat → Int) (q u : Nat) (E T : Nat → Int) (o n : Int) : PT := if tok r s D S = true ∧ vok q u E T o n = true ∧ n = s then ⟨q, cntS q u E T o n, E, fun j => S (plcN E T q o j).toNat⟩ else PT.zero
theorem lookP_no {r s : Nat} {D S : Nat → Int} {q u : Nat} {E T : Nat → Int} {o n : Int} (h : ¬ (tok r s D S = true ∧ vok q u E T o n = true ∧ n = s)) : lookP r s D S q u E T o n = PT.zero := by unfold lookP; rw [if_neg h]
theorem lookP_yes {r s : Nat} {D S : Nat → Int} {q u : Nat} {E T : Nat → Int} {o n : Int} (h : tok r s D S = true ∧ vok q u E T o n = true ∧ n = s) : lookP r s D S q u E T o n = ⟨q, cntS q u E T o n, E, fun j => S (plcN E T q o j).toNat⟩ := by unfold lookP; rw [if_pos h]
theorem lookP_le (r s : Nat) (D S : Nat → Int) (q u : Nat) (E T : Nat → Int) (o n : Int) : (lookP r s D S q u E T o n).r ≤ q ∧ (((lookP r s D S q u E T o n).s : Nat) : Int) ≤ 4096 := by
  unfold lookP
  split
  · exact ⟨Nat.le_refl _, by
      show ((cntS q u E T o n : Nat) : Int) ≤ 4096
      unfold cntS
      split
      · have := szR_rng E q; omega
      · omega⟩
  · exact ⟨Nat.zero_le _, by simp [PT.zero]⟩
set_option maxHeartbeats 1000000 in
theorem lookPiece (a b pa : Option Addr) (r s cap dap N pc k Pp Pt : Nat) (S G : Nat → Int) (B : Nat) (W : World) (ht : Bx W Pt (.slice a r cap) (.slice b s dap)) (hp : W.cell? ⟨Pp, 0, none⟩ = some (.slice pa N pc)) (h : Ints B W b s S) (h2 : Ints B W pa N G) (hk : k < N) (hg : 0 ≤ G k ∧ G k < s) (hN : (N : Int) ≤ 1048576) :
    Calls Try.prog 87 #[.int .i64 k, .pointer (some ⟨Pt, 0, none⟩), .pointer (some ⟨Pp, 0, none⟩)] W fun e W' => e = .returned (.int .i64 (S (G k).toNat)) ∧ Below W.heap.size W W' := by
  rcases h with h0 | ⟨b1, o1, rfl, hb1, hc1⟩
  · omega
  rcases h2 with h0 | ⟨b2, o2, rfl, hb2, hc2⟩
  · omega
  obtain ⟨g, hgv⟩ : ∃ g : Nat, G k = g := ⟨(G k).toNat, by omega⟩
  have c2 := (hc2 k hk).1
  rw [hgv] at c2 hg ⊢
  have c1 := (hc1 g (by omega)).1
  have kI : (k : Int) < N := by omega
  have gI : (g : Int) < s := by omega
  rw [Int.toNat_natCast]
  obtain ⟨x0, x1⟩ := ht
  clear hc1 hc2 hgv hg
  go_enter Try.func87, Try.ntmps87
  go_wp2_with fail
  go_region
  all_goals (go_wp2_with fail)
  all_goals go_ret
  all_goals exact ⟨rfl, (Below.refl _ _).drew⟩
set_option maxRecDepth 100000 in
set_option maxHeartbeats 2000000 in
theorem lookF (B : Nat) (a b : Option Addr) (c : Addr) (d : Option Addr) (r s cap dap q u cap' dap' : Nat) (D S E T : Nat → Int) (o n : Int) (w : World) (hB : B ≤ w.heap.size) (h : Ints B w a r D) (h' : Ints B w b s S) (hv : Ints B w (some c) q E) (hv' : Ints B w d u T) (hr : (r : Int) ≤ 1048576) (hs : (s : Int) ≤ 1048576) (hq : (q : Int) ≤ 1048576) (hu : (u : Int) ≤ 1048576) :
    Calls Try.prog 66 #[.agg #[.slice a r cap, .slice b s dap], .agg #[.slice (some c) q cap', .slice d u dap', .int .i64 o, .int .i64 n]] w fun e w' => TensR w.heap.size (lookP r s D S q u E T o n) w e w' := by
  obtain ⟨W0, hW0⟩ : ∃ W0, ((w.alloc (.cells #[.slice a r cap, .slice b s dap] 38)).alloc (.cells #[.slice (some c) q cap', .slice d u dap', .int .i64 o, .int .i64 n] 26)).alloc (.cells #[.slice none 0 0, .slice none 0 0] 38) = W0 := ⟨_, rfl⟩
  have hs0 : W0.heap.size = w.heap.size + 1 + 1 + 1 := by rw [← hW0]; simp
  have bl : Below w.heap.size w W0 := by rw [← hW0]; exact (((Below.refl _ _).alloc (Nat.le_refl _) _).alloc (by simp) _).alloc (by simp; omega) _
  have n0 : Bx W0 w.heap.size (.slice a r cap) (.slice b s dap) := by
    rw [← hW0]; exact (bx_new w (.slice a r cap) (.slice b s dap) 38).below (((Below.refl (w.heap.size + 1) _).alloc (by simp) _).alloc (by simp) _) (by omega)
  have v0 : Box W0 (w.heap.size + 1) (.slice (some c) q cap') (.slice d u dap') (.int .i64 o) (.int .i64 n) := by
    have q := (box_new (w.alloc (.cells #[.slice a r cap, .slice b s dap] 38)) (.slice (some c) q cap') (.slice d u dap') (.int .i64 o) (.int .i64 n) 26)
    rw [World.size_alloc] at q
    rw [← hW0]; exact q.below ((Below.refl (w.heap.size + 1 + 1) _).alloc (by simp) _) (by omega)
  have m0 : Bx W0 (w.heap.size + 1 + 1) (.slice none 0 0) (.slice none 0 0) := by
    have q := bx_new ((w.alloc (.cells #[.slice a r cap, .slice b s dap] 38)).alloc (.cells #[.slice (some c) q cap', .slice d u dap', .int .i64 o, .int .i64 n] 26)) (.slice none 0 0) (.slice none 0 0) 38
    rw [World.size_alloc, World.size_alloc] at q
    rw [← hW0]; exact q
  have g0 : Free W0 (w.heap.size + 1 + 1) := by
    have q := free_new ((w.alloc (.cells #[.slice a r cap, .slice b s dap] 38)).alloc (.cells #[.slice (some c) q cap', .slice d u dap', .int .i64 o, .int .i64 n] 26)) #[.slice none 0 0, .slice none 0 0] 38
    rw [World.size_alloc, World.size_alloc] at q
    rw [← hW0]; exact q
  have H := hide (h.below (bl.mono hB))
  have H' := hide (h'.below (bl.mono hB))
  have HV := hide (hv.below (bl.mono hB))
  have HV' := hide (hv'.below (bl.mono hB))
  have BL := hide bl
  have HS0 := hide hs0
  have N0 := hide n0
  have V0 := hide v0
  have M0 := hide m0
  have G0 := hide g0
  obtain ⟨x0, x1⟩ := n0
  clear h h' hv hv' bl v0 m0 g0 hs0
  go_enter Try.func66, Try.ntmps66
  go_wp2_with fail
  clear hW0
  refine (tensorOk B a b r s cap dap D S _ (by have := HS0.out; omega) H.out H'.out hr hs).mono ?_
  rintro e w1 ⟨rfl, b1⟩
  have z0 := HS0.out
  have N1 := hide (N0.out.below b1 (by omega))
  have V1 := hide (V0.out.below b1 (by omega))
  have M1 := hide (M0.out.below b1 (by omega))
  have G1 := hide (G0.out.below b1 (by omega))
  have B1 := hide (BL.out.trans (b1.mono BL.out.size))
  have H1' := hide (H'.out.below (b1.mono (by omega)))
  have HV1 := hide (HV.out.below (b1.mono (by omega)))
  have HV1' := hide (HV'.out.below (b1.mono (by omega)))
  have s1 : w.heap.size + 1 + 1 < w1.heap.size := by have := b1.size; omega
  clear b1 x0 x1 z0
  cases ht : tok r s D S with
  | false =>
    obtain ⟨y0, y1⟩ := M1.out
    have gg := G1.out
    unfold Free at gg
    have ez := hide (lookP_no (q := q) (u := u) (E := E) (T := T) (o := o) (n := n) (fun q => by rw [ht] at q; exact absurd q.1 (by decide)))
    clear ht
    go_wp2_with fail
    refine bodyPost_ret (v := .agg #[.slice none 0 0, .slice none 0 0]) (by simp [results, Try.results66, go_sem, y0, y1]) rfl (by
      rw [ez.out]
      refine tensR_zero ?_
      repeat (refine Below.setCell ?_ (by simp; omega) _)
      exact B1.out)
  | true =>
  have HT := hide ht
  clear ht
  obtain ⟨v0, v1, v2, v3⟩ := V1.out
  go_wp2_with fail
  refine (viewOk B (some c) d q u cap' dap' E T o n _ (by omega) HV1.out HV1'.out hq hu).mono ?_
  rintro e w2 ⟨rfl, b2⟩
  have N2 := hide (N1.out.below b2 (by omega))
  have V2 := hide (V1.out.below b2 (by omega))
  have M2 := hide (M1.out.below b2 (by omega))
  have G2 := hide (G1.out.below b2 (by omega))
  have B2 := hide (B1.out.trans (b2.mono B1.out.size))
  have H2' := hide (H1'.out.below (b2.mono (by omega)))
  have HV2 := hide (HV1.out.below (b2.mono (by omega)))
  have HV2' := hide (HV1'.out.below (b2.mono (by omega)))
  have s2 : w1.heap.size ≤ w2.heap.size := b2.size
  clear b2 v0 v1 v2 v3
  obtain ⟨y0, y1⟩ := M2.out
  have gg := G2.out
  unfold Free at gg
  obtain ⟨x0, x1⟩ := N2.out
  obtain ⟨v0, v1, v2, v3⟩ := V2.out
  cases hv : vok q u E T o n with
  | false =>
    have ez := hide (lookP_no (r := r) (s := s) (D := D) (S := S) (q := q) (u := u) (E := E) (T := T) (o := o) (n := n) (fun q => by rw [hv] at q; exact absurd q.2.1 (by decide)))
    clear hv
    go_wp2_with fail
    refine bodyPost_ret (v := .agg #[.slice none 0 0, .slice none 0 0]) (by simp [results, Try.results66, go_sem, y0, y1]) rfl (by
      rw [ez.out]
      refine tensR_zero ?_
      repeat (refine Below.setCell ?_ (by simp; omega) _)
      exact B2.out)
  | true =>
  by_cases hn : n = s
  rotate_left
  · have hn' : (n != (s : Int)) = true := bne_iff_ne.2 hn
    have ez := hide (lookP_no (r := r) (s := s) (D := D) (S := S) (q := q) (u := u) (E := E) (T := T) (o := o) (n := n) (fun q => hn q.2.2))
    clear hv hn
    go_wp2_with fail
    refine bodyPost_ret (v := .agg #[.slice none 0 0, .slice none 0 0]) (by simp [results, Try.results66, go_sem, y0, y1]) rfl (by
      rw [ez.out]
      refine tensR_zero ?_
      repeat (refine Below.setCell ?_ (by simp; omega) _)
      exact B2.out)
  have hn' : (n != (s : Int)) = false := by rw [bne_eq_false_iff_eq]; exact hn
  have ez := hide (lookP_yes ⟨HT.out, hv, hn⟩)
  have PL := hide (fun k => (vok_iff.1 hv).place k)
  have CN := hide (cntS_le q u E T o n)
  have HN := hide hn
  have PBD := hide (fun k => plcN_bd (vok_iff.1 hv) k)
  clear hv hn y0 y1 gg
  go_wp2_with fail
  refine (placesS B (some c) d q u cap' dap' E T o n _ (by omega) HV2.out HV2'.out hq hu).mono ?_
  rintro e w3 ⟨pa, pc, rfl, po, b3⟩
  obtain ⟨N, hNN⟩ : ∃ N, cntS q u E T o n = N := ⟨_, rfl⟩
  rw [hNN] at po CN ez ⊢
  obtain ⟨W3, hW3⟩ : ∃ W3, w3.alloc (.cells #[.slice pa N pc] 22) = W3 := ⟨_, rfl⟩
  have b4 : Below w3.heap.size w3 W3 := by rw [← hW3]; exact (Below.refl _ _).alloc (Nat.le_refl _) _
  have z3 : W3.heap.size = w3.heap.size + 1 := by rw [← hW3]; simp
  have sb := b3.size
  have p3 : W3.cell? ⟨w3.heap.size, 0, none⟩ = some (.slice pa N pc) := by rw [← hW3]; simp [go_sem]
  have P3 := hide p3
  have N3 := hide ((N2.out.below b3 (by omega)).below b4 (by omega))
  have V3 := hide ((V2.out.below b3 (by omega)).below b4 (by omega))
  have M3 := hide ((M2.out.below b3 (by omega)).below b4 (by omega))
  have G3 := hide ((G2.out.below b3 (by omega)).below b4 (by omega))
  have B3 := hide ((B2.out.trans (b3.mono B2.out.size)).trans (b4.mono (by have := B2.out.size; omega)))
  have H3' := hide ((H2'.out.below (b3.mono (by omega))).below (b4.mono (by omega)))
  have HV3 := hide ((HV2.out.below (b3.mono (by omega))).below (b4.mono (by omega)))
  have PO := hide ((po.below b4).ints)
  have Z3 := hide z3
  have s3 : w.heap.size + 1 + 1 < w3.heap.size := by omega
  clear b3 b4 po z3 sb x0 x1 v0 v1 v2 v3
  obtain ⟨x0, x1⟩ := N3.out
  obtain ⟨v0, v1, v2, v3⟩ := V3.out
  go_wp2_with fail
  clear hW3
  refine (elementwise2 N 87 (.pointer (some ⟨w.heap.size, 0, none⟩)) (.pointer (some ⟨w3.heap.size, 0, none⟩)) (fun j => S (plcN E T q o j).toNat) _ (by have := CN.out; omega) (fun k hk => H3'.out.bd _ (by have := PL.out k; have := HN.out; unfold plcN; omega)) (enters_of Try.func87 (by kernel_rfl) rfl) (fun k W hk hW => lookPiece a b pa r s cap dap N pc k w3.heap.size w.heap.size S (plcN E T q o) W3.heap.size W (N3.out.below hW (by have := Z3.out; omega)) ((hW.cell (p := ⟨w3.heap.size, 0, none⟩) (by have := Z3.out; show w3.heap.size < W3.heap.size; omega)).trans P3.out) ((H3'.out.mono (by have := Z3.out; omega)).below hW) (PO.out.below hW) hk (by have := PL.out k; have := HN.out; unfold plcN; omega) (by have := CN.out; omega))).mono ?_
  rintro e w4 ⟨rfl, r4, s4, b4⟩
  have z3 := Z3.out
  have R4 := hide r4
  have V4 := hide (V3.out.below b4 (by omega))
  have M4 := hide (M3.out.below b4 (by omega))
  have G4 := hide (G3.out.below b4 (by omega))
  have B4 := hide (B3.out.trans (b4.mono B3.out.size))
  have HV4 := hide (HV3.out.below (b4.mono (by omega)))
  have sW : w.heap.size + 1 + 1 < W3.heap.size := by omega
  clear r4 b4 x0 x1 v0 v1 v2 v3 p3 z3
  obtain ⟨v0, v1, v2, v3⟩ := V4.out
  go_wp2_with fail
  refine (clone B (some c) q cap' E _ HV4.out (by omega) hq (fun e => by cases e)).mono ?_
  rintro e w5 ⟨v, rfl, rv, b5⟩
  obtain ⟨va, vc, rfl, ov⟩ := rv.own
  have M5 := hide (M4.out.below b5 (by omega))
  have G5 := hide (G4.out.below b5 (by omega))
  have B5 := hide (B4.out.trans (b5.mono B4.out.size))
  have R5 := hide (R4.out.below b5 s4)
  have OV := hide ov
  have s5 := b5.size
  clear rv b5 ov v0 v1 v2 v3
  obtain ⟨y0, y1⟩ := M5.out
  have gg := G5.out
  unfold Free at gg
  go_wp2_with fail
  refine bodyPost_ret (v := .agg #[.slice va q vc, .slice (some ⟨W3.heap.size, 0, none⟩) N N]) (by simp [results, Try.results66, go_sem, y0, y1]) rfl ?_
  show TensR w.heap.size (lookP r s D S q u E T o n) w _ _
  rw [ez.out]
  exact tens_end (v := ⟨q, N, E, fun j => S (plcN E T q o j).toNat⟩) (P := w.heap.size + 1 + 1) (B := W3.heap.size) ⟨OV.out.mono (by omega), .inr ⟨_, rfl, Nat.le_refl _, R5.out⟩, fun j q1 q2 => by
    have := (OV.out.blk q1).1
    obtain ⟨_, ad, e', e''⟩ := q2
    injection e' with e'
    subst e'
    have e'' : W3.heap.size = j := e''
    omega⟩ (by omega) (by omega) B5.out
end Vo
end Go.Proofs.Ytejfodkobfdelaa
