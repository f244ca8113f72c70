/- Sorted of the model. -/
import Derived.Test.YtpmkjifpoikdjaaGb
import Derived.Test.YtpmkjifpoikdjaaGc
import Derived.Test.YtpmkjifpoikdjaaTy
import Derived.Test.YtpmkjifpoikdjaaQt
namespace Go.Proofs.Ytpmkjifpoikdjaa
namespace Vo
open Go.ChangeShapes Go.WideShapes Go.ChangeAt Go.RowKit Go.Joins Go.Sort
open Vl Vp Vr
set_option linter.unusedVariables false
set_option linter.unusedSimpArgs false
theorem tensR2_zero {B : Nat} {w w' : World} (hb : Below w.heap.size w w') : TensR2 B PT.zero PT.zero w (.returned (.tuple #[.agg #[.slice none 0 0, .slice none 0 0], .agg #[.slice none 0 0, .slice none 0 0]])) w' :=
  ⟨none, none, 0, 0, none, none, 0, 0, rfl, ⟨.inl rfl, .inl rfl, fun k h => absurd rfl h.1⟩, ⟨.inl rfl, .inl rfl, fun k h => absurd rfl h.1⟩, fun k h => by rcases h with h | h <;> exact absurd rfl h.1, hb⟩
set_option maxRecDepth 100000 in
set_option maxHeartbeats 4000000 in
theorem specSorted (B : Nat) (a : Addr) (b : Option Addr) (r s cap dap : Nat) (D S : Nat → Int) (x : Int) (w : World) (hB : B ≤ w.heap.size) (h : Ints B w (some a) r D) (h' : Ints B w b s S) (hr : (r : Int) ≤ 1048576) (hs : (s : Int) ≤ 1048576) :
    Calls Try.prog 15 #[.agg #[.slice (some a) r cap, .slice b s dap], .int .i64 x] w fun e w' => TensR2 w.heap.size (lineP r s D S x (lenA r s D S x) (nuG (lenA r s D S x).toNat)) (lineP r s D S x (lenA r s D S x) (plG (lenA r s D S x).toNat)) w e w' := by
  obtain ⟨W0, hW0⟩ : ∃ W0, ((w.alloc (.cells #[.slice (some a) r cap, .slice b s dap] 37)).alloc (.cells #[.slice none 0 0, .slice none 0 0] 37)).alloc (.cells #[.slice none 0 0, .slice none 0 0] 37) = W0 := ⟨_, rfl⟩
  have hs0 : W0.heap.size = w.heap.size + 3 := by rw [← hW0]; simp
  have bl : Below w.heap.size w W0 := by rw [← hW0]; exact (((Below.refl _ _).alloc (Nat.le_refl _) _).alloc (by simp) _).alloc (by simp; omega) _
  have n0 : Bx W0 w.heap.size (.slice (some a) r cap) (.slice b s dap) := by
    rw [← hW0]; exact ((bx_new w (.slice (some a) r cap) (.slice b s dap) 37).below ((Below.refl (w.heap.size + 1) _).alloc (by simp) _) (by omega)).below ((Below.refl (w.heap.size + 1) _).alloc (by simp) _) (by omega)
  have m0 : Bx W0 (w.heap.size + 1) (.slice none 0 0) (.slice none 0 0) := by
    have q := bx_new (w.alloc (.cells #[.slice (some a) r cap, .slice b s dap] 37)) (.slice none 0 0) (.slice none 0 0) 37
    rw [World.size_alloc] at q
    rw [← hW0]; exact q.below ((Below.refl (w.heap.size + 2) _).alloc (by simp) _) (by omega)
  have m1 : Bx W0 (w.heap.size + 1 + 1) (.slice none 0 0) (.slice none 0 0) := by
    have q := bx_new ((w.alloc (.cells #[.slice (some a) r cap, .slice b s dap] 37)).alloc (.cells #[.slice none 0 0, .slice none 0 0] 37)) (.slice none 0 0) (.slice none 0 0) 37
    rw [World.size_alloc, World.size_alloc] at q
    rw [← hW0]; exact q
  have g0 : Free W0 (w.heap.size + 1) ∧ Free W0 (w.heap.size + 1 + 1) := by
    rw [← hW0]
    constructor <;> (intro i; simp [go_sem])
  have H := hide (h.below (bl.mono hB))
  have H' := hide (h'.below (bl.mono hB))
  have BL := hide bl
  have HS0 := hide hs0
  have N0 := hide n0
  have M0 := hide (And.intro m0 m1)
  have G0 := hide g0
  obtain ⟨x0, x1⟩ := n0
  clear h h' bl m0 m1 g0 hs0
  go_enter Try.func15, Try.ntmps15
  go_wp2_with fail
  clear hW0
  refine (l4Axis B (some a) b r s cap dap D S x _ (by have := HS0.out; omega) H.out H'.out hr hs).mono ?_
  rintro e w1 ⟨rfl, b1⟩
  have z0 := HS0.out
  have N1 := hide (N0.out.below b1 (by omega))
  have M1 := hide (And.intro (M0.out.1.below b1 (by omega)) (M0.out.2.below b1 (by omega)))
  have G1 := hide (And.intro (G0.out.1.below b1 (by omega)) (G0.out.2.below b1 (by omega)))
  have B1 := hide (BL.out.trans (b1.mono BL.out.size))
  have H1 := hide (H.out.below (b1.mono (by omega)))
  have H1' := hide (H'.out.below (b1.mono (by omega)))
  have s1 : w.heap.size + 2 < w1.heap.size := by have := b1.size; omega
  clear b1 x0 x1 z0
  obtain ⟨x0, x1⟩ := N1.out
  by_cases hx : tok r s D S = true ∧ 0 ≤ x ∧ x < r
  rotate_left
  · have ez := hide (lineP_no (n := lenA r s D S x) (G := (nuG (lenA r s D S x).toNat)) (fun q => hx q.1))
    have ez' := hide (lineP_no (n := lenA r s D S x) (G := (plG (lenA r s D S x).toNat)) (fun q => hx q.1))
    obtain ⟨⟨y0, y1⟩, y2, y3⟩ := M1.out
    obtain ⟨gg, gg'⟩ := G1.out
    unfold Free at gg gg'
    rw [decide_eq_false hx]
    clear hx
    go_wp2_with fail
    refine bodyPost_ret (v := .tuple #[.agg #[.slice none 0 0, .slice none 0 0], .agg #[.slice none 0 0, .slice none 0 0]]) (by simp [results, Try.results15, go_sem, y0, y1, y2, y3]) rfl (by
      rw [ez.out, ez'.out]
      refine tensR2_zero ?_
      repeat (refine Below.setCell ?_ (by simp; try omega) _)
      exact B1.out)
  rw [decide_eq_true hx]
  obtain ⟨ht, hx0, hx1⟩ := hx
  obtain ⟨k, rfl⟩ : ∃ k : Nat, x = k := ⟨x.toNat, by omega⟩
  have hk : k < r := by omega
  have hl : lenA r s D S (k : Int) = D k := by rw [lenA_yes ⟨ht, hx0, hx1⟩, Int.toNat_natCast]
  obtain ⟨td, ts, tw⟩ := tok_split ht
  obtain ⟨dk0, dk1⟩ := dok_len td hk
  obtain ⟨len, hlen⟩ : ∃ len : Nat, D k = len := ⟨(D k).toNat, by omega⟩
  have b1' : 1 ≤ bhd D r k := bhd_pos (dok_pr td).2
  obtain ⟨c, hcb⟩ : ∃ c, bhd D r k = c := ⟨_, rfl⟩
  have ez := hide (show lineP r s D S (k : Int) (lenA r s D S (k : Int)) (nuG (lenA r s D S (k : Int)).toNat) = ⟨r, s, D, fun j => nuG len (lineAt S len c len j) ((j : Int) / c % len).toNat⟩ by
    rw [hl, lineP_same ht hk, hcb, hlen, Int.toNat_natCast])
  have ez' := hide (show lineP r s D S (k : Int) (lenA r s D S (k : Int)) (plG (lenA r s D S (k : Int)).toNat) = ⟨r, s, D, fun j => plG len (lineAt S len c len j) ((j : Int) / c % len).toNat⟩ by
    rw [hl, lineP_same ht hk, hcb, hlen, Int.toNat_natCast])
  obtain ⟨V, hV⟩ : ∃ V : Nat → Int, (fun j => nuG len (lineAt S len c len j) ((j : Int) / c % len).toNat : Nat → Int) = V := ⟨_, rfl⟩
  obtain ⟨U, hU⟩ : ∃ U : Nat → Int, (fun j => plG len (lineAt S len c len j) ((j : Int) / c % len).toNat : Nat → Int) = U := ⟨_, rfl⟩
  rw [hV] at ez
  rw [hU] at ez'
  rw [hcb] at b1'
  have l1 : 1 ≤ len := by omega
  have l2 : len ≤ 4096 := by omega
  have r6 : r ≤ 6 := (dok_iff.1 td).1
  have lS : (s : Int) ≤ 4096 := by rw [← ts]; exact (szR_rng D r).2
  have HT := hide ht
  have TD := hide td
  have TS := hide ts
  have TW := hide tw
  have DK := hide hlen
  have HV := hide hV
  have HU := hide hU
  have CB := hide hcb
  have AS := hide (show (s : Int) = pr D k * len * c by rw [← TS.out, (dok_pr TD.out).1, pr_axis D hk, CB.out, DK.out])
  clear ht hx0 hx1 td ts tw dk0 dk1 hlen hl hV hU hcb
  go_wp2_with fail
  refine (l4New B a r cap s D _ (by omega) H1.out hr TS.out lS).mono ?_
  rintro e w2 ⟨va, vc, g, rfl, ov, rg, lg, hg, hne, b2⟩
  have sb := b2.size
  obtain ⟨W2, hW2⟩ : ∃ W2, w2.alloc (.cells #[.slice va r vc, .slice (some ⟨g, 0, none⟩) s s] 37) = W2 := ⟨_, rfl⟩
  have b3 : Below w2.heap.size w2 W2 := by rw [← hW2]; exact (Below.refl _ _).alloc (Nat.le_refl _) _
  have z2 : W2.heap.size = w2.heap.size + 1 := by rw [← hW2]; simp
  have T2 := hide (show Bx W2 w2.heap.size (.slice va r vc) (.slice (some ⟨g, 0, none⟩) s s) by rw [← hW2]; exact bx_new w2 _ _ _)
  have N2 := hide ((N1.out.below b2 (by omega)).below b3 (by omega))
  have H2 := hide ((H1.out.below (b2.mono (by omega))).below (b3.mono (by omega)))
  have H2' := hide ((H1'.out.below (b2.mono (by omega))).below (b3.mono (by omega)))
  have BB := hide (show Below w1.heap.size w1 W2 from b2.trans (b3.mono (by omega)))
  have OV := hide (ov.below b3)
  have RG := hide (rg.below b3 hg)
  have HNE := hide hne
  have Z2 := hide z2
  have zg : w1.heap.size ≤ g := by omega
  have zg2 : g < w2.heap.size := hg
  have z3 : w1.heap.size ≤ w2.heap.size := sb
  clear ov rg b2 b3 sb hne z2 x0 x1 lg hg
  obtain ⟨x0, x1⟩ := N2.out
  go_wp2_with fail
  clear hW2
  refine (l4New B a r cap s D _ (by have := Z2.out; omega) H2.out hr TS.out lS).mono ?_
  rintro e w3 ⟨va', vc', g', rfl, ov, rg, lg, hg, hne, b2⟩
  have sb := b2.size
  have z2 := Z2.out
  obtain ⟨W3, hW3⟩ : ∃ W3, w3.alloc (.cells #[.slice va' r vc', .slice (some ⟨g', 0, none⟩) s s] 37) = W3 := ⟨_, rfl⟩
  have b3 : Below w3.heap.size w3 W3 := by rw [← hW3]; exact (Below.refl _ _).alloc (Nat.le_refl _) _
  have z3' : W3.heap.size = w3.heap.size + 1 := by rw [← hW3]; simp
  have b4 : Below W2.heap.size W2 W3 := b2.trans (b3.mono (by omega))
  have T3 := hide (show Bx W3 w3.heap.size (.slice va' r vc') (.slice (some ⟨g', 0, none⟩) s s) by rw [← hW3]; exact bx_new w3 _ _ _)
  have T2' := hide (T2.out.below b4 (by omega))
  have N3 := hide (N2.out.below b4 (by omega))
  have M3 := hide (And.intro ((M1.out.1.below BB.out (by omega)).below b4 (by omega)) ((M1.out.2.below BB.out (by omega)).below b4 (by omega)))
  have G3 := hide (And.intro ((G1.out.1.below BB.out (by omega)).below b4 (by omega)) ((G1.out.2.below BB.out (by omega)).below b4 (by omega)))
  have H3 := hide (H2.out.below (b4.mono (by omega)))
  have H3' := hide (H2'.out.below (b4.mono (by omega)))
  have B3 := hide ((B1.out.trans (BB.out.mono B1.out.size)).trans (b4.mono (by omega)))
  have OV2 := hide (OV.out.below b4)
  have OV3 := hide (ov.below b3)
  have RG2 := hide (RG.out.below b4 (by omega))
  have RG3 := hide (rg.below b3 hg)
  have HNE3 := hide hne
  have Z3 := hide z3'
  have BV := hide (fun k q => (OV.out.blk (b := k) q).2)
  have yg : W2.heap.size ≤ g' := by omega
  have yg2 : g' < w3.heap.size := hg
  have y3 : W2.heap.size ≤ w3.heap.size := sb
  clear ov rg b2 b3 b4 sb hne z3' x0 x1 lg hg
  obtain ⟨x0, x1⟩ := N3.out
  go_wp2_with fail
  clear hW3
  go_loopw [8] (fun i wx => ∃ j : Nat, j ≤ s ∧ i = .int .i64 j ∧ Bx wx w2.heap.size (.slice va r vc) (.slice (some ⟨g, 0, none⟩) s s) ∧ Bx wx w3.heap.size (.slice va' r vc') (.slice (some ⟨g', 0, none⟩) s s) ∧ Bx wx w.heap.size (.slice (some a) r cap) (.slice b s dap) ∧ Rw wx g s (sJ V S len c j) ∧ Rw wx g' s (sJ U S len c j) ∧ Kept (fun q => q = g ∨ q = g') W3 wx) (fun i _ => s - (intOf i).toNat)
  case atStart => exact ⟨0, Nat.zero_le _, rfl, T2'.out, T3.out, N3.out, RG2.out.same (fun t ht => sJ_zero b1' l1 (A := pr D k) (by rw [← AS.out]; omega)), RG3.out.same (fun t ht => sJ_zero b1' l1 (A := pr D k) (by rw [← AS.out]; omega)), Kept.refl _ _⟩
  case round =>
    obtain ⟨X, rfl⟩ : ∃ X, X = wr := ⟨_, rfl⟩
    obtain ⟨j, hj, rfl, hbx, hby, hbt, hrw, hrw', hkp⟩ := hrel
    have HBX := hide hbx
    have HBY := hide hby
    have HBT := hide hbt
    have HRW := hide hrw
    have HRW' := hide hrw'
    have HKP := hide hkp
    have lX : w3.heap.size + 1 ≤ X.heap.size := by have := HKP.out.size; have := Z3.out; omega
    clear x0 x1
    obtain ⟨x0, x1⟩ := hbt
    clear hrw hrw' hkp hbx hby
    by_cases hlt : j < s
    case neg =>
      have e : j = s := by omega
      have kp := HKP.out
      have n1 : ¬ (w.heap.size + 1 = g ∨ w.heap.size + 1 = g') := by omega
      have n2 : ¬ (w.heap.size + 1 + 1 = g ∨ w.heap.size + 1 + 1 = g') := by omega
      have M4 := hide (And.intro (M3.out.1.kept kp (by have := Z3.out; omega) n1) (M3.out.2.kept kp (by have := Z3.out; omega) n2))
      have G4 := hide (And.intro (G3.out.1.kept kp (by have := Z3.out; omega) n1) (G3.out.2.kept kp (by have := Z3.out; omega) n2))
      have OVA := hide (OV2.out.kept kp (fun b q e => by rcases e with e | e; exact HNE.out b q e; have := BV.out b q; omega))
      have OVB := hide (OV3.out.kept kp (fun b q e => by rcases e with e | e; have := (OV3.out.blk q).1; omega; exact HNE3.out b q e))
      have B4 := hide (B3.out.trans (kp.below B3.out.size (fun j e => by omega)))
      have R4 := hide (HRW.out.same (E := V) (fun t ht => by rw [e]; exact (sJ_all b1' l1 AS.out ht).symm))
      have R4' := hide (HRW'.out.same (E := U) (fun t ht => by rw [e]; exact (sJ_all b1' l1 AS.out ht).symm))
      have VA := hide (show VOwn w1.heap.size X va (some ⟨g, 0, none⟩) r s D V from ⟨OVA.out.mono (by omega), .inr ⟨g, rfl, by omega, R4.out⟩, fun j q1 q2 => by
        obtain ⟨_, ad, e', e''⟩ := q2
        injection e' with e'
        subst e'
        have e'' : g = j := e''
        exact HNE.out j q1 e''.symm⟩)
      have VB := hide (show VOwn W2.heap.size X va' (some ⟨g', 0, none⟩) r s D U from ⟨OVB.out.mono (by omega), .inr ⟨g', rfl, by omega, R4'.out⟩, fun j q1 q2 => by
        obtain ⟨_, ad, e', e''⟩ := q2
        injection e' with e'
        subst e'
        have e'' : g' = j := e''
        exact HNE3.out j q1 e''.symm⟩)
      have VC := hide (show ∀ q, VBlk va (some ⟨g, 0, none⟩) r s q → q < W2.heap.size from fun q h => by
        rcases h with h | h
        · have := BV.out q h; omega
        · obtain ⟨_, ad, e', e''⟩ := h
          injection e' with e'
          subst e'
          have e'' : g = q := e''
          omega)
      obtain ⟨u0, u1⟩ := HBX.out
      obtain ⟨u2, u3⟩ := HBY.out
      obtain ⟨⟨y0, y1⟩, y2, y3⟩ := M4.out
      obtain ⟨gg, gg'⟩ := G4.out
      unfold Free at gg gg'
      clear kp e
      go_wp2_with fail
      go_region
      all_goals (go_wp2_with fail)
      all_goals refine bodyPost_ret (v := .tuple #[.agg #[.slice va r vc, .slice (some ⟨g, 0, none⟩) s s], .agg #[.slice va' r vc', .slice (some ⟨g', 0, none⟩) s s]]) (by simp [results, Try.results15, go_sem, y0, y1, y2, y3]) rfl ?_
      all_goals
        show TensR2 w.heap.size (lineP r s D S (k : Int) (lenA r s D S (k : Int)) (nuG (lenA r s D S (k : Int)).toNat)) (lineP r s D S (k : Int) (lenA r s D S (k : Int)) (plG (lenA r s D S (k : Int)).toNat)) w _ _
        rw [ez.out, ez'.out]
      all_goals exact tens_end2 (v := ⟨r, s, D, V⟩) (u := ⟨r, s, D, U⟩) VA.out VB.out VC.out (by omega) (by omega) (by omega) B4.out
    have jI : (j : Int) < s := by omega
    have HA := hide (H3.out.kept (by have := Z3.out; omega) HKP.out (fun y hy e => by omega))
    have HA' := hide (H3'.out.kept (by have := Z3.out; omega) HKP.out (fun y hy e => by omega))
    have HD := hide (fun i hi => dok_len TD.out (j := i) hi)
    go_wp2_with fail
    refine (l3Index B (some a) r cap D j _ HA.out (by omega) (by omega) HD.out (by omega) (by omega)).mono ?_
    rintro e X1 ⟨rfl, ra, sa, ba⟩
    have HBT1 := hide (HBT.out.below ba (by omega))
    have HB1 := hide (HA.out.below (ba.mono (by omega)))
    have HB1' := hide (HA'.out.below (ba.mono (by omega)))
    have RA := hide ra
    have BA := hide ba
    have dgr := dg_rng D r (fun i hi => (HD.out i hi).1) (j : Int)
    have DG := hide dgr
    have lX1 : X.heap.size ≤ X1.heap.size := ba.size
    clear ra ba dgr x0 x1
    obtain ⟨x0, x1⟩ := HBT1.out
    go_wp2_with fail
    refine (l4Line X1.heap.size (some a) b _ r s cap dap k r len D S (dg D r j) _ (Nat.le_refl _) (HB1.out.mono (by omega)) (HB1'.out.mono (by omega)) (RA.out.ints sa) HT.out DG.out hk DK.out).mono ?_
    rintro e X2 ⟨gl, cl, rfl, hgl, lgl, rl, b5⟩
    rw [lineAt_od (s := s) TD.out hk j (by rw [TS.out]; omega), CB.out, DK.out] at rl
    obtain ⟨L, hL⟩ : ∃ L, lineAt S len c len j = L := ⟨_, rfl⟩
    rw [hL] at rl
    obtain ⟨av, hav⟩ : ∃ av : Nat, dg D r j k = av := ⟨(dg D r j k).toNat, by have := DG.out k hk; omega⟩
    have av1 : av < len := by have := DG.out k hk; have := DK.out; omega
    have AX := hide (show (j : Int) / c % len = av by
      have e2 := dok_pr TD.out
      rw [← hav, dg_axis hk e2.2 (j : Int) (by omega) (by rw [← e2.1, TS.out]; omega), CB.out, DK.out])
    have RK := hide (show rkJ S len c j = So.rnk (keyI L) len av by
      unfold rkJ
      rw [hL, AX.out, Int.toNat_natCast])
    have LE := hide (show L av = S j by
      rw [← hL]
      unfold lineAt
      rw [← AX.out, mv_self b1' (by omega), Int.toNat_natCast])
    have HD2 := hide (HB1'.out.below (b5.mono (by omega)))
    have hLr := hide (show WI len L 2147483647 from fun u hu => by
      rw [← hL]
      have m1 := mv_rng (l := (len : Int)) (b := c) (n := (len : Int)) (x := (u : Int)) (j := (j : Int)) (A := pr D k) b1' (by omega) (by omega) (by omega) (by omega) (by rw [← AS.out]; omega)
      rw [← AS.out] at m1
      exact TW.out _ (by omega))
    have RL := hide rl
    have RA2 := hide (RA.out.below b5 sa)
    have HBX2 := hide ((HBX.out.below BA.out (by omega)).below b5 (by omega))
    have HBY2 := hide ((HBY.out.below BA.out (by omega)).below b5 (by omega))
    have HBT2 := hide (HBT1.out.below b5 (by omega))
    have HRW2 := hide ((HRW.out.below BA.out (by omega)).below b5 (by omega))
    have HRW2' := hide ((HRW'.out.below BA.out (by omega)).below b5 (by omega))
    have KX := hide (show Kept (fun q => q = g ∨ q = g') W3 X2 from (HKP.out.trans (Kept.of_below BA.out)).trans (Kept.of_below b5))
    have lX2 : X1.heap.size ≤ X2.heap.size := b5.size
    obtain ⟨ca, _, _⟩ := RA2.out k hk
    rw [hav] at ca
    have kI : (k : Int) < r := by omega
    have HAV := hide hav
    clear rl b5 hL hav x0 x1
    obtain ⟨u0, u1⟩ := HBX2.out
    go_wp2_with fail
    rcases HD2.out with h0 | ⟨b', off, rfl, hbB, hc⟩
    · omega
    have cj := (hc j hlt).1
    have bj := (hc j hlt).2
    have cj' := cj
    rw [← LE.out] at cj
    obtain ⟨x0, x1⟩ := HBT2.out
    have qa := hLr.out av av1
    clear hc
    go_loopw [11, 12] (fun v i wx => ∃ t : Nat, t ≤ len ∧ i = .int .i64 t ∧ v = .int .i64 (So.cnt (fun u => decide (So.ahd (keyI L) u av)) t : Nat) ∧ wx = X2) (fun _ i _ => len - (intOf i).toNat)
    case atStart => exact ⟨0, Nat.zero_le _, rfl, rfl, rfl⟩
    case round =>
      obtain ⟨t, ht, rfl, rfl, hw⟩ := hrel
      have hw := hw.symm
      subst hw
      by_cases htl : t < len
      · have tl : (t : Int) < len := by omega
        obtain ⟨c1, f1, _⟩ := RL.out t (by omega)
        have q1 := hLr.out t (by omega)
        obtain ⟨p, hp⟩ : ∃ p, Base.sg (L t % 2147483647) = p := ⟨_, rfl⟩
        obtain ⟨y, hy⟩ : ∃ y, Base.sg (L av % 2147483647) = y := ⟨_, rfl⟩
        have CS1 := hide (fun (W : World) => Base.specSigned (L t) W (by omega) (by omega))
        have CS2 := hide (fun (W : World) => Base.specSigned (L av) W (by omega) (by omega))
        rw [hp] at CS1
        rw [hy] at CS2
        have BT := hide (show So.ahd (keyI L) t av ↔ (p < y ∨ (p = y ∧ t < av)) by
          unfold So.ahd So.lt keyI sgs
          rw [Int.toNat_natCast, Int.toNat_natCast, hp, hy]
          exact ⟨fun q => by rcases q with q | q; exact .inl q; exact .inr ⟨q.1, by omega⟩, fun q => by rcases q with q | q; exact .inl q; exact .inr ⟨q.1, by omega⟩⟩)
        obtain ⟨cn, hcn⟩ : ∃ cn, So.cnt (fun u => decide (So.ahd (keyI L) u av)) t = cn := ⟨_, rfl⟩
        have cn1 : cn ≤ t := by
          have := So.cnt_le (P := fun u => decide (So.ahd (keyI L) u av)) (Q := fun _ => true) t (fun u _ _ => rfl)
          rw [So.cnt_all, hcn] at this
          exact this
        have NX := hide (show So.cnt (fun u => decide (So.ahd (keyI L) u av)) (t + 1) = cn + if decide (So.ahd (keyI L) t av) = true then 1 else 0 by
          rw [So.cnt, hcn])
        rw [hcn]
        clear hp hy hcn
        by_cases d1 : p < y
        · have d1' : decide (p < y) = true := decide_eq_true d1
          have EN := hide (show So.cnt (fun u => decide (So.ahd (keyI L) u av)) (t + 1) = cn + 1 by rw [NX.out, decide_eq_true (BT.out.2 (.inl d1))]; simp)
          have DD := hide d1
          clear d1
          go_wp2_with fail
          refine (CS1.out _).mono ?_
          rintro e w1 ⟨rfl, rfl⟩
          go_wp2_with fail
          refine (CS2.out _).mono ?_
          rintro e w1 ⟨rfl, rfl⟩
          go_wp2_with fail
          all_goals go_roundw
          all_goals first
            | (exfalso; have := DD.out; omega)
            | (simp [intOf]; omega)
            | exact ⟨t + 1, by omega, by go_num, by rw [EN.out] <;> exact congrArg (Value.int .i64) (by omega), by first | rfl | trivial⟩
            | exact ⟨⟨t + 1, by omega, by go_num, by rw [EN.out] <;> exact congrArg (Value.int .i64) (by omega), by first | rfl | trivial⟩, by simp [intOf]; omega⟩
        have d1' : decide (p < y) = false := decide_eq_false d1
        by_cases d2 : p = y
        rotate_left
        · have d2' : (p == y) = false := beq_eq_false_iff_ne.2 d2
          have EN := hide (show So.cnt (fun u => decide (So.ahd (keyI L) u av)) (t + 1) = cn by rw [NX.out, decide_eq_false (fun q => by rcases BT.out.1 q with q | q; exact d1 q; exact d2 q.1)]; simp)
          have DD := hide (show ¬ p < y ∧ ¬ p = y from ⟨d1, d2⟩)
          clear d1 d2
          go_wp2_with fail
          refine (CS1.out _).mono ?_
          rintro e w1 ⟨rfl, rfl⟩
          go_wp2_with fail
          refine (CS2.out _).mono ?_
          rintro e w1 ⟨rfl, rfl⟩
          go_wp2_with fail
          all_goals go_roundw
          all_goals first
            | (exfalso; have := DD.out; omega)
            | (simp [intOf]; omega)
            | exact ⟨t + 1, by omega, by go_num, by rw [EN.out] <;> exact congrArg (Value.int .i64) (by omega), by first | rfl | trivial⟩
            | exact ⟨⟨t + 1, by omega, by go_num, by rw [EN.out] <;> exact congrArg (Value.int .i64) (by omega), by first | rfl | trivial⟩, by simp [intOf]; omega⟩
        have d2' : (p == y) = true := beq_iff_eq.2 d2
        by_cases d3 : t < av
        · have d3' : decide ((t : Int) < av) = true := decide_eq_true (by omega)
          have EN := hide (show So.cnt (fun u => decide (So.ahd (keyI L) u av)) (t + 1) = cn + 1 by rw [NX.out, decide_eq_true (BT.out.2 (.inr ⟨d2, d3⟩))]; simp)
          have DD := hide (show t < av ∧ p = y from ⟨d3, d2⟩)
          clear d1 d2 d3
          go_wp2_with fail
          refine (CS1.out _).mono ?_
          rintro e w1 ⟨rfl, rfl⟩
          go_wp2_with fail
          refine (CS2.out _).mono ?_
          rintro e w1 ⟨rfl, rfl⟩
          go_wp2_with fail
          all_goals go_roundw
          all_goals first
            | (exfalso; have := DD.out; omega)
            | (simp [intOf]; omega)
            | exact ⟨t + 1, by omega, by go_num, by rw [EN.out] <;> exact congrArg (Value.int .i64) (by omega), by first | rfl | trivial⟩
            | exact ⟨⟨t + 1, by omega, by go_num, by rw [EN.out] <;> exact congrArg (Value.int .i64) (by omega), by first | rfl | trivial⟩, by simp [intOf]; omega⟩
        · have d3' : decide ((t : Int) < av) = false := decide_eq_false (by omega)
          have EN := hide (show So.cnt (fun u => decide (So.ahd (keyI L) u av)) (t + 1) = cn by rw [NX.out, decide_eq_false (fun q => by rcases BT.out.1 q with q | q; exact d1 q; exact d3 q.2)]; simp)
          have DD := hide (show ¬ t < av ∧ p = y from ⟨d3, d2⟩)
          clear d1 d2 d3
          go_wp2_with fail
          refine (CS1.out _).mono ?_
          rintro e w1 ⟨rfl, rfl⟩
          go_wp2_with fail
          refine (CS2.out _).mono ?_
          rintro e w1 ⟨rfl, rfl⟩
          go_wp2_with fail
          all_goals go_roundw
          all_goals first
            | (exfalso; have := DD.out; omega)
            | (simp [intOf]; omega)
            | exact ⟨t + 1, by omega, by go_num, by rw [EN.out] <;> exact congrArg (Value.int .i64) (by omega), by first | rfl | trivial⟩
            | exact ⟨⟨t + 1, by omega, by go_num, by rw [EN.out] <;> exact congrArg (Value.int .i64) (by omega), by first | rfl | trivial⟩, by simp [intOf]; omega⟩
      · obtain rfl : t = len := by omega
        obtain ⟨rk, hrk⟩ : ∃ rk, So.cnt (fun u => decide (So.ahd (keyI L) u av)) t = rk := ⟨_, rfl⟩
        rw [hrk]
        have RK2 := hide (show rkJ S t c j = rk by rw [RK.out]; exact hrk)
        have rk1 : rk < t := by have := rkJ_lt (S := S) (c := c) l1 (j : Int); rw [RK2.out] at this; exact this
        have DGK := DG.out
        have hi2 := hide (show ∀ i, i < r → 0 ≤ up1 (dg D r j) k rk i ∧ up1 (dg D r j) k rk i < D i from fun i hi => by
          by_cases ei : i = k
          · subst ei; rw [up1_at]; have := DK.out; omega
          · rw [up1_ne _ _ ei]; exact DGK i hi)
        obtain ⟨p0, hp0⟩ : ∃ p0 : Nat, od D (up1 (dg D r j) k rk) r = p0 := ⟨(od D (up1 (dg D r j) k rk) r).toNat, by have := od_rng D _ r hi2.out; omega⟩
        have DS := hide (show dstJ S t c j = p0 by
          unfold dstJ
          rw [RK2.out, ← hp0]
          have := od_moved (D := D) (r := r) (a := k) hk (dok_pr TD.out).2 (D k) (rk : Int) (j : Int) (by omega) (by rw [← (dok_pr TD.out).1, TS.out]; omega)
          rw [up1_self, CB.out, DK.out] at this
          exact this.symm)
        have P0 := hide hp0
        have bj' := bj
        have VP := hide (show V p0 = S j by rw [← HV.out]; exact nu_at b1' l1 DS.out)
        have UP := hide (show U p0 = (av : Int) by rw [← HU.out]; have := pl_at (S := S) b1' l1 DS.out; rw [AX.out] at this; exact this)
        have CWI := hide (l4With X2.heap.size (some ⟨X.heap.size, 0, none⟩) r r k (dg D r j) (rk : Int) X2 (Nat.le_refl _) (RA2.out.ints (by omega)) (by omega) hk (by unfold bd; omega))
        clear hrk hp0 DGK
        go_wp2_with fail
        refine CWI.out.mono ?_
        rintro e X3 ⟨gw, cw, rfl, rw3, hgw, lgw, b6⟩
        have sX3 := b6.size
        have RW3 := hide rw3
        have RA3 := hide (RA2.out.below b6 (by omega))
        have HBX3 := hide (HBX2.out.below b6 (by omega))
        have HBY3 := hide (HBY2.out.below b6 (by omega))
        have HBT3 := hide (HBT2.out.below b6 (by omega))
        have HRW3 := hide (HRW2.out.below b6 (by omega))
        have HRW3' := hide (HRW2'.out.below b6 (by omega))
        have KX3 := hide (KX.out.trans (Kept.of_below b6))
        have cj3 := (b6.cell (p := ⟨b', off + j, none⟩) (by show b' < X2.heap.size; omega)).trans cj'
        have OVX := hide (OV2.out.kept KX3.out (fun b q e => by rcases e with e | e; exact HNE.out b q e; have := BV.out b q; omega))
        have OVY := hide (OV3.out.kept KX3.out (fun b q e => by rcases e with e | e; have := (OV3.out.blk q).1; omega; exact HNE3.out b q e))
        clear rw3 b6 x0 x1 u0 u1 cj cj' ca
        obtain ⟨x0, x1⟩ := HBT3.out
        obtain ⟨u0, u1⟩ := HBX3.out
        have cq := cj3
        go_wp2_with fail
        refine Qt.region_tail_lit 7 (by kernel_rfl) (by kernel_rfl) ?_
        simp only [List.take_succ_cons, List.take_zero, List.drop_succ_cons, List.drop_zero]
        repeat (go_big_quiet_step (fail))
        refine wpQuiet_nil ?_
        intro _ hw'
        obtain ⟨nq, hw''⟩ := hw'
        subst hw''
        have bz := below_drewN (Below.refl X3.heap.size X3) nq
        generalize X3.drewN nq = Y3 at bz ⊢
        have sY := bz.size
        have CT1 := hide (l4Set X3.heap.size va (some ⟨gw, 0, none⟩) r s vc s r cw g p0 D (sJ V S t c j) (up1 (dg D r j) k rk) (S j) Y3 sY (OVX.out.ints.below bz) ((RW3.out.ints lgw).below bz) (Nat.le_refl _) TD.out TS.out hi2.out P0.out (HRW3.out.below bz (by omega)) (by omega) bj')
        have RW4 := hide (RW3.out.below bz lgw)
        have RA4 := hide (RA3.out.below bz (by omega))
        have HBX4 := hide (HBX3.out.below bz (by omega))
        have HBY4 := hide (HBY3.out.below bz (by omega))
        have HBT4 := hide (HBT3.out.below bz (by omega))
        have HRW4' := hide (HRW3'.out.below bz (by omega))
        have KX4 := hide (KX3.out.trans (Kept.of_below bz))
        have OVY4 := hide (OVY.out.below bz)
        clear bz x0 x1 u0 u1 cq cj3
        go_wp2_with fail
        refine CT1.out.mono ?_
        rintro e X5 ⟨⟨v5, rfl⟩, rw5, k5⟩
        have s5 := k5.size
        have RG5 := hide (rw5.same (E := sJ V S t c (j + 1)) (fun q hq => by rw [← sJ_step (V := V) b1' l1 DS.out q, VP.out]))
        have RW5 := hide (RW4.out.kept k5 (by show ¬ gw = g; omega))
        have RA5 := hide (RA4.out.kept k5 (by show ¬ X.heap.size = g; omega))
        have HBX5 := hide (HBX4.out.kept k5 (by omega) (by show ¬ w2.heap.size = g; omega))
        have HBY5 := hide (HBY4.out.kept k5 (by omega) (by show ¬ w3.heap.size = g; omega))
        have HBT5 := hide (HBT4.out.kept k5 (by omega) (by show ¬ w.heap.size = g; omega))
        have HRW5' := hide (HRW4'.out.kept k5 (by show ¬ g' = g; omega))
        have KX5 := hide (KX4.out.trans (k5.mono (fun q _ e => .inl e)))
        have OVY5 := hide (OVY4.out.kept k5 (fun b q e => by have e : b = g := e; have := (OV3.out.blk q).1; omega))
        obtain ⟨ca5, _, ba5⟩ := RA5.out k hk
        rw [HAV.out] at ca5 ba5
        obtain ⟨u0, u1⟩ := HBY5.out
        clear rw5 k5
        go_wp2_with fail
        refine Qt.region_tail_lit 6 (by kernel_rfl) (by kernel_rfl) ?_
        simp only [List.take_succ_cons, List.take_zero, List.drop_succ_cons, List.drop_zero]
        repeat (go_big_quiet_step (fail))
        refine wpQuiet_nil ?_
        intro _ hw'
        obtain ⟨nq, hw''⟩ := hw'
        subst hw''
        have bz := below_drewN (Below.refl X5.heap.size X5) nq
        generalize X5.drewN nq = Y5 at bz ⊢
        have sY5 := bz.size
        have CT2 := hide (l4Set X5.heap.size va' (some ⟨gw, 0, none⟩) r s vc' s r cw g' p0 D (sJ U S t c j) (up1 (dg D r j) k rk) (av : Int) Y5 sY5 (OVY5.out.ints.below bz) ((RW5.out.ints (by omega)).below bz) (Nat.le_refl _) TD.out TS.out hi2.out P0.out (HRW5'.out.below bz (by omega)) (by omega) ba5)
        have HBX6 := hide (HBX5.out.below bz (by omega))
        have HBY6 := hide (HBY5.out.below bz (by omega))
        have HBT6 := hide (HBT5.out.below bz (by omega))
        have RG6 := hide (RG5.out.below bz (by omega))
        have KX6 := hide (KX5.out.trans (Kept.of_below bz))
        clear bz u0 u1 ca5
        go_wp2_with fail
        refine CT2.out.mono ?_
        rintro e X7 ⟨⟨v7, rfl⟩, rw7, k7⟩
        have RG7' := hide (rw7.same (E := sJ U S t c (j + 1)) (fun q hq => by rw [← sJ_step (V := U) b1' l1 DS.out q, UP.out]))
        have RG7 := hide (RG6.out.kept k7 (by show ¬ g = g'; omega))
        have HBX7 := hide (HBX6.out.kept k7 (by omega) (by show ¬ w2.heap.size = g'; omega))
        have HBY7 := hide (HBY6.out.kept k7 (by omega) (by show ¬ w3.heap.size = g'; omega))
        have HBT7 := hide (HBT6.out.kept k7 (by omega) (by show ¬ w.heap.size = g'; omega))
        have KX7 := hide (KX6.out.trans (k7.mono (fun q _ e => .inr e)))
        clear rw7 k7
        go_wp2_with fail
        go_roundw
        case rel => exact ⟨j + 1, by omega, by go_num, HBX7.out, HBY7.out, HBT7.out, RG7.out, RG7'.out, KX7.out⟩
        case measure => simp [intOf]; omega
end Vo
end Go.Proofs.Ytpmkjifpoikdjaa
