/- Lemmas for the proof of the law. -/
import Derived.Test.YtejfodkobfdelaaMgaw
import Derived.Test.YtejfodkobfdelaaMgbe
import Derived.Test.YtejfodkobfdelaaMgap
import Derived.Test.YtejfodkobfdelaaMgav
/- Two. -/
namespace Go.Proofs.Ytejfodkobfdelaa
namespace Vo
open Go.ChangeShapes Go.WideShapes Go.ChangeAt Go.RowKit Go.Joins Go.Sort
open Vl Vp Vr
set_option linter.unusedVariables false
set_option linter.unusedSimpArgs false
theorem eql_nil2 (w : World) : (binOp .eql 55 .nilFunc .nilFunc).run Try.prog w = .ok (.bool true) w := by
  have h : ∀ d : Nat, (Op.equalIn (d + 1) 55 .nilFunc .nilFunc).run Try.prog w = .ok true w := fun d => by
    simp [Op.equalIn, run_underlying Try.underlying55]
  simp only [binOp]
  simp [Op.equal, Op.maxDepth, h 9999]
theorem eql_func2 (F : Nat) (w : World) : (binOp .eql 55 (.func (.func F) #[] #[]) .nilFunc).run Try.prog w = .ok (.bool false) w := by
  have h : ∀ d : Nat, (Op.equalIn (d + 1) 55 (.func (.func F) #[] #[]) .nilFunc).run Try.prog w = .ok false w := fun d => by
    simp [Op.equalIn, run_underlying Try.underlying55]
  simp only [binOp]
  simp [Op.equal, Op.maxDepth, h 9999]
/-- both variables are laid anew -/
def TwoSt (w1 : World) (P : Nat) (L L' : PT) (wx : World) : Prop :=
  ∃ pa pb pc pd qa qb qc qd, Bx wx P (.slice pa L.r pc) (.slice pb L.s pd) ∧ Bx wx (P + 1) (.slice qa L'.r qc) (.slice qb L'.s qd) ∧ VOwn w1.heap.size wx pa pb L.r L.s L.D L.S ∧ VOwn w1.heap.size wx qa qb L'.r L'.s L'.D L'.S ∧ Kept (fun k => k = P ∨ k = P + 1) w1 wx
theorem bx_sets {w : World} {p : Nat} {v0 v1 : Value} (h : Bx w p v0 v1) (u0 u1 : Value) : Bx ((w.setCell ⟨p, 0, none⟩ u0).setCell ⟨p, 1, none⟩ u1) p u0 u1 := by
  have h1 : (w.setCell ⟨p, 0, none⟩ u0).cell? ⟨p, 1, none⟩ = some v1 := (World.cell?_setCell_other _ _ _ _ (by intro e; cases e)).trans h.2
  refine ⟨?_, World.cell?_setCell_same _ _ _ h1⟩
  rw [World.cell?_setCell_other _ _ _ _ (by intro e; cases e)]
  exact World.cell?_setCell_same _ _ _ h.1
theorem twoSt_end {w1 wA wB : World} {P : Nat} {L L' : PT} {pa pb qa qb : Option Addr} {pc pd qc qd : Nat} {x0 x1 u0 u1 : Value} (hP : P + 1 < w1.heap.size) (x : Bx w1 P x0 x1) (u : Bx w1 (P + 1) u0 u1) (bA : Below w1.heap.size w1 wA) (bB : Below wA.heap.size wA wB) (vA : VOwn w1.heap.size wA pa pb L.r L.s L.D L.S) (vB : VOwn wA.heap.size wB qa qb L'.r L'.s L'.D L'.S) :
    TwoSt w1 P L L' ((((wB.setCell ⟨P, 0, none⟩ (.slice pa L.r pc)).setCell ⟨P, 1, none⟩ (.slice pb L.s pd)).setCell ⟨P + 1, 0, none⟩ (.slice qa L'.r qc)).setCell ⟨P + 1, 1, none⟩ (.slice qb L'.s qd)) := by
  have sA := bA.size
  have sB := bB.size
  have b1 := bA.trans (bB.mono sA)
  have k1 := kept_sets2 wB P (.slice pa L.r pc) (.slice pb L.s pd)
  obtain ⟨X, hX⟩ : ∃ X, (wB.setCell ⟨P, 0, none⟩ (.slice pa L.r pc)).setCell ⟨P, 1, none⟩ (.slice pb L.s pd) = X := ⟨_, rfl⟩
  have sX : X.heap.size = wB.heap.size := by rw [← hX]; simp [World.setCell]
  have e1 : Bx X P (.slice pa L.r pc) (.slice pb L.s pd) := by rw [← hX]; exact bx_sets (x.below b1 (by omega)) _ _
  rw [hX] at k1
  rw [hX]
  have k2 := kept_sets2 X (P + 1) (.slice qa L'.r qc) (.slice qb L'.s qd)
  have e2 := bx_sets ((u.below b1 (by omega)).kept k1 (by omega) (by show ¬ P + 1 = P; omega)) (.slice qa L'.r qc) (.slice qb L'.s qd)
  have vA2 := (vA.below bB)
  refine ⟨pa, pb, pc, pd, qa, qb, qc, qd, e1.kept k2 (by omega) (by show ¬ P = P + 1; omega), e2, ?_, ?_, ?_⟩
  · exact (vA2.kept k1 (fun k q e => by have := (vA2.blk q).1; have e : k = P := e; omega)).kept k2 (fun k q e => by have := (vA2.blk q).1; have e : k = P + 1 := e; omega)
  · exact ((vB.kept k1 (fun k q e => by have := (vB.blk q).1; have e : k = P := e; omega)).kept k2 (fun k q e => by have := (vB.blk q).1; have e : k = P + 1 := e; omega)).mono sA
  · exact ((Kept.of_below b1).trans (k1.mono (fun k _ e => .inl e))).trans (k2.mono (fun k _ e => .inr e))
theorem twoSt_out {w w1 X : World} {L L' : PT} {v u0 u1 : Value} {ja : Option Addr} {N : Nat} {E : Nat → Int} (st : TwoSt w1 w.heap.size L L' X) (s2 : w.heap.size + 1 + 1 + 1 < w1.heap.size) (cf : w1.cell? ⟨w.heap.size + 1 + 1 + 1, 0, none⟩ = some v) (m : Bx w1 (w.heap.size + 1 + 1) u0 u1) (g : Free w1 (w.heap.size + 1 + 1)) (oj : OwnL (w.heap.size + 1 + 1 + 1 + 1) w1 ja N E) (b : Below w.heap.size w w1) :
    ∃ pa pb pc pd qa qb qc qd, Bx X w.heap.size (.slice pa L.r pc) (.slice pb L.s pd) ∧ Bx X (w.heap.size + 1) (.slice qa L'.r qc) (.slice qb L'.s qd) ∧ VOwn w1.heap.size X pa pb L.r L.s L.D L.S ∧ VOwn w1.heap.size X qa qb L'.r L'.s L'.D L'.S ∧ X.cell? ⟨w.heap.size + 1 + 1 + 1, 0, none⟩ = some v ∧ Bx X (w.heap.size + 1 + 1) u0 u1 ∧ Free X (w.heap.size + 1 + 1) ∧ OwnL (w.heap.size + 1 + 1 + 1 + 1) X ja N E ∧ Below w.heap.size w X ∧ w1.heap.size ≤ X.heap.size := by
  obtain ⟨pa, pb, pc, pd, qa, qb, qc, qd, bx, bx', vA, vB, kp⟩ := st
  have nf : ¬ (w.heap.size + 1 + 1 + 1 = w.heap.size ∨ w.heap.size + 1 + 1 + 1 = w.heap.size + 1) := by omega
  have nm : ¬ (w.heap.size + 1 + 1 = w.heap.size ∨ w.heap.size + 1 + 1 = w.heap.size + 1) := by omega
  exact ⟨pa, pb, pc, pd, qa, qb, qc, qd, bx, bx', vA, vB, (World.cell?_of_block (w := w1) (a := ⟨w.heap.size + 1 + 1 + 1, 0, none⟩) (kp.block _ s2 nf)).trans cf, m.kept kp (by omega) nm, g.kept kp (by omega) nm, oj.kept kp (fun k q e => by have := (oj.blk q).1; have e : k = w.heap.size ∨ k = w.heap.size + 1 := e; omega), b.trans (kp.below b.size (fun k e => by have e : k = w.heap.size ∨ k = w.heap.size + 1 := e; omega)), kp.size⟩
theorem twoP_yes {op : Int} {r s : Nat} {D S : Nat → Int} {r' s' : Nat} {D' S' : Nat → Int} (ho : 1 ≤ op ∧ op ≤ 8) (h : tok r s D S = true ∧ SprOk r (jn r r' D D') D (jt r r' D D')) (h' : tok r' s' D' S' = true ∧ SprOk r' (jn r r' D D') D' (jt r r' D D')) :
    twoP op r s D S r' s' D' S' = ⟨jn r r' D D', cntT (jn r r' D D') (jt r r' D D'), jt r r' D D', fun k => two1 op (sprN r (jn r r' D D') D S (jt r r' D D') k) (sprN r' (jn r r' D D') D' S' (jt r r' D D') k)⟩ := by
  have hj : JOk r r' D D' := by
    by_cases c : JOk r r' D D'
    · exact c
    · have := joint_no (tok_parts h.1).1 (tok_parts h'.1).1 c
      have e := jn_no c
      have a1 := h.2.2.1
      have a2 := h'.2.2.1
      omega
  unfold twoP
  rw [if_pos ⟨ho, ⟨h.1, h'.1⟩, hj⟩, jn_yes hj]
theorem twoP_no2 {op : Int} {r s : Nat} {D S : Nat → Int} {r' s' : Nat} {D' S' : Nat → Int} (h : ¬ ((tok r s D S = true ∧ SprOk r (jn r r' D D') D (jt r r' D D')) ∧ (tok r' s' D' S' = true ∧ SprOk r' (jn r r' D D') D' (jt r r' D D')))) : twoP op r s D S r' s' D' S' = PT.zero :=
  twoP_no (fun q => h (by rw [jn_yes q.2.2]; exact ⟨⟨q.2.1.1, spr_of_joint q.2.2⟩, ⟨q.2.1.2, spr_of_joint2 q.2.2⟩⟩))
set_option maxRecDepth 100000 in
set_option maxHeartbeats 2000000 in
theorem twoF (B : Nat) (a b a' b' : Addr) (r s r' s' : Nat) (D S D' S' : Nat → Int) (op : Int) (w : World) (hB : B ≤ w.heap.size) (h : Ints B w (some a) r D) (h1 : Ints B w (some b) s S) (h' : Ints B w (some a') r' D') (h1' : Ints B w (some b') s' S') (hr : (r : Int) ≤ 1048576) (hs : (s : Int) ≤ 1048576) (hr' : (r' : Int) ≤ 1048576) (hs' : (s' : Int) ≤ 1048576) :
    Calls Try.prog 18 #[.int .i64 op, .agg #[.slice (some a) r r, .slice (some b) s s], .agg #[.slice (some a') r' r', .slice (some b') s' s']] w fun e w' => TensR w.heap.size (twoP op r s D S r' s' D' S') w e w' := by
  obtain ⟨A1, hA1⟩ : ∃ A1, w.alloc (.cells #[.slice (some a) r r, .slice (some b) s s] 38) = A1 := ⟨_, rfl⟩
  obtain ⟨A2, hA2⟩ : ∃ A2, A1.alloc (.cells #[.slice (some a') r' r', .slice (some b') s' s'] 38) = A2 := ⟨_, rfl⟩
  obtain ⟨W0, hW0⟩ : ∃ W0, A2.alloc (.cells #[.slice none 0 0, .slice none 0 0] 38) = W0 := ⟨_, rfl⟩
  have z1 : A1.heap.size = w.heap.size + 1 := by rw [← hA1]; simp
  have z2 : A2.heap.size = w.heap.size + 1 + 1 := by rw [← hA2]; simp [z1]
  have hs0 : W0.heap.size = w.heap.size + 1 + 1 + 1 := by rw [← hW0]; simp [z2]
  have c1 : Below A1.heap.size A1 A2 := by rw [← hA2]; exact (Below.refl _ _).alloc (Nat.le_refl _) _
  have c2 : Below A2.heap.size A2 W0 := by rw [← hW0]; exact (Below.refl _ _).alloc (Nat.le_refl _) _
  have c0 : Below w.heap.size w A1 := by rw [← hA1]; exact (Below.refl _ _).alloc (Nat.le_refl _) _
  have bl : Below w.heap.size w W0 := (c0.trans (c1.mono (by omega))).trans (c2.mono (by omega))
  have n0 : Bx W0 w.heap.size (.slice (some a) r r) (.slice (some b) s s) := by
    have q := bx_new w (.slice (some a) r r) (.slice (some b) s s) 38
    rw [hA1] at q
    exact (q.below c1 (by omega)).below c2 (by omega)
  have u0 : Bx W0 (w.heap.size + 1) (.slice (some a') r' r') (.slice (some b') s' s') := by
    have q := bx_new A1 (.slice (some a') r' r') (.slice (some b') s' s') 38
    rw [hA2, z1] at q
    exact q.below c2 (by omega)
  have m0 : Bx W0 (w.heap.size + 1 + 1) (.slice none 0 0) (.slice none 0 0) := by
    have q := bx_new A2 (.slice none 0 0) (.slice none 0 0) 38
    rw [hW0, z2] at q
    exact q
  have g0 : Free W0 (w.heap.size + 1 + 1) := by
    have q := free_new A2 #[.slice none 0 0, .slice none 0 0] 38
    rw [hW0, z2] at q
    exact q
  have fa0 : Free W0 w.heap.size := by
    have q := free_new w #[.slice (some a) r r, .slice (some b) s s] 38
    rw [hA1] at q
    exact (q.below c1 (by omega)).below c2 (by omega)
  have fb0 : Free W0 (w.heap.size + 1) := by
    have q := free_new A1 #[.slice (some a') r' r', .slice (some b') s' s'] 38
    rw [hA2, z1] at q
    exact q.below c2 (by omega)
  obtain ⟨v, hc, hv⟩ := twoOfV op W0
  obtain ⟨V1, hV1⟩ : ∃ V1, W0.alloc (.cells #[.nilFunc] 55) = V1 := ⟨_, rfl⟩
  have b0V : Below W0.heap.size W0 V1 := by rw [← hV1]; exact (Below.refl _ _).alloc (Nat.le_refl _) _
  have hsV : V1.heap.size = w.heap.size + 1 + 1 + 1 + 1 := by rw [← hV1]; simp [hs0]
  have cV : V1.cell? ⟨w.heap.size + 1 + 1 + 1, 0, none⟩ = some .nilFunc := by rw [← hV1, ← hs0]; simp [go_sem]
  have fV : V1.frozen? ⟨w.heap.size + 1 + 1 + 1, 0, none⟩ = false := by rw [← hV1, ← hs0]; simp [go_sem]
  obtain ⟨W1, hW1⟩ : ∃ W1, V1.setCell ⟨w.heap.size + 1 + 1 + 1, 0, none⟩ v = W1 := ⟨_, rfl⟩
  have b01 : Below W0.heap.size W0 W1 := by rw [← hW1]; exact b0V.setCell (p := ⟨w.heap.size + 1 + 1 + 1, 0, none⟩) (by show W0.heap.size ≤ w.heap.size + 1 + 1 + 1; omega) _
  have hs1 : W1.heap.size = w.heap.size + 1 + 1 + 1 + 1 := by rw [← hW1]; simp [World.setCell, hsV]
  have cf : W1.cell? ⟨w.heap.size + 1 + 1 + 1, 0, none⟩ = some v := by rw [← hW1]; exact World.cell?_setCell_same _ _ _ cV
  have N1 := hide (n0.below b01 (by omega))
  have U1 := hide (u0.below b01 (by omega))
  have M1 := hide (m0.below b01 (by omega))
  have G1 := hide (g0.below b01 (by omega))
  have FA1 := hide (fa0.below b01 (by omega))
  have FB1 := hide (fb0.below b01 (by omega))
  have B1 := hide (bl.trans (b01.mono bl.size))
  have H1 := hide (h.below ((bl.trans (b01.mono bl.size)).mono hB))
  have K1 := hide (h1.below ((bl.trans (b01.mono bl.size)).mono hB))
  have H1' := hide (h'.below ((bl.trans (b01.mono bl.size)).mono hB))
  have K1' := hide (h1'.below ((bl.trans (b01.mono bl.size)).mono hB))
  have CO := hide hc
  have HV := hide hv
  have HS0 := hide hs0
  have HS1 := hide hs1
  have CF := hide cf
  obtain ⟨x0, x1⟩ := N1.out
  obtain ⟨y0, y1⟩ := U1.out
  clear h h1 h' h1' bl b01 n0 u0 m0 g0 fa0 fb0 hc hv hs1 b0V hsV c0 c1 c2 z1 z2 cf
  subst hA1
  subst hA2
  rcases HV.out with ⟨o1, o2, F, rfl, hF⟩ | ⟨ho, rfl⟩
  rotate_left
  · have eqN := eql_nil2
    have ez := hide (twoP_no (r := r) (s := s) (D := D) (S := S) (r' := r') (s' := s') (D' := D') (S' := S') (fun q => ho q.1))
    clear ho HV
    go_enter Try.func18, Try.ntmps18
    go_wp2_with fail
    refine CO.out.mono ?_
    rintro e w1 ⟨rfl, hq⟩
    have hq := hq.symm
    subst hq
    go_wp2_with fail
    refine (joint B (some a) (some a') r r' r r' D D' W1 H1.out H1'.out (by have := HS1.out; omega) hr hr' (fun e => by cases e) (fun e => by cases e)).mono ?_
    rintro e w1 ⟨ja, jc, rfl, oj, b1⟩
    have z1 := HS1.out
    have N2 := hide (N1.out.below b1 (by omega))
    have U2 := hide (U1.out.below b1 (by omega))
    have M2 := hide (M1.out.below b1 (by omega))
    have G2 := hide (G1.out.below b1 (by omega))
    have FA2 := hide (FA1.out.below b1 (by omega))
    have FB2 := hide (FB1.out.below b1 (by omega))
    have B2 := hide (B1.out.trans (b1.mono B1.out.size))
    have H2 := hide (H1.out.below (b1.mono (by omega)))
    have K2 := hide (K1.out.below (b1.mono (by omega)))
    have H2' := hide (H1'.out.below (b1.mono (by omega)))
    have K2' := hide (K1'.out.below (b1.mono (by omega)))
    have CF2 := hide ((b1.cell (p := ⟨w.heap.size + 1 + 1 + 1, 0, none⟩) (by show w.heap.size + 1 + 1 + 1 < W1.heap.size; omega)).trans CF.out)
    have s2 : w.heap.size + 1 + 1 + 1 < w1.heap.size := by have := b1.size; omega
    have OJ := hide (oj.mono (show w.heap.size + 1 + 1 + 1 + 1 ≤ W1.heap.size by omega))
    have JL := jn_le r r' D D'
    clear oj b1 x0 x1 y0 y1 cV fV hV1 hW1 hW0 z1 N1 U1 M1 G1 FA1 FB1 B1 H1 K1 H1' K1' CF HS1
    obtain ⟨E, hE⟩ : ∃ E, jt r r' D D' = E := ⟨_, rfl⟩
    obtain ⟨N, hN⟩ : ∃ N, jn r r' D D' = N := ⟨_, rfl⟩
    have YES := hide (fun ho h h' => twoP_yes (op := op) (r := r) (s := s) (D := D) (S := S) (r' := r') (s' := s') (D' := D') (S' := S') ho h h')
    have NO2 := hide (fun h => twoP_no2 (op := op) (r := r) (s := s) (D := D) (S := S) (r' := r') (s' := s') (D' := D') (S' := S') h)
    rw [hE, hN] at YES NO2
    rw [hN] at JL
    rw [hE, hN] at OJ
    have NN := hide (fun (e : ja = none) => show N = 0 by rcases OJ.out with h0 | ⟨g, e', _⟩; exact h0; rw [e] at e'; cases e')
    have CA := hide (fun (W : World) (hW : Below w1.heap.size w1 W) => show Calls Try.prog 39 #[.agg #[.slice (some a) r r, .slice (some b) s s], .slice ja N jc] W fun e w' => TensR W.heap.size (sprT r s D S N E) W e w' from by
      rw [← spreadP]
      exact spreadTo W.heap.size a (some b) ja r s N s jc D S E W (Nat.le_refl _) ((H2.out.below (hW.mono (by omega))).mono (by have := hW.size; omega)) ((K2.out.below (hW.mono (by omega))).mono (by have := hW.size; omega)) ((OJ.out.ints.below hW).mono hW.size) hr hs (by omega) NN.out)
    have CB := hide (fun (W : World) (hW : Below w1.heap.size w1 W) => show Calls Try.prog 39 #[.agg #[.slice (some a') r' r', .slice (some b') s' s'], .slice ja N jc] W fun e w' => TensR W.heap.size (sprT r' s' D' S' N E) W e w' from by
      rw [← spreadP]
      exact spreadTo W.heap.size a' (some b') ja r' s' N s' jc D' S' E W (Nat.le_refl _) ((H2'.out.below (hW.mono (by omega))).mono (by have := hW.size; omega)) ((K2'.out.below (hW.mono (by omega))).mono (by have := hW.size; omega)) ((OJ.out.ints.below hW).mono hW.size) hr' hs' (by omega) NN.out)
    have LA := sprT_le r s D S N E
    have LB := sprT_le r' s' D' S' N E
    have AN := hide (fun h => sprT_no (r := r) (s := s) (D := D) (S := S) (q := N) (E := E) h)
    have BN := hide (fun h => sprT_no (r := r') (s := s') (D := D') (S := S') (q := N) (E := E) h)
    have AY := hide (fun h => sprT_yes (r := r) (s := s) (D := D) (S := S) (q := N) (E := E) h)
    have BY := hide (fun h => sprT_yes (r := r') (s := s') (D := D') (S := S') (q := N) (E := E) h)
    obtain ⟨L, hL⟩ : ∃ L, sprT r s D S N E = L := ⟨_, rfl⟩
    obtain ⟨L', hL'⟩ : ∃ L', sprT r' s' D' S' N E = L' := ⟨_, rfl⟩
    rw [hL] at CA LA AN AY
    rw [hL'] at CB LB BN BY
    have bb0 := hide (show Below w1.heap.size w1 w1.drew from (Below.refl _ _).drew)
    have F0 := hide (fun (W : World) (hW : Below w1.heap.size w1 W) => N2.out.below hW (by omega))
    have F1 := hide (fun (W : World) (hW : Below w1.heap.size w1 W) => U2.out.below hW (by omega))
    have F2 := hide (fun (W : World) (hW : Below w1.heap.size w1 W) => FA2.out.below hW (by omega))
    have F3 := hide (fun (W : World) (hW : Below w1.heap.size w1 W) => FB2.out.below hW (by omega))
    have F4 := hide (fun (W W' : World) (hW : Below w1.heap.size w1 W) (h2 : Below W.heap.size W W') => hW.trans (h2.mono hW.size))
    have F5 := hide (fun (W wA wB : World) (pa pb qa qb : Option Addr) (pc pd qc qd : Nat) (hW : Below w1.heap.size w1 W) (bA : Below W.heap.size W wA) (bB : Below wA.heap.size wA wB) (vA : VOwn W.heap.size wA pa pb L.r L.s L.D L.S) (vB : VOwn wA.heap.size wB qa qb L'.r L'.s L'.D L'.S) => twoSt_end (pc := pc) (pd := pd) (qc := qc) (qd := qd) (show w.heap.size + 1 < w1.heap.size by omega) N2.out U2.out (F4.out W wA hW bA) bB (vA.mono hW.size) vB)
    have eP1 : ¬ (w.heap.size = w.heap.size + 1) := by omega
    have eP2 : ¬ (w.heap.size + 1 = w.heap.size) := by omega
    obtain ⟨x0, x1⟩ := N2.out
    obtain ⟨y0, y1⟩ := U2.out
    have ffa := FA2.out
    have ffb := FB2.out
    unfold Free at ffa ffb
    clear HS0
    go_wp2_with fail
    go_cut [] (fun wx => TwoSt w1 w.heap.size L L' wx)
    case first =>
      clear YES NO2 H2 K2 H2' K2' AN BN AY BY hL hL' hE hN
      go_region_with (first
        | (go_at_call_of 39 (Value.agg #[Value.slice (some a) r r, Value.slice (some b) s s])
           refine (CA.out _ bb0.out).mono ?_
           rintro e wA ⟨pa, pb, pc, pd, rfl, vA, bA⟩
           have bbA := hide (F4.out _ wA bb0.out bA)
           obtain ⟨h0, h1⟩ := F0.out wA bbA.out
           obtain ⟨h2, h3⟩ := F1.out wA bbA.out
           have VA := hide vA
           have BA := hide bA
           clear vA bA)
        | (go_at_call_of 39 (Value.agg #[Value.slice (some a') r' r', Value.slice (some b') s' s'])
           refine (CB.out _ bbA.out).mono ?_
           rintro e wB ⟨qa, qb, qc, qd, rfl, vB, bB⟩
           have bbB := hide (F4.out _ wB bbA.out bB)
           obtain ⟨k0, k1⟩ := F0.out wB bbB.out
           obtain ⟨k2, k3⟩ := F1.out wB bbB.out
           have k4 := F2.out wB bbB.out
           have k5 := F3.out wB bbB.out
           unfold Free at k4 k5
           have VB := hide vB
           have BB := hide bB
           clear vB bB))
      all_goals (go_wp2_with fail)
      all_goals go_meet
      all_goals exact F5.out _ _ _ _ _ _ _ _ _ _ _ bb0.out BA.out BB.out VA.out VB.out
    case rest =>
      obtain ⟨pa, pb, pc, pd, qa, qb, qc, qd, bx, bx', vA, vB, cf3, m3, g3, o3, b3, s3⟩ := twoSt_out hcut s2 CF2.out M2.out G2.out OJ.out B2.out
      have B3 := hide b3
      clear hcut x0 x1 y0 y1 ffa ffb vA vB o3 b3
      obtain ⟨x0, x1⟩ := bx
      obtain ⟨u0, u1⟩ := bx'
      obtain ⟨y0, y1⟩ := m3
      have gg := g3
      unfold Free at gg
      go_wp2_with fail
      refine bodyPost_ret (v := .agg #[.slice none 0 0, .slice none 0 0]) (by simp [results, Try.results18, go_sem, y0, y1]) rfl (by
        rw [ez.out]
        refine tensR_zero ?_
        repeat (refine Below.setCell ?_ (by show w.heap.size ≤ w.heap.size + 1 + 1; omega) _)
        exact B3.out)
  · have HF := hide hF
    have eqF := eql_func2 F
    have OO := hide (show 1 ≤ op ∧ op ≤ 8 from ⟨o1, o2⟩)
    clear hF o1 o2 HV
    go_enter Try.func18, Try.ntmps18
    go_wp2_with fail
    refine CO.out.mono ?_
    rintro e w1 ⟨rfl, hq⟩
    have hq := hq.symm
    subst hq
    go_wp2_with fail
    refine (joint B (some a) (some a') r r' r r' D D' W1 H1.out H1'.out (by have := HS1.out; omega) hr hr' (fun e => by cases e) (fun e => by cases e)).mono ?_
    rintro e w1 ⟨ja, jc, rfl, oj, b1⟩
    have z1 := HS1.out
    have N2 := hide (N1.out.below b1 (by omega))
    have U2 := hide (U1.out.below b1 (by omega))
    have M2 := hide (M1.out.below b1 (by omega))
    have G2 := hide (G1.out.below b1 (by omega))
    have FA2 := hide (FA1.out.below b1 (by omega))
    have FB2 := hide (FB1.out.below b1 (by omega))
    have B2 := hide (B1.out.trans (b1.mono B1.out.size))
    have H2 := hide (H1.out.below (b1.mono (by omega)))
    have K2 := hide (K1.out.below (b1.mono (by omega)))
    have H2' := hide (H1'.out.below (b1.mono (by omega)))
    have K2' := hide (K1'.out.below (b1.mono (by omega)))
    have CF2 := hide ((b1.cell (p := ⟨w.heap.size + 1 + 1 + 1, 0, none⟩) (by show w.heap.size + 1 + 1 + 1 < W1.heap.size; omega)).trans CF.out)
    have s2 : w.heap.size + 1 + 1 + 1 < w1.heap.size := by have := b1.size; omega
    have OJ := hide (oj.mono (show w.heap.size + 1 + 1 + 1 + 1 ≤ W1.heap.size by omega))
    have JL := jn_le r r' D D'
    clear oj b1 x0 x1 y0 y1 cV fV hV1 hW1 hW0 z1 N1 U1 M1 G1 FA1 FB1 B1 H1 K1 H1' K1' CF HS1
    obtain ⟨E, hE⟩ : ∃ E, jt r r' D D' = E := ⟨_, rfl⟩
    obtain ⟨N, hN⟩ : ∃ N, jn r r' D D' = N := ⟨_, rfl⟩
    have YES := hide (fun ho h h' => twoP_yes (op := op) (r := r) (s := s) (D := D) (S := S) (r' := r') (s' := s') (D' := D') (S' := S') ho h h')
    have NO2 := hide (fun h => twoP_no2 (op := op) (r := r) (s := s) (D := D) (S := S) (r' := r') (s' := s') (D' := D') (S' := S') h)
    rw [hE, hN] at YES NO2
    rw [hN] at JL
    rw [hE, hN] at OJ
    have NN := hide (fun (e : ja = none) => show N = 0 by rcases OJ.out with h0 | ⟨g, e', _⟩; exact h0; rw [e] at e'; cases e')
    have CA := hide (fun (W : World) (hW : Below w1.heap.size w1 W) => show Calls Try.prog 39 #[.agg #[.slice (some a) r r, .slice (some b) s s], .slice ja N jc] W fun e w' => TensR W.heap.size (sprT r s D S N E) W e w' from by
      rw [← spreadP]
      exact spreadTo W.heap.size a (some b) ja r s N s jc D S E W (Nat.le_refl _) ((H2.out.below (hW.mono (by omega))).mono (by have := hW.size; omega)) ((K2.out.below (hW.mono (by omega))).mono (by have := hW.size; omega)) ((OJ.out.ints.below hW).mono hW.size) hr hs (by omega) NN.out)
    have CB := hide (fun (W : World) (hW : Below w1.heap.size w1 W) => show Calls Try.prog 39 #[.agg #[.slice (some a') r' r', .slice (some b') s' s'], .slice ja N jc] W fun e w' => TensR W.heap.size (sprT r' s' D' S' N E) W e w' from by
      rw [← spreadP]
      exact spreadTo W.heap.size a' (some b') ja r' s' N s' jc D' S' E W (Nat.le_refl _) ((H2'.out.below (hW.mono (by omega))).mono (by have := hW.size; omega)) ((K2'.out.below (hW.mono (by omega))).mono (by have := hW.size; omega)) ((OJ.out.ints.below hW).mono hW.size) hr' hs' (by omega) NN.out)
    have LA := sprT_le r s D S N E
    have LB := sprT_le r' s' D' S' N E
    have AN := hide (fun h => sprT_no (r := r) (s := s) (D := D) (S := S) (q := N) (E := E) h)
    have BN := hide (fun h => sprT_no (r := r') (s := s') (D := D') (S := S') (q := N) (E := E) h)
    have AY := hide (fun h => sprT_yes (r := r) (s := s) (D := D) (S := S) (q := N) (E := E) h)
    have BY := hide (fun h => sprT_yes (r := r') (s := s') (D := D') (S := S') (q := N) (E := E) h)
    obtain ⟨L, hL⟩ : ∃ L, sprT r s D S N E = L := ⟨_, rfl⟩
    obtain ⟨L', hL'⟩ : ∃ L', sprT r' s' D' S' N E = L' := ⟨_, rfl⟩
    rw [hL] at CA LA AN AY
    rw [hL'] at CB LB BN BY
    have bb0 := hide (show Below w1.heap.size w1 w1.drew from (Below.refl _ _).drew)
    have F0 := hide (fun (W : World) (hW : Below w1.heap.size w1 W) => N2.out.below hW (by omega))
    have F1 := hide (fun (W : World) (hW : Below w1.heap.size w1 W) => U2.out.below hW (by omega))
    have F2 := hide (fun (W : World) (hW : Below w1.heap.size w1 W) => FA2.out.below hW (by omega))
    have F3 := hide (fun (W : World) (hW : Below w1.heap.size w1 W) => FB2.out.below hW (by omega))
    have F4 := hide (fun (W W' : World) (hW : Below w1.heap.size w1 W) (h2 : Below W.heap.size W W') => hW.trans (h2.mono hW.size))
    have F5 := hide (fun (W wA wB : World) (pa pb qa qb : Option Addr) (pc pd qc qd : Nat) (hW : Below w1.heap.size w1 W) (bA : Below W.heap.size W wA) (bB : Below wA.heap.size wA wB) (vA : VOwn W.heap.size wA pa pb L.r L.s L.D L.S) (vB : VOwn wA.heap.size wB qa qb L'.r L'.s L'.D L'.S) => twoSt_end (pc := pc) (pd := pd) (qc := qc) (qd := qd) (show w.heap.size + 1 < w1.heap.size by omega) N2.out U2.out (F4.out W wA hW bA) bB (vA.mono hW.size) vB)
    have eP1 : ¬ (w.heap.size = w.heap.size + 1) := by omega
    have eP2 : ¬ (w.heap.size + 1 = w.heap.size) := by omega
    obtain ⟨x0, x1⟩ := N2.out
    obtain ⟨y0, y1⟩ := U2.out
    have ffa := FA2.out
    have ffb := FB2.out
    unfold Free at ffa ffb
    clear HS0
    go_wp2_with fail
    go_cut [] (fun wx => TwoSt w1 w.heap.size L L' wx)
    case first =>
      clear YES NO2 H2 K2 H2' K2' AN BN AY BY hL hL' hE hN
      go_region_with (first
        | (go_at_call_of 39 (Value.agg #[Value.slice (some a) r r, Value.slice (some b) s s])
           refine (CA.out _ bb0.out).mono ?_
           rintro e wA ⟨pa, pb, pc, pd, rfl, vA, bA⟩
           have bbA := hide (F4.out _ wA bb0.out bA)
           obtain ⟨h0, h1⟩ := F0.out wA bbA.out
           obtain ⟨h2, h3⟩ := F1.out wA bbA.out
           have VA := hide vA
           have BA := hide bA
           clear vA bA)
        | (go_at_call_of 39 (Value.agg #[Value.slice (some a') r' r', Value.slice (some b') s' s'])
           refine (CB.out _ bbA.out).mono ?_
           rintro e wB ⟨qa, qb, qc, qd, rfl, vB, bB⟩
           have bbB := hide (F4.out _ wB bbA.out bB)
           obtain ⟨k0, k1⟩ := F0.out wB bbB.out
           obtain ⟨k2, k3⟩ := F1.out wB bbB.out
           have k4 := F2.out wB bbB.out
           have k5 := F3.out wB bbB.out
           unfold Free at k4 k5
           have VB := hide vB
           have BB := hide bB
           clear vB bB))
      all_goals (go_wp2_with fail)
      all_goals go_meet
      all_goals exact F5.out _ _ _ _ _ _ _ _ _ _ _ bb0.out BA.out BB.out VA.out VB.out
    case rest =>
      have ATk := hide (fun (q : tok r s D S = true ∧ SprOk r N D E) => show tok L.r L.s L.D L.S = true by rw [AY.out q]; exact sprT_tok q.1 q.2)
      have BTk := hide (fun (q : tok r' s' D' S' = true ∧ SprOk r' N D' E) => show tok L'.r L'.s L'.D L'.S = true by rw [BY.out q]; exact sprT_tok q.1 q.2)
      obtain ⟨pa, pb, pc, pd, qa, qb, qc, qd, bx, bx', vA, vB, cf3, m3, g3, o3, b3, s3⟩ := twoSt_out hcut s2 CF2.out M2.out G2.out OJ.out B2.out
      have B3 := hide b3
      have VA3 := hide vA
      have VB3 := hide vB
      have O3 := hide o3
      have CF3 := hide cf3
      have M3 := hide m3
      have G3 := hide g3
      have N3 := hide bx
      have U3 := hide bx'
      have l1 : (L.r : Int) ≤ 1048576 := by have := LA.1; omega
      have l2 : (L.s : Int) ≤ 1048576 := by have := LA.2; omega
      have l3 : (L'.r : Int) ≤ 1048576 := by have := LB.1; omega
      have l4 : (L'.s : Int) ≤ 1048576 := by have := LB.2; omega
      clear hcut x0 x1 y0 y1 ffa ffb vA vB o3 b3 bx' m3 g3 hL hL' hE hN CA CB F0 F1 F2 F3 F4 F5 bb0
      obtain ⟨x0, x1⟩ := bx
      go_wp2_with fail
      refine (tensorOk _ pa pb L.r L.s pc pd L.D L.S _ (Nat.le_refl _) VA3.out.d.ints VA3.out.t.ints l1 l2).mono ?_
      rintro e w2 ⟨rfl, b2⟩
      have N4 := hide (N3.out.below b2 (by omega))
      have U4 := hide (U3.out.below b2 (by omega))
      have M4 := hide (M3.out.below b2 (by omega))
      have G4 := hide (G3.out.below b2 (by omega))
      have B4 := hide (B3.out.trans (b2.mono B3.out.size))
      have VA4 := hide (VA3.out.below b2)
      have VB4 := hide (VB3.out.below b2)
      have O4 := hide (O3.out.below b2)
      have cf4 := (b2.cell (p := ⟨w.heap.size + 1 + 1 + 1, 0, none⟩) (by show w.heap.size + 1 + 1 + 1 < _; omega)).trans CF3.out
      have CF4 := hide cf4
      have s4 : w1.heap.size ≤ w2.heap.size := Nat.le_trans s3 b2.size
      clear b2 x0 x1 cf3 s3 N3 U3 M3 G3 B3 VA3 VB3 O3 CF3
      obtain ⟨y0, y1⟩ := M4.out
      obtain ⟨u0, u1⟩ := U4.out
      obtain ⟨x0, x1⟩ := N4.out
      have gg := G4.out
      unfold Free at gg
      cases ht : tok L.r L.s L.D L.S with
      | false =>
        have ez := hide (NO2.out (fun q => by rw [ATk.out q.1] at ht; cases ht))
        clear ht
        go_wp2_with fail
        refine bodyPost_ret (v := .agg #[.slice none 0 0, .slice none 0 0]) (by simp [results, Try.results18, go_sem, y0, y1]) rfl (by
          rw [ez.out]
          refine tensR_zero ?_
          repeat (refine Below.setCell ?_ (by show w.heap.size ≤ w.heap.size + 1 + 1; omega) _)
          exact B4.out)
      | true =>
        have QA := hide (Classical.byContradiction (fun q => by rw [AN.out q] at ht; cases ht))
        clear ht
        go_wp2_with fail
        refine (tensorOk _ qa qb L'.r L'.s qc qd L'.D L'.S _ (Nat.le_refl _) VB4.out.d.ints VB4.out.t.ints l3 l4).mono ?_
        rintro e w3 ⟨rfl, b2⟩
        have N5 := hide (N4.out.below b2 (by omega))
        have U5 := hide (U4.out.below b2 (by omega))
        have M5 := hide (M4.out.below b2 (by omega))
        have G5 := hide (G4.out.below b2 (by omega))
        have B5 := hide (B4.out.trans (b2.mono B4.out.size))
        have VA5 := hide (VA4.out.below b2)
        have VB5 := hide (VB4.out.below b2)
        have O5 := hide (O4.out.below b2)
        have cf5 := (b2.cell (p := ⟨w.heap.size + 1 + 1 + 1, 0, none⟩) (by show w.heap.size + 1 + 1 + 1 < _; omega)).trans CF4.out
        have CF5 := hide cf5
        have s5 : w1.heap.size ≤ w3.heap.size := Nat.le_trans s4 b2.size
        clear b2 x0 x1 u0 u1 y0 y1 gg cf4 s4 N4 U4 M4 G4 B4 VA4 VB4 O4 CF4
        obtain ⟨y0, y1⟩ := M5.out
        obtain ⟨x0, x1⟩ := N5.out
        have gg := G5.out
        unfold Free at gg
        cases ht : tok L'.r L'.s L'.D L'.S with
        | false =>
          have ez := hide (NO2.out (fun q => by rw [BTk.out q.2] at ht; cases ht))
          clear ht
          go_wp2_with fail
          refine bodyPost_ret (v := .agg #[.slice none 0 0, .slice none 0 0]) (by simp [results, Try.results18, go_sem, y0, y1]) rfl (by
            rw [ez.out]
            refine tensR_zero ?_
            repeat (refine Below.setCell ?_ (by show w.heap.size ≤ w.heap.size + 1 + 1; omega) _)
            exact B5.out)
        | true =>
          have QB := hide (Classical.byContradiction (fun q => by rw [BN.out q] at ht; cases ht))
          have eLs : L.s = L'.s := by rw [AY.out QA.out, BY.out QB.out]
          have EZ := hide (show twoP op r s D S r' s' D' S' = ⟨N, L.s, E, fun k => two1 op (L.S k) (L'.S k)⟩ by rw [YES.out OO.out QA.out QB.out, AY.out QA.out, BY.out QB.out])
          have IA := hide (fun (k : Nat) => show isN (L.S k) by rw [AY.out QA.out]; exact sprN_isN QA.out.1 QA.out.2 k)
          have IB := hide (fun (k : Nat) => show isN (L'.S k) by rw [BY.out QB.out]; exact sprN_isN QB.out.1 QB.out.2 k)
          have ELs := hide eLs
          clear ht eLs YES NO2 AY BY AN BN QA QB ATk BTk
          go_wp2_with fail
          refine (elementwise3 L.s 42 (.pointer (some ⟨w.heap.size + 1 + 1 + 1, 0, none⟩)) (.pointer (some ⟨w.heap.size, 0, none⟩)) (.pointer (some ⟨w.heap.size + 1, 0, none⟩)) (fun k => two1 op (L.S k) (L'.S k)) _ (by omega) (fun k hk => by have := two1_rng (op := op) (IA.out k) (IB.out k); unfold isN at this; unfold bd; omega) (enters_of Try.func42 (by kernel_rfl) rfl) (fun k W hk hW => twoPiece op F HF.out pa pb qa qb L.r L.s pc pd L'.r L'.s qc qd k (w.heap.size + 1 + 1 + 1) w.heap.size (w.heap.size + 1) L.S L'.S w3.heap.size W ((hW.cell (p := ⟨w.heap.size + 1 + 1 + 1, 0, none⟩) (by show w.heap.size + 1 + 1 + 1 < w3.heap.size; omega)).trans CF5.out) (N5.out.below hW (by omega)) (U5.out.below hW (by omega)) (VA5.out.t.ints.below hW) (VB5.out.t.ints.below hW) hk (by have := ELs.out; omega) (IA.out k) (IB.out k) l2 l4)).mono ?_
          rintro e w4 ⟨rfl, r4, s6, b2⟩
          have M6 := hide (M5.out.below b2 (by omega))
          have G6 := hide (G5.out.below b2 (by omega))
          have B6 := hide (B5.out.trans (b2.mono B5.out.size))
          have O6 := hide (O5.out.below b2)
          have R6 := hide r4
          clear r4 b2 x0 x1 y0 y1 gg
          obtain ⟨y0, y1⟩ := M6.out
          have gg := G6.out
          unfold Free at gg
          have O5b := hide (fun k q => (O5.out.blk (b := k) q))
          go_wp2_with fail
          refine bodyPost_ret (v := .agg #[.slice ja N jc, .slice (some ⟨w3.heap.size, 0, none⟩) L.s L.s]) (by simp [results, Try.results18, go_sem, y0, y1]) rfl ?_
          have k2 := kept_sets2 w4 (w.heap.size + 1 + 1) (.slice ja N jc) (.slice (some ⟨w3.heap.size, 0, none⟩) L.s L.s)
          show TensR w.heap.size (twoP op r s D S r' s' D' S') w _ _
          rw [EZ.out]
          refine ⟨ja, _, jc, L.s, rfl, ⟨(O6.out.kept k2 (fun b q e => ?_)).mono (by omega), .inr ⟨_, rfl, by omega, R6.out.kept k2 (by omega)⟩, fun j q1 q2 => ?_⟩, B6.out.trans (k2.below B6.out.size (fun j e => by have e : j = w.heap.size + 1 + 1 := e; omega))⟩
          · have := (O6.out.blk q).1
            have e : b = w.heap.size + 1 + 1 := e
            omega
          · have := (O5b.out _ q1).2
            obtain ⟨_, ad, e', e''⟩ := q2
            injection e' with e'
            subst e'
            have e'' : w3.heap.size = j := e''
            omega
end Vo
end Go.Proofs.Ytejfodkobfdelaa
