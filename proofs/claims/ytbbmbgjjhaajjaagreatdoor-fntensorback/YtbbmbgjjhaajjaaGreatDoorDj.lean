/- What the laws draw: a tensor, now and then a spoiled one. -/
import Derived.Test.YtbbmbgjjhaajjaaGreatDoorDf
namespace Go.Proofs.YtbbmbgjjhaajjaaGreatDoor
namespace Vo
open Go.ChangeShapes Go.WideShapes Go.ChangeAt Go.RowKit Go.Joins Go.Sort
open Vl Vp
open Base (CodeF CurF DrF blV blS blV_bd belowF onceF pickF laid_at numR numR_is OneF)
set_option linter.unusedVariables false
set_option linter.unusedSimpArgs false
theorem ints_app (n : Nat) (D : Nat → Int) (u : Int) : ints n D ++ [.int .i64 u] = ints (n + 1) (fun j => if j = n then u else D j) := by
  rw [← ints_succ]
  congr 1
  · unfold ints
    apply List.map_congr_left
    intro j hj
    have hj : j < n := List.mem_range.1 hj
    dsimp only
    rw [if_neg (by omega)]
  · simp
theorem bxS1 {w : World} {p : Nat} {v0 v1 : Value} (h : Bx w p v0 v1) (u1 : Value) : Bx (w.setCell ⟨p, 1, none⟩ u1) p v0 u1 := by
  refine ⟨?_, World.cell?_setCell_same _ _ _ h.2⟩
  rw [World.cell?_setCell_other _ _ _ _ (by intro e; cases e)]
  exact h.1
theorem bxS0 {w : World} {p : Nat} {v0 v1 : Value} (h : Bx w p v0 v1) (u0 : Value) : Bx (w.setCell ⟨p, 0, none⟩ u0) p u0 v1 := by
  refine ⟨World.cell?_setCell_same _ _ _ h.1, ?_⟩
  rw [World.cell?_setCell_other _ _ _ _ (by intro e; cases e)]
  exact h.2
/-- a tensor that is drawn, in memory: of one's own from E on -/
def DrT (E : Nat) (T : Nat → Prop) (w : World) (e : Ending) (w' : World) : Prop :=
  ∃ (a b : Option Addr) (r s c d : Nat) (D S : Nat → Int), e = .returned (.agg #[.slice a r c, .slice b s d]) ∧ VOwn E w' a b r s D S ∧ (r : Int) ≤ 1048576 ∧ (s : Int) ≤ 1048576 ∧ Kept T w w'
theorem keptSet {T : Nat → Prop} {w W : World} (h : Kept T w W) {q : Nat} (hq : w.heap.size ≤ q) (i : Nat) (v : Value) : Kept T w (W.setCell ⟨q, i, none⟩ v) :=
  ⟨h.os, h.tape, h.output, Nat.le_trans h.size (by simp [World.setCell]), fun k hk hn => (Below.heap_setCell _ _ _ _ (by show k ≠ q; omega)).trans (h.block k hk hn)⟩
set_option maxRecDepth 100000 in
set_option maxHeartbeats 4000000 in
theorem spoilF (B : Nat) (p : Nat) (a : Option Addr) (len cap : Nat) (C : Nat → Int) (z : Nat × Int) (E : Nat) (va : Option Addr) (g r vc N : Nat) (D S : Nat → Int) (w : World) (hc : CurF B w p a len cap C z)
    (h1 : RowV E w (.slice va r vc) r D) (h2 : RowV E w (.slice (some ⟨g, 0, none⟩) N N) N S) (hne : ¬ (Value.slice va r vc).ownBlock = some g) (hpa : ¬ (Value.slice va r vc).ownBlock = some p) (hpg : ¬ g = p) (hE : E ≤ w.heap.size) (hr : (r : Int) ≤ 100) (hN : (N : Int) ≤ 4096) :
    Calls Tryz.prog 53 #[.pointer (some ⟨p, 0, none⟩), .agg #[.slice va r vc, .slice (some ⟨g, 0, none⟩) N N]] w fun e w' => DrT E (fun b => b = p ∨ b = g ∨ (Value.slice va r vc).ownBlock = some b) w e w' := by
  obtain ⟨i0, hi0, hz0, hz1, hz2⟩ := info_parts infoInt
  have plt := hc.lt
  obtain ⟨W0, hW0⟩ : ∃ W0, (w.alloc (.cells #[.slice va r vc, .slice (some ⟨g, 0, none⟩) N N] 24)).alloc (.cells #[.slice none 0 0, .slice none 0 0] 24) = W0 := ⟨_, rfl⟩
  have bl : Below w.heap.size w W0 := by rw [← hW0]; exact ((Below.refl _ _).alloc (Nat.le_refl _) _).alloc (by simp) _
  have z0 : w.heap.size + 2 ≤ W0.heap.size := by rw [← hW0]; simp
  have X0 := hide (show Bx W0 w.heap.size (.slice va r vc) (.slice (some ⟨g, 0, none⟩) N N) by rw [← hW0]; exact (bx_new w _ _ _).below ((Below.refl _ _).alloc (Nat.le_refl _) _) (by simp))
  have M0 := hide (show Bx W0 (w.heap.size + 1) (.slice none 0 0) (.slice none 0 0) by
    rw [← hW0]
    have := bx_new (w.alloc (.cells #[.slice va r vc, .slice (some ⟨g, 0, none⟩) N N] 24)) (.slice none 0 0) (.slice none 0 0) 24
    simpa using this)
  have F0 := hide (show Free W0 w.heap.size by rw [← hW0]; intro i; simp [go_sem])
  have G0 := hide (show Free W0 (w.heap.size + 1) by rw [← hW0]; intro i; simp [go_sem])
  have C0 := hide (hc.below bl)
  have R1 := hide (h1.below bl)
  have R2 := hide (h2.below bl)
  have l1 := hide (fun k (hk : (Value.slice va r vc).ownBlock = some k) => (h1.lt hk).2)
  have l2 : g < w.heap.size := (h2.lt (k := g) rfl).2
  have B0 := hide bl
  have H0 := hide hW0
  clear hW0 bl hc h1 h2
  go_enter Tryz.func53, Tryz.ntmps53
  go_wp2_with fail
  rw [H0.out]
  refine (onceF B p a len cap C z 40 W0 C0.out (by omega) (by omega)).mono ?_; rintro e w1 ⟨rfl, d1, g1⟩
  have k1 := keptG g1
  have s1 := g1.size
  have C1 := hide d1
  have X1 := hide (X0.out.kept k1 (by omega) (by show ¬ w.heap.size = p; omega))
  have M1 := hide (M0.out.kept k1 (by omega) (by show ¬ w.heap.size + 1 = p; omega))
  have F1 := hide (F0.out.kept k1 (by omega) (by show ¬ w.heap.size = p; omega))
  have G1 := hide (G0.out.kept k1 (by omega) (by show ¬ w.heap.size + 1 = p; omega))
  have Q1 := hide (R1.out.kept k1 (fun b hb e => hpa (by have e : b = p := e; rw [← e]; exact hb)))
  have Q2 := hide (R2.out.kept k1 (fun b hb e => by have e : b = p := e; have hb : g = b := Option.some.inj hb; omega))
  have B1 := hide (show Kept (fun b => b = p ∨ b = g ∨ (Value.slice va r vc).ownBlock = some b) w w1 from (Kept.of_below B0.out).trans (k1.mono (fun b _ e => .inl e)))
  clear k1 d1 g1 C0 X0 M0 F0 G0 R1 R2 B0 H0
  -- the end: whatever lists the variable holds
  have END := hide (show ∀ (W : World) (a' b' : Option Addr) (r' s' c' d' : Nat) (D' S' : Nat → Int), Bx W w.heap.size (.slice a' r' c') (.slice b' s' d') → Bx W (w.heap.size + 1) (.slice none 0 0) (.slice none 0 0) → VOwn E W a' b' r' s' D' S' → (∀ k, Blk a' r' k → k ≠ w.heap.size + 1) → (∀ k, Blk b' s' k → k ≠ w.heap.size + 1) → (r' : Int) ≤ 1048576 → (s' : Int) ≤ 1048576 → Kept (fun b => b = p ∨ b = g ∨ (Value.slice va r vc).ownBlock = some b) w W → DrT E (fun b => b = p ∨ b = g ∨ (Value.slice va r vc).ownBlock = some b) w (.returned (.agg #[.slice a' r' c', .slice b' s' d'])) ((W.setCell ⟨w.heap.size + 1, 0, none⟩ (.slice a' r' c')).setCell ⟨w.heap.size + 1, 1, none⟩ (.slice b' s' d')) from
    fun W a' b' r' s' c' d' D' S' _ _ o n1 n2 q1 q2 bb => by
      have ks := (Kept.setCell W ⟨w.heap.size + 1, 0, none⟩ (.slice a' r' c')).trans (Kept.setCell _ ⟨w.heap.size + 1, 1, none⟩ (.slice b' s' d'))
      exact ⟨a', b', r', s', c', d', D', S', rfl, o.kept ks (fun k hk e => by
        have e : k = w.heap.size + 1 := e
        rcases hk with hk | hk
        · exact n1 k hk e
        · exact n2 k hk e), q1, q2, keptSet (keptSet bb (Nat.le_succ _) _ _) (Nat.le_succ _) _ _⟩)
  have own1 : ∀ {W : World} {q : Nat}, RowV E W (.slice va r vc) r D → OwnL E W va r D := fun {W q} h => by obtain ⟨x, y, e, o⟩ := h.own; cases e; exact o
  by_cases hb : blV len C 40 z = 0
  rotate_left
  · have hb' : (blV len C 40 z == 0) = false := beq_eq_false_iff_ne.2 hb
    generalize blV len C 40 z = bb at hb'
    obtain ⟨x0, x1⟩ := X1.out
    obtain ⟨y0, y1⟩ := M1.out
    have gg := G1.out
    unfold Free at gg
    obtain ⟨xa, xc, e1, o1⟩ := Q1.out.own
    cases e1
    obtain ⟨xb, xd, e2, o2⟩ := Q2.out.own
    cases e2
    have O1 := hide o1
    have O2 := hide o2
    clear o1 o2
    go_wp2_with fail
    refine bodyPost_ret (v := .agg #[.slice va r vc, .slice (some ⟨g, 0, none⟩) N N]) (by simp [results, Tryz.results53, go_sem, y0, y1]) rfl ?_
    refine END.out _ va (some ⟨g, 0, none⟩) r N vc N D S X1.out M1.out ⟨O1.out, O2.out, fun k q q' => ?_⟩ (fun k hk e => ?_) (fun k hk e => ?_) (by omega) (by omega) B1.out
    · obtain ⟨_, ad, rfl, rfl⟩ := q
      obtain ⟨_, ad', e1, e2⟩ := q'
      cases e1
      exact hne (by show some ad.block = some g; rw [← e2])
    · obtain ⟨_, ad, rfl, rfl⟩ := hk
      have := l1.out ad.block rfl
      omega
    · obtain ⟨_, ad, e1, rfl⟩ := hk
      cases e1
      have e : g = w.heap.size + 1 := e
      omega
  have hb' : (blV len C 40 z == 0) = true := beq_iff_eq.2 hb
  generalize blV len C 40 z = bb at hb'
  clear hb
  have xb := blV_bd len C (n := 4) (blS len 40 z) (by omega)
  go_wp2_with fail
  refine (belowF B p a len cap C (blS len 40 z) 4 w1 C1.out (by omega) (by omega)).mono ?_; rintro e w2 ⟨rfl, d2, g2⟩
  have k2 := keptG g2
  have s2 := g2.size
  have C2 := hide d2
  have X2 := hide (X1.out.kept k2 (by omega) (by show ¬ w.heap.size = p; omega))
  have M2 := hide (M1.out.kept k2 (by omega) (by show ¬ w.heap.size + 1 = p; omega))
  have F2 := hide (F1.out.kept k2 (by omega) (by show ¬ w.heap.size = p; omega))
  have G2 := hide (G1.out.kept k2 (by omega) (by show ¬ w.heap.size + 1 = p; omega))
  have P1 := hide (Q1.out.kept k2 (fun b hb e => hpa (by have e : b = p := e; rw [← e]; exact hb)))
  have P2 := hide (Q2.out.kept k2 (fun b hb e => by have e : b = p := e; have hb : g = b := Option.some.inj hb; omega))
  have B2 := hide (show Kept (fun b => b = p ∨ b = g ∨ (Value.slice va r vc).ownBlock = some b) w w2 from B1.out.trans (k2.mono (fun b _ e => .inl e)))
  clear k2 d2 g2 C1 X1 M1 F1 G1 Q1 Q2 B1
  generalize blV len C 4 (blS len 40 z) = x at xb ⊢
  obtain ⟨x0, x1⟩ := X2.out
  obtain ⟨y0, y1⟩ := M2.out
  have gg := G2.out
  unfold Free at gg
  have ff := F2.out
  unfold Free at ff
  have BL : ∀ {b : Option Addr} {n k : Nat} {c : Nat}, Blk b n k → (Value.slice b n c).ownBlock = some k := fun {b n k c} h => by obtain ⟨_, ad, rfl, rfl⟩ := h; rfl
  by_cases h0 : x = 0
  · have t0 : (x == 0) = true := beq_iff_eq.2 h0
    clear h0
    go_wp2_with (at_builtin; refine wpList_append_lies _ rfl _ _ 22 rfl E 3 i0 (.int .i64 0) 1 8 Tryz.underlying22 hi0 hz0 hz1 hz2 rfl (by decide) _ _ _ rfl (P2.out.1.alloc _) ⟨w2.heap.size, 0, none⟩ 1 1 [.int .i64 1] rfl rfl (World.news_of_block (cs := #[.int .i64 1]) (t := 3) (fr := (0, 0)) (heap_alloc_new w2 _)) (by simp [Value.oneCell']) (by omega) (by unfold maxLen; omega) (by omega) (by simp; omega) (w2.heap.size + 1) (by simp) ?_; intro g' c' w3 hown1 hgrow1 hat hlt; have KA : Kept (· = g) w2 w3 := (Kept.of_below ((Below.refl _ w2).alloc (Nat.le_refl _) (.cells #[.int .i64 1] 3))).trans (keptG hgrow1); have e1 : w3.cell? ⟨w.heap.size, 1, none⟩ = w2.cell? ⟨w.heap.size, 1, none⟩ := World.cell?_of_block (w := w2) (a := ⟨w.heap.size, 1, none⟩) (KA.block w.heap.size (by omega) (by show ¬ w.heap.size = g; omega)); have e0 : w3.cell? ⟨w.heap.size, 0, none⟩ = w2.cell? ⟨w.heap.size, 0, none⟩ := World.cell?_of_block (w := w2) (a := ⟨w.heap.size, 0, none⟩) (KA.block w.heap.size (by omega) (by show ¬ w.heap.size = g; omega)); have e2 : w3.frozen? ⟨w.heap.size, 1, none⟩ = false := (World.frozen?_of_block (w := w2) (a := ⟨w.heap.size, 1, none⟩) (KA.block w.heap.size (by omega) (by show ¬ w.heap.size = g; omega))).trans (ff 1); obtain ⟨m0, m1⟩ := M2.out.kept KA (by omega) (by show ¬ w.heap.size + 1 = g; omega); have mf : ∀ i, w3.frozen? ⟨w.heap.size + 1, i, none⟩ = false := G2.out.kept KA (by omega) (by show ¬ w.heap.size + 1 = g; omega))
    refine bodyPost_ret (v := .agg #[.slice va r vc, .slice (some ⟨g', 0, none⟩) (N + 1) c']) (by simp [results, Tryz.results53, go_sem, m0, m1]) rfl ?_
    have ks := Kept.setCell w3 ⟨w.heap.size, 1, none⟩ (.slice (some ⟨g', 0, none⟩) (N + 1) c')
    have RW1 := P1.out.kept KA (fun b hb e => hne (by have e : b = g := e; rw [← e]; exact hb))
    have RW2 : RowV E w3 (.slice (some ⟨g', 0, none⟩) (N + 1) c') (N + 1) (fun j => if j = N then 1 else S j) := ⟨by rw [← ints_app]; exact hown1, fun j hj => by
      dsimp only
      split
      · unfold bd; omega
      · exact P2.out.2 j (by omega)⟩
    have g'ne : ¬ g' = w.heap.size ∧ ¬ g' = w.heap.size + 1 := by
      rcases hat with q | q
      · have q : g = g' := Option.some.inj q
        omega
      · omega
    have RW1' := RW1.kept ks (fun b hb e => by have := l1.out b hb; have e : b = w.heap.size := e; omega)
    have RW2' := RW2.kept ks (fun b hb e => by have hb : g' = b := Option.some.inj hb; have e : b = w.heap.size := e; omega)
    obtain ⟨xa, xc, q1, o1⟩ := RW1'.own
    cases q1
    obtain ⟨xb', xd, q2, o2⟩ := RW2'.own
    cases q2
    refine END.out _ va (some ⟨g', 0, none⟩) r (N + 1) vc c' D _ (bxS1 (X2.out.kept KA (by omega) (by show ¬ w.heap.size = g; omega)) _) ((M2.out.kept KA (by omega) (by show ¬ w.heap.size + 1 = g; omega)).kept ks (by have := KA.size; omega) (by show ¬ w.heap.size + 1 = w.heap.size; omega)) ⟨o1, o2, fun k q q' => ?_⟩ (fun k hk e => ?_) (fun k hk e => ?_) (by omega) (by omega) (keptSet (B2.out.trans (KA.mono (fun b _ e => .inr (.inl e)))) (Nat.le_refl _) _ _)
    · have a1 := BL (c := vc) q
      have a2 : g' = k := Option.some.inj (BL (c := c') q')
      rcases hat with u | u
      · have u : g = g' := Option.some.inj u
        exact hne (by rw [a1, u, a2])
      · have := l1.out k a1
        omega
    · have := l1.out k (BL (c := vc) hk)
      omega
    · have a2 : g' = k := Option.some.inj (BL (c := c') hk)
      omega
  have t0 : (x == 0) = false := beq_eq_false_iff_ne.2 h0
  by_cases h3 : x = 3
  · have t1 : (x == 1) = false := beq_eq_false_iff_ne.2 (by omega)
    have t2 : (x == 2) = false := beq_eq_false_iff_ne.2 (by omega)
    have t3 : (x == 3) = true := beq_iff_eq.2 h3
    clear h0 h3
    go_wp2_with fail
    refine bodyPost_ret (v := .agg #[.slice none 0 0, .slice none 0 0]) (by simp [results, Tryz.results53, go_sem, y0, y1]) rfl ?_
    refine ⟨none, none, 0, 0, 0, 0, fun _ => 0, fun _ => 0, rfl, ⟨.inl rfl, .inl rfl, fun k h => absurd rfl h.1⟩, by omega, by omega, ?_⟩
    exact keptSet (keptSet (keptSet (keptSet B2.out (Nat.le_refl _) _ _) (Nat.le_refl _) _ _) (Nat.le_succ _) _ _) (Nat.le_succ _) _ _
  have t3 : (x == 3) = false := beq_eq_false_iff_ne.2 h3
  by_cases h2 : x = 2
  · have t1 : (x == 1) = false := beq_eq_false_iff_ne.2 (by omega)
    have t2 : (x == 2) = true := beq_iff_eq.2 h2
    clear h0 h2 h3
    have nb := hide (show ∀ b, w.heap.size ≤ b → ¬ (Value.slice va r vc).ownBlock = some b from fun b hb q => by have := l1.out b q; omega)
    go_wp2_with (at_builtin; refine wpList_append_lies _ rfl _ _ 22 rfl E 3 i0 (.int .i64 0) 1 8 Tryz.underlying22 hi0 hz0 hz1 hz2 rfl (by decide) _ _ _ rfl (P1.out.1.alloc _) ⟨w2.heap.size, 0, none⟩ 1 1 [.int .i64 0] rfl rfl (World.news_of_block (cs := #[.int .i64 0]) (t := 3) (fr := (0, 0)) (heap_alloc_new w2 _)) (by simp [Value.oneCell']) (by omega) (by unfold maxLen; omega) (by omega) (by simp; omega) (w2.heap.size + 1) (by simp) ?_; intro g' c' w3 hown1 hgrow1 hat hlt; have KA : Kept (fun b => (Value.slice va r vc).ownBlock = some b) w2 w3 := (Kept.of_below ((Below.refl _ w2).alloc (Nat.le_refl _) (.cells #[.int .i64 0] 3))).trans ⟨hgrow1.os, hgrow1.tape, hgrow1.output, hgrow1.size, fun b hb hn => hgrow1.block b hb (fun q => hn q.symm)⟩; have e1 : w3.cell? ⟨w.heap.size, 1, none⟩ = w2.cell? ⟨w.heap.size, 1, none⟩ := World.cell?_of_block (w := w2) (a := ⟨w.heap.size, 1, none⟩) (KA.block w.heap.size (by omega) (nb.out _ (Nat.le_refl _))); have e0 : w3.cell? ⟨w.heap.size, 0, none⟩ = w2.cell? ⟨w.heap.size, 0, none⟩ := World.cell?_of_block (w := w2) (a := ⟨w.heap.size, 0, none⟩) (KA.block w.heap.size (by omega) (nb.out _ (Nat.le_refl _))); have e2 : w3.frozen? ⟨w.heap.size, 0, none⟩ = false := (World.frozen?_of_block (w := w2) (a := ⟨w.heap.size, 0, none⟩) (KA.block w.heap.size (by omega) (nb.out _ (Nat.le_refl _)))).trans (ff 0); obtain ⟨m0, m1⟩ := M2.out.kept KA (by omega) (nb.out _ (by omega)); have mf : ∀ i, w3.frozen? ⟨w.heap.size + 1, i, none⟩ = false := G2.out.kept KA (by omega) (nb.out _ (by omega)))
    refine bodyPost_ret (v := .agg #[.slice (some ⟨g', 0, none⟩) (r + 1) c', .slice (some ⟨g, 0, none⟩) N N]) (by simp [results, Tryz.results53, go_sem, m0, m1]) rfl ?_
    have ks := Kept.setCell w3 ⟨w.heap.size, 0, none⟩ (.slice (some ⟨g', 0, none⟩) (r + 1) c')
    have RW2 := P2.out.kept KA (fun b hb e => hne (by have hb : g = b := Option.some.inj hb; rw [hb]; exact e))
    have RW1 : RowV E w3 (.slice (some ⟨g', 0, none⟩) (r + 1) c') (r + 1) (fun j => if j = r then 0 else D j) := ⟨by rw [← ints_app]; exact hown1, fun j hj => by
      dsimp only
      split
      · unfold bd; omega
      · exact P1.out.2 j (by omega)⟩
    have g'ne : ¬ g' = w.heap.size ∧ ¬ g' = w.heap.size + 1 ∧ ¬ g' = g := by
      rcases hat with q | q
      · have := l1.out g' q
        refine ⟨by omega, by omega, fun e => hne (by rw [← e]; exact q)⟩
      · omega
    have RW1' := RW1.kept ks (fun b hb e => by have hb : g' = b := Option.some.inj hb; have e : b = w.heap.size := e; omega)
    have RW2' := RW2.kept ks (fun b hb e => by have hb : g = b := Option.some.inj hb; have e : b = w.heap.size := e; omega)
    obtain ⟨xa, xc, q1, o1⟩ := RW1'.own
    cases q1
    obtain ⟨xb', xd, q2, o2⟩ := RW2'.own
    cases q2
    refine END.out _ (some ⟨g', 0, none⟩) (some ⟨g, 0, none⟩) (r + 1) N c' N _ S (bxS0 (X2.out.kept KA (by omega) (nb.out _ (Nat.le_refl _))) _) ((M2.out.kept KA (by omega) (nb.out _ (by omega))).kept ks (by have := KA.size; omega) (by show ¬ w.heap.size + 1 = w.heap.size; omega)) ⟨o1, o2, fun k q q' => ?_⟩ (fun k hk e => ?_) (fun k hk e => ?_) (by omega) (by omega) (keptSet (B2.out.trans (KA.mono (fun b _ e => .inr (.inr e)))) (Nat.le_refl _) _ _)
    · have a1 : g' = k := Option.some.inj (BL (c := c') q)
      have a2 : g = k := Option.some.inj (BL (c := N) q')
      omega
    · have a2 : g' = k := Option.some.inj (BL (c := c') hk)
      omega
    · have a2 : g = k := Option.some.inj (BL (c := N) hk)
      omega
  have t1 : (x == 1) = true := beq_iff_eq.2 (by omega)
  clear h0 h2 h3
  have own2 : OwnL E w2 va r D ∧ OwnL E w2 (some ⟨g, 0, none⟩) N S := by
    obtain ⟨xa, xc, q1, o1⟩ := P1.out.own
    cases q1
    obtain ⟨xb', xd, q2, o2⟩ := P2.out.own
    cases q2
    exact ⟨o1, o2⟩
  have O12 := hide own2
  clear own2
  by_cases hN0 : N = 0
  · have n0 : decide ((0 : Int) < (N : Int)) = false := decide_eq_false (by omega)
    have n0' : decide (0 < N) = false := decide_eq_false (by omega)
    have HN0 := hide hN0
    clear hN0
    go_wp2_with fail
    refine bodyPost_ret (v := .agg #[.slice va r vc, .slice (some ⟨g, 0, none⟩) N N]) (by simp [results, Tryz.results53, go_sem, y0, y1]) rfl ?_
    refine END.out _ va (some ⟨g, 0, none⟩) r N vc N D S X2.out M2.out ⟨O12.out.1, O12.out.2, fun k q q' => ?_⟩ (fun k hk e => ?_) (fun k hk e => ?_) (by omega) (by omega) B2.out
    · have a1 := BL (c := vc) q
      have a2 : g = k := Option.some.inj (BL (c := N) q')
      exact hne (by rw [a1, a2])
    · have := l1.out k (BL (c := vc) hk)
      omega
    · have a2 : g = k := Option.some.inj (BL (c := N) hk)
      omega
  have n0 : (0 : Int) < (N : Int) := by omega
  have n0' : 0 < N := by omega
  have HL := hide (laid_at w2.drew [-1, 2147483647] 3)
  have CALL := hide (pickF B p a len cap C (blS len 4 (blS len 40 z)) w2.heap.size 2 (fun j => ([-1, 2147483647] : List Int).getD j 0) (w2.drew.alloc (.cells (([-1, 2147483647] : List Int).map (Value.int .i64)).toArray 3)) ((C2.out.below ((Below.refl _ _).drew)).alloc _) (by have := C2.out.lt; omega) (by omega) (by omega) HL.out)
  have ub := blV_bd len C (n := ((2 : Nat) : Int)) (blS len 4 (blS len 40 z)) (by omega)
  have vb : bd (([-1, 2147483647] : List Int).getD (blV len C ((2 : Nat) : Int) (blS len 4 (blS len 40 z))).toNat 0) := by
    obtain ⟨j, hj⟩ := Int.eq_ofNat_of_zero_le ub.1
    rw [hj, Int.toNat_natCast]
    have : j < 2 := by omega
    match j, this with
    | 0, _ => exact ⟨by decide, by decide⟩
    | 1, _ => exact ⟨by decide, by decide⟩
  obtain ⟨u, hu⟩ : ∃ u, ([-1, 2147483647] : List Int).getD (blV len C ((2 : Nat) : Int) (blS len 4 (blS len 40 z))).toNat 0 = u := ⟨_, rfl⟩
  rw [hu] at CALL vb
  have VB := hide vb
  clear hu vb HL
  have FACT := hide (show ∀ W : World, Kept (· = p) w2 W → W.cell? ⟨w.heap.size, 1, none⟩ = some (.slice (some ⟨g, 0, none⟩) N N) ∧ Rw W g N S from fun W hW => by
    refine ⟨(X2.out.kept hW (by omega) (by show ¬ w.heap.size = p; omega)).2, ?_⟩
    rcases O12.out.2 with q | ⟨g2, q, _, rw2⟩
    · omega
    · cases q
      exact rw2.kept hW (by show ¬ g = p; omega))
  have SE := hide (show ∀ (W : World) (u : Value), (W.setCell ⟨g, 0, none⟩ u).cell? ⟨w.heap.size, 1, none⟩ = W.cell? ⟨w.heap.size, 1, none⟩ from fun W u => World.cell?_setCell_other _ _ _ _ (by intro e; cases e))
  have SA := hide (show ∀ o : Obj, (w2.drew.alloc o).cell? ⟨w.heap.size, 1, none⟩ = some (.slice (some ⟨g, 0, none⟩) N N) from fun o => (FACT.out _ ((Kept.of_below ((Below.refl _ _).drew)).trans (Kept.of_below ((Below.refl _ _).alloc (Nat.le_refl _) o)))).1)
  go_wp2_with fail
  go_region_held3 (fun w' => w'.cell? ⟨w.heap.size, 1, none⟩ = some (.slice (some ⟨g, 0, none⟩) N N))
    ((try dsimp only) <;> (first | with_reducible assumption | assumption | (rw [SE.out]; assumption) | exact SA.out _))
    (first
    | (go_at_call 62
       refine CALL.out.mono ?_
       rintro e w3 ⟨rfl, d3, gr3⟩
       have k3 : Kept (· = p) w2 w3 := ((Kept.of_below ((Below.refl _ _).drew)).trans (Kept.of_below ((Below.refl _ _).alloc (Nat.le_refl _) _))).trans (keptG gr3)
       obtain ⟨q1, qr⟩ := FACT.out w3 k3
       obtain ⟨cg2, fg2, _⟩ := qr 0 n0'))
  have s3 := k3.size
  have kp := hide (show Kept (fun b => b = p ∨ b = g) w2 (w3.setCell ⟨g, 0, none⟩ (.int .i64 u)) from (k3.mono (T := fun b => b = p ∨ b = g) (fun b _ e => .inl e)).trans ((Kept.setCell w3 ⟨g, 0, none⟩ (.int .i64 u)).mono (T := fun b => b = p ∨ b = g) (fun b _ e => .inr e)))
  have X4 := hide (X2.out.kept kp.out (by omega) (by show ¬ (w.heap.size = p ∨ w.heap.size = g); omega))
  have M4 := hide (M2.out.kept kp.out (by omega) (by show ¬ (w.heap.size + 1 = p ∨ w.heap.size + 1 = g); omega))
  have G4 := hide (G2.out.kept kp.out (by omega) (by show ¬ (w.heap.size + 1 = p ∨ w.heap.size + 1 = g); omega))
  have O4 := hide (O12.out.1.kept kp.out (fun b hb e => by
    have a1 := BL (c := vc) hb
    rcases e with e | e
    · exact hpa (by rw [← e]; exact a1)
    · exact hne (by rw [← e]; exact a1)))
  have D4 := hide (qr.set 0 u VB.out)
  have B4 := hide (B2.out.trans (kp.out.mono (T := fun b => b = p ∨ b = g ∨ (Value.slice va r vc).ownBlock = some b) (fun b _ e => by
    rcases e with e | e
    · exact .inl e
    · exact .inr (.inl e))))
  clear x0 x1 y0 y1 gg ff q1 qr cg2 fg2 d3 gr3 k3 CALL FACT SE SA
  obtain ⟨x0, x1⟩ := X4.out
  obtain ⟨y0, y1⟩ := M4.out
  have gg := G4.out
  unfold Free at gg
  go_wp2_with fail
  refine bodyPost_ret (v := .agg #[.slice va r vc, .slice (some ⟨g, 0, none⟩) N N]) (by simp [results, Tryz.results53, go_sem, y0, y1]) rfl ?_
  refine END.out _ va (some ⟨g, 0, none⟩) r N vc N D _ X4.out M4.out ⟨O4.out, .inr ⟨g, rfl, (P2.out.lt (k := g) rfl).1, D4.out⟩, fun k q q' => ?_⟩ (fun k hk e => ?_) (fun k hk e => ?_) (by omega) (by omega) B4.out
  · have a1 := BL (c := vc) q
    have a2 : g = k := Option.some.inj (BL (c := N) q')
    exact hne (by rw [a1, a2])
  · have := l1.out k (BL (c := vc) hk)
    omega
  · have a2 : g = k := Option.some.inj (BL (c := N) hk)
    omega
set_option maxRecDepth 100000 in
set_option maxHeartbeats 4000000 in
theorem drawF (B : Nat) (p : Nat) (a : Option Addr) (len cap : Nat) (C : Nat → Int) (z : Nat × Int) (E : Nat) (w : World) (hc : CurF B w p a len cap C z) (hp : E ≤ p) (hE : E ≤ w.heap.size) :
    Calls Tryz.prog 26 #[.pointer (some ⟨p, 0, none⟩)] w fun e w' => DrT E (· = p) w e w' := by
  have plt := hc.lt
  obtain ⟨W0, hW0⟩ : ∃ W0, w.alloc (.cells #[.slice none 0 0, .slice none 0 0] 24) = W0 := ⟨_, rfl⟩
  have bl : Below w.heap.size w W0 := by rw [← hW0]; exact (Below.refl _ _).alloc (Nat.le_refl _) _
  have z0 : w.heap.size + 1 ≤ W0.heap.size := by rw [← hW0]; simp
  have M0 := hide (show Bx W0 w.heap.size (.slice none 0 0) (.slice none 0 0) by rw [← hW0]; exact bx_new w _ _ _)
  have G0 := hide (show Free W0 w.heap.size by rw [← hW0]; intro i; simp [go_sem])
  have C0 := hide (hc.below bl)
  have B0 := hide (show Kept (· = p) w W0 from Kept.of_below bl)
  have H0 := hide hW0
  have lenL := dmR_len len C 40 z
  have sb := szR_rng (gd (dmR len C 40 z).1) (dmR len C 40 z).1.length
  clear hW0 bl hc
  go_enter Tryz.func26, Tryz.ntmps26
  go_wp2_with fail
  rw [H0.out]
  refine (dimsF B p a len cap C z 40 W0 C0.out (by omega) (by omega)).mono ?_; rintro e w2 ⟨g, c, rfl, r2, d2, g2⟩
  have z2 := g2.size
  have k2 := keptG g2
  have D2 := hide d2
  have M2 := hide (M0.out.kept k2 (by omega) (by show ¬ w.heap.size = p; omega))
  have G2 := hide (G0.out.kept k2 (by omega) (by show ¬ w.heap.size = p; omega))
  have K2 := hide (B0.out.trans k2)
  obtain ⟨av, cv, hav, hO⟩ := r2.own
  cases hav
  have I2 := hide hO.ints
  clear r2 d2 g2 k2 hO C0 M0 G0 B0 H0
  go_wp2_with fail
  refine (drawOfF B p a len cap C (dmR len C 40 z).2 w2.heap.size ⟨g, 0, none⟩ (dmR len C 40 z).1.length c (szR (gd (dmR len C 40 z).1) (dmR len C 40 z).1.length).toNat (gd (dmR len C 40 z).1) w2 D2.out (Nat.le_refl _) I2.out (by omega) (by omega) (by omega)).mono ?_
  rintro e w3 ⟨va, vc, g3, rfl, o3, rv3, sh3, g3lo, ne3, d3, k3⟩
  have z3 := k3.size
  have D3 := hide d3
  have M3 := hide (M2.out.kept k3 (by omega) (by show ¬ w.heap.size = p; omega))
  have G3 := hide (G2.out.kept k3 (by omega) (by show ¬ w.heap.size = p; omega))
  have K3 := hide (K2.out.trans k3)
  have R1 := hide rv3
  have R2 := hide (show RowV (w2.heap.size + 1) w3 _ _ _ from by
    rcases o3.t with q | ⟨g', q, _, rw3⟩
    · exact rowv_of (S := ceV len C (dmR len C 40 z).2) sh3 (fun t ht => by omega) (by omega) (by omega)
    · cases q
      exact rowv_of sh3 rw3 (by omega) (by omega))
  have NE := hide ne3
  have g3hi : g3 < w3.heap.size := (R2.out.lt (k := g3) rfl).2
  clear d3 k3 o3 rv3 sh3 D2 M2 G2 K2 I2
  go_wp2_with fail
  refine (spoilF B p a len cap C _ (w2.heap.size + 1) va g3 (dmR len C 40 z).1.length vc _ _ _ w3 D3.out R1.out R2.out NE.out (fun q => by have := (R1.out.lt q).1; omega) (by omega) (by omega) (by omega) (by omega)).mono ?_
  rintro e w4 ⟨a', b', r', s', c', d', D', S', rfl, o4, q1, q2, k4⟩
  have z4 := k4.size
  have M4 := hide (M3.out.kept k4 (by omega) (fun e => by
    rcases e with e | e | e
    · omega
    · omega
    · have := (R1.out.lt e).1; omega))
  have G4 := hide (G3.out.kept k4 (by omega) (fun e => by
    rcases e with e | e | e
    · omega
    · omega
    · have := (R1.out.lt e).1; omega))
  have K4 := hide (show Kept (· = p) w w4 from ⟨k4.os.trans K3.out.os, k4.tape.trans K3.out.tape, k4.output.trans K3.out.output, Nat.le_trans K3.out.size k4.size, fun b hb hn => (k4.block b (by have := K3.out.size; omega) (fun e => by
    have hn : ¬ b = p := hn
    rcases e with e | e | e
    · omega
    · omega
    · have := (R1.out.lt e).1; omega)).trans (K3.out.block b hb hn)⟩)
  have O4 := hide o4
  clear o4 k4 R1 R2 NE D3 M3 G3 K3
  obtain ⟨y0, y1⟩ := M4.out
  have gg := G4.out
  unfold Free at gg
  go_wp2_with fail
  refine bodyPost_ret (v := .agg #[.slice a' r' c', .slice b' s' d']) (by simp [results, Tryz.results26, go_sem, y0, y1]) rfl ?_
  have ks := (Kept.setCell w4 ⟨w.heap.size, 0, none⟩ (.slice a' r' c')).trans (Kept.setCell _ ⟨w.heap.size, 1, none⟩ (.slice b' s' d'))
  exact ⟨a', b', r', s', c', d', D', S', rfl, (O4.out.kept ks (fun k hk e => by
    have e : k = w.heap.size := e
    have := (O4.out.blk hk).1
    omega)).mono (by omega), q1, q2, keptSet (keptSet K4.out (Nat.le_refl _) _ _) (Nat.le_refl _) _ _⟩
set_option maxRecDepth 100000 in
set_option maxHeartbeats 4000000 in
theorem drawShowF (a : Option Addr) (len cap : Nat) (C : Nat → Int) (w : World) (B : Nat) (hc : CodeF B w a len C) (hB : B ≤ w.heap.size) :
    Calls Tryz.prog 11 #[.slice a len cap] w fun e w' => ∃ (a b : Option Addr) (r s c d : Nat) (D S : Nat → Int), e = .returned (.agg #[.slice a r c, .slice b s d]) ∧ VOwn w.heap.size w' a b r s D S ∧ (r : Int) ≤ 1048576 ∧ (s : Int) ≤ 1048576 ∧ Below w.heap.size w w' := by
  obtain ⟨W0, hW0⟩ : ∃ W0, w.alloc (.cells #[.slice none 0 0, .slice none 0 0] 24) = W0 := ⟨_, rfl⟩
  have bl : Below w.heap.size w W0 := by rw [← hW0]; exact (Below.refl _ _).alloc (Nat.le_refl _) _
  have z0 : w.heap.size + 1 ≤ W0.heap.size := by rw [← hW0]; simp
  have M0 := hide (show Bx W0 w.heap.size (.slice none 0 0) (.slice none 0 0) by rw [← hW0]; exact bx_new w _ _ _)
  have G0 := hide (show Free W0 w.heap.size by rw [← hW0]; intro i; simp [go_sem])
  have C0 := hide (hc.below (bl.mono hB))
  have B0 := hide bl
  have H0 := hide hW0
  clear hW0 bl hc
  go_enter Tryz.func11, Tryz.ntmps11
  go_wp2_with fail
  rw [H0.out]
  refine (newF B a len cap C W0 C0.out (by omega)).mono ?_; rintro e w1 ⟨rfl, d1, b1, l1⟩
  have D1 := hide d1
  have M1 := hide (M0.out.below b1 (by omega))
  have G1 := hide (G0.out.below b1 (by omega))
  have B1 := hide (B0.out.trans (b1.mono B0.out.size))
  clear d1 b1 M0 G0 B0 H0 C0
  go_wp2_with fail
  refine (drawF B W0.heap.size a len cap C (nwZ len C) W0.heap.size w1 D1.out (Nat.le_refl _) (Nat.le_of_lt l1)).mono ?_
  rintro e w2 ⟨a', b', r', s', c', d', D', S', rfl, o4, q1, q2, k4⟩
  have M2 := hide (M1.out.kept k4 (by omega) (by show ¬ w.heap.size = W0.heap.size; omega))
  have G2 := hide (G1.out.kept k4 (by omega) (by show ¬ w.heap.size = W0.heap.size; omega))
  have B2 := hide (B1.out.trans (k4.below B1.out.size (fun b e => by have e : b = W0.heap.size := e; omega)))
  have O4 := hide o4
  clear o4 k4 M1 G1 B1 D1
  obtain ⟨y0, y1⟩ := M2.out
  have gg := G2.out
  unfold Free at gg
  go_wp2_with fail
  refine bodyPost_ret (v := .agg #[.slice a' r' c', .slice b' s' d']) (by simp [results, Tryz.results11, go_sem, y0, y1]) rfl ?_
  have ks := (Kept.setCell w2 ⟨w.heap.size, 0, none⟩ (.slice a' r' c')).trans (Kept.setCell _ ⟨w.heap.size, 1, none⟩ (.slice b' s' d'))
  exact ⟨a', b', r', s', c', d', D', S', rfl, (O4.out.kept ks (fun k hk e => by
    have e : k = w.heap.size := e
    have := (O4.out.blk hk).1
    omega)).mono (by omega), q1, q2, (B2.out.setCell (p := ⟨w.heap.size, 0, none⟩) (Nat.le_refl _) _).setCell (p := ⟨w.heap.size, 1, none⟩) (Nat.le_refl _) _⟩
end Vo
end Go.Proofs.YtbbmbgjjhaajjaaGreatDoor
