/- Lemmas for the proof of the law. -/
import Derived.Test.YtejfodkobfdelaaMgac
import Derived.Test.YtejfodkobfdelaaMgad
import Derived.OwnWalk
import Derived.Lib.BufferMore
/- What the exact laws do with views: copied, compared, marked. -/
namespace Go.Proofs.Ytejfodkobfdelaa
namespace Vo
open Go.ChangeShapes Go.WideShapes Go.ChangeAt Go.RowKit Go.Joins
open Vl Vp
set_option linter.unusedVariables false
set_option linter.unusedSimpArgs false

theorem old_cells {W w1 : World} (hb : Below W.heap.size W w1) : ∀ k i, k < W.heap.size → w1.cell? ⟨k, i, none⟩ = W.cell? ⟨k, i, none⟩ := fun k i h => hb.cell (p := ⟨k, i, none⟩) h
theorem old_marks {W w1 : World} (hb : Below W.heap.size W w1) : ∀ k i, k < W.heap.size → w1.frozen? ⟨k, i, none⟩ = W.frozen? ⟨k, i, none⟩ := fun k i h => hb.frozen (p := ⟨k, i, none⟩) h

/-- a view of one's own: two lists in blocks of their own, at or beyond B -/
structure VOwn (B : Nat) (w : World) (a b : Option Addr) (r s : Nat) (D S : Nat → Int) : Prop where
  d : OwnL B w a r D
  t : OwnL B w b s S
  ne : ∀ k, Blk a r k → Blk b s k → False
theorem VOwn.below {B : Nat} {w w' : World} {a b : Option Addr} {r s : Nat} {D S : Nat → Int} (h : VOwn B w a b r s D S) (hb : Below w.heap.size w w') : VOwn B w' a b r s D S := ⟨h.d.below hb, h.t.below hb, h.ne⟩
theorem VOwn.mono {B B' : Nat} {w : World} {a b : Option Addr} {r s : Nat} {D S : Nat → Int} (h : VOwn B w a b r s D S) (hb : B' ≤ B) : VOwn B' w a b r s D S := ⟨h.d.mono hb, h.t.mono hb, h.ne⟩
/-- the blocks of a view -/
def VBlk (a b : Option Addr) (r s : Nat) : Nat → Prop := fun k => Blk a r k ∨ Blk b s k
theorem VOwn.blk {B : Nat} {w : World} {a b : Option Addr} {r s : Nat} {D S : Nat → Int} (h : VOwn B w a b r s D S) {k : Nat} (hk : VBlk a b r s k) : B ≤ k ∧ k < w.heap.size := by
  rcases hk with hk | hk
  · exact h.d.blk hk
  · exact h.t.blk hk
theorem Box.kept {T : Nat → Prop} {w w' : World} {p : Nat} {v0 v1 v2 v3 : Value} (h : Box w p v0 v1 v2 v3) (hb : Kept T w w') (hp : p < w.heap.size) (hn : ¬ T p) : Box w' p v0 v1 v2 v3 := by
  unfold Box at *
  have e := hb.block p hp hn
  rw [World.cell?_of_block (w := w) (a := ⟨p, 0, none⟩) e, World.cell?_of_block (w := w) (a := ⟨p, 1, none⟩) e, World.cell?_of_block (w := w) (a := ⟨p, 2, none⟩) e, World.cell?_of_block (w := w) (a := ⟨p, 3, none⟩) e]
  exact h
theorem VOwn.kept {T : Nat → Prop} {B : Nat} {w w' : World} {a b : Option Addr} {r s : Nat} {D S : Nat → Int} (h : VOwn B w a b r s D S) (hk : Kept T w w') (hs : ∀ k, VBlk a b r s k → ¬ T k) : VOwn B w' a b r s D S :=
  ⟨h.d.kept hk (fun k q => hs k (.inl q)), h.t.kept hk (fun k q => hs k (.inr q)), h.ne⟩

theorem Rw.other {w : World} {g r : Nat} {D : Nat → Int} {p : Addr} {v : Value} (h : Rw w g r D) (hn : g ≠ p.block) : Rw (w.setCell p v) g r D := h.kept (Kept.setCell w p v) hn
theorem vown_of {B : Nat} {w : World} {g1 g2 r s : Nat} {D S : Nat → Int} (h1 : Rw w g1 r D) (h2 : Rw w g2 s S) (b1 : B ≤ g1) (b2 : B ≤ g2) (hn : g1 ≠ g2) : VOwn B w (some ⟨g1, 0, none⟩) (some ⟨g2, 0, none⟩) r s D S :=
  ⟨.inr ⟨g1, rfl, b1, h1⟩, .inr ⟨g2, rfl, b2, h2⟩, by
    rintro k ⟨_, ad, e, rfl⟩ ⟨_, ad', e', e3⟩
    injection e with e; injection e' with e'
    subst e e'
    exact hn e3.symm⟩
theorem szView (a b : Option Addr) (r s cap dap : Nat) (o n l : Int) (w : World) (l0 : 0 ≤ l) (l1 : l ≤ 1048576) (hr : (r : Int) ≤ 9223372036854775807) (hs : (s : Int) ≤ 9223372036854775807) :
    Calls Try.prog 5 #[.agg #[.slice a r cap, .slice b s dap, .int .i64 o, .int .i64 n], .int .i64 l] w fun e w' => ∃ x : Int, e = .returned (.int .i64 x) ∧ (0 ≤ x → x ≤ 1048576 ∧ (r : Int) ≤ 1048576 ∧ (s : Int) ≤ 1048576) ∧ Below w.heap.size w w' := by
  have bl := hide (show Below w.heap.size w (w.alloc (.cells #[.slice a r cap, .slice b s dap, .int .i64 o, .int .i64 n] 24)) from (Below.refl _ _).alloc (Nat.le_refl _) _)
  go_enter Try.func5, Try.ntmps5
  go_wp2_with fail
  refine (szIntS a r cap l _ l0 l1 hr).mono ?_; rintro e w1 ⟨x, rfl, hx, rfl⟩
  have HX := hide hx
  clear hx
  by_cases hx0 : x < 0
  · go_wp2_with fail
    go_ret
    exact ⟨_, rfl, fun h => by omega, bl.out⟩
  · have hx0' : decide (x < 0) = false := by rw [decide_eq_false_iff_not]; exact hx0
    have hxl : x ≤ 1048576 := by have := HX.out; unfold Sz at this; omega
    have hx1 : 0 ≤ x := by omega
    clear hx0
    go_wp2_with fail
    refine (szIntS b s dap x _ hx1 hxl hs).mono ?_; rintro e w1 ⟨y, rfl, hy, rfl⟩
    have HY := hide hy
    clear hy
    by_cases hy0 : y < 0
    · go_wp2_with fail
      go_ret
      exact ⟨_, rfl, fun h => by omega, bl.out⟩
    · have hy0' : decide (y < 0) = false := by rw [decide_eq_false_iff_not]; exact hy0
      have hf := hide (show y ≤ 1048576 ∧ (r : Int) ≤ 1048576 ∧ (s : Int) ≤ 1048576 by have := HX.out; have := HY.out; unfold Sz at *; omega)
      clear hy0
      go_wp2_with fail
      go_ret
      exact ⟨_, rfl, fun _ => hf.out, bl.out⟩
set_option maxHeartbeats 1000000 in
theorem toView (B : Nat) (a b : Option Addr) (r s cap dap : Nat) (D S : Nat → Int) (o n : Int) (w : World) (h : Ints B w a r D) (h' : Ints B w b s S) (hB : B ≤ w.heap.size) (hr : (r : Int) ≤ 1048576) (hs : (s : Int) ≤ 1048576) :
    Calls Try.prog 7 #[.agg #[.slice a r cap, .slice b s dap, .int .i64 o, .int .i64 n]] w fun e w' => ∃ g1 g2 : Nat, e = .returned (.agg #[.slice (some ⟨g1, 0, none⟩) r r, .slice (some ⟨g2, 0, none⟩) s s, .int .i64 o, .int .i64 n]) ∧ VOwn w.heap.size w' (some ⟨g1, 0, none⟩) (some ⟨g2, 0, none⟩) r s D S ∧ Below w.heap.size w w' := by
  have H := hide h
  have H' := hide h'
  clear h h'
  go_enter Try.func7, Try.ntmps7
  go_wp2_with fail
  refine (toIntS B a r cap D _ (by exact Ints.below H.out ((((Below.refl B w).alloc hB _).alloc (by simp; omega) _).alloc (by simp; omega) _)) (by simp; omega) hr).mono ?_
  rintro e w1 ⟨rfl, q1, s1, b1⟩
  have hc1 := old_cells b1
  have hf1 := old_marks b1
  have z1 : w.heap.size + 3 < w1.heap.size := by simp at s1; omega
  have B1 := hide b1
  have Q1 := hide q1
  clear b1 q1
  have B0 := hide (show Below w.heap.size w (((w.alloc (.cells #[.slice a r cap, .slice b s dap, .int .i64 o, .int .i64 n] 24)).alloc (.cells #[.slice none 0 0, .slice none 0 0, .int .i64 0, .int .i64 0] 26)).alloc (.cells #[.slice none 0 0, .slice none 0 0, .int .i64 0, .int .i64 0] 26)) from below_alloc3 _ _ _ _)
  have B01 := hide (B0.out.trans (B1.out.mono (by simp; omega)))
  have B12 := hide (B01.out.setCell (p := ⟨w.heap.size + 1 + 1, 0, none⟩) (by show w.heap.size ≤ w.heap.size + 1 + 1; omega) (.slice (some ⟨w.heap.size + 1 + 1 + 1, 0, none⟩) r r))
  have K1 := hide (Q1.out.kept (Kept.setCell w1 ⟨w.heap.size + 1 + 1, 0, none⟩ (.slice (some ⟨w.heap.size + 1 + 1 + 1, 0, none⟩) r r)) (by simp))
  go_wp2_with fail
  refine (toIntS B b s dap S _ (by exact H'.out.below (B12.out.mono hB)) (by have := B12.out.size; omega) hs).mono ?_
  rintro e w2 ⟨rfl, q2, s2, b2⟩
  have hc2 := old_cells b2
  have hf2 := old_marks b2
  have Q2 := hide q2
  have K2 := hide (K1.out.below b2 (by simp [World.setCell]; omega))
  have B22 := hide (B12.out.trans (b2.mono B12.out.size))
  have hsz : (w1.setCell ⟨w.heap.size + 1 + 1, 0, none⟩ (.slice (some ⟨w.heap.size + 1 + 1 + 1, 0, none⟩) r r)).heap.size = w1.heap.size := by simp [World.setCell]
  rw [hsz] at hc2 hf2
  have c20 := fun i => hc2 w.heap.size i (by omega)
  have c21 := fun i => hc2 (w.heap.size + 1) i (by omega)
  have c22 := fun i => hc2 (w.heap.size + 1 + 1) i (by omega)
  have f20 := fun i => hf2 w.heap.size i (by omega)
  have f21 := fun i => hf2 (w.heap.size + 1) i (by omega)
  have f22 := fun i => hf2 (w.heap.size + 1 + 1) i (by omega)
  clear hc2 hf2
  have S2 := hide s2
  clear q2 b2 s2
  go_wp2_with fail
  refine bodyPost_ret (v := .agg #[.slice (some ⟨w.heap.size + 1 + 1 + 1, 0, none⟩) r r, .slice (some ⟨w1.heap.size, 0, none⟩) s s, .int .i64 o, .int .i64 n]) (by simp [results, Try.results7, go_sem, c20, c21, c22, hc1]) rfl ⟨_, _, rfl, vown_of ?_ ?_ (by omega) (by omega) (by omega), ?_⟩
  · repeat (refine Rw.other ?_ (by simp; try omega))
    have := K2.out
    simpa only [World.size_alloc] using this
  · repeat (refine Rw.other ?_ (by simp; try omega))
    have := Q2.out
    rwa [hsz] at this
  · repeat (refine Below.setCell ?_ (by simp; try omega) _)
    exact B22.out
set_option maxHeartbeats 1000000 in
theorem eqView (B : Nat) (a b a' b' : Option Addr) (r s cap dap cap' dap' : Nat) (D S D' S' : Nat → Int) (o n : Int) (w : World) (hB : B ≤ w.heap.size) (h1 : Ints B w a r D) (h2 : Ints B w b s S) (h3 : Ints B w a' r D') (h4 : Ints B w b' s S')
    (e1 : ∀ j, j < r → D j = D' j) (e2 : ∀ j, j < s → S j = S' j) (hr : (r : Int) ≤ 1048576) (hs : (s : Int) ≤ 1048576) :
    Calls Try.prog 10 #[.agg #[.slice a r cap, .slice b s dap, .int .i64 o, .int .i64 n], .agg #[.slice a' r cap', .slice b' s dap', .int .i64 o, .int .i64 n]] w fun e w' => e = .returned (.bool true) ∧ Below w.heap.size w w' := by
  have B0 := hide (show Below w.heap.size w ((w.alloc (.cells #[.slice a r cap, .slice b s dap, .int .i64 o, .int .i64 n] 26)).alloc (.cells #[.slice a' r cap', .slice b' s dap', .int .i64 o, .int .i64 n] 26)) from ((Below.refl _ _).alloc (Nat.le_refl _) _).alloc (by simp) _)
  have H1 := hide (h1.below (B0.out.mono hB))
  have H3 := hide (h3.below (B0.out.mono hB))
  have H2 := hide h2
  have H4 := hide h4
  have E1 := hide e1
  have E2 := hide e2
  clear h1 h2 h3 h4 e1 e2
  go_enter Try.func10, Try.ntmps10
  go_wp2_with fail
  refine (eqIntS B a a' r cap cap' D D' _ H1.out H3.out E1.out hr).mono ?_
  rintro e w1 ⟨rfl, b1⟩
  have hc1 := old_cells b1
  have c10 := fun i => hc1 w.heap.size i (by simp; omega)
  have c11 := fun i => hc1 (w.heap.size + 1) i (by simp)
  have B1 := hide (B0.out.trans (b1.mono (by simp; omega)))
  have z1 : w.heap.size + 1 < w1.heap.size := by have := b1.size; simp at this; omega
  clear hc1 b1
  go_wp2_with fail
  refine (eqIntS B b b' s dap dap' S S' _ (H2.out.below (B1.out.mono hB)) (H4.out.below (B1.out.mono hB)) E2.out hs).mono ?_
  rintro e w2 ⟨rfl, b2⟩
  have hz := B1.out.size
  have hc2 := old_cells b2
  have c20 := fun i => hc2 w.heap.size i (by omega)
  have c21 := fun i => hc2 (w.heap.size + 1) i (by omega)
  have B2 := hide (B1.out.trans (b2.mono B1.out.size))
  clear hc2 b2
  go_wp2_with fail
  go_ret
  exact ⟨rfl, B2.out⟩
set_option maxHeartbeats 1000000 in
theorem markView (B : Nat) (a b : Option Addr) (r s cap dap : Nat) (D S : Nat → Int) (o n k : Int) (w : World) (h : VOwn B w a b r s D S) (hr : (r : Int) ≤ 1048576) (hs : (s : Int) ≤ 1048576) (k0 : 0 ≤ k) (k1 : k ≤ 1048576) :
    Calls Try.prog 12 #[.agg #[.slice a r cap, .slice b s dap, .int .i64 o, .int .i64 n], .int .i64 k] w fun e w' => e = .returned (.int .i64 (k + r + s)) ∧ VOwn B w' a b r s (fun j => k + j) (fun j => k + r + j) ∧ Kept (VBlk a b r s) w w' := by
  have B0 := hide (show Below w.heap.size w (w.alloc (.cells #[.slice a r cap, .slice b s dap, .int .i64 o, .int .i64 n] 26)) from (Below.refl _ _).alloc (Nat.le_refl _) _)
  have H := hide (h.below B0.out)
  have HB := hide (fun k (q : VBlk a b r s k) => h.blk q)
  clear h
  go_enter Try.func12, Try.ntmps12
  go_wp2_with fail
  refine (markIntS B a r cap D k _ H.out.d hr k0 (by omega)).mono ?_
  rintro e w1 ⟨rfl, q1, t1⟩
  have c10 : ∀ i, w1.cell? ⟨w.heap.size, i, none⟩ = (w.alloc (.cells #[.slice a r cap, .slice b s dap, .int .i64 o, .int .i64 n] 26)).cell? ⟨w.heap.size, i, none⟩ := fun i =>
    World.cell?_of_block (w := w.alloc _) (a := ⟨w.heap.size, i, none⟩) (t1.block w.heap.size (by simp) (fun q => by have := (HB.out _ (.inl q)).2; omega))
  have T1 := hide t1
  have Q1 := hide q1
  have Q2 := hide (H.out.t.kept t1 (fun k q q' => H.out.ne k q' q))
  clear t1 q1
  go_wp2_with fail
  refine (markIntS B b s dap S _ _ Q2.out hs (by omega) (by omega)).mono ?_
  rintro e w2 ⟨rfl, q2, t2⟩
  have T2 := hide t2
  have Q3 := hide q2
  have Q4 := hide (Q1.out.kept t2 (fun k q q' => H.out.ne k q q'))
  clear t2 q2
  go_wp2_with fail
  go_ret
  exact ⟨rfl, ⟨Q4.out, Q3.out, H.out.ne⟩, ((Kept.of_below B0.out).trans (T1.out.mono (fun k _ q => .inl q))).trans (T2.out.mono (fun k _ q => .inr q))⟩
set_option maxHeartbeats 1000000 in
theorem heldView (B : Nat) (a b : Option Addr) (r s cap dap : Nat) (o n k : Int) (w : World) (h : VOwn B w a b r s (fun j => k + j) (fun j => k + r + j)) (hr : (r : Int) ≤ 1048576) (hs : (s : Int) ≤ 1048576) (k0 : 0 ≤ k) (k1 : k ≤ 1048576) :
    Calls Try.prog 14 #[.agg #[.slice a r cap, .slice b s dap, .int .i64 o, .int .i64 n], .int .i64 k] w fun e w' => e = .returned (.int .i64 (k + r + s)) ∧ Below w.heap.size w w' := by
  have B0 := hide (show Below w.heap.size w (w.alloc (.cells #[.slice a r cap, .slice b s dap, .int .i64 o, .int .i64 n] 26)) from (Below.refl _ _).alloc (Nat.le_refl _) _)
  have H := hide (h.below B0.out)
  clear h
  have p1 : decide (k + r < 0) = false := by rw [decide_eq_false_iff_not]; omega
  have p2 : decide (k + r + s < 0) = false := by rw [decide_eq_false_iff_not]; omega
  go_enter Try.func14, Try.ntmps14
  go_wp2_with fail
  refine (heldIntS _ a r cap k _ H.out.d.ints hr k0 (by omega)).mono ?_
  rintro e w1 ⟨rfl, rfl⟩
  go_wp2_with fail
  refine (heldIntS _ b s dap (k + r) _ H.out.t.ints hs (by omega) (by omega)).mono ?_
  rintro e w1 ⟨rfl, rfl⟩
  go_wp2_with fail
  go_ret
  exact ⟨rfl, B0.out⟩
end Vo
end Go.Proofs.Ytejfodkobfdelaa

/- slices.Clone at lists of ints; rows that may grow. -/
namespace Go.Proofs.Ytejfodkobfdelaa
namespace Vo
open Go.ChangeShapes Go.WideShapes Go.ChangeAt Go.RowKit Go.Joins
open Vl Vp
set_option linter.unusedVariables false

/-- a list of one's own that may grow -/
def RowV (B : Nat) (w : World) (v : Value) (r : Nat) (D : Nat → Int) : Prop := w.ownsRow B 3 1 v r (ints r D) ∧ ∀ j, j < r → bd (D j)
theorem RowV.own {B : Nat} {w : World} {v : Value} {r : Nat} {D : Nat → Int} (h : RowV B w v r D) : ∃ a c, v = .slice a r c ∧ OwnL B w a r D := by
  obtain ⟨h, hb⟩ := h
  have h0 := h
  obtain ⟨_, ⟨rfl, rfl⟩ | ⟨g, cap, cur, rfl, hg, rest⟩⟩ := h
  · exact ⟨none, 0, rfl, .inl rfl⟩
  · exact ⟨_, _, rfl, .inr ⟨g, rfl, hg, rw_of_row h0 hb⟩⟩
theorem ints_of {B : Nat} {w : World} {a : Option Addr} {r : Nat} {D : Nat → Int} (h : Ints B w a r D) {ad : Addr} (e : a = some ad) : ∀ j u, (ints r D)[j]? = some u → w.cell? (ad.add j) = some u := by
  intro j u hu
  have hj : j < r := by
    have := (List.getElem?_eq_some_iff.1 hu).1
    simpa [ints] using this
  rw [ints_get r D j hj] at hu
  rcases h with h0 | ⟨b, off, e', _, hc⟩
  · omega
  · rw [e] at e'
    obtain rfl := Option.some.inj e'
    rw [← hu]
    have := (hc j hj).1
    rw [Addr.add_mid]
    exact this
theorem ints_one (r : Nat) (D : Nat → Int) : ∀ u ∈ ints r D, u.oneCell' = true := by
  intro u hu
  unfold ints at hu
  obtain ⟨t, _, rfl⟩ := List.mem_map.1 hu
  rfl
theorem ints_len (r : Nat) (D : Nat → Int) : (ints r D).length = r := by simp [ints]

set_option maxHeartbeats 1000000 in
theorem clone (B : Nat) (a : Option Addr) (r cap : Nat) (D : Nat → Int) (w : World) (h : Ints B w a r D) (hB : B ≤ w.heap.size) (hr : (r : Int) ≤ 1048576) (hn : a = none → r = 0 ∧ cap = 0) :
    Calls Try.prog 45 #[.slice a r cap] w fun e w' => ∃ v, e = .returned v ∧ RowV w.heap.size w' v r D ∧ Below w.heap.size w w' := by
  obtain ⟨i0, hi0, hz0, hz1, hz2⟩ := info_parts infoInt
  have hbd : ∀ j, j < r → bd (D j) := fun j hj => h.bd j hj
  cases a with
  | none =>
    obtain ⟨rfl, rfl⟩ := hn rfl
    have heq := fun (W : World) => Lib.run_eql_slice_nil_nil (P := Try.prog) W 0 0 Try.underlying22
    clear h
    go_enter Try.func45, Try.ntmps45
    go_wp2_with fail
    go_ret
    exact ⟨_, rfl, ⟨World.ownsRow_nil _ _ _ _, hbd⟩, Below.refl _ _⟩
  | some ad =>
    have H := hide h
    have HB := hide hbd
    clear h hn hbd
    have hown0 : (w.alloc (.cells #[] 3)).ownsRow w.heap.size 3 1 (.slice (some ⟨w.heap.size, 0, none⟩) 0 0) 0 [] :=
      ⟨rfl, .inr ⟨w.heap.size, 0, #[], rfl, Nat.le_refl _, heap_alloc_new w _, Nat.le_refl _, by simp [maxLen], rfl, rfl⟩⟩
    have B0 := hide (show Below w.heap.size w (w.alloc (.cells #[] 3)) from (Below.refl _ _).alloc (Nat.le_refl _) _)
    have heq := fun (W : World) => Lib.run_eql_slice_some_nil (P := Try.prog) W ad r cap Try.underlying22
    have hnews := hide (ints_of (H.out.below (B0.out.mono hB)) rfl)
    go_enter Try.func45, Try.ntmps45
    go_wp2_with (at_builtin; refine wpList_append_own _ rfl _ _ 22 rfl w.heap.size 3 i0 (.int .i64 0) 1 8 Try.underlying22 hi0 hz0 hz1 hz2 rfl (by decide) _ _ _ rfl hown0 ad r cap (ints r D) rfl (by rw [ints_len]; omega) hnews.out (ints_one r D) (by unfold maxLen; omega) (by omega) (by simp) ?_; intro v' w1 hown1 hgrow1 _)
    go_ret
    rw [List.nil_append, Nat.zero_add] at hown1
    exact ⟨v', rfl, ⟨hown1, HB.out⟩, B0.out.grown hgrow1 (by simp) (by rintro k ⟨⟩; exact Nat.le_refl _)⟩
end Vo
end Go.Proofs.Ytejfodkobfdelaa
