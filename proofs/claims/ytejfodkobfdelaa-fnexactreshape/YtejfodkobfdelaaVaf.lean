/- Views that are answered. -/
import Derived.Test.YtejfodkobfdelaaVac
namespace Go.Proofs.Ytejfodkobfdelaa
namespace Vo
open Go.ChangeShapes Go.WideShapes Go.ChangeAt Go.RowKit Go.Joins
open Vl Vp Vr
set_option linter.unusedVariables false

/-- a view, plain -/
structure PV where
  r : Nat
  s : Nat
  D : Nat → Int
  S : Nat → Int
  o : Int
  n : Int
def PV.zero : PV := ⟨0, 0, fun _ => 0, fun _ => 0, 0, 0⟩
def PV.ok (v : PV) : Bool := vok v.r v.s v.D v.S v.o v.n
def PV.orZero (v : PV) : PV := if v.ok = true then v else PV.zero
/-- a view that is answered: of one's own, from B on -/
def ViewR (B : Nat) (v : PV) (w : World) (e : Ending) (w' : World) : Prop :=
  ∃ a b c d, e = .returned (.agg #[.slice a v.r c, .slice b v.s d, .int .i64 v.o, .int .i64 v.n]) ∧ VOwn B w' a b v.r v.s v.D v.S ∧ Below w.heap.size w w'
theorem viewR_zero {B : Nat} {w w' : World} (hb : Below w.heap.size w w') : ViewR B PV.zero w (.returned (.agg #[.slice none 0 0, .slice none 0 0, .int .i64 0, .int .i64 0])) w' :=
  ⟨none, none, 0, 0, rfl, ⟨.inl rfl, .inl rfl, fun k h => absurd rfl h.1⟩, hb⟩
/-- what a turn of a view is, where T is what comes -/
def turnedV (r s : Nat) (D S : Nat → Int) (o n : Int) (T : PV) : PV := if vok r s D S o n = true then T.orZero else PV.zero
/-- the blocks of two lists of one's own -/
def OB (va vb : Value) : Nat → Prop := fun k => va.ownBlock = some k ∨ vb.ownBlock = some k
/-- what a turn answers: it may write into the two lists that it was handed -/
def TurnR (B : Nat) (v : PV) (va vb : Value) (W : World) (e : Ending) (W' : World) : Prop :=
  ∃ a b c d, e = .returned (.agg #[.slice a v.r c, .slice b v.s d, .int .i64 v.o, .int .i64 v.n]) ∧ VOwn B W' a b v.r v.s v.D v.S ∧ Kept (OB va vb) W W'
theorem turnR_zero {B : Nat} {va vb : Value} {w w' : World} (hb : Kept (OB va vb) w w') : TurnR B PV.zero va vb w (.returned (.agg #[.slice none 0 0, .slice none 0 0, .int .i64 0, .int .i64 0])) w' :=
  ⟨none, none, 0, 0, rfl, ⟨.inl rfl, .inl rfl, fun k h => absurd rfl h.1⟩, hb⟩
theorem box_cells {w : World} {p : Nat} {v0 v1 v2 v3 : Value} (h : Box w p v0 v1 v2 v3) (i : Nat) (hi : i < 4) : ∃ v, w.cell? ⟨p, i, none⟩ = some v := by
  obtain ⟨a, b, c, d⟩ := h
  have : i = 0 ∨ i = 1 ∨ i = 2 ∨ i = 3 := by omega
  rcases this with rfl | rfl | rfl | rfl
  · exact ⟨_, a⟩
  · exact ⟨_, b⟩
  · exact ⟨_, c⟩
  · exact ⟨_, d⟩
/-- the marks of a variable -/
def Free (w : World) (p : Nat) : Prop := ∀ i, w.frozen? ⟨p, i, none⟩ = false
theorem Free.below {B : Nat} {w w' : World} {p : Nat} (h : Free w p) (hb : Below B w w') (hp : p < B) : Free w' p := fun i => (hb.frozen (p := ⟨p, i, none⟩) hp).trans (h i)
theorem Free.kept {T : Nat → Prop} {w w' : World} {p : Nat} (h : Free w p) (hk : Kept T w w') (hp : p < w.heap.size) (hn : ¬ T p) : Free w' p := fun i => (World.frozen?_of_block (w := w) (a := ⟨p, i, none⟩) (hk.block p hp hn)).trans (h i)
theorem Free.set {w : World} {p : Nat} (h : Free w p) (q : Addr) (u : Value) : Free (w.setCell q u) p := fun i => by rw [World.frozen?_setCell]; exact h i
theorem free_new (w : World) (cs : Array Value) (t : TypeId) : Free (w.alloc (.cells cs t)) w.heap.size := fun i => by simp [go_sem]

theorem box_set01 {w : World} {p : Nat} {v0 v1 v2 v3 : Value} (h : Box w p v0 v1 v2 v3) (u0 u1 : Value) : Box ((w.setCell ⟨p, 0, none⟩ u0).setCell ⟨p, 1, none⟩ u1) p u0 u1 v2 v3 := by
  obtain ⟨a, b, c, d⟩ := h
  refine ⟨?_, ?_, ?_, ?_⟩
  · rw [World.cell?_setCell_other _ _ _ _ (by intro e; cases e), World.cell?_setCell_same _ _ _ a]
  · exact World.cell?_setCell_same _ _ _ ((World.cell?_setCell_other _ _ _ _ (by intro e; cases e)).trans b)
  · rw [World.cell?_setCell_other _ _ _ _ (by intro e; cases e), World.cell?_setCell_other _ _ _ _ (by intro e; cases e)]; exact c
  · rw [World.cell?_setCell_other _ _ _ _ (by intro e; cases e), World.cell?_setCell_other _ _ _ _ (by intro e; cases e)]; exact d
theorem box_set1 {w : World} {p : Nat} {v0 v1 v2 v3 : Value} (h : Box w p v0 v1 v2 v3) (u1 : Value) : Box (w.setCell ⟨p, 1, none⟩ u1) p v0 u1 v2 v3 := by
  obtain ⟨a, b, c, d⟩ := h
  refine ⟨?_, World.cell?_setCell_same _ _ _ b, ?_, ?_⟩
  · rw [World.cell?_setCell_other _ _ _ _ (by intro e; cases e)]; exact a
  · rw [World.cell?_setCell_other _ _ _ _ (by intro e; cases e)]; exact c
  · rw [World.cell?_setCell_other _ _ _ _ (by intro e; cases e)]; exact d
theorem box_sets4 {w : World} {p : Nat} {v0 v1 v2 v3 : Value} (h : Box w p v0 v1 v2 v3) (u0 u1 u2 u3 : Value) : Box ((((w.setCell ⟨p, 0, none⟩ u0).setCell ⟨p, 1, none⟩ u1).setCell ⟨p, 2, none⟩ u2).setCell ⟨p, 3, none⟩ u3) p u0 u1 u2 u3 := by
  obtain ⟨a, b, c, d⟩ := h
  unfold Box
  refine ⟨?_, ?_, ?_, ?_⟩ <;> simp [go_sem, a, b, c, d]
theorem Box.set {w : World} {p : Nat} {v0 v1 v2 v3 : Value} (h : Box w p v0 v1 v2 v3) (q : Addr) (u : Value) (hn : p ≠ q.block) : Box (w.setCell q u) p v0 v1 v2 v3 := by
  obtain ⟨a, b, c, d⟩ := h
  exact ⟨set_other hn a, set_other hn b, set_other hn c, set_other hn d⟩
theorem RowV.mono {B B' : Nat} {w : World} {v : Value} {r : Nat} {D : Nat → Int} (h : RowV B w v r D) (hB : B' ≤ B) : RowV B' w v r D := by
  obtain ⟨⟨h1, h2⟩, hb⟩ := h
  refine ⟨⟨h1, ?_⟩, hb⟩
  rcases h2 with h2 | ⟨g, cap, cur, e, hg, rest⟩
  · exact .inl h2
  · exact .inr ⟨g, cap, cur, e, by omega, rest⟩
theorem RowV.below {B : Nat} {w w' : World} {v : Value} {r : Nat} {D : Nat → Int} (h : RowV B w v r D) (hb : Below w.heap.size w w') : RowV B w' v r D := ⟨own_below h.1 hb, h.2⟩
theorem RowV.kept {T : Nat → Prop} {B : Nat} {w w' : World} {v : Value} {r : Nat} {D : Nat → Int} (h : RowV B w v r D) (hk : Kept T w w') (hn : ∀ k, v.ownBlock = some k → ¬ T k) : RowV B w' v r D := by
  obtain ⟨⟨h1, h2⟩, hb⟩ := h
  refine ⟨⟨h1, ?_⟩, hb⟩
  rcases h2 with h2 | ⟨g, cap, cur, e, hg, hh, rest⟩
  · exact .inl h2
  · refine .inr ⟨g, cap, cur, e, hg, ?_, rest⟩
    rw [hk.block g (Array.getElem?_eq_some_iff.1 hh).1 (hn g (by rw [e]; rfl))]; exact hh
theorem RowV.lt {B : Nat} {w : World} {v : Value} {r : Nat} {D : Nat → Int} (h : RowV B w v r D) {k : Nat} (hk : v.ownBlock = some k) : B ≤ k ∧ k < w.heap.size := h.1.lt k hk
theorem Kept.then {S T : Nat → Prop} {a b c : World} (h : Kept S a b) (k : Kept T b c) (ht : ∀ i, T i → a.heap.size ≤ i ∨ S i) : Kept S a c :=
  ⟨k.os.trans h.os, k.tape.trans h.tape, k.output.trans h.output, Nat.le_trans h.size k.size, fun i hi hn => (k.block i (Nat.lt_of_lt_of_le hi h.size) (fun q => by rcases ht i q with q | q; omega; exact hn q)).trans (h.block i hi hn)⟩
theorem kept_sets4 (w : World) (p : Nat) (u0 u1 u2 u3 : Value) : Kept (· = p) w ((((w.setCell ⟨p, 0, none⟩ u0).setCell ⟨p, 1, none⟩ u1).setCell ⟨p, 2, none⟩ u2).setCell ⟨p, 3, none⟩ u3) :=
  (((Kept.setCell w ⟨p, 0, none⟩ u0).trans (Kept.setCell _ ⟨p, 1, none⟩ u1)).trans (Kept.setCell _ ⟨p, 2, none⟩ u2)).trans (Kept.setCell _ ⟨p, 3, none⟩ u3)
end Vo
end Go.Proofs.Ytejfodkobfdelaa
