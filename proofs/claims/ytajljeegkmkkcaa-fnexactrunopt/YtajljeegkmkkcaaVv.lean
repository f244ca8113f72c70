/- What the exact laws do with views: copied, compared, marked. -/
import Derived.Test.YtajljeegkmkkcaaVo
namespace Go.Proofs.Ytajljeegkmkkcaa
namespace Vo
open Go.ChangeShapes Go.WideShapes Go.ChangeAt Go.RowKit Go.Joins
open Vl Vp
set_option linter.unusedVariables false
set_option linter.unusedSimpArgs false

theorem old_cells {W w1 : World} (hb : Below W.heap.size W w1) : ∀ k i, k < W.heap.size → w1.cell? ⟨k, i, none⟩ = W.cell? ⟨k, i, none⟩ := fun k i h => hb.cell (p := ⟨k, i, none⟩) h
theorem old_marks {W w1 : World} (hb : Below W.heap.size W w1) : ∀ k i, k < W.heap.size → w1.frozen? ⟨k, i, none⟩ = W.frozen? ⟨k, i, none⟩ := fun k i h => hb.frozen (p := ⟨k, i, none⟩) h

/-- a view of one's own: two lists in blocks of their own, at or beyond B -/
structure VOwn (B : Nat) (w : World) (a b : Option Addr) (r s : Nat) (D S : Nat → Int) : Prop where
  d : OwnL B w a r D
  t : OwnL B w b s S
  ne : ∀ k, Blk a r k → Blk b s k → False
theorem VOwn.below {B : Nat} {w w' : World} {a b : Option Addr} {r s : Nat} {D S : Nat → Int} (h : VOwn B w a b r s D S) (hb : Below w.heap.size w w') : VOwn B w' a b r s D S := ⟨h.d.below hb, h.t.below hb, h.ne⟩
theorem VOwn.mono {B B' : Nat} {w : World} {a b : Option Addr} {r s : Nat} {D S : Nat → Int} (h : VOwn B w a b r s D S) (hb : B' ≤ B) : VOwn B' w a b r s D S := ⟨h.d.mono hb, h.t.mono hb, h.ne⟩
/-- the blocks of a view -/
def VBlk (a b : Option Addr) (r s : Nat) : Nat → Prop := fun k => Blk a r k ∨ Blk b s k
theorem VOwn.blk {B : Nat} {w : World} {a b : Option Addr} {r s : Nat} {D S : Nat → Int} (h : VOwn B w a b r s D S) {k : Nat} (hk : VBlk a b r s k) : B ≤ k ∧ k < w.heap.size := by
  rcases hk with hk | hk
  · exact h.d.blk hk
  · exact h.t.blk hk
theorem Box.kept {T : Nat → Prop} {w w' : World} {p : Nat} {v0 v1 v2 v3 : Value} (h : Box w p v0 v1 v2 v3) (hb : Kept T w w') (hp : p < w.heap.size) (hn : ¬ T p) : Box w' p v0 v1 v2 v3 := by
  unfold Box at *
  have e := hb.block p hp hn
  rw [World.cell?_of_block (w := w) (a := ⟨p, 0, none⟩) e, World.cell?_of_block (w := w) (a := ⟨p, 1, none⟩) e, World.cell?_of_block (w := w) (a := ⟨p, 2, none⟩) e, World.cell?_of_block (w := w) (a := ⟨p, 3, none⟩) e]
  exact h
theorem VOwn.kept {T : Nat → Prop} {B : Nat} {w w' : World} {a b : Option Addr} {r s : Nat} {D S : Nat → Int} (h : VOwn B w a b r s D S) (hk : Kept T w w') (hs : ∀ k, VBlk a b r s k → ¬ T k) : VOwn B w' a b r s D S :=
  ⟨h.d.kept hk (fun k q => hs k (.inl q)), h.t.kept hk (fun k q => hs k (.inr q)), h.ne⟩

theorem Rw.other {w : World} {g r : Nat} {D : Nat → Int} {p : Addr} {v : Value} (h : Rw w g r D) (hn : g ≠ p.block) : Rw (w.setCell p v) g r D := h.kept (Kept.setCell w p v) hn
theorem vown_of {B : Nat} {w : World} {g1 g2 r s : Nat} {D S : Nat → Int} (h1 : Rw w g1 r D) (h2 : Rw w g2 s S) (b1 : B ≤ g1) (b2 : B ≤ g2) (hn : g1 ≠ g2) : VOwn B w (some ⟨g1, 0, none⟩) (some ⟨g2, 0, none⟩) r s D S :=
  ⟨.inr ⟨g1, rfl, b1, h1⟩, .inr ⟨g2, rfl, b2, h2⟩, by
    rintro k ⟨_, ad, e, rfl⟩ ⟨_, ad', e', e3⟩
    injection e with e; injection e' with e'
    subst e e'
    exact hn e3.symm⟩
end Vo
end Go.Proofs.Ytajljeegkmkkcaa
