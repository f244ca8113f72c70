/- Schedules and times that a law draws. -/
import Derived.Test.YtmcaklmgcfojnaaEr
import Derived.Test.YtmcaklmgcfojnaaNef
import Derived.Deep.RegionHeld3
namespace Go.Proofs.Ytmcaklmgcfojnaa
namespace Vo
open Go.ChangeShapes Go.WideShapes Go.ChangeAt Go.RowKit Go.Joins Go.Sort
open Vl
set_option linter.unusedVariables false
set_option linter.unusedSimpArgs false
def upI (f : Nat → Int) (k : Nat) (x : Int) (i : Nat) : Int := if i = k then x else f i
/-- a schedule that is being drawn: its variable V, the answer's variable, the cursor p -/
structure SDr (w X : World) (B p : Nat) (a : Option Addr) (len cap V : Nat) (f : Nat → Int) : Prop where
  cur : Base.Cur B X p a len cap
  gr : w.grownBy X (some p)
  c : ∀ i, i < 4 → X.cell? ⟨V, i, none⟩ = some (.int .i64 (f i))
  fz : ∀ i, X.frozen? ⟨V, i, none⟩ = false
  r : ∀ i, i < 4 → X.cell? ⟨w.heap.size, i, none⟩ = some (.int .i64 0)
  rf : ∀ i, X.frozen? ⟨w.heap.size, i, none⟩ = false
  pw : p < w.heap.size
  wV : w.heap.size < V
  VX : V < X.heap.size
theorem cur_other {B p : Nat} {a : Option Addr} {len cap : Nat} {w : World} (h : Base.Cur B w p a len cap) (q i : Nat) (v : Value) (hq : ¬ p = q) (hB : B ≤ q) : Base.Cur B (w.setCell ⟨q, i, none⟩ v) p a len cap := by
  obtain ⟨hp, hcode, c0, ⟨k, g, c1, c2, z⟩, f1, f2⟩ := h
  have o : ∀ j, (w.setCell ⟨q, i, none⟩ v).cell? ⟨p, j, none⟩ = w.cell? ⟨p, j, none⟩ := fun j => World.cell?_setCell_other _ _ _ _ (by intro e; cases e; exact hq rfl)
  exact ⟨hp, hcode.below ((Below.refl _ _).setCell hB _), (o 0).trans c0, ⟨k, g, (o 1).trans c1, (o 2).trans c2, z⟩, by rw [World.frozen?_setCell]; exact f1, by rw [World.frozen?_setCell]; exact f2⟩
theorem grown_set {w X : World} {p q i : Nat} {v : Value} (h : w.grownBy X (some p)) (hq : w.heap.size ≤ q) : w.grownBy (X.setCell ⟨q, i, none⟩ v) (some p) := by
  have k : Kept (· = q) X (X.setCell ⟨q, i, none⟩ v) := Kept.setCell X ⟨q, i, none⟩ v
  exact ⟨k.os.trans h.os, k.tape.trans h.tape, k.output.trans h.output, Nat.le_trans h.size k.size, fun j hj hn => (k.block j (Nat.lt_of_lt_of_le hj h.size) (by omega)).trans (h.block j hj hn)⟩
section
variable {w X X' : World} {B p : Nat} {a : Option Addr} {len cap V : Nat} {f : Nat → Int}
theorem grown_keep {q i : Nat} (g : X.grownBy X' (some p)) (hq : q < X.heap.size) (hn : ¬ q = p) : X'.cell? ⟨q, i, none⟩ = X.cell? ⟨q, i, none⟩ ∧ X'.frozen? ⟨q, i, none⟩ = X.frozen? ⟨q, i, none⟩ :=
  ⟨World.cell?_of_block (w := X) (a := ⟨q, i, none⟩) (g.block q hq (by intro e; injection e with e; exact hn e)), World.frozen?_of_block (w := X) (a := ⟨q, i, none⟩) (g.block q hq (by intro e; injection e with e; exact hn e))⟩
theorem SDr.draw (h : SDr w X B p a len cap V f) (g : X.grownBy X' (some p)) (d : Base.Cur B X' p a len cap) : SDr w X' B p a len cap V f where
  cur := d
  gr := h.gr.trans g
  c i hi := by have := h.pw; have := h.wV; rw [(grown_keep g h.VX (by omega)).1]; exact h.c i hi
  fz i := by have := h.pw; have := h.wV; rw [(grown_keep g h.VX (by omega)).2]; exact h.fz i
  r i hi := by have := h.pw; have := h.wV; have := h.VX; rw [(grown_keep g (by omega) (by omega)).1]; exact h.r i hi
  rf i := by have := h.pw; have := h.wV; have := h.VX; rw [(grown_keep g (by omega) (by omega)).2]; exact h.rf i
  pw := h.pw
  wV := h.wV
  VX := Nat.lt_of_lt_of_le h.VX g.size
theorem SDr.set (h : SDr w X B p a len cap V f) (hB : B ≤ w.heap.size) (k : Nat) (x : Int) (hk : k < 4) : SDr w (X.setCell ⟨V, k, none⟩ (.int .i64 x)) B p a len cap V (upI f k x) where
  cur := cur_other h.cur V k _ (by have := h.pw; have := h.wV; omega) (by have := h.wV; omega)
  gr := grown_set h.gr (Nat.le_of_lt h.wV)
  c i hi := by
    unfold upI
    by_cases c : i = k
    · subst c; rw [if_pos rfl]; exact World.cell?_setCell_same _ _ _ (h.c i hi)
    · rw [if_neg c, World.cell?_setCell_other _ _ _ _ (by intro e; injection e with _ e; exact c e.symm)]; exact h.c i hi
  fz i := by rw [World.frozen?_setCell]; exact h.fz i
  r i hi := by rw [World.cell?_setCell_other _ _ _ _ (by intro e; injection e with e; have := h.wV; omega)]; exact h.r i hi
  rf i := by rw [World.frozen?_setCell]; exact h.rf i
  pw := h.pw
  wV := h.wV
  VX := by simpa [World.setCell] using h.VX
theorem SDr.alloc (h : SDr w X B p a len cap V f) (o : Obj) : SDr w (X.alloc o) B p a len cap V f :=
  h.draw (Lib.grownBy_allocR (Base.grown_refl X p) o) (h.cur.alloc o)
end
/-- the answer's variable under way -/
structure RDr (w X : World) (B p : Nat) (a : Option Addr) (len cap : Nat) (f : Nat → Int) : Prop where
  cur : Base.Cur B X p a len cap
  gr : w.grownBy X (some p)
  c : ∀ i, i < 4 → X.cell? ⟨w.heap.size, i, none⟩ = some (.int .i64 (f i))
  fz : ∀ i, X.frozen? ⟨w.heap.size, i, none⟩ = false
  pw : p < w.heap.size
theorem RDr.set {w X : World} {B p : Nat} {a : Option Addr} {len cap : Nat} {f : Nat → Int} (h : RDr w X B p a len cap f) (hB : B ≤ w.heap.size) (k : Nat) (x : Int) (hk : k < 4) : RDr w (X.setCell ⟨w.heap.size, k, none⟩ (.int .i64 x)) B p a len cap (upI f k x) where
  cur := cur_other h.cur _ k _ (by have := h.pw; omega) hB
  gr := grown_set h.gr (Nat.le_refl _)
  c i hi := by
    unfold upI
    by_cases c : i = k
    · subst c; rw [if_pos rfl]; exact World.cell?_setCell_same _ _ _ (h.c i hi)
    · rw [if_neg c, World.cell?_setCell_other _ _ _ _ (by intro e; injection e with _ e; exact c e.symm)]; exact h.c i hi
  fz i := by rw [World.frozen?_setCell]; exact h.fz i
  pw := h.pw
/-- the end of such a draw -/
def SDE (w : World) (B p : Nat) (a : Option Addr) (len cap : Nat) (e : Ending) (w' : World) : Prop :=
  ∃ x0 x1 x2 x3 : Int, e = .returned (.agg #[.int .i64 x0, .int .i64 x1, .int .i64 x2, .int .i64 x3]) ∧ bd x0 ∧ bd x1 ∧ bd x2 ∧ bd x3 ∧ Base.Cur B w' p a len cap ∧ w.grownBy w' (some p)
end Vo
end Go.Proofs.Ytmcaklmgcfojnaa
