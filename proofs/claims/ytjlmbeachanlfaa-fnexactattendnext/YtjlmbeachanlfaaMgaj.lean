/- Lemmas for the proof of the law. -/
import Derived.Test.YtjlmbeachanlfaaMgah
import Derived.Test.YtjlmbeachanlfaaMgai
import Derived.Shelf.Abstract
import Derived.Test.YtjlmbeachanlfaaMgae
/- Twice and Meet, the program's side: ranges over the places. -/
namespace Go.Proofs.Ytjlmbeachanlfaa
namespace Vo
open Go.ChangeShapes Go.WideShapes Go.ChangeAt Go.RowKit Go.Joins
open Vl Vp Vr
set_option linter.unusedVariables false
attribute [local go_sem] Oper.semAt_some

theorem cnt_pos {r s : Nat} {D S : Nat → Int} {o n : Int} {k : Nat} (h : k < cnt r s D S o n) : VOk r s D S o n := by
  unfold cnt at h
  by_cases c : vok r s D S o n = true
  · exact vok_iff.1 c
  · rw [if_neg c] at h; omega
/-- a world by what is known of it -/
theorem abs_wp {P : Program} {c : Code} {Q : Exit → Act → World → Prop} {a : Act} {w0 : World} (F : World → Prop) (h0 : F w0) (h : ∀ W, F W → c.wp P Q a W) : c.wp P Q a w0 := h w0 h0
theorem below_cell {B : Nat} {A W : World} {p : Addr} {v : Value} (hb : Below B A W) (hp : p.block < B) (h : A.cell? p = some v) : W.cell? p = some v := (hb.cell hp).trans h
theorem below_mark {B : Nat} {A W : World} {p : Addr} {v : Bool} (hb : Below B A W) (hp : p.block < B) (h : A.frozen? p = v) : W.frozen? p = v := (hb.frozen hp).trans h
theorem put_cell {W : World} {D : Nat} {o : Obj} {p : Addr} {v : Value} (h : p.block ≠ D) (hc : W.cell? p = some v) : (W.putObj D o).cell? p = some v := (World.cell?_of_block (w := W) (World.putObj_heap_other h)).trans hc
theorem set_obj {W : World} {p : Addr} {u : Value} {D : Nat} {o : Option Obj} (h : D ≠ p.block) (hD : W.heap[D]? = o) : (W.setCell p u).heap[D]? = o := (Below.heap_setCell W p u D h).trans hD
theorem set_other {W : World} {p q : Addr} {u v : Value} (h : q.block ≠ p.block) (hc : W.cell? q = some v) : (W.setCell p u).cell? q = some v := (World.cell?_of_block (w := W) (Below.heap_setCell W p u q.block h)).trans hc
end Vo
end Go.Proofs.Ytjlmbeachanlfaa

/- Places on both sides. -/
namespace Go.Proofs.Ytjlmbeachanlfaa
namespace Vo
open Go.ChangeShapes Go.WideShapes Go.ChangeAt Go.RowKit Go.Joins
open Vl Vp Vr
set_option linter.unusedVariables false
attribute [local go_sem] Oper.semAt_some

/-- a list that is answered -/
def Lists (B : Nat) (r : Nat) (D : Nat → Int) (w : World) (e : Ending) (w' : World) : Prop := ∃ a c, e = .returned (.slice a r c) ∧ OwnL B w' a r D ∧ Below w.heap.size w w'
theorem lists_no {B r : Nat} {D : Nat → Int} {w w' : World} {a : Option Addr} {c : Nat} (h : r = 0) (hb : Below w.heap.size w w') : Lists B r D w (.returned (.slice a 0 c)) w' := by
  subst h; exact ⟨a, c, rfl, .inl rfl, hb⟩
theorem kept_grown {w w' : World} {g : Nat} (h : w.grownBy w' (some g)) : Kept (· = g) w w' := ⟨h.os, h.tape, h.output, h.size, fun k hk hn => h.block k hk (by intro e; injection e with e; exact hn e)⟩
theorem grown_set (w : World) (p : Addr) (u : Value) : w.grownBy (w.setCell p u) (some p.block) := ⟨rfl, rfl, rfl, by simp [World.setCell], fun k _ hn => Below.heap_setCell _ _ _ _ (by intro e; exact hn (by rw [e]))⟩
theorem plcN_bd {r s : Nat} {D S : Nat → Int} {o n : Int} (h : VOk r s D S o n) (k : Nat) : bd (plcN D S r o k) := by
  have := h.place k
  have := h.2.2.2.1
  unfold bd plcN; omega
end Vo
end Go.Proofs.Ytjlmbeachanlfaa
