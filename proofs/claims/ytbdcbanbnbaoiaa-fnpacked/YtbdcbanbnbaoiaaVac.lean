/- Places on both sides. -/
import Derived.Test.YtbdcbanbnbaoiaaVz
import Derived.Test.YtbdcbanbnbaoiaaVc
namespace Go.Proofs.Ytbdcbanbnbaoiaa
namespace Vo
open Go.ChangeShapes Go.WideShapes Go.ChangeAt Go.RowKit Go.Joins
open Vl Vp Vr
set_option linter.unusedVariables false
attribute [local go_sem] Oper.semAt_some

/-- a list that is answered -/
def Lists (B : Nat) (r : Nat) (D : Nat → Int) (w : World) (e : Ending) (w' : World) : Prop := ∃ a c, e = .returned (.slice a r c) ∧ OwnL B w' a r D ∧ Below w.heap.size w w'
theorem lists_no {B r : Nat} {D : Nat → Int} {w w' : World} {a : Option Addr} {c : Nat} (h : r = 0) (hb : Below w.heap.size w w') : Lists B r D w (.returned (.slice a 0 c)) w' := by
  subst h; exact ⟨a, c, rfl, .inl rfl, hb⟩
theorem kept_grown {w w' : World} {g : Nat} (h : w.grownBy w' (some g)) : Kept (· = g) w w' := ⟨h.os, h.tape, h.output, h.size, fun k hk hn => h.block k hk (by intro e; injection e with e; exact hn e)⟩
theorem grown_set (w : World) (p : Addr) (u : Value) : w.grownBy (w.setCell p u) (some p.block) := ⟨rfl, rfl, rfl, by simp [World.setCell], fun k _ hn => Below.heap_setCell _ _ _ _ (by intro e; exact hn (by rw [e]))⟩
theorem plcN_bd {r s : Nat} {D S : Nat → Int} {o n : Int} (h : VOk r s D S o n) (k : Nat) : bd (plcN D S r o k) := by
  have := h.place k
  have := h.2.2.2.1
  unfold bd plcN; omega
end Vo
end Go.Proofs.Ytbdcbanbnbaoiaa
