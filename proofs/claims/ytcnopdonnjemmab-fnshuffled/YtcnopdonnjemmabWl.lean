/- Shuffle of the model; both sides meet. -/
import Derived.Test.YtcnopdonnjemmabWk
namespace Go.Proofs.Ytcnopdonnjemmab
namespace Wj
open Go.ChangeShapes Go.WideShapes Go.ChangeAt Go.RowKit Go.Joins
open Vl Vo
set_option linter.unusedVariables false
set_option linter.unusedSimpArgs false
theorem rw_swapS {w : World} {g r p q : Nat} {D : Nat → Int} (h : Rw w g r D) (hp : p < r) (hq : q < r) : Rw ((w.setCell ⟨g, p, none⟩ (.int .i64 (D q))).setCell ⟨g, q, none⟩ (.int .i64 (D p))) g r (swp D p q) :=
  ((h.set p (D q) (h q hq).2.2).set q (D p) (h p hp).2.2).same fun t ht => rfl
theorem kept_swapS (w : World) (g p q : Nat) (x y : Value) : Kept (· = g) w ((w.setCell ⟨g, p, none⟩ x).setCell ⟨g, q, none⟩ y) :=
  (Kept.setCell w ⟨g, p, none⟩ x).trans (Kept.setCell _ ⟨g, q, none⟩ y)
end Wj
end Go.Proofs.Ytcnopdonnjemmab
