/- For laws with scales and lists: a scale that is loaded, a list that is laid. -/
import Derived.Test.YtnnjkanmcfjblaaIc
import Derived.Test.YtnnjkanmcfjblaaQf
import Derived.Shelf.Abstract
namespace Go.Proofs.Ytnnjkanmcfjblaa
namespace Vo
open Go.ChangeShapes Go.WideShapes Go.ChangeAt Go.RowKit Go.Joins Go.Sort
open Vl
set_option linter.unusedVariables false
set_option linter.unusedSimpArgs false
theorem runLoadSc {o : Oper} {A : Act} {w : World} {x : Operand} {b : Nat} {s z : Int} (ho : o.op = .load 23 x) (hx : A.eval x = .pointer (some ⟨b, 0, none⟩)) (h : Box2 w b s z) : (execOp A.eval o).run Try.prog w = .ok (.value (.agg #[.int .i64 s, .int .i64 z])) w := by
  obtain ⟨-, h0, h1⟩ := h
  unfold execOp
  rw [ho]
  simp only [hx]
  go_simp
/-- a list of one's own that was laid -/
def IntV (r : Nat) (D : Nat → Int) (v : Value) (wx : World) : Prop := ∃ g, v = .slice (some ⟨g, 0, none⟩) r r ∧ Rw wx g r D ∧ g < wx.heap.size
theorem IntV.below {r : Nat} {D : Nat → Int} {v : Value} {w1 w2 : World} (h : IntV r D v w1) (hb : Below w1.heap.size w1 w2) : IntV r D v w2 := by
  obtain ⟨g, e, q, l⟩ := h
  exact ⟨g, e, q.below hb l, Nat.lt_of_lt_of_le l hb.size⟩
end Vo
end Go.Proofs.Ytnnjkanmcfjblaa
