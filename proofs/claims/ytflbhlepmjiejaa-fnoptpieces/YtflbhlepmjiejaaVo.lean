/- ViewOk and Place, the program's side. -/
import Derived.Test.YtflbhlepmjiejaaVs
import Derived.Test.YtflbhlepmjiejaaVq
namespace Go.Proofs.Ytflbhlepmjiejaa
namespace Vo
open Go.ChangeShapes Go.WideShapes Go.ChangeAt Go.RowKit Go.Joins
open Vl Vp
set_option linter.unusedVariables false

/-- a view's four fields in a variable -/
def Box (wx : World) (p : Nat) (v0 v1 v2 v3 : Value) : Prop := wx.cell? ⟨p, 0, none⟩ = some v0 ∧ wx.cell? ⟨p, 1, none⟩ = some v1 ∧ wx.cell? ⟨p, 2, none⟩ = some v2 ∧ wx.cell? ⟨p, 3, none⟩ = some v3
theorem box_new (w : World) (v0 v1 v2 v3 : Value) (t : TypeId) : Box (w.alloc (.cells #[v0, v1, v2, v3] t)) w.heap.size v0 v1 v2 v3 := by
  unfold Box
  refine ⟨?_, ?_, ?_, ?_⟩ <;> simp [go_sem]
theorem Box.below {B : Nat} {w w' : World} {p : Nat} {v0 v1 v2 v3 : Value} (h : Box w p v0 v1 v2 v3) (hb : Below B w w') (hp : p < B) : Box w' p v0 v1 v2 v3 := by
  unfold Box at *
  rw [hb.cell (p := ⟨p, 0, none⟩) hp, hb.cell (p := ⟨p, 1, none⟩) hp, hb.cell (p := ⟨p, 2, none⟩) hp, hb.cell (p := ⟨p, 3, none⟩) hp]
  exact h

end Vo
end Go.Proofs.Ytflbhlepmjiejaa
