/- Tensors in memory: two lists; what the laws make of them. -/
import Derived.Test.YtbdcbanbnbaoiaaVv
namespace Go.Proofs.Ytbdcbanbnbaoiaa
namespace Vo
open Go.ChangeShapes Go.WideShapes Go.ChangeAt Go.RowKit Go.Joins
open Vl Vp
set_option linter.unusedVariables false
set_option linter.unusedSimpArgs false

/-- a tensor in a variable -/
def Bx (wx : World) (p : Nat) (v0 v1 : Value) : Prop := wx.cell? ⟨p, 0, none⟩ = some v0 ∧ wx.cell? ⟨p, 1, none⟩ = some v1
theorem bx_new (w : World) (v0 v1 : Value) (t : TypeId) : Bx (w.alloc (.cells #[v0, v1] t)) w.heap.size v0 v1 := by
  unfold Bx
  simp [go_sem]
theorem Bx.below {B : Nat} {w w' : World} {p : Nat} {v0 v1 : Value} (h : Bx w p v0 v1) (hb : Below B w w') (hp : p < B) : Bx w' p v0 v1 := by
  unfold Bx at *
  rw [hb.cell (p := ⟨p, 0, none⟩) hp, hb.cell (p := ⟨p, 1, none⟩) hp]
  exact h
theorem Bx.kept {T : Nat → Prop} {w w' : World} {p : Nat} {v0 v1 : Value} (h : Bx w p v0 v1) (hb : Kept T w w') (hp : p < w.heap.size) (hn : ¬ T p) : Bx w' p v0 v1 := by
  unfold Bx at *
  have e := hb.block p hp hn
  rw [World.cell?_of_block (w := w) (a := ⟨p, 0, none⟩) e, World.cell?_of_block (w := w) (a := ⟨p, 1, none⟩) e]
  exact h
end Vo
end Go.Proofs.Ytbdcbanbnbaoiaa
