/- For the laws: what the operations of a drawn region leave: tensors that were made, a variable laid. -/
import Derived.Test.YtgcialbchmbgkaaTr
import Derived.Test.YtgcialbchmbgkaaQf
namespace Go.Proofs.Ytgcialbchmbgkaa
namespace Vo
open Go.ChangeShapes Go.WideShapes Go.ChangeAt Go.RowKit Go.Joins Go.Sort
open Vl Vp Vr
set_option linter.unusedVariables false
set_option linter.unusedSimpArgs false
/-- a tensor that was made anew of what came in -/
def TenV (B : Nat) (r s : Nat) (D S : Nat → Int) (v : Value) (wx : World) : Prop := ∃ g g', v = .agg #[.slice (some ⟨g, 0, none⟩) r r, .slice (some ⟨g', 0, none⟩) s s] ∧ VOwn B wx (some ⟨g, 0, none⟩) (some ⟨g', 0, none⟩) r s D S
theorem TenV.below {B r s : Nat} {D S : Nat → Int} {v : Value} {w1 w2 : World} (h : TenV B r s D S v w1) (hb : Below w1.heap.size w1 w2) : TenV B r s D S v w2 := by
  obtain ⟨g, g', e, q⟩ := h
  exact ⟨g, g', e, q.below hb⟩
/-- a tensor that was answered -/
def TenW (B : Nat) (T : PT) (v : Value) (wx : World) : Prop := ∃ a b c d, v = .agg #[.slice a T.r c, .slice b T.s d] ∧ VOwn B wx a b T.r T.s T.D T.S
theorem TenW.below {B : Nat} {T : PT} {v : Value} {w1 w2 : World} (h : TenW B T v w1) (hb : Below w1.heap.size w1 w2) : TenW B T v w2 := by
  obtain ⟨a, b, c, d, e, q⟩ := h
  exact ⟨a, b, c, d, e, q.below hb⟩
/-- a variable that was laid for a tensor -/
def PtrZ (B : Nat) (v : Value) (wx : World) : Prop := ∃ p, v = .pointer (some ⟨p, 0, none⟩) ∧ B ≤ p ∧ p < wx.heap.size ∧ Bx wx p (.slice none 0 0) (.slice none 0 0) ∧ Free wx p
theorem PtrZ.below {B : Nat} {v : Value} {w1 w2 : World} (h : PtrZ B v w1) (hb : Below w1.heap.size w1 w2) : PtrZ B v w2 := by
  obtain ⟨p, e, hB, hp, q, f⟩ := h
  exact ⟨p, e, hB, Nat.lt_of_lt_of_le hp hb.size, q.below hb hp, f.below hb hp⟩
theorem left_set2 {S wC : World} {v : PT} {P : Nat} {ta tb : Option Addr} {tc td : Nat} (hv : VOwn S.heap.size wC ta tb v.r v.s v.D v.S) (hb : Below S.heap.size S wC) (hz : Bx wC P (.slice none 0 0) (.slice none 0 0)) (hP : S.heap.size ≤ P) (lt : P < wC.heap.size) :
    P < ((wC.setCell ⟨P, 0, none⟩ (.slice ta v.r tc)).setCell ⟨P, 1, none⟩ (.slice tb v.s td)).heap.size ∧ Bx ((wC.setCell ⟨P, 0, none⟩ (.slice ta v.r tc)).setCell ⟨P, 1, none⟩ (.slice tb v.s td)) P (.slice ta v.r tc) (.slice tb v.s td) ∧ VOwn S.heap.size ((wC.setCell ⟨P, 0, none⟩ (.slice ta v.r tc)).setCell ⟨P, 1, none⟩ (.slice tb v.s td)) ta tb v.r v.s v.D v.S ∧ Below S.heap.size S ((wC.setCell ⟨P, 0, none⟩ (.slice ta v.r tc)).setCell ⟨P, 1, none⟩ (.slice tb v.s td)) := by
  have k2 := kept_sets2 wC P (.slice ta v.r tc) (.slice tb v.s td)
  refine ⟨by simpa [World.setCell] using lt, ⟨?_, ?_⟩, hv.kept k2 (fun k q e => vapart hv hz k q e), hb.trans (k2.below hb.size (fun j e => by have e : j = P := e; omega))⟩
  · rw [World.cell?_setCell_other _ _ _ _ (by intro e; cases e)]
    exact World.cell?_setCell_same _ _ _ hz.1
  · refine World.cell?_setCell_same _ _ _ (u := .slice none 0 0) ?_
    rw [World.cell?_setCell_other _ _ _ _ (by intro e; cases e)]
    exact hz.2
theorem runLoadT {o : Oper} {A : Act} {w : World} {x : Operand} {b : Nat} {v0 v1 : Value} (ho : o.op = .load 24 x) (hx : A.eval x = .pointer (some ⟨b, 0, none⟩)) (h : Bx w b v0 v1) : (execOp A.eval o).run Try.prog w = .ok (.value (.agg #[v0, v1])) w := by
  obtain ⟨h0, h1⟩ := h
  unfold execOp
  rw [ho]
  simp only [hx]
  go_simp
theorem runAllocT {o : Oper} {A : Act} {w : World} (ho : o.op = .alloc 26) : (execOp A.eval o).run Try.prog w = .ok (.value (.pointer (some ⟨w.heap.size, 0, none⟩))) (w.alloc (.cells #[.slice none 0 0, .slice none 0 0] 26)) := by
  unfold execOp
  rw [ho]
  go_simp
theorem ptrZ_new (B : Nat) (w : World) (hB : B ≤ w.heap.size) : Below w.heap.size w (w.alloc (.cells #[.slice none 0 0, .slice none 0 0] 26)) ∧ PtrZ B (.pointer (some ⟨w.heap.size, 0, none⟩)) (w.alloc (.cells #[.slice none 0 0, .slice none 0 0] 26)) :=
  ⟨(Below.refl _ _).alloc (Nat.le_refl _) _, _, rfl, hB, by simp, bx_new w _ _ _, free_new w #[.slice none 0 0, .slice none 0 0] 26⟩
end Vo
end Go.Proofs.Ytgcialbchmbgkaa
