/- Permute of the model. -/
import Derived.Test.YtejfodkobfdelaaUe
namespace Go.Proofs.Ytejfodkobfdelaa
namespace Vo
open Go.ChangeShapes Go.WideShapes Go.ChangeAt Go.RowKit Go.Joins
open Vl Vp Vr
set_option linter.unusedVariables false
set_option linter.unusedSimpArgs false

theorem WS.viewR {W : World} {C' P : Nat} {a b : Option Addr} {r s c d : Nat} {D S : Nat → Int} {o n : Int} {X : World} (h : WS W C' P NoA (.slice a r c) (.slice b s d) r s D S o n X) (hC : W.heap.size ≤ C') :
    ViewR W.heap.size ⟨r, s, D, S, o, n⟩ W (.returned (.agg #[.slice a r c, .slice b s d, .int .i64 o, .int .i64 n])) ((((X.setCell ⟨W.heap.size + 1, 0, none⟩ (.slice a r c)).setCell ⟨W.heap.size + 1, 1, none⟩ (.slice b s d)).setCell ⟨W.heap.size + 1, 2, none⟩ (.int .i64 o)).setCell ⟨W.heap.size + 1, 3, none⟩ (.int .i64 n)) := by
  obtain ⟨a', b', c', d', e, v, k⟩ := h.turnR (C := W.heap.size) (va0 := .slice none 0 0) (vb0 := .slice none 0 0) hC
  exact ⟨a', b', c', d', e, v, k.below (Nat.le_refl _) (fun j q => by rcases q with q | q <;> simp [Value.ownBlock] at q)⟩
end Vo
end Go.Proofs.Ytejfodkobfdelaa
