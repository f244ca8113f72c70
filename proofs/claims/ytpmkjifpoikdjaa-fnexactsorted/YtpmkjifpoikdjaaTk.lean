/- Gather on both sides. -/
import Derived.Test.YtpmkjifpoikdjaaTi
namespace Go.Proofs.Ytpmkjifpoikdjaa
namespace Vo
open Go.ChangeShapes Go.WideShapes Go.ChangeAt Go.RowKit Go.Joins Go.Sort
open Vl Vp Vr
set_option linter.unusedVariables false
set_option linter.unusedSimpArgs false

theorem wi_no {q k : Nat} {I : Nat → Int} {n : Int} (hk : k < q) (h : I k < 0 ∨ n ≤ I k) : wi q I n = false := by
  unfold wi
  exact decide_eq_false (fun e => by have := e k hk; omega)
theorem wi_yes {q : Nat} {I : Nat → Int} {n : Int} (h : WI q I n) : wi q I n = true := decide_eq_true h
/-- what is gathered of a line -/
def gathG (I : Nat → Int) (L : Nat → Int) (k : Nat) : Int := L (I k).toNat
def gathP (r s q : Nat) (D S I : Nat → Int) (x : Int) : PT := if wi q I (lenA r s D S x) = true then lineP r s D S x q (gathG I) else PT.zero
theorem gathP_le (r s q : Nat) (D S I : Nat → Int) (x : Int) : (gathP r s q D S I x).r ≤ r ∧ (((gathP r s q D S I x).s : Nat) : Int) ≤ 4096 := by
  unfold gathP
  split
  · exact lineP_le _ _ _ _ _ _ _
  · exact ⟨Nat.zero_le _, by simp [PT.zero]⟩
theorem gathP_no {r s q : Nat} {D S I : Nat → Int} {x : Int} (h : wi q I (lenA r s D S x) = false) : gathP r s q D S I x = PT.zero := by unfold gathP; rw [h]; simp
theorem gathP_yes {r s q : Nat} {D S I : Nat → Int} {x : Int} (h : wi q I (lenA r s D S x) = true) : gathP r s q D S I x = lineP r s D S x q (gathG I) := by unfold gathP; rw [if_pos h]
end Vo
end Go.Proofs.Ytpmkjifpoikdjaa
