/- Scatter of the program. -/
import Derived.Test.YtpmkjifpoikdjaaTk
namespace Go.Proofs.Ytpmkjifpoikdjaa
namespace Vo
open Go.ChangeShapes Go.WideShapes Go.ChangeAt Go.RowKit Go.Joins Go.Sort
open Vl Vp Vr
set_option linter.unusedVariables false
set_option linter.unusedSimpArgs false

/-- the sum of those among the first ones that belong to place p -/
def scaS (I L : Nat → Int) (p : Int) : Nat → Int | 0 => 0 | t + 1 => if I t = p then (scaS I L p t + L t) % 2147483647 else scaS I L p t
theorem scaS_rng (I L : Nat → Int) (p : Int) (n : Nat) : 0 ≤ scaS I L p n ∧ scaS I L p n < 2147483647 := by
  induction n with
  | zero => simp [scaS]
  | succ n ih => unfold scaS; split <;> omega
theorem scaS_yes {I L : Nat → Int} {p : Int} {t : Nat} (h : I t = p) : scaS I L p (t + 1) = (scaS I L p t + L t) % 2147483647 := by show (if I t = p then _ else _) = _; rw [if_pos h]
theorem scaS_no {I L : Nat → Int} {p : Int} {t : Nat} (h : ¬ I t = p) : scaS I L p (t + 1) = scaS I L p t := by show (if I t = p then _ else _) = _; rw [if_neg h]
def scaG (q : Nat) (I L : Nat → Int) (p : Nat) : Int := scaS I L p q
def scaP (r s q : Nat) (D S I : Nat → Int) (x n : Int) : PT := if (decide ((q : Int) = lenA r s D S x) && wi q I n) = true then lineP r s D S x n (scaG q I) else PT.zero
theorem scaP_le (r s q : Nat) (D S I : Nat → Int) (x n : Int) : (scaP r s q D S I x n).r ≤ r ∧ (((scaP r s q D S I x n).s : Nat) : Int) ≤ 4096 := by
  unfold scaP
  split
  · exact lineP_le _ _ _ _ _ _ _
  · exact ⟨Nat.zero_le _, by simp [PT.zero]⟩
theorem scaP_no {r s q : Nat} {D S I : Nat → Int} {x n : Int} (h : (decide ((q : Int) = lenA r s D S x) && wi q I n) = false) : scaP r s q D S I x n = PT.zero := by unfold scaP; rw [h]; simp
theorem scaP_yes {r s q : Nat} {D S I : Nat → Int} {x n : Int} (h : (decide ((q : Int) = lenA r s D S x) && wi q I n) = true) : scaP r s q D S I x n = lineP r s D S x n (scaG q I) := by unfold scaP; rw [if_pos h]
end Vo
end Go.Proofs.Ytpmkjifpoikdjaa
