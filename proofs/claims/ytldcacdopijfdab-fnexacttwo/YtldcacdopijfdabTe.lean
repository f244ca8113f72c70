/- One on both sides. -/
import Derived.Test.YtldcacdopijfdabTd
import Derived.Laws.EntriesVeiled
namespace Go.Proofs.Ytldcacdopijfdab
namespace Vo
open Go.ChangeShapes Go.WideShapes Go.ChangeAt Go.RowKit Go.Joins Go.Sort
open Vl Vp Vr
set_option linter.unusedVariables false
set_option linter.unusedSimpArgs false

def oneP (op : Int) (r s : Nat) (D S : Nat → Int) : PT := if (1 ≤ op ∧ op ≤ 4) ∧ tok r s D S = true then ⟨r, s, D, fun j => one1 op (S j)⟩ else PT.zero
theorem oneP_le (op : Int) (r s : Nat) (D S : Nat → Int) : (oneP op r s D S).r ≤ r ∧ (oneP op r s D S).s ≤ s := by
  unfold oneP
  split
  · exact ⟨Nat.le_refl _, Nat.le_refl _⟩
  · exact ⟨Nat.zero_le _, Nat.zero_le _⟩
theorem oneP_no {op : Int} {r s : Nat} {D S : Nat → Int} (h : ¬ ((1 ≤ op ∧ op ≤ 4) ∧ tok r s D S = true)) : oneP op r s D S = PT.zero := by unfold oneP; rw [if_neg h]
theorem oneP_yes {op : Int} {r s : Nat} {D S : Nat → Int} (h1 : 1 ≤ op ∧ op ≤ 4) (h2 : tok r s D S = true) : oneP op r s D S = ⟨r, s, D, fun j => one1 op (S j)⟩ := by unfold oneP; rw [if_pos ⟨h1, h2⟩]
theorem tok_parts {r s : Nat} {D S : Nat → Int} (h : tok r s D S = true) : dok r D = true ∧ szR D r = (s : Int) ∧ WI s S 2147483647 := by
  unfold tok wi at h
  simp only [Bool.and_eq_true, decide_eq_true_eq] at h
  exact ⟨h.1.1, h.1.2.symm, h.2⟩
theorem one1_bd {op x : Int} (h : isN x) : bd (one1 op x) := by
  obtain ⟨h0, h1⟩ := h
  have p := Num.pw_bd (x % 2147483647) 2147483645
  unfold one1 bd
  split
  · omega
  · split
    · omega
    · split
      · omega
      · split <;> omega
end Vo
end Go.Proofs.Ytldcacdopijfdab
