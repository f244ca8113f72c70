/- Windows of the program; the model's copy as rows that may grow. -/
import Derived.Test.YtejfodkobfdelaaVar
namespace Go.Proofs.Ytejfodkobfdelaa
namespace Vo
open Go.ChangeShapes Go.WideShapes Go.ChangeAt Go.RowKit Go.Joins
open Vl Vp Vr
set_option linter.unusedVariables false
set_option linter.unusedSimpArgs false

/-- a view, where it is asked for -/
def gv (b : Bool) (T : PV) : PV := if b = true then T else PV.zero
theorem gv_yes {b : Bool} {T : PV} (h : b = true) : gv b T = T := by unfold gv; rw [if_pos h]
theorem gv_turned (r s : Nat) (D S : Nat → Int) (o n : Int) (T : PV) : turnedV r s D S o n (gv (vok r s D S o n) T) = turnedV r s D S o n T := by
  unfold turnedV gv
  split <;> rfl
theorem gv_le {r s : Nat} {D S : Nat → Int} {o n : Int} {T : PV} (h : T.r ≤ r + 1 ∧ T.s ≤ s + 1) : ((gv (vok r s D S o n) T).r : Int) ≤ 1048576 ∧ ((gv (vok r s D S o n) T).s : Int) ≤ 1048576 := by
  unfold gv
  split
  · rename_i q
    have v := vok_iff.1 q
    have a := (dok_iff.1 v.1).1
    have b := v.2.1
    omega
  · exact ⟨by simp [PV.zero], by simp [PV.zero]⟩
theorem gv_win (r s : Nat) (D S : Nat → Int) (o n x z t : Int) : ((gv (vok r s D S o n) (winV r s D S o n x z t)).r : Int) ≤ 1048576 ∧ ((gv (vok r s D S o n) (winV r s D S o n x z t)).s : Int) ≤ 1048576 := gv_le (winV_le r s D S o n x z t)
theorem turned_le1 {r s : Nat} {D S : Nat → Int} {o n : Int} {T : PV} (h : T.r ≤ r + 1 ∧ T.s ≤ s + 1) : ((turnedV r s D S o n T).r : Int) ≤ 1048576 ∧ ((turnedV r s D S o n T).s : Int) ≤ 1048576 := by
  rw [← gv_turned]
  have a := turned_le r s D S o n (gv (vok r s D S o n) T)
  have b := gv_le (D := D) (S := S) (o := o) (n := n) h
  omega
end Vo
end Go.Proofs.Ytejfodkobfdelaa
