/- Places, the model's side: the k-th index, its place, all places, ViewOk. -/
import Derived.Test.YtflbhlepmjiejaaVo
import Derived.Deep.RegionHeld3
import Derived.Deep.AppendLies
import Derived.Deep.DeepCutAuto
namespace Go.Proofs.Ytflbhlepmjiejaa
namespace Vo
open Go.ChangeShapes Go.WideShapes Go.ChangeAt Go.RowKit Go.Joins
open Vl Vp
set_option linter.unusedVariables false

theorem sm_abs {I S : Nat → Int} (r : Nat) (hi : ∀ j, j < r → 0 ≤ I j ∧ I j ≤ 4095) (hs : ∀ j, j < r → -4096 ≤ S j ∧ S j ≤ 4096) : -16777216 * (r : Int) ≤ sm I S r ∧ sm I S r ≤ 16777216 * (r : Int) := by
  induction r with
  | zero => simp [sm]
  | succ r ih =>
    have h := ih (fun j hj => hi j (by omega)) (fun j hj => hs j (by omega))
    have b := reach_bd (d := I r + 1) (by have := (hi r (by omega)).1; omega) (by have := (hi r (by omega)).2; omega) (hs r (by omega)).1 (hs r (by omega)).2
    rw [Int.add_sub_cancel] at b
    simp only [sm]
    generalize I r * S r = x at *
    omega
end Vo
end Go.Proofs.Ytflbhlepmjiejaa
