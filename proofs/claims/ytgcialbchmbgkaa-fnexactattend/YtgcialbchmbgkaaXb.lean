/- Concat: the program's blocks. -/
import Derived.Test.YtgcialbchmbgkaaXa
import Derived.Test.YtgcialbchmbgkaaVaf
namespace Go.Proofs.Ytgcialbchmbgkaa
namespace Vo
open Go.ChangeShapes Go.WideShapes Go.ChangeAt Go.RowKit Go.Joins Go.Sort
open Vl Vp
set_option linter.unusedVariables false
set_option linter.unusedSimpArgs false
/-- how much the first j lay in a block -/
def cum (z : Nat → Nat) : Nat → Nat | 0 => 0 | j + 1 => cum z j + z j
theorem cum_le {z : Nat → Nat} {i j : Nat} (h : i ≤ j) : cum z i ≤ cum z j := by
  induction j with
  | zero => obtain rfl : i = 0 := by omega
            exact Nat.le_refl _
  | succ j ih =>
    by_cases c : i = j + 1
    · subst c; exact Nat.le_refl _
    · have := ih (by omega)
      show _ ≤ cum z j + z j
      omega
theorem ints_more (n m : Nat) (f g : Nat → Int) (h : ∀ t, t < m → g t = f (n + t)) : ints n f ++ ints m g = ints (n + m) f := by
  induction m with
  | zero => simp [ints]
  | succ m ih =>
    rw [← ints_succ m g, ← List.append_assoc, ih (fun t ht => h t (by omega)), h m (by omega), ints_succ]
    rfl
end Vo
end Go.Proofs.Ytgcialbchmbgkaa
