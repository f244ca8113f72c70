/- Lemmas for the proof of the law. -/
import Derived.Test.YtejfodkobfdelaaMgay
import Derived.Test.YtejfodkobfdelaaMgai
/- The model's turns: l3Copy. -/
namespace Go.Proofs.Ytejfodkobfdelaa
namespace Vo
open Go.ChangeShapes Go.WideShapes Go.ChangeAt Go.RowKit Go.Joins
open Vl Vp Vr
set_option linter.unusedVariables false
set_option linter.unusedSimpArgs false

theorem set_next {W : World} {z i j : Nat} {u v : Value} (hc : W.cell? ⟨z, i, none⟩ = some v) : (W.setCell ⟨z + 1, j, none⟩ u).cell? ⟨z, i, none⟩ = some v := set_other (by show z ≠ z + 1; omega) hc
end Vo
end Go.Proofs.Ytejfodkobfdelaa

/- Slice of the program, given its turn's contract. -/
namespace Go.Proofs.Ytejfodkobfdelaa
namespace Vo
open Go.ChangeShapes Go.WideShapes Go.ChangeAt Go.RowKit Go.Joins
open Vl Vp Vr
set_option linter.unusedVariables false
set_option linter.unusedSimpArgs false

/-- four ints as a list -/
def four (x f c t : Int) : Nat → Int | 0 => x | 1 => f | 2 => c | _ => t
theorem sliceV_le (r s : Nat) (D S : Nat → Int) (o n x f c t : Int) : (sliceV r s D S o n x f c t).r ≤ r ∧ (sliceV r s D S o n x f c t).s ≤ s := by
  unfold sliceV
  split
  · exact ⟨Nat.le_refl _, Nat.le_refl _⟩
  · exact ⟨Nat.zero_le _, Nat.zero_le _⟩
end Vo
end Go.Proofs.Ytejfodkobfdelaa
