/- The model's turns: l3Axis, l3Or. -/
import Derived.Test.YtejfodkobfdelaaVak
import Derived.Test.YtejfodkobfdelaaVt
namespace Go.Proofs.Ytejfodkobfdelaa
namespace Vo
open Go.ChangeShapes Go.WideShapes Go.ChangeAt Go.RowKit Go.Joins
open Vl Vp Vr
set_option linter.unusedVariables false
set_option linter.unusedSimpArgs false

/-- the axis is there, and the view is one -/
def axOk (r s : Nat) (D S : Nat → Int) (o n x : Int) : Bool := vok r s D S o n && decide (0 ≤ x ∧ x < r)
end Vo
end Go.Proofs.Ytejfodkobfdelaa
