/- SizeOf and DimsOk on both sides. -/
import Derived.Test.YtiidikfljaloiaaVl
import Derived.Test.YtiidikfljaloiaaVp
namespace Go.Proofs.Ytiidikfljaloiaa
namespace Vs
open Go.ChangeShapes Go.WideShapes Go.ChangeAt Go.RowKit Go.Joins
open Vl Vp
set_option linter.unusedVariables false

end Vs
end Go.Proofs.Ytiidikfljaloiaa
