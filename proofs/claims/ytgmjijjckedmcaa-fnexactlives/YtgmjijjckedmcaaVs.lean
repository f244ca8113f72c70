/- SizeOf and DimsOk on both sides. -/
import Derived.Test.YtgmjijjckedmcaaVl
import Derived.Test.YtgmjijjckedmcaaVp
namespace Go.Proofs.Ytgmjijjckedmcaa
namespace Vs
open Go.ChangeShapes Go.WideShapes Go.ChangeAt Go.RowKit Go.Joins
open Vl Vp
set_option linter.unusedVariables false

end Vs
end Go.Proofs.Ytgmjijjckedmcaa
