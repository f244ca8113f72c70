/- SizeOf and DimsOk on both sides. -/
import Derived.Test.YtcnopdonnjemmabVl
import Derived.Test.YtcnopdonnjemmabVp
namespace Go.Proofs.Ytcnopdonnjemmab
namespace Vs
open Go.ChangeShapes Go.WideShapes Go.ChangeAt Go.RowKit Go.Joins
open Vl Vp
set_option linter.unusedVariables false

end Vs
end Go.Proofs.Ytcnopdonnjemmab
