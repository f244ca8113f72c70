/- SizeOf and DimsOk on both sides. -/
import Derived.Test.YtcnopdonnjemmaaVl
import Derived.Test.YtcnopdonnjemmaaVp
namespace Go.Proofs.Ytcnopdonnjemmaa
namespace Vs
open Go.ChangeShapes Go.WideShapes Go.ChangeAt Go.RowKit Go.Joins
open Vl Vp
set_option linter.unusedVariables false

end Vs
end Go.Proofs.Ytcnopdonnjemmaa
