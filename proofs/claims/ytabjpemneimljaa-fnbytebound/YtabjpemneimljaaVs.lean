/- SizeOf and DimsOk on both sides. -/
import Derived.Test.YtabjpemneimljaaVl
import Derived.Test.YtabjpemneimljaaVp
namespace Go.Proofs.Ytabjpemneimljaa
namespace Vs
open Go.ChangeShapes Go.WideShapes Go.ChangeAt Go.RowKit Go.Joins
open Vl Vp
set_option linter.unusedVariables false

end Vs
end Go.Proofs.Ytabjpemneimljaa
