/- SizeOf and DimsOk on both sides. -/
import Derived.Test.YtnnjkanmcfjblaaVl
import Derived.Test.YtnnjkanmcfjblaaVp
namespace Go.Proofs.Ytnnjkanmcfjblaa
namespace Vs
open Go.ChangeShapes Go.WideShapes Go.ChangeAt Go.RowKit Go.Joins
open Vl Vp
set_option linter.unusedVariables false

end Vs
end Go.Proofs.Ytnnjkanmcfjblaa
