/- SizeOf and DimsOk on both sides. -/
import Derived.Test.YtflbhlepmjiejaaVl
import Derived.Test.YtflbhlepmjiejaaVp
namespace Go.Proofs.Ytflbhlepmjiejaa
namespace Vs
open Go.ChangeShapes Go.WideShapes Go.ChangeAt Go.RowKit Go.Joins
open Vl Vp
set_option linter.unusedVariables false

end Vs
end Go.Proofs.Ytflbhlepmjiejaa
