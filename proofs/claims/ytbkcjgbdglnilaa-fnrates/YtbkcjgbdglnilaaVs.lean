/- SizeOf and DimsOk on both sides. -/
import Derived.Test.YtbkcjgbdglnilaaVl
import Derived.Test.YtbkcjgbdglnilaaVp
namespace Go.Proofs.Ytbkcjgbdglnilaa
namespace Vs
open Go.ChangeShapes Go.WideShapes Go.ChangeAt Go.RowKit Go.Joins
open Vl Vp
set_option linter.unusedVariables false

end Vs
end Go.Proofs.Ytbkcjgbdglnilaa
