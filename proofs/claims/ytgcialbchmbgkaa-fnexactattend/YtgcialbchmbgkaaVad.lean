/- The table of turns by their names. -/
import Derived.Test.YtgcialbchmbgkaaVac
namespace Go.Proofs.Ytgcialbchmbgkaa
namespace Vo
open Go.ChangeShapes Go.WideShapes Go.ChangeAt Go.RowKit Go.Joins
open Vl Vp Vr
set_option linter.unusedVariables false

end Vo
end Go.Proofs.Ytgcialbchmbgkaa
