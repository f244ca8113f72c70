/- ViewOk, the model's side; Place on both sides. -/
import Derived.Test.YtbdcbanbnbaoiaaVn
namespace Go.Proofs.Ytbdcbanbnbaoiaa
namespace Vo
open Go.ChangeShapes Go.WideShapes Go.ChangeAt Go.RowKit Go.Joins
open Vl Vp
set_option linter.unusedVariables false

end Vo
end Go.Proofs.Ytbdcbanbnbaoiaa
