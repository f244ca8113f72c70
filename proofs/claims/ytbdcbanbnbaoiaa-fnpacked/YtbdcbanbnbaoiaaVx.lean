/- eachPlace's walk. -/
import Derived.Test.YtbdcbanbnbaoiaaVw
namespace Go.Proofs.Ytbdcbanbnbaoiaa
namespace Vo
open Go.ChangeShapes Go.WideShapes Go.ChangeAt Go.RowKit Go.Joins
open Vl Vp Vr
set_option linter.unusedVariables false
attribute [local go_sem] Oper.semAt_some

end Vo
end Go.Proofs.Ytbdcbanbnbaoiaa
