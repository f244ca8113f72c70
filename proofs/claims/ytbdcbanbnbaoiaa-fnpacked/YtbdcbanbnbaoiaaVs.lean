/- SizeOf and DimsOk on both sides. -/
import Derived.Test.YtbdcbanbnbaoiaaVl
import Derived.Test.YtbdcbanbnbaoiaaVp
namespace Go.Proofs.Ytbdcbanbnbaoiaa
namespace Vs
open Go.ChangeShapes Go.WideShapes Go.ChangeAt Go.RowKit Go.Joins
open Vl Vp
set_option linter.unusedVariables false

end Vs
end Go.Proofs.Ytbdcbanbnbaoiaa
