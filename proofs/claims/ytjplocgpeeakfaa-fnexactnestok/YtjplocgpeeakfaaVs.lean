/- SizeOf and DimsOk on both sides. -/
import Derived.Test.YtjplocgpeeakfaaVl
import Derived.Test.YtjplocgpeeakfaaVp
namespace Go.Proofs.Ytjplocgpeeakfaa
namespace Vs
open Go.ChangeShapes Go.WideShapes Go.ChangeAt Go.RowKit Go.Joins
open Vl Vp
set_option linter.unusedVariables false

end Vs
end Go.Proofs.Ytjplocgpeeakfaa
