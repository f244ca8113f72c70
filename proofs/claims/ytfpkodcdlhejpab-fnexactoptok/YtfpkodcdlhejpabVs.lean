/- SizeOf and DimsOk on both sides. -/
import Derived.Test.YtfpkodcdlhejpabVl
import Derived.Test.YtfpkodcdlhejpabVp
namespace Go.Proofs.Ytfpkodcdlhejpab
namespace Vs
open Go.ChangeShapes Go.WideShapes Go.ChangeAt Go.RowKit Go.Joins
open Vl Vp
set_option linter.unusedVariables false

end Vs
end Go.Proofs.Ytfpkodcdlhejpab
