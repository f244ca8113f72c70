/- SizeOf and DimsOk on both sides. -/
import Derived.Test.YtfpkodcdlhejpaaVl
import Derived.Test.YtfpkodcdlhejpaaVp
namespace Go.Proofs.Ytfpkodcdlhejpaa
namespace Vs
open Go.ChangeShapes Go.WideShapes Go.ChangeAt Go.RowKit Go.Joins
open Vl Vp
set_option linter.unusedVariables false

end Vs
end Go.Proofs.Ytfpkodcdlhejpaa
