/- SizeOf and DimsOk on both sides. -/
import Derived.Test.YtmdgkbmifaajgaaVl
import Derived.Test.YtmdgkbmifaajgaaVp
namespace Go.Proofs.Ytmdgkbmifaajgaa
namespace Vs
open Go.ChangeShapes Go.WideShapes Go.ChangeAt Go.RowKit Go.Joins
open Vl Vp
set_option linter.unusedVariables false

end Vs
end Go.Proofs.Ytmdgkbmifaajgaa
