/- SizeOf and DimsOk on both sides. -/
import Derived.Test.YtajljeegkmkkcaaVl
import Derived.Test.YtajljeegkmkkcaaVp
namespace Go.Proofs.Ytajljeegkmkkcaa
namespace Vs
open Go.ChangeShapes Go.WideShapes Go.ChangeAt Go.RowKit Go.Joins
open Vl Vp
set_option linter.unusedVariables false

end Vs
end Go.Proofs.Ytajljeegkmkkcaa
