/- SizeOf and DimsOk on both sides. -/
import Derived.Test.YtmcaklmgcfojnaaVl
import Derived.Test.YtmcaklmgcfojnaaVp
namespace Go.Proofs.Ytmcaklmgcfojnaa
namespace Vs
open Go.ChangeShapes Go.WideShapes Go.ChangeAt Go.RowKit Go.Joins
open Vl Vp
set_option linter.unusedVariables false

end Vs
end Go.Proofs.Ytmcaklmgcfojnaa
