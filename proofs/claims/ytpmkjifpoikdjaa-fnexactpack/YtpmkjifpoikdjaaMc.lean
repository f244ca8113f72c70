/- PackOk: the program and the model. -/
import Derived.Test.YtpmkjifpoikdjaaMb
namespace Go.Proofs.Ytpmkjifpoikdjaa
namespace Vo
open Go.ChangeShapes Go.WideShapes Go.ChangeAt Go.RowKit Go.Joins Go.Sort
open Vl Vp
set_option linter.unusedVariables false
set_option linter.unusedSimpArgs false
end Vo
end Go.Proofs.Ytpmkjifpoikdjaa
