/- ViewOk, the model's side; Place on both sides. -/
import Derived.Test.YtpmkjifpoikdjaaVn
namespace Go.Proofs.Ytpmkjifpoikdjaa
namespace Vo
open Go.ChangeShapes Go.WideShapes Go.ChangeAt Go.RowKit Go.Joins
open Vl Vp
set_option linter.unusedVariables false

end Vo
end Go.Proofs.Ytpmkjifpoikdjaa
