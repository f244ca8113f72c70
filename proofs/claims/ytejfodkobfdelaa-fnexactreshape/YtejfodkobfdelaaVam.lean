/- The model's turns: l3Copy. -/
import Derived.Test.YtejfodkobfdelaaVal
import Derived.Test.YtejfodkobfdelaaVag
namespace Go.Proofs.Ytejfodkobfdelaa
namespace Vo
open Go.ChangeShapes Go.WideShapes Go.ChangeAt Go.RowKit Go.Joins
open Vl Vp Vr
set_option linter.unusedVariables false
set_option linter.unusedSimpArgs false

theorem set_next {W : World} {z i j : Nat} {u v : Value} (hc : W.cell? ⟨z, i, none⟩ = some v) : (W.setCell ⟨z + 1, j, none⟩ u).cell? ⟨z, i, none⟩ = some v := set_other (by show z ≠ z + 1; omega) hc
end Vo
end Go.Proofs.Ytejfodkobfdelaa
