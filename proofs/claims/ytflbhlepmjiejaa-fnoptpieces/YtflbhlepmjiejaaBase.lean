/- What the small functions of chapter 1 return, on both sides: remainders, sums, differences, products. Each only computes: the world stands. -/
import Derived.Test.YtflbhlepmjiejaaRows
import Derived.Test.YtflbhlepmjiejaaNum
import Derived.WalkKit
import Derived.ProofKit
import Derived.OpenShut
namespace Go.Proofs.Ytflbhlepmjiejaa
namespace Base
open Go.ChangeShapes Go.WideShapes Go.ChangeAt Go.RowKit
set_option linter.unusedVariables false

theorem hide {p : Prop} (h : p) : Hid p := h
theorem ret_int {k : IntKind} {a b : Int} (h : a = b) : Ending.returned (.int k a) = .returned (.int k b) := by rw [h]
theorem ret_bool {a b : Bool} (h : a = b) : Ending.returned (.bool a) = .returned (.bool b) := by rw [h]













end Base
end Go.Proofs.Ytflbhlepmjiejaa
