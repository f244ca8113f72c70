/- Powers modulo the prime on both sides: the model's halving recursion, the program's squaring loop; inverses, quotients, powers, signs. -/
import Derived.Test.YtflbhlepmjiejaaBase
namespace Go.Proofs.Ytflbhlepmjiejaa
namespace Base
open Go.ChangeShapes Go.WideShapes Go.ChangeAt Go.RowKit
set_option linter.unusedVariables false

theorem emod_self {a : Int} (h0 : 0 ≤ a) (h1 : a < 2147483647) : a % 2147483647 = a := by omega








/-- the number nearest to 0 -/
def sg (a : Int) : Int := if 1073741823 < a then a - 2147483647 else a
theorem sg_hi {a : Int} (h : 1073741823 < a) : a - 2147483647 = sg a := by unfold sg; rw [if_pos h]
theorem sg_lo {a : Int} (h : ¬ 1073741823 < a) : a = sg a := by unfold sg; rw [if_neg h]



end Base
end Go.Proofs.Ytflbhlepmjiejaa
