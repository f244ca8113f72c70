/- Powers modulo the prime on both sides: the model's halving recursion, the program's squaring loop; inverses, quotients, powers, signs. -/
import Derived.Test.YtpmkjifpoikdjaaBase
namespace Go.Proofs.Ytpmkjifpoikdjaa
namespace Base
open Go.ChangeShapes Go.WideShapes Go.ChangeAt Go.RowKit
set_option linter.unusedVariables false

theorem emod_self {a : Int} (h0 : 0 ≤ a) (h1 : a < 2147483647) : a % 2147483647 = a := by omega








/-- the number nearest to 0 -/
def sg (a : Int) : Int := if 1073741823 < a then a - 2147483647 else a
theorem sg_hi {a : Int} (h : 1073741823 < a) : a - 2147483647 = sg a := by unfold sg; rw [if_pos h]
theorem sg_lo {a : Int} (h : ¬ 1073741823 < a) : a = sg a := by unfold sg; rw [if_neg h]

theorem specSigned (a : Int) (w : World) (a0 : -9223372036854775808 ≤ a) (a1 : a ≤ 9223372036854775807) :
    Calls Try.prog 39 #[.int .i64 a] w fun e w' => e = .returned (.int .i64 (sg (a % 2147483647))) ∧ w' = w := by
  by_cases h : 1073741823 < a % 2147483647
  · have e := hide (sg_hi h)
    go_enter Try.func39, Try.ntmps39
    go_wp2_with fail
    refine (specMod _ _ a0 a1).mono ?_; rintro e w' ⟨rfl, rfl⟩
    go_wp2_with fail
    go_ret
    exact ⟨ret_int e.out, rfl⟩
  · have e := hide (sg_lo h)
    go_enter Try.func39, Try.ntmps39
    go_wp2_with fail
    refine (specMod _ _ a0 a1).mono ?_; rintro e w' ⟨rfl, rfl⟩
    go_wp2_with fail
    go_ret
    exact ⟨ret_int e.out, rfl⟩

theorem implSigned (a : Int) (w : World) (a0 : -9223372036854775808 ≤ a) (a1 : a ≤ 9223372036854775807) :
    Calls Try.prog 73 #[.int .i64 a] w fun e w' => e = .returned (.int .i64 (sg (a % 2147483647))) ∧ w' = w := by
  by_cases h : 1073741823 < a % 2147483647
  · have e := hide (sg_hi h)
    go_enter Try.func73, Try.ntmps73
    go_wp2_with fail
    refine (residueOf _ _ a0 a1).mono ?_; rintro e w' ⟨rfl, rfl⟩
    go_wp2
    go_ret
    exact ⟨ret_int e.out, rfl⟩
  · have e := hide (sg_lo h)
    go_enter Try.func73, Try.ntmps73
    go_wp2_with fail
    refine (residueOf _ _ a0 a1).mono ?_; rintro e w' ⟨rfl, rfl⟩
    go_wp2
    go_ret
    exact ⟨ret_int e.out, rfl⟩

end Base
end Go.Proofs.Ytpmkjifpoikdjaa
