/- What the small functions of chapter 1 return, on both sides: remainders, sums, differences, products. Each only computes: the world stands. -/
import Derived.Test.YtpmkjifpoikdjaaRows
import Derived.Test.YtpmkjifpoikdjaaNum
import Derived.WalkKit
import Derived.ProofKit
import Derived.OpenShut
namespace Go.Proofs.Ytpmkjifpoikdjaa
namespace Base
open Go.ChangeShapes Go.WideShapes Go.ChangeAt Go.RowKit
set_option linter.unusedVariables false

theorem hide {p : Prop} (h : p) : Hid p := h
theorem ret_int {k : IntKind} {a b : Int} (h : a = b) : Ending.returned (.int k a) = .returned (.int k b) := by rw [h]
theorem ret_bool {a b : Bool} (h : a = b) : Ending.returned (.bool a) = .returned (.bool b) := by rw [h]

theorem specMod (x : Int) (w : World) (h0 : -9223372036854775808 ≤ x) (h1 : x ≤ 9223372036854775807) :
    Calls Try.prog 64 #[.int .i64 x] w fun e w' => e = .returned (.int .i64 (x % 2147483647)) ∧ w' = w := by
  have hb := Num.tmod_bd x
  obtain ⟨hb1, hb2⟩ := hb
  by_cases h : x.tmod 2147483647 < 0
  · have e := hide (Num.tmod_neg_iff x h)
    go_enter Try.func64, Try.ntmps64
    go_wp2
    go_ret
    exact ⟨ret_int e.out, rfl⟩
  · have e := hide (Num.tmod_nonneg_iff x (by omega))
    go_enter Try.func64, Try.ntmps64
    go_wp2
    go_ret
    exact ⟨ret_int e.out, rfl⟩

theorem residueOf (x : Int) (w : World) (h0 : -9223372036854775808 ≤ x) (h1 : x ≤ 9223372036854775807) :
    Calls Try.prog 86 #[.int .i64 x] w fun e w' => e = .returned (.int .i64 (x % 2147483647)) ∧ w' = w := by
  have hb := Num.tmod_bd x
  obtain ⟨hb1, hb2⟩ := hb
  by_cases h : x.tmod 2147483647 < 0
  · have e := hide (Num.tmod_neg_iff x h)
    go_enter Try.func86, Try.ntmps86
    go_wp2
    go_ret
    exact ⟨ret_int e.out, rfl⟩
  · have e := hide (Num.tmod_nonneg_iff x (by omega))
    go_enter Try.func86, Try.ntmps86
    go_wp2
    go_ret
    exact ⟨ret_int e.out, rfl⟩

theorem implMod (x : Int) (w : World) (h0 : -9223372036854775808 ≤ x) (h1 : x ≤ 9223372036854775807) :
    Calls Try.prog 80 #[.int .i64 x] w fun e w' => e = .returned (.int .i64 (x % 2147483647)) ∧ w' = w := by
  go_enter Try.func80, Try.ntmps80
  go_wp2_with (go_at_call 86; refine (residueOf _ _ h0 h1).mono ?_; rintro e w' ⟨rfl, rfl⟩)
  go_ret
  exact ⟨rfl, rfl⟩










end Base
end Go.Proofs.Ytpmkjifpoikdjaa
