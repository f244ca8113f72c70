/- Sums and products in short, tensors that can be read. -/
import Derived.Test.YtgcialbchmbgkaaTza
import Derived.Test.YtgcialbchmbgkaaTc
namespace Go.Proofs.Ytgcialbchmbgkaa
namespace Vo
open Go.ChangeShapes Go.WideShapes Go.ChangeAt Go.RowKit Go.Joins Go.Sort
open Vl Vp Vr
set_option linter.unusedVariables false
set_option linter.unusedSimpArgs false
def ti (x y : Int) : Int := x % 2147483647 * (y % 2147483647) % 2147483647
def pl (x y : Int) : Int := (x + y) % 2147483647
theorem ti_rng (x y : Int) : 0 ≤ ti x y ∧ ti x y < 2147483647 := ⟨Int.emod_nonneg _ (by decide), Int.emod_lt_of_pos _ (by decide)⟩
theorem pl_rng (x y : Int) : 0 ≤ pl x y ∧ pl x y < 2147483647 := by unfold pl; omega
theorem bd_of {x : Int} (h : 0 ≤ x ∧ x < 2147483647) : bd x := by unfold bd; omega
def TV.ok (t : TV) : Bool := tok t.r t.s t.D t.S
/-- a tensor in a variable or in a list -/
def TV.val (t : TV) : Array Value := #[.slice t.a t.r t.cap, .slice t.b t.s t.dap]
/-- what can be read of a tensor -/
def TV.read (B : Nat) (w : World) (t : TV) : Prop := Ints B w t.a t.r t.D ∧ Ints B w t.b t.s t.S
theorem TV.read.below {B : Nat} {w w' : World} {t : TV} (h : t.read B w) (hb : Below B w w') : t.read B w' := ⟨h.1.below hb, h.2.below hb⟩
theorem l5In (x lo hi : Int) (w : World) : Calls Try.prog 28 #[.int .i64 x, .int .i64 lo, .int .i64 hi] w fun e w' => e = .returned (.bool (decide (lo ≤ x ∧ x ≤ hi))) ∧ w' = w := by
  by_cases h1 : lo ≤ x
  · by_cases h2 : x ≤ hi
    · have e := hide (show decide (lo ≤ x ∧ x ≤ hi) = true from decide_eq_true ⟨h1, h2⟩)
      go_enter Try.func28, Try.ntmps28
      go_wp2_with fail
      go_ret
      exact ⟨by rw [e.out]; rfl, rfl⟩
    · have e := hide (show decide (lo ≤ x ∧ x ≤ hi) = false from decide_eq_false (fun h => h2 h.2))
      have h2' : decide (x ≤ hi) = false := decide_eq_false h2
      clear h2
      go_enter Try.func28, Try.ntmps28
      go_wp2_with fail
      go_ret
      exact ⟨by rw [e.out]; rfl, rfl⟩
  · have e := hide (show decide (lo ≤ x ∧ x ≤ hi) = false from decide_eq_false (fun h => h1 h.1))
    have h1' : decide (lo ≤ x) = false := decide_eq_false h1
    clear h1
    go_enter Try.func28, Try.ntmps28
    go_wp2_with fail
    go_ret
    exact ⟨by rw [e.out]; rfl, rfl⟩
end Vo
end Go.Proofs.Ytgcialbchmbgkaa
