/- Lemmas for the proof of the law. -/
import Derived.Test.YtejfodkobfdelaaMgar
import Derived.Test.YtejfodkobfdelaaMgad
/- hasAxis; the plain side of Slice. -/
namespace Go.Proofs.Ytejfodkobfdelaa
namespace Vo
open Go.ChangeShapes Go.WideShapes Go.ChangeAt Go.RowKit Go.Joins
open Vl Vp Vr
set_option linter.unusedVariables false
set_option linter.unusedSimpArgs false

/-- one place of a list turned -/
def upd (D : Nat → Int) (x : Nat) (c : Int) : Nat → Int := fun t => if t = x then c else D t
/-- what Slice asks -/
def sliceOk (r : Nat) (D : Nat → Int) (x f c t : Int) : Prop := 0 ≤ x ∧ x < r ∧ 0 ≤ f ∧ f < D x.toNat ∧ 1 ≤ c ∧ c ≤ 4096 ∧ -4096 ≤ t ∧ t ≤ 4096 ∧ 0 ≤ f + (c - 1) * t ∧ f + (c - 1) * t < D x.toNat
instance (r : Nat) (D : Nat → Int) (x f c t : Int) : Decidable (sliceOk r D x f c t) := by unfold sliceOk; infer_instance
/-- what it answers ahead of the last ViewOk -/
def sliceV (r s : Nat) (D S : Nat → Int) (o n x f c t : Int) : PV :=
  if sliceOk r D x f c t then ⟨r, s, upd D x.toNat c, upd S x.toNat (if c = 1 then 0 else S x.toNat * t), o + f * S x.toNat, n⟩ else PV.zero
theorem hasAxis (a b : Option Addr) (r s cap dap : Nat) (o n x : Int) (w : World) :
    Calls Try.prog 91 #[.agg #[.slice a r cap, .slice b s dap, .int .i64 o, .int .i64 n], .int .i64 x] w fun e w' => e = .returned (.bool (decide (0 ≤ x ∧ x < r))) ∧ w' = w.alloc (.cells #[.slice a r cap, .slice b s dap, .int .i64 o, .int .i64 n] 26) := by
  by_cases h0 : 0 ≤ x
  · have h0' : decide (0 ≤ x) = true := decide_eq_true h0
    by_cases h1 : x < r
    · have h1' : decide (x < (r : Int)) = true := decide_eq_true h1
      rw [decide_eq_true (show 0 ≤ x ∧ x < r from ⟨h0, h1⟩)]
      clear h0 h1
      go_enter Try.func91, Try.ntmps91
      go_wp2_with fail
      go_ret
      exact ⟨rfl, rfl⟩
    · have h1' : decide (x < (r : Int)) = false := decide_eq_false h1
      rw [decide_eq_false (show ¬ (0 ≤ x ∧ x < r) from fun q => h1 q.2)]
      clear h0 h1
      go_enter Try.func91, Try.ntmps91
      go_wp2_with fail
      go_ret
      exact ⟨rfl, rfl⟩
  · have h0' : decide (0 ≤ x) = false := decide_eq_false h0
    rw [decide_eq_false (show ¬ (0 ≤ x ∧ x < r) from fun q => h0 q.1)]
    clear h0
    go_enter Try.func91, Try.ntmps91
    go_wp2_with fail
    go_ret
    exact ⟨rfl, rfl⟩
end Vo
end Go.Proofs.Ytejfodkobfdelaa

/- The model's turns: l3Axis, l3Or. -/
namespace Go.Proofs.Ytejfodkobfdelaa
namespace Vo
open Go.ChangeShapes Go.WideShapes Go.ChangeAt Go.RowKit Go.Joins
open Vl Vp Vr
set_option linter.unusedVariables false
set_option linter.unusedSimpArgs false

/-- the axis is there, and the view is one -/
def axOk (r s : Nat) (D S : Nat → Int) (o n x : Int) : Bool := vok r s D S o n && decide (0 ≤ x ∧ x < r)
end Vo
end Go.Proofs.Ytejfodkobfdelaa
