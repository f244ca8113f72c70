/- Lemmas for the proof of the law. -/
import Derived.Test.YtjlmbeachanlfaaMgau
import Derived.Test.YtjlmbeachanlfaaMgai
/- hasAxis; the plain side of Slice. -/
namespace Go.Proofs.Ytjlmbeachanlfaa
namespace Vo
open Go.ChangeShapes Go.WideShapes Go.ChangeAt Go.RowKit Go.Joins
open Vl Vp Vr
set_option linter.unusedVariables false
set_option linter.unusedSimpArgs false

/-- one place of a list turned -/
def upd (D : Nat → Int) (x : Nat) (c : Int) : Nat → Int := fun t => if t = x then c else D t
/-- what Slice asks -/
def sliceOk (r : Nat) (D : Nat → Int) (x f c t : Int) : Prop := 0 ≤ x ∧ x < r ∧ 0 ≤ f ∧ f < D x.toNat ∧ 1 ≤ c ∧ c ≤ 4096 ∧ -4096 ≤ t ∧ t ≤ 4096 ∧ 0 ≤ f + (c - 1) * t ∧ f + (c - 1) * t < D x.toNat
instance (r : Nat) (D : Nat → Int) (x f c t : Int) : Decidable (sliceOk r D x f c t) := by unfold sliceOk; infer_instance
/-- what it answers ahead of the last ViewOk -/
def sliceV (r s : Nat) (D S : Nat → Int) (o n x f c t : Int) : PV :=
  if sliceOk r D x f c t then ⟨r, s, upd D x.toNat c, upd S x.toNat (if c = 1 then 0 else S x.toNat * t), o + f * S x.toNat, n⟩ else PV.zero
end Vo
end Go.Proofs.Ytjlmbeachanlfaa

/- The model's turns: l3Axis, l3Or. -/
namespace Go.Proofs.Ytjlmbeachanlfaa
namespace Vo
open Go.ChangeShapes Go.WideShapes Go.ChangeAt Go.RowKit Go.Joins
open Vl Vp Vr
set_option linter.unusedVariables false
set_option linter.unusedSimpArgs false

/-- the axis is there, and the view is one -/
def axOk (r s : Nat) (D S : Nat → Int) (o n x : Int) : Bool := vok r s D S o n && decide (0 ≤ x ∧ x < r)
end Vo
end Go.Proofs.Ytjlmbeachanlfaa
