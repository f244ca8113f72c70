/- For the law on Sorted: what comes of lines is small. -/
import Derived.Test.YtpmkjifpoikdjaaGd
namespace Go.Proofs.Ytpmkjifpoikdjaa
namespace Vo
open Vl Vp
theorem lineP_six (r s : Nat) (D S : Nat → Int) (x n : Int) (G : (Nat → Int) → Nat → Int) : (((lineP r s D S x n G).r : Nat) : Int) ≤ 6 ∧ (((lineP r s D S x n G).s : Nat) : Int) ≤ 4096 := by
  refine ⟨?_, (lineP_le r s D S x n G).2⟩
  unfold lineP
  split
  · rename_i h
    have := (dok_iff.1 h.2).1
    dsimp only
    omega
  · simp [PT.zero]
end Vo
end Go.Proofs.Ytpmkjifpoikdjaa
