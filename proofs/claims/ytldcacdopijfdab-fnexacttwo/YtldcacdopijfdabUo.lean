/- Two: plain. -/
import Derived.Test.YtldcacdopijfdabUk
import Derived.Test.YtldcacdopijfdabUl
import Derived.Test.YtldcacdopijfdabVj
namespace Go.Proofs.Ytldcacdopijfdab
namespace Vo
open Go.ChangeShapes Go.WideShapes Go.ChangeAt Go.RowKit Go.Joins
open Vl Vp Vr
set_option linter.unusedVariables false
set_option linter.unusedSimpArgs false

theorem spr_of_joint {r s : Nat} {D E : Nat → Int} (h : JOk r s D E) : SprOk r (max r s) D (jt r s D E) := by
  obtain ⟨h1, h2, h3, h4⟩ := h
  refine ⟨h4, by omega, fun i hi => ?_⟩
  have d1 := (dok_len h1 hi).1
  have e : bk r D (r - 1 - i) = D i := by unfold bk; rw [if_neg (by omega), show r - 1 - (r - 1 - i) = i by omega]
  have f := h3 (r - 1 - i) (by omega)
  rw [e] at f
  have ej : jt r s D E (max r s - r + i) = max (D i) (bk s E (r - 1 - i)) := by
    unfold jt
    rw [show max r s - 1 - (max r s - r + i) = r - 1 - i by omega, e]
  rw [ej]
  rcases f with f | f | f
  · exact .inl (by omega)
  · exact .inr f
  · exact .inl (by omega)
theorem spr_of_joint2 {r s : Nat} {D E : Nat → Int} (h : JOk r s D E) : SprOk s (max r s) E (jt r s D E) := by
  have := spr_of_joint (JOk_comm.1 h)
  rwa [jt_comm s r E D, Nat.max_comm s r] at this
/-- lengths that can't be joined: one of them has an axis -/
theorem joint_no {r s : Nat} {D E : Nat → Int} (h1 : dok r D = true) (h2 : dok s E = true) (h : ¬ JOk r s D E) : 0 < r ∨ 0 < s := by
  by_cases c : 0 < r ∨ 0 < s
  · exact c
  · obtain ⟨rfl, rfl⟩ : r = 0 ∧ s = 0 := by omega
    exact absurd ⟨h1, h2, fun k hk => absurd hk (by simp), by rw [dok_iff]; exact ⟨by simp, by simp [szR]⟩⟩ h
/-- what stands at place k when a tensor is spread to dims E -/
def sprN (r q : Nat) (D S E : Nat → Int) (k : Nat) : Int := S (od D (sprI r q D (dg E q k)) r).toNat
/-- two tensors joined -/
def twoP (op : Int) (r s : Nat) (D S : Nat → Int) (r' s' : Nat) (D' S' : Nat → Int) : PT :=
  if (1 ≤ op ∧ op ≤ 8) ∧ (tok r s D S = true ∧ tok r' s' D' S' = true) ∧ JOk r r' D D' then
    ⟨max r r', cntT (max r r') (jt r r' D D'), jt r r' D D', fun k => two1 op (sprN r (max r r') D S (jt r r' D D') k) (sprN r' (max r r') D' S' (jt r r' D D') k)⟩ else PT.zero
theorem twoP_no {op : Int} {r s : Nat} {D S : Nat → Int} {r' s' : Nat} {D' S' : Nat → Int} (h : ¬ ((1 ≤ op ∧ op ≤ 8) ∧ (tok r s D S = true ∧ tok r' s' D' S' = true) ∧ JOk r r' D D')) : twoP op r s D S r' s' D' S' = PT.zero := by unfold twoP; rw [if_neg h]
theorem twoP_le (op : Int) (r s : Nat) (D S : Nat → Int) (r' s' : Nat) (D' S' : Nat → Int) : (twoP op r s D S r' s' D' S').r ≤ max r r' ∧ (((twoP op r s D S r' s' D' S').s : Nat) : Int) ≤ 4096 := by
  unfold twoP
  split
  · exact ⟨Nat.le_refl _, cntT_le _ _⟩
  · exact ⟨Nat.zero_le _, by simp [PT.zero]⟩
end Vo
end Go.Proofs.Ytldcacdopijfdab
