/- Attention, for the law: what it gives hangs on numbers alone. -/
import Derived.Test.YtgcialbchmbgkaaYf
import Derived.Test.YtgcialbchmbgkaaLw
namespace Go.Proofs.Ytgcialbchmbgkaa
namespace Vo
open Go.ChangeShapes Go.WideShapes Go.ChangeAt Go.RowKit Go.Joins Go.Sort
open Vl Vp Vr
set_option linter.unusedVariables false
def TV.same (t u : TV) : Prop := t.r = u.r ∧ t.s = u.s ∧ t.D = u.D ∧ t.S = u.S
theorem attP_same {q k v q' k' v' : TV} {w : Int} (hq : q.same q') (hk : k.same k') (hv : v.same v') : attP q k v w = attP q' k' v' w := by
  obtain ⟨q1, q2, q3, q4⟩ := hq
  obtain ⟨k1, k2, k3, k4⟩ := hk
  obtain ⟨v1, v2, v3, v4⟩ := hv
  have e : AttOk q k v ↔ AttOk q' k' v' := by
    unfold AttOk TV.ok
    rw [q1, q2, q3, q4, k1, k2, k3, k4, v1, v2, v3, v4]
  by_cases h : AttOk q k v ∧ 0 ≤ w ∧ w ≤ 4096
  · rw [attP_yes h, attP_yes ⟨e.1 h.1, h.2⟩]
    have eS : attS q k v w (q.D 0).toNat (k.D 0).toNat (k.D 1).toNat (v.D 1).toNat = attS q' k' v' w (q'.D 0).toNat (k'.D 0).toNat (k'.D 1).toNat (v'.D 1).toNat := by
      funext p; unfold attS; rw [q3, q4, k3, k4, v3, v4]
    have eD : attD q v = attD q' v' := by funext j; unfold attD; rw [q3, v3]
    rw [eS, eD, q3, v3]
  · rw [attP_no h, attP_no (fun c => h ⟨e.2 c.1, c.2⟩)]
theorem attP_le (q k v : TV) (w : Int) : ((attP q k v w).r : Int) ≤ 4096 ∧ ((attP q k v w).s : Int) ≤ 4096 := by
  by_cases h : AttOk q k v ∧ 0 ≤ w ∧ w ≤ 4096
  · rw [attP_yes h]
    have := (attD_ok h.1).2
    have h2 := (szR_rng (attD q v) 2).2
    exact ⟨by show ((2 : Nat) : Int) ≤ 4096; decide, by rw [this] at h2; exact h2⟩
  · rw [attP_no h]
    exact ⟨by show ((0 : Nat) : Int) ≤ 4096; decide, by show ((0 : Nat) : Int) ≤ 4096; decide⟩
end Vo
end Go.Proofs.Ytgcialbchmbgkaa
