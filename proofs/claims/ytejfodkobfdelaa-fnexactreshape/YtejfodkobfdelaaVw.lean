/- The iterator over a view's places (eachPlace): an odometer. -/
import Derived.Test.YtejfodkobfdelaaVr
import Derived.Test.YtejfodkobfdelaaVo
import Derived.Test.YtejfodkobfdelaaVv
import Derived.Test.YtejfodkobfdelaaVn
import Derived.Deep.LoopGhost
import Derived.Deep.RegionHeld3
import Derived.RangeFuncBound
import Derived.OwnWalkIn
import Derived.TacticsInMore
import Derived.LoopNIn
import Derived.LoopIn
namespace Go.Proofs.Ytejfodkobfdelaa
namespace Vo
open Go.ChangeShapes Go.WideShapes Go.ChangeAt Go.RowKit Go.Joins
open Vl Vp Vr
set_option linter.unusedVariables false

theorem carry {d k : Int} (hd : 1 ≤ d) (h : k % d = d - 1) : (k + 1) % d = 0 ∧ (k + 1) / d = k / d + 1 := by
  have e : k + 1 = 0 + d * (k / d + 1) := by
    have := Int.mul_ediv_add_emod k d
    rw [Int.mul_add]; omega
  constructor
  · rw [e, Int.add_mul_emod_self_left]; rfl
  · rw [e, Int.add_mul_ediv_left _ _ (by omega)]; simp
theorem nocarry {d k : Int} (hd : 1 ≤ d) (h : k % d ≠ d - 1) : (k + 1) % d = k % d + 1 ∧ (k + 1) / d = k / d := by
  have h1 := Int.emod_nonneg k (show d ≠ 0 by omega)
  have h2 := Int.emod_lt_of_pos k (show 0 < d by omega)
  have e : k + 1 = (k % d + 1) + d * (k / d) := by
    have := Int.mul_ediv_add_emod k d
    omega
  constructor
  · have : (k % d + 1 + d * (k / d)) % d = k % d + 1 := by rw [Int.add_mul_emod_self_left, Int.emod_eq_of_lt (by omega) (by omega)]
    rwa [← e] at this
  · rw [e, Int.add_mul_ediv_left _ _ (by omega), Int.ediv_eq_zero_of_lt (by omega) (by omega)]
    omega
/-- the odometer between two rounds: the last axes are back at 0, m are left, whose index is the q-th -/
def Odo (D S : Nat → Int) (r : Nat) (k : Int) (m : Nat) (q : Int) : Prop :=
  m ≤ r ∧ 0 ≤ q ∧ q < pr D m ∧ (∀ j, j < r → dg D r (k + 1) j = if j < m then dg D m (q + 1) j else 0) ∧ rel D S r (k + 1) = rel D S m (q + 1) ∧ ∃ Q : Int, 1 ≤ Q ∧ k + 1 = (q + 1) * Q ∧ pr D r = pr D m * Q
theorem Odo.start {D S : Nat → Int} {r : Nat} {k : Int} (k0 : 0 ≤ k) (k1 : k < pr D r) : Odo D S r k r k :=
  ⟨Nat.le_refl _, k0, k1, fun j hj => by rw [if_pos hj], rfl, 1, by omega, by omega, by omega⟩
theorem Odo.step {D S : Nat → Int} {r : Nat} {k q : Int} {m : Nat} (h : Odo D S r k (m + 1) q) (hd : 1 ≤ D m) (hq : q % D m = D m - 1) : Odo D S r k m (q / D m) := by
  obtain ⟨hm, q0, q1, h1, h2, Q, hQ, e1, e2⟩ := h
  obtain ⟨c1, c2⟩ := carry hd hq
  have e3 : q + 1 = (q / D m + 1) * D m := by
    have := Int.mul_ediv_add_emod q (D m)
    rw [Int.add_mul, Int.one_mul, Int.mul_comm (q / D m)]; omega
  refine ⟨by omega, Int.ediv_nonneg q0 (by omega), ?_, fun j hj => ?_, ?_, D m * Q, ?_, ?_, ?_⟩
  · have hp : q < pr D m * D m := q1
    exact Int.ediv_lt_of_lt_mul (by omega) hp
  · rw [h1 j hj]
    simp only [dg, c1, c2]
    by_cases e : j = m
    · subst e; simp
    · by_cases l : j < m
      · rw [if_pos (by omega), if_neg e, if_pos l]
      · rw [if_neg (by omega), if_neg l]
  · rw [h2]; simp only [rel, c1, c2]; omega
  · have := Int.mul_le_mul hd hQ (by omega) (by omega); omega
  · rw [e1, e3, Int.mul_assoc]
  · rw [e2]; simp only [pr]; rw [Int.mul_assoc]
/-- all axes were at their last int: the last round was the last one -/
theorem Odo.last {D S : Nat → Int} {r : Nat} {k q : Int} (h : Odo D S r k 0 q) : k + 1 = pr D r := by
  obtain ⟨_, q0, q1, _, _, Q, hQ, e1, e2⟩ := h
  simp only [pr] at q1 e2
  obtain rfl : q = 0 := by omega
  rw [e1, e2]; omega
/-- an axis is not: there is a next round -/
theorem Odo.next {D S : Nat → Int} {r : Nat} {k q : Int} {m : Nat} (h : Odo D S r k (m + 1) q) (hd : 1 ≤ D m) (hq : q % D m ≠ D m - 1) :
    k + 1 < pr D r ∧ (∀ j, j < r → dg D r (k + 1) j = if j < m then dg D m (q / D m) j else if j = m then q % D m + 1 else 0) ∧ rel D S r (k + 1) = (q % D m + 1) * S m + rel D S m (q / D m) := by
  obtain ⟨hm, q0, q1, h1, h2, Q, hQ, e1, e2⟩ := h
  obtain ⟨c1, c2⟩ := nocarry hd hq
  refine ⟨?_, fun j hj => ?_, ?_⟩
  · have z0 := Int.emod_nonneg q (show D m ≠ 0 by omega)
    have z1 := Int.emod_lt_of_pos q (show 0 < D m by omega)
    have hp : q < pr D m * D m := q1
    have hl : q / D m < pr D m := Int.ediv_lt_of_lt_mul (by omega) hp
    have e3 := Int.mul_ediv_add_emod q (D m)
    have e4 : q + 1 < pr D m * D m := by
      have := Int.mul_le_mul_of_nonneg_right (show q / D m + 1 ≤ pr D m by omega) (show 0 ≤ D m by omega)
      rw [Int.add_mul, Int.one_mul, Int.mul_comm (q / D m)] at this
      omega
    rw [e1, e2]
    show (q + 1) * Q < pr D m * D m * Q
    exact Int.mul_lt_mul_of_pos_right e4 (by omega)
  · rw [h1 j hj]
    simp only [dg, c1, c2]
    by_cases e : j = m
    · subst e; simp
    · by_cases l : j < m
      · rw [if_pos (by omega), if_neg e, if_pos l]
      · rw [if_neg (by omega), if_neg l, if_neg e]
  · rw [h2]; simp only [rel, c1, c2]
theorem rel_zero (D S : Nat → Int) (r : Nat) : rel D S r 0 = 0 := by
  induction r with
  | zero => rfl
  | succ r ih => simp [rel, ih]
theorem dg_zero (D : Nat → Int) (r j : Nat) : dg D r 0 j = 0 := by
  induction r with
  | zero => rfl
  | succ r ih => simp [dg, ih]
/-- how many places there are -/
def cnt (r s : Nat) (D S : Nat → Int) (o n : Int) : Nat := if vok r s D S o n = true then (szR D r).toNat else 0
end Vo
end Go.Proofs.Ytejfodkobfdelaa
