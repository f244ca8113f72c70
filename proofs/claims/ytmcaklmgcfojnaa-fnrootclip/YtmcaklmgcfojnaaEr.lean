/- Rates: what they are, and that they rise and fall. -/
import Derived.Test.YtmcaklmgcfojnaaEh
import Derived.Test.YtmcaklmgcfojnaaEa
namespace Go.Proofs.Ytmcaklmgcfojnaa
namespace Vo
open Go.ChangeShapes Go.WideShapes Go.ChangeAt Go.RowKit Go.Joins Go.Sort
open Vl
set_option linter.unusedVariables false
set_option linter.unusedSimpArgs false
theorem nrv_nn {n d : Int} (n0 : 0 ≤ n) (d0 : 1 ≤ d) : nrv n d = Nea.rd (n / d) (n % d) d := by
  have m0 := Int.emod_nonneg n (show d ≠ 0 by omega)
  unfold nrv
  rw [Int.tdiv_eq_ediv_of_nonneg n0, Int.tmod_eq_emod_of_nonneg n0, if_neg (by omega)]
theorem nrv_mono {n k d : Int} (n0 : 0 ≤ n) (h : n ≤ k) (d0 : 1 ≤ d) : nrv n d ≤ nrv k d := by
  rw [nrv_nn n0 d0, nrv_nn (by omega) d0]
  have h1 : n / d ≤ k / d := Int.ediv_le_ediv (by omega) h
  have e1 := Int.emod_add_mul_ediv n d
  have e2 := Int.emod_add_mul_ediv k d
  by_cases c : n / d = k / d
  · have : n % d ≤ k % d := by rw [c] at e1; omega
    unfold Nea.rd
    rw [c]
    generalize k / d = q at *
    generalize n % d = x at *
    generalize k % d = y at *
    split <;> split <;> omega
  · unfold Nea.rd
    generalize k / d = q at *
    generalize n / d = p at *
    split <;> split <;> omega
/-- a rate, where its schedule can be -/
def rtE (p l m n t : Int) : Int := if t < m then nrv (p * (t + 1)) m else if t < n then p - nrv ((p - l) * (t - m)) (n - m) else l
theorem nrv_rng {n d K : Int} (n0 : 0 ≤ n) (d0 : 1 ≤ d) (K0 : 0 ≤ K) (h : n ≤ K * d) : 0 ≤ nrv n d ∧ nrv n d ≤ K := near_rng n0 d0 K0 h rfl
/-- never above the peak; the low one behind the end -/
theorem rt_peak {p l m n t : Int} (g : schOk p l m n = true) (t0 : 0 ≤ t) : rtE p l m n t ≤ p ∧ (n ≤ t → rtE p l m n t = l) := by
  obtain ⟨⟨l0, l1, p1⟩, m0, m1, n1⟩ := sch_of g
  unfold rtE
  by_cases c1 : t < m
  · rw [if_pos c1]
    refine ⟨(nrv_rng (K := p) (Int.mul_nonneg (by omega) (by omega)) (by omega) (by omega) (Int.mul_le_mul_of_nonneg_left (by omega) (by omega))).2, fun h => by omega⟩
  rw [if_neg c1]
  by_cases c2 : t < n
  · rw [if_pos c2]
    have := (nrv_rng (n := (p - l) * (t - m)) (d := n - m) (K := p - l) (Int.mul_nonneg (by omega) (by omega)) (by omega) (by omega) (Int.mul_le_mul_of_nonneg_left (by omega) (by omega))).1
    exact ⟨by omega, fun h => by omega⟩
  · rw [if_neg c2]
    exact ⟨by omega, fun _ => rfl⟩
theorem rt_rise {p l m n t : Int} (g : schOk p l m n = true) (t0 : 0 ≤ t) (h : t + 1 < m) : rtE p l m n t ≤ rtE p l m n (t + 1) := by
  obtain ⟨⟨l0, l1, p1⟩, m0, m1, n1⟩ := sch_of g
  unfold rtE
  rw [if_pos (show t < m by omega), if_pos (show t + 1 < m by omega)]
  exact nrv_mono (Int.mul_nonneg (by omega) (by omega)) (Int.mul_le_mul_of_nonneg_left (by omega) (by omega)) (by omega)
theorem rt_fall {p l m n t : Int} (g : schOk p l m n = true) (t0 : 0 ≤ t) (h : m ≤ t) : rtE p l m n (t + 1) ≤ rtE p l m n t := by
  obtain ⟨⟨l0, l1, p1⟩, m0, m1, n1⟩ := sch_of g
  unfold rtE
  rw [if_neg (show ¬ t + 1 < m by omega), if_neg (show ¬ t < m by omega)]
  by_cases c2 : t + 1 < n
  · rw [if_pos c2, if_pos (show t < n by omega)]
    have := nrv_mono (n := (p - l) * (t - m)) (k := (p - l) * (t + 1 - m)) (d := n - m) (Int.mul_nonneg (by omega) (by omega)) (Int.mul_le_mul_of_nonneg_left (by omega) (by omega)) (by omega)
    omega
  · rw [if_neg c2]
    by_cases c3 : t < n
    · rw [if_pos c3]
      have := (nrv_rng (n := (p - l) * (t - m)) (d := n - m) (K := p - l) (Int.mul_nonneg (by omega) (by omega)) (by omega) (by omega) (Int.mul_le_mul_of_nonneg_left (by omega) (by omega))).2
      omega
    · rw [if_neg c3]; omega
end Vo
end Go.Proofs.Ytmcaklmgcfojnaa
