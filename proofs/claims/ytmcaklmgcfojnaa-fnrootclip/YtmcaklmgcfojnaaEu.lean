/- Clipped gradients are no longer than told, but for rounding: plain. -/
import Derived.Test.YtmcaklmgcfojnaaEi
namespace Go.Proofs.Ytmcaklmgcfojnaa
namespace Vo
open Vl
set_option linter.unusedVariables false
/-- sums of products -/
def dsm (A B : Nat → Int) : Nat → Int
  | 0 => 0
  | k + 1 => dsm A B k + A k * B k
theorem dsm_nsum (A : Nat → Int) (k : Nat) : dsm A A k = nsum A k := by
  induction k with
  | zero => rfl
  | succ k ih => show dsm A A k + A k * A k = nsum A k + A k * A k; rw [ih]
theorem sq_nn (x : Int) : 0 ≤ x * x := by
  by_cases c : 0 ≤ x
  · exact Int.mul_nonneg c c
  · have := Int.mul_nonneg (a := -x) (b := -x) (by omega) (by omega); rw [Int.neg_mul_neg] at this; exact this
theorem nsum_nn (A : Nat → Int) (k : Nat) : 0 ≤ nsum A k := by
  induction k with
  | zero => exact Int.le_refl _
  | succ k ih => show 0 ≤ nsum A k + A k * A k; have := sq_nn (A k); omega
/-- of squares: the root's order -/
theorem le_of_sq {x y : Int} (y0 : 0 ≤ y) (h : x * x ≤ y * y) : x ≤ y := by
  by_cases c : x ≤ y
  · exact c
  · have h1 : y * y < x * x := by
      have a1 : y * y ≤ y * x := Int.mul_le_mul_of_nonneg_left (by omega) y0
      have a2 : y * x < x * x := Int.mul_lt_mul_of_pos_right (by omega) (by omega)
      omega
    omega
/-- Cauchy and Schwarz -/
theorem cs (A B : Nat → Int) (k : Nat) : dsm A B k * dsm A B k ≤ nsum A k * nsum B k := by
  induction k with
  | zero => exact Int.le_refl _
  | succ k ih =>
    show (dsm A B k + A k * B k) * (dsm A B k + A k * B k) ≤ (nsum A k + A k * A k) * (nsum B k + B k * B k)
    have s0 := nsum_nn A k
    have q0 := nsum_nn B k
    generalize dsm A B k = C at *
    generalize nsum A k = S at *
    generalize nsum B k = Q at *
    generalize A k = a at *
    generalize B k = b at *
    have a0 := sq_nn a
    have b0 := sq_nn b
    -- 2 C a b ≤ S b² + Q a²
    have y0 : 0 ≤ S * (b * b) + Q * (a * a) := Int.add_nonneg (Int.mul_nonneg s0 b0) (Int.mul_nonneg q0 a0)
    have d := sq_nn (S * (b * b) - Q * (a * a))
    have e1 : (2 * C * (a * b)) * (2 * C * (a * b)) = 4 * (C * C) * ((a * a) * (b * b)) := by grind
    have e2 : (S * (b * b) + Q * (a * a)) * (S * (b * b) + Q * (a * a)) = (S * (b * b) - Q * (a * a)) * (S * (b * b) - Q * (a * a)) + 4 * (S * Q) * ((a * a) * (b * b)) := by grind
    have h1 : (C * C) * ((a * a) * (b * b)) ≤ (S * Q) * ((a * a) * (b * b)) := Int.mul_le_mul_of_nonneg_right ih (Int.mul_nonneg a0 b0)
    have h2 : 2 * C * (a * b) ≤ S * (b * b) + Q * (a * a) := by
      refine le_of_sq y0 ?_
      rw [e1, e2, Int.mul_assoc 4, Int.mul_assoc 4]
      omega
    have e3 : (C + a * b) * (C + a * b) = C * C + 2 * C * (a * b) + (a * a) * (b * b) := by grind
    have e4 : (S + a * a) * (Q + b * b) = S * Q + (S * (b * b) + Q * (a * a)) + (a * a) * (b * b) := by grind
    rw [e3, e4]
    omega
/-- how far off what is rounded is -/
theorem nrv_off {n d : Int} (d0 : 1 ≤ d) : -d ≤ d * nrv n d - n ∧ d * nrv n d - n ≤ d := by
  have e1 := Int.tmod_add_mul_tdiv n d
  have t1 : n.tmod d < d := Int.tmod_lt_of_pos n (by omega)
  have t0 : -d < n.tmod d := by
    have := Int.tmod_lt_of_pos (-n) (show 0 < d by omega)
    rw [Int.neg_tmod] at this
    omega
  unfold nrv Nea.rd
  generalize n.tdiv d = q at *
  generalize n.tmod d = t at *
  have x1 : d * (q + 1) = d * q + d := by rw [Int.mul_add, Int.mul_one]
  have x2 : d * (q - 1 + 1) = d * q := by rw [show q - 1 + 1 = q by omega]
  have x3 : d * (q - 1) = d * q - d := by rw [Int.mul_sub, Int.mul_one]
  split <;> split <;> omega
theorem nsum_le {A : Nat → Int} {K : Int} (h : ∀ j, A j * A j ≤ K) (n : Nat) : nsum A n ≤ K * (n : Int) := by
  induction n with
  | zero => simp [nsum]
  | succ k ih =>
    show nsum A k + A k * A k ≤ K * ((k + 1 : Nat) : Int)
    have e : K * ((k + 1 : Nat) : Int) = K * (k : Int) + K := by rw [Int.natCast_add, Int.mul_add]; simp
    have := h k
    omega
/-- what is clipped is no longer than told, but for rounding -/
theorem clip_len (n : Nat) (S : Nat → Int) (m v R : Int) (m0 : 0 ≤ m) (c : m < v) (hv : IsRt (nsum S n) v) (hR : IsRt (n : Int) R) : nsum (clp S m v) n < (m + R + 2) * (m + R + 2) := by
  obtain ⟨v0, v1, v2⟩ := hv
  obtain ⟨R0, R1, R2⟩ := hR
  have cl : ∀ j, clp S m v j = nrv (S j * m) v := fun j => by unfold clp; rw [if_pos c]
  -- what is left of each
  obtain ⟨E, hE⟩ : ∃ E : Nat → Int, ∀ j, E j = v * clp S m v j - S j * m := ⟨_, fun _ => rfl⟩
  have eb : ∀ j, E j * E j ≤ v * v := fun j => by
    have h := nrv_off (n := S j * m) (d := v) (by omega)
    rw [← cl j] at h
    have h1 : -v ≤ E j ∧ E j ≤ v := by rw [hE j]; omega
    by_cases q : 0 ≤ E j
    · exact sq_le q h1.2
    · have := sq_le (a := -(E j)) (b := v) (by omega) (by omega)
      rw [Int.neg_mul_neg] at this; exact this
  have sums : ∀ k, v * v * nsum (clp S m v) k = m * m * nsum S k + 2 * m * dsm S E k + nsum E k := fun k => by
    induction k with
    | zero => simp [nsum, dsm]
    | succ k ih =>
      show v * v * (nsum (clp S m v) k + clp S m v k * clp S m v k) = m * m * (nsum S k + S k * S k) + 2 * m * (dsm S E k + S k * E k) + (nsum E k + E k * E k)
      have e := hE k
      generalize clp S m v k = x at *
      generalize nsum (clp S m v) k = X at *
      generalize nsum S k = Y at *
      generalize dsm S E k = Z at *
      generalize nsum E k = W at *
      generalize E k = y at *
      generalize S k = s at *
      subst e
      grind
  have qb : nsum E n ≤ v * v * (n : Int) := nsum_le eb n
  have S0 := nsum_nn S n
  have Q0 := nsum_nn E n
  have C1 := cs S E n
  have key := sums n
  generalize nsum (clp S m v) n = X at *
  generalize nsum S n = Y at *
  generalize nsum E n = Q at *
  generalize dsm S E n = C at *
  clear sums eb hE cl
  have vv : 0 ≤ v * v := sq_nn v
  have q1 : Q ≤ (v * (R + 1)) * (v * (R + 1)) := by
    have h1 : v * v * (n : Int) ≤ v * v * ((R + 1) * (R + 1)) := Int.mul_le_mul_of_nonneg_left (by omega) vv
    have h2 : v * v * ((R + 1) * (R + 1)) = (v * (R + 1)) * (v * (R + 1)) := by grind
    omega
  have y1 : Y ≤ (v + 1) * (v + 1) := by omega
  have g0 : 0 ≤ (v + 1) * (v * (R + 1)) := Int.mul_nonneg (by omega) (Int.mul_nonneg (by omega) (by omega))
  have c1 : C ≤ (v + 1) * (v * (R + 1)) := by
    refine le_of_sq g0 ?_
    have h1 : Y * Q ≤ (v + 1) * (v + 1) * ((v * (R + 1)) * (v * (R + 1))) := Int.mul_le_mul y1 q1 Q0 (sq_nn _)
    have h2 : (v + 1) * (v + 1) * ((v * (R + 1)) * (v * (R + 1))) = (v + 1) * (v * (R + 1)) * ((v + 1) * (v * (R + 1))) := by grind
    omega
  have b1 : m * m * Y ≤ m * m * ((v + 1) * (v + 1)) := Int.mul_le_mul_of_nonneg_left y1 (sq_nn m)
  have b2 : 2 * m * C ≤ 2 * m * ((v + 1) * (v * (R + 1))) := Int.mul_le_mul_of_nonneg_left c1 (by omega)
  have t1 : v * v * X ≤ (m * (v + 1) + v * (R + 1)) * (m * (v + 1) + v * (R + 1)) := by
    have h : (m * (v + 1) + v * (R + 1)) * (m * (v + 1) + v * (R + 1)) = m * m * ((v + 1) * (v + 1)) + 2 * m * ((v + 1) * (v * (R + 1))) + (v * (R + 1)) * (v * (R + 1)) := by grind
    omega
  have lt : m * (v + 1) + v * (R + 1) + 1 ≤ v * (m + R + 2) := by
    have h1 : m * (v + 1) = m * v + m := by rw [Int.mul_add, Int.mul_one]
    have h2 : v * (R + 1) = v * R + v := by rw [Int.mul_add, Int.mul_one]
    have h3 : v * (m + R + 2) = m * v + v * R + 2 * v := by grind
    omega
  have p0 : 0 ≤ m * (v + 1) + v * (R + 1) := Int.add_nonneg (Int.mul_nonneg m0 (by omega)) (Int.mul_nonneg (by omega) (by omega))
  have t2 : (m * (v + 1) + v * (R + 1)) * (m * (v + 1) + v * (R + 1)) < v * (m + R + 2) * (v * (m + R + 2)) := by
    generalize m * (v + 1) + v * (R + 1) = a at *
    generalize v * (m + R + 2) = b at *
    have h1 : a * a ≤ a * b := Int.mul_le_mul_of_nonneg_left (by omega) p0
    have h2 : a * b < b * b := Int.mul_lt_mul_of_pos_right (by omega) (by omega)
    omega
  have t3 : v * (m + R + 2) * (v * (m + R + 2)) = v * v * ((m + R + 2) * (m + R + 2)) := by grind
  have t4 : v * v * X < v * v * ((m + R + 2) * (m + R + 2)) := by omega
  exact Int.lt_of_mul_lt_mul_left t4 vv
end Vo
end Go.Proofs.Ytmcaklmgcfojnaa
