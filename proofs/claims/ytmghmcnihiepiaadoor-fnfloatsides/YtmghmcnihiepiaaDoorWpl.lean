/- Sums of five words, plain: carries, borrows, a float as words, the 64 bits from the highest on. -/
import Derived.Test.YtmghmcnihiepiaaDoorRnd
import Derived.Test.YtmghmcnihiepiaaDoorFlo
namespace Go.Proofs.YtmghmcnihiepiaaDoor
namespace Wid
open Rnd
set_option linter.unusedVariables false
/-- what words are worth, the lowest first -/
def val (X : Nat → Nat) : Nat → Nat
  | 0 => 0
  | k + 1 => val X k + X k * 2 ^ (64 * k)
theorem val5 (X : Nat → Nat) : val X 5 = X 0 + X 1 * 18446744073709551616 + X 2 * 340282366920938463463374607431768211456 + X 3 * 6277101735386680763835789423207666416102355444464034512896 + X 4 * 115792089237316195423570985008687907853269984665640564039457584007913129639936 := by
  simp [val]
theorem val5_lt (X : Nat → Nat) (hX : ∀ t, X t < 2 ^ 64) : val X 5 < 2135987035920910082395021706169552114602704522356652769947041607822219725780640550022962086936576 := by
  have h0 := hX 0
  have h1 := hX 1
  have h2 := hX 2
  have h3 := hX 3
  have h4 := hX 4
  rw [val5]
  omega
theorem val_lt (X : Nat → Nat) (hX : ∀ t, X t < 2 ^ 64) (k : Nat) : val X k < 2 ^ (64 * k) := by
  induction k with
  | zero => simp [val]
  | succ k ih =>
    have h1 := hX k
    have h2 : X k * 2 ^ (64 * k) + 2 ^ (64 * k) ≤ 2 ^ 64 * 2 ^ (64 * k) := by
      rw [← Nat.succ_mul]; exact Nat.mul_le_mul_right _ h1
    have h3 : 2 ^ (64 * (k + 1)) = 2 ^ 64 * 2 ^ (64 * k) := by rw [← Nat.pow_add]; congr 1; omega
    rw [h3]
    show val X k + X k * 2 ^ (64 * k) < _
    omega
theorem val_zero (X : Nat → Nat) (k : Nat) : val X k = 0 ↔ ∀ s, s < k → X s = 0 := by
  induction k with
  | zero => simp [val]
  | succ k ih =>
    show val X k + X k * 2 ^ (64 * k) = 0 ↔ _
    have hp : 0 < 2 ^ (64 * k) := Nat.two_pow_pos _
    constructor
    · intro h s hs
      have h1 : val X k = 0 := by omega
      have h2 : X k * 2 ^ (64 * k) = 0 := by omega
      rcases Nat.lt_or_ge s k with c | c
      · exact ih.1 h1 s c
      · obtain rfl : s = k := by omega
        rcases Nat.mul_eq_zero.1 h2 with h | h
        · exact h
        · omega
    · intro h
      rw [ih.2 (fun s hs => h s (by omega)), h k (by omega)]; simp
theorem val_top (X : Nat → Nat) (t k : Nat) (ht : t < k) (h : ∀ s, t < s → s < k → X s = 0) : val X k = val X t + X t * 2 ^ (64 * t) := by
  induction k with
  | zero => omega
  | succ k ih =>
    rcases Nat.lt_or_ge t k with c | c
    · show val X k + X k * 2 ^ (64 * k) = _
      rw [ih c (fun s h1 h2 => h s h1 (by omega)), h k c (by omega)]; simp
    · obtain rfl : t = k := by omega
      rfl
/-- the highest word that is not 0, of those below j -/
def topF (X : Nat → Nat) : Nat → Nat
  | 0 => 0
  | j + 1 => if X j = 0 then topF X j else j
theorem topF_lt (X : Nat → Nat) (j : Nat) : topF X (j + 1) ≤ j := by
  induction j with
  | zero => simp [topF]
  | succ j ih =>
    show (if X (j + 1) = 0 then topF X (j + 1) else j + 1) ≤ _
    split <;> omega
theorem topF_above (X : Nat → Nat) (j s : Nat) (h1 : topF X j < s) (h2 : s < j) : X s = 0 := by
  induction j with
  | zero => omega
  | succ j ih =>
    by_cases c : X j = 0
    · rw [show topF X (j + 1) = topF X j by show (if X j = 0 then topF X j else j) = _; rw [if_pos c]] at h1
      rcases Nat.lt_or_ge s j with c2 | c2
      · exact ih h1 c2
      · obtain rfl : s = j := by omega
        exact c
    · rw [show topF X (j + 1) = j by show (if X j = 0 then topF X j else j) = _; rw [if_neg c]] at h1
      omega
theorem topF_at (X : Nat → Nat) (j : Nat) : X (topF X j) ≠ 0 ∨ ∀ s, s < j → X s = 0 := by
  induction j with
  | zero => exact .inr (fun s hs => by omega)
  | succ j ih =>
    by_cases c : X j = 0
    · rw [show topF X (j + 1) = topF X j by show (if X j = 0 then topF X j else j) = _; rw [if_pos c]]
      rcases ih with h | h
      · exact .inl h
      · refine .inr (fun s hs => ?_)
        rcases Nat.lt_or_ge s j with c2 | c2
        · exact h s c2
        · obtain rfl : s = j := by omega
          exact c
    · rw [show topF X (j + 1) = j by show (if X j = 0 then topF X j else j) = _; rw [if_neg c]]
      exact .inl c
/-- what lies below, joined -/
def orF (X : Nat → Nat) (g t : Nat) : Nat → Nat
  | 0 => 0
  | j + 1 => orF X g t j ||| (if j + 1 = t then X j * 2 ^ g % 18446744073709551616 else X j)
theorem or_zero (a b : Nat) : a ||| b = 0 ↔ a = 0 ∧ b = 0 := by
  constructor
  · intro h
    constructor
    · apply Nat.eq_of_testBit_eq; intro i
      have := congrArg (fun z => Nat.testBit z i) h
      simp at this; simp [this]
    · apply Nat.eq_of_testBit_eq; intro i
      have := congrArg (fun z => Nat.testBit z i) h
      simp at this; simp [this]
  · rintro ⟨rfl, rfl⟩; rfl
theorem orF_zero (X : Nat → Nat) (g t j : Nat) : orF X g t j = 0 ↔ ∀ s, s < j → (if s + 1 = t then X s * 2 ^ g % 18446744073709551616 else X s) = 0 := by
  induction j with
  | zero => simp [orF]
  | succ j ih =>
    show orF X g t j ||| _ = 0 ↔ _
    rw [or_zero, ih]
    constructor
    · rintro ⟨h1, h2⟩ s hs
      rcases Nat.lt_or_ge s j with c | c
      · exact h1 s c
      · obtain rfl : s = j := by omega
        exact h2
    · intro h
      exact ⟨fun s hs => h s (by omega), h j (by omega)⟩
theorem orF_lt (X : Nat → Nat) (hX : ∀ t, X t < 2 ^ 64) (g t j : Nat) : orF X g t j < 2 ^ 64 := by
  induction j with
  | zero => simp [orF]
  | succ j ih =>
    refine Nat.or_lt_two_pow ih ?_
    split
    · exact Nat.mod_lt _ (by decide)
    · exact hX j
theorem or_join (a b g : Nat) (h : b < 2 ^ g) : a * 2 ^ g ||| b = a * 2 ^ g + b := by
  rw [Nat.mul_comm, Nat.two_pow_add_eq_or_of_lt h]
/-- the quotient and the rest of what lies below the highest word -/
theorem low_div (y low2 g u : Nat) (hy : y < 2 ^ 64) (hl : low2 < 2 ^ (64 * u)) (hg : g ≤ 63) :
    (low2 + y * 2 ^ (64 * u)) * 2 ^ g / 2 ^ (64 * (u + 1)) = y / 2 ^ (64 - g) ∧ ((low2 + y * 2 ^ (64 * u)) * 2 ^ g % 2 ^ (64 * (u + 1)) = 0 ↔ y * 2 ^ g % 18446744073709551616 = 0 ∧ low2 = 0) := by
  have hP : 2 ^ (64 * (u + 1)) = 2 ^ 64 * 2 ^ (64 * u) := by rw [← Nat.pow_add, show 64 + 64 * u = 64 * (u + 1) by omega]
  have hQ : 0 < 2 ^ (64 * u) := Nat.two_pow_pos _
  have hG : 0 < 2 ^ g := Nat.two_pow_pos _
  have h64 : 2 ^ 64 = 2 ^ (64 - g) * 2 ^ g := by rw [← Nat.pow_add, show 64 - g + g = 64 by omega]
  have e64 : (18446744073709551616 : Nat) = 2 ^ 64 := by decide
  rw [hP, e64]
  generalize 2 ^ (64 * u) = Q at *
  clear e64 hP
  revert hy h64
  generalize 2 ^ 64 = N
  intro hy h64
  have hy1 : y * 2 ^ g / N = y / 2 ^ (64 - g) := by
    rw [h64]; exact Nat.mul_div_mul_right _ _ hG
  have hy0 : y * 2 ^ g % N = y % 2 ^ (64 - g) * 2 ^ g := by
    rw [h64]; exact Nat.mul_mod_mul_right _ _ _
  have hb : y % 2 ^ (64 - g) + 1 ≤ 2 ^ (64 - g) := Nat.mod_lt _ (Nat.two_pow_pos _)
  have hb2 : y * 2 ^ g % N + 2 ^ g ≤ N := by
    rw [hy0, h64, ← Nat.succ_mul]; exact Nat.mul_le_mul_right _ hb
  have hdm := Nat.div_add_mod (y * 2 ^ g) (N)
  rw [hy1] at hdm
  generalize y / 2 ^ (64 - g) = Y1 at *
  generalize y * 2 ^ g % N = Y0 at *
  have hl2 : low2 * 2 ^ g + 2 ^ g ≤ Q * 2 ^ g := by rw [← Nat.succ_mul]; exact Nat.mul_le_mul_right _ hl
  have e1 : (low2 + y * Q) * 2 ^ g = (Y0 * Q + low2 * 2 ^ g) + N * Q * Y1 := by
    rw [Nat.add_mul, Nat.mul_right_comm y Q, ← hdm, Nat.add_mul, Nat.mul_right_comm (N) Y1 Q]; omega
  have e2 : Y0 * Q + low2 * 2 ^ g < N * Q := by
    have h1 : (Y0 + 2 ^ g) * Q ≤ N * Q := Nat.mul_le_mul_right _ hb2
    rw [Nat.add_mul, Nat.mul_comm (2 ^ g) Q] at h1
    omega
  rw [e1, Nat.add_mul_div_left _ _ (by omega), Nat.div_eq_of_lt e2, Nat.add_mul_mod_self_left, Nat.mod_eq_of_lt e2]
  refine ⟨by omega, ?_⟩
  constructor
  · intro h
    have h1 : Y0 * Q = 0 := by omega
    have h2 : low2 * 2 ^ g = 0 := by omega
    rcases Nat.mul_eq_zero.1 h1 with h3 | h3
    · rcases Nat.mul_eq_zero.1 h2 with h4 | h4
      · exact ⟨h3, h4⟩
      · omega
    · omega
  · rintro ⟨rfl, rfl⟩; simp
/-- the bits from the highest on, as the program joins them -/
def hiF (X : Nat → Nat) (g t : Nat) (j : Nat) : Nat := if j ≠ 0 ∧ j = t then X t * 2 ^ g ||| X (j - 1) / 2 ^ (64 - g) else X t * 2 ^ g
def leadM (X : Nat → Nat) (g t : Nat) : Nat := if orF X g t t = 0 then hiF X g t t else 2 * (hiF X g t t / 2) + 1
theorem lead_is (X : Nat → Nat) (hX : ∀ t, X t < 2 ^ 64) (t g V : Nat) (ht : t < 5) (hz : ∀ s, t < s → s < 5 → X s = 0) (hn : X t ≠ 0) (hg : g = 64 - bl (X t)) (hV : val X 5 = V) :
    bl V = 64 * t + bl (X t) ∧ X t * 2 ^ g < 2 ^ 64 ∧ bl (X t) ≤ 64 ∧ 1 ≤ bl (X t) ∧ hiF X g t t < 2 ^ 64 ∧ leadM X g t < 2 ^ 64 ∧ leadM X g t ≠ 0 ∧
    ((leadM X g t = V * 2 ^ 64 / (1 * 2 ^ bl V) ∧ V * 2 ^ 64 % (1 * 2 ^ bl V) = 0) ∨ (leadM X g t = 2 * (V * 2 ^ 64 / (1 * 2 ^ bl V) / 2) + 1 ∧ V * 2 ^ 64 % (1 * 2 ^ bl V) ≠ 0 ∧ 26 ≤ bl (V * 2 ^ 64 / (1 * 2 ^ bl V)))) := by
  have hv := val_top X t 5 ht hz
  rw [hV] at hv
  have hlow := val_lt X hX t
  have b1 : bl (X t) ≤ 64 := bl_le_of _ _ (hX t)
  have b0 : 1 ≤ bl (X t) := bl_pos _ hn
  have hlt := bl_lt (X t)
  have hle := bl_le (X t) hn
  have hP : 0 < 2 ^ (64 * t) := Nat.two_pow_pos _
  have hbV : bl V = 64 * t + bl (X t) := by
    refine bl_eq V _ (by omega) ?_ ?_
    · rw [show 64 * t + bl (X t) - 1 = (bl (X t) - 1) + 64 * t by omega, Nat.pow_add]
      have := Nat.mul_le_mul_right (2 ^ (64 * t)) hle
      omega
    · rw [Nat.add_comm, Nat.pow_add]
      have h1 : (X t + 1) * 2 ^ (64 * t) ≤ 2 ^ bl (X t) * 2 ^ (64 * t) := Nat.mul_le_mul_right _ hlt
      rw [Nat.add_mul, Nat.one_mul] at h1
      omega
  have hgb : g + bl (X t) = 64 := by omega
  have h64 : 2 ^ 64 = 2 ^ g * 2 ^ bl (X t) := by rw [← Nat.pow_add, hgb]
  have hi64 : X t * 2 ^ g < 2 ^ 64 := by
    rw [h64, Nat.mul_comm (2 ^ g)]
    exact Nat.mul_lt_mul_of_pos_right hlt (Nat.two_pow_pos _)
  have hi63 : 2 ^ 63 ≤ X t * 2 ^ g := by
    have := Nat.mul_le_mul_right (2 ^ g) hle
    rw [← Nat.pow_add, show bl (X t) - 1 + g = 63 by omega] at this
    exact this
  have hB : 0 < 2 ^ bl (X t) := Nat.two_pow_pos _
  have q1 : V * 2 ^ 64 / (1 * 2 ^ bl V) = V * 2 ^ g / 2 ^ (64 * t) := by
    rw [hbV, Nat.one_mul, Nat.pow_add, h64, ← Nat.mul_assoc]
    exact Nat.mul_div_mul_right _ _ hB
  have q2 : V * 2 ^ 64 % (1 * 2 ^ bl V) = V * 2 ^ g % 2 ^ (64 * t) * 2 ^ bl (X t) := by
    rw [hbV, Nat.one_mul, Nat.pow_add, h64, ← Nat.mul_assoc]
    exact Nat.mul_mod_mul_right _ _ _
  have e1 : V * 2 ^ g = val X t * 2 ^ g + 2 ^ (64 * t) * (X t * 2 ^ g) := by
    rw [hv, Nat.add_mul, Nat.mul_right_comm, Nat.mul_comm (X t * 2 ^ g)]
  have q3 : V * 2 ^ g / 2 ^ (64 * t) = val X t * 2 ^ g / 2 ^ (64 * t) + X t * 2 ^ g := by
    rw [e1, Nat.add_mul_div_left _ _ hP]
  have q4 : V * 2 ^ g % 2 ^ (64 * t) = val X t * 2 ^ g % 2 ^ (64 * t) := by
    rw [e1, Nat.add_mul_mod_self_left]
  have key : V * 2 ^ g / 2 ^ (64 * t) = hiF X g t t ∧ (V * 2 ^ g % 2 ^ (64 * t) = 0 ↔ orF X g t t = 0) ∧ hiF X g t t < 2 ^ 64 := by
    rw [q3, q4]
    rcases Nat.eq_zero_or_pos t with c | c
    · subst c
      simp [hiF, val, orF]
      simpa using hi64
    · obtain ⟨u, rfl⟩ : ∃ u, t = u + 1 := ⟨t - 1, by omega⟩
      have hu := val_lt X hX u
      obtain ⟨d1, d2⟩ := low_div (X u) (val X u) g u (hX u) hu (by omega)
      have ev : val X (u + 1) = val X u + X u * 2 ^ (64 * u) := rfl
      rw [ev, d1, d2]
      have hY : X u / 2 ^ (64 - g) < 2 ^ g := by
        rw [Nat.div_lt_iff_lt_mul (Nat.two_pow_pos _), ← Nat.pow_add, show g + (64 - g) = 64 by omega]; exact hX u
      have eh : hiF X g (u + 1) (u + 1) = X (u + 1) * 2 ^ g + X u / 2 ^ (64 - g) := by
        unfold hiF
        rw [if_pos ⟨by omega, rfl⟩]
        exact or_join _ _ _ hY
      refine ⟨by rw [eh]; omega, ?_, ?_⟩
      · rw [orF_zero, val_zero]
        constructor
        · rintro ⟨h1, h2⟩ s hs
          by_cases c2 : s = u
          · subst c2; rw [if_pos rfl]; exact h1
          · rw [if_neg (by omega)]; exact h2 s (by omega)
        · intro h
          refine ⟨?_, fun s hs => ?_⟩
          · have := h u (by omega); rw [if_pos rfl] at this; exact this
          · have := h s (by omega); rw [if_neg (by omega)] at this; exact this
      · unfold hiF
        rw [if_pos ⟨by omega, rfl⟩]
        refine Nat.or_lt_two_pow hi64 ?_
        exact Nat.lt_of_lt_of_le hY (Nat.pow_le_pow_right (by omega) (by omega))
  obtain ⟨k1, k2, k3⟩ := key
  have hge : 2 ^ 63 ≤ hiF X g t t := by rw [← k1, q3]; exact Nat.le_trans hi63 (Nat.le_add_left _ _)
  refine ⟨hbV, hi64, b1, b0, k3, ?_, ?_, ?_⟩
  · unfold leadM; split
    · exact k3
    · omega
  · unfold leadM; split
    · omega
    · omega
  · rw [q1, q2, k1]
    by_cases c : orF X g t t = 0
    · refine .inl ⟨by unfold leadM; rw [if_pos c], ?_⟩
      rw [k2.2 c]; simp
    · refine .inr ⟨by unfold leadM; rw [if_neg c], ?_, ?_⟩
      · intro h
        rcases Nat.mul_eq_zero.1 h with h | h
        · exact c (k2.1 h)
        · omega
      · have := le_bl_of _ 63 hge; omega

/-- sums with their carries -/
def cK (A B : Nat → Nat) : Nat → Nat
  | 0 => 0
  | t + 1 => (A t + B t + cK A B t) / 18446744073709551616
def cS (A B : Nat → Nat) (t : Nat) : Nat := (A t + B t + cK A B t) % 18446744073709551616
theorem cK_le (A B : Nat → Nat) (hA : ∀ t, A t < 2 ^ 64) (hB : ∀ t, B t < 2 ^ 64) (t : Nat) : cK A B t ≤ 1 := by
  induction t with
  | zero => simp [cK]
  | succ t ih =>
    have h1 := hA t
    have h2 := hB t
    show (A t + B t + cK A B t) / 18446744073709551616 ≤ 1
    omega
theorem val_plus (A B : Nat → Nat) (hA : ∀ t, A t < 2 ^ 64) (hB : ∀ t, B t < 2 ^ 64) : val (cS A B) 5 = (val A 5 + val B 5) % 2135987035920910082395021706169552114602704522356652769947041607822219725780640550022962086936576 := by
  have s0 : cS A B 0 + 18446744073709551616 * cK A B 1 = A 0 + B 0 := by
    show (A 0 + B 0 + 0) % 18446744073709551616 + 18446744073709551616 * ((A 0 + B 0 + 0) / 18446744073709551616) = _; omega
  have st : ∀ t, cS A B t + 18446744073709551616 * cK A B (t + 1) = A t + B t + cK A B t := fun t => by
    show (A t + B t + cK A B t) % 18446744073709551616 + 18446744073709551616 * ((A t + B t + cK A B t) / 18446744073709551616) = _; omega
  have s1 := st 1
  have s2 := st 2
  have s3 := st 3
  have s4 := st 4
  have hl := val5_lt (cS A B) (fun t => Nat.mod_lt _ (by decide))
  have hk := cK_le A B hA hB 5
  rw [val5, val5, val5] at *
  simp only [Nat.reduceAdd, Nat.reducePow] at *
  omega
def bK (A B : Nat → Nat) : Nat → Nat
  | 0 => 0
  | t + 1 => if A t < B t + bK A B t then 1 else 0
def bS (A B : Nat → Nat) (t : Nat) : Nat := (A t + 18446744073709551616 - B t - bK A B t) % 18446744073709551616
theorem bK_le (A B : Nat → Nat) (t : Nat) : bK A B t ≤ 1 := by
  cases t with
  | zero => simp [bK]
  | succ t => show (if A t < B t + bK A B t then 1 else 0) ≤ 1; split <;> omega
theorem val_minus (A B : Nat → Nat) (hA : ∀ t, A t < 2 ^ 64) (hB : ∀ t, B t < 2 ^ 64) : val (bS A B) 5 = (val A 5 + 2135987035920910082395021706169552114602704522356652769947041607822219725780640550022962086936576 - val B 5) % 2135987035920910082395021706169552114602704522356652769947041607822219725780640550022962086936576 := by
  have st : ∀ t, bS A B t + B t + bK A B t = A t + 18446744073709551616 * bK A B (t + 1) := fun t => by
    have h1 := hA t
    have h2 := hB t
    have h3 := bK_le A B t
    show (A t + 18446744073709551616 - B t - bK A B t) % 18446744073709551616 + B t + bK A B t = A t + 18446744073709551616 * (if A t < B t + bK A B t then 1 else 0)
    split <;> omega
  have s0 : bS A B 0 + B 0 + 0 = A 0 + 18446744073709551616 * bK A B 1 := st 0
  have s1 := st 1
  have s2 := st 2
  have s3 := st 3
  have s4 := st 4
  have hl := val5_lt (bS A B) (fun t => Nat.mod_lt _ (by decide))
  have hlB := val5_lt B hB
  have hlA := val5_lt A hA
  have hk := bK_le A B 5
  rw [val5, val5, val5] at *
  simp only [Nat.reduceAdd, Nat.reducePow] at *
  omega
/-- a float's words -/
def wX (m p : Nat) (t : Nat) : Nat := if t = p / 64 + 1 then m / 2 ^ (64 - p % 64) else if t = p / 64 then m * 2 ^ (p % 64) % 18446744073709551616 else 0
theorem wX_lt (m p : Nat) (hm : m < 16777216) (t : Nat) : wX m p t < 2 ^ 64 := by
  unfold wX
  split
  · have := Nat.div_le_self m (2 ^ (64 - p % 64)); omega
  · split
    · exact Nat.mod_lt _ (by decide)
    · decide
theorem split64 (m r N : Nat) (hr : r ≤ 64) (hN : N = 2 ^ 64) : m / 2 ^ (64 - r) = m * 2 ^ r / N := by
  have h : N = 2 ^ (64 - r) * 2 ^ r := by rw [hN, ← Nat.pow_add, show 64 - r + r = 64 by omega]
  rw [h]
  exact (Nat.mul_div_mul_right _ _ (Nat.two_pow_pos _)).symm
theorem val_wX (m p : Nat) (hp : p < 256) : val (wX m p) 5 = m * 2 ^ p := by
  have h1 : m * 2 ^ (p % 64) % 18446744073709551616 + 18446744073709551616 * (m / 2 ^ (64 - p % 64)) = m * 2 ^ (p % 64) := by
    have e := split64 m (p % 64) 18446744073709551616 (by omega) (by decide)
    rw [e]; omega
  have h2 : 2 ^ p = 2 ^ (64 * (p / 64)) * 2 ^ (p % 64) := by rw [← Nat.pow_add, show 64 * (p / 64) + p % 64 = p by omega]
  have h3 : m * 2 ^ p = m * 2 ^ (p % 64) * 2 ^ (64 * (p / 64)) := by rw [h2, Nat.mul_comm (2 ^ (64 * (p / 64))), Nat.mul_assoc]
  have z1 : val (wX m p) (p / 64) = 0 := (val_zero _ _).2 (fun s hs => by unfold wX; rw [if_neg (by omega), if_neg (by omega)])
  have z2 := val_top (wX m p) (p / 64 + 1) 5 (by omega) (fun s h1 h2 => by unfold wX; rw [if_neg (by omega), if_neg (by omega)])
  have z3 : val (wX m p) (p / 64 + 1) = val (wX m p) (p / 64) + wX m p (p / 64) * 2 ^ (64 * (p / 64)) := rfl
  have x1 : wX m p (p / 64 + 1) = m / 2 ^ (64 - p % 64) := by unfold wX; rw [if_pos rfl]
  have x0 : wX m p (p / 64) = m * 2 ^ (p % 64) % 18446744073709551616 := by unfold wX; rw [if_neg (by omega), if_pos rfl]
  have hP : 2 ^ (64 * (p / 64 + 1)) = 18446744073709551616 * 2 ^ (64 * (p / 64)) := by
    rw [show 64 * (p / 64 + 1) = 64 + 64 * (p / 64) by omega, Nat.pow_add]
  rw [z2, z3, z1, x1, x0, h3, hP]
  generalize 2 ^ (64 * (p / 64)) = Q at *
  clear h2 h3 x0 z2 z3 hP
  generalize m * 2 ^ (p % 64) % 18446744073709551616 = A at *
  generalize m * 2 ^ (p % 64) = Z at *
  rw [← h1, Nat.add_mul, Nat.zero_add, ← Nat.mul_assoc, Nat.mul_comm (m / 2 ^ (64 - p % 64)) 18446744073709551616]
end Wid
end Go.Proofs.YtmghmcnihiepiaaDoor
