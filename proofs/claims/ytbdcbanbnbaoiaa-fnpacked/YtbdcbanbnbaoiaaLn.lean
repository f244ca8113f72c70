/- Lines along an axis, plain. -/
import Derived.Test.YtbdcbanbnbaoiaaVag
namespace Go.Proofs.Ytbdcbanbnbaoiaa
namespace Vo
open Vl Vp
set_option linter.unusedVariables false

/-- one place of a list turned -/
def up1 (D : Nat → Int) (x : Nat) (c : Int) : Nat → Int := fun t => if t = x then c else D t
theorem up1_at (D : Nat → Int) (x : Nat) (c : Int) : up1 D x c x = c := by unfold up1; simp
theorem up1_ne (D : Nat → Int) {x j : Nat} (c : Int) (h : j ≠ x) : up1 D x c j = D j := by unfold up1; simp [h]
theorem up1_self (D : Nat → Int) (x : Nat) : up1 D x (D x) = D := by funext t; unfold up1; split <;> simp [*]
theorem up1_up1 (D : Nat → Int) (x : Nat) (c d : Int) : up1 (up1 D x c) x d = up1 D x d := by funext t; unfold up1; split <;> rfl
/-- where an index stands in order -/
def od (D I : Nat → Int) : Nat → Int | 0 => 0 | n + 1 => od D I n * D n + I n
theorem od_same {D E I J : Nat → Int} {n : Nat} (h : ∀ j, j < n → D j = E j) (h' : ∀ j, j < n → I j = J j) : od D I n = od E J n := by
  induction n with
  | zero => rfl
  | succ n ih => unfold od; rw [ih (fun j hj => h j (by omega)) (fun j hj => h' j (by omega)), h n (by omega), h' n (by omega)]
theorem dg_succ_lt (D : Nat → Int) (i : Nat) (k : Int) {j : Nat} (hj : j < i) : dg D (i + 1) k j = dg D i (k / D i) j := by
  rw [dg, if_neg (by omega)]
theorem dg_succ_eq (D : Nat → Int) (i : Nat) (k : Int) : dg D (i + 1) k i = k % D i := by
  rw [dg, if_pos rfl]
theorem quo_lt2 {k d P : Int} (hd : 1 ≤ d) (h : k < P * d) : k / d < P := by
  exact (Int.ediv_lt_iff_lt_mul (by omega)).2 h
theorem od_dg (D : Nat → Int) (r : Nat) (h : ∀ j, j < r → 1 ≤ D j) : ∀ k, 0 ≤ k → k < pr D r → od D (dg D r k) r = k := by
  induction r with
  | zero => intro k h0 h1; unfold pr at h1; unfold od; omega
  | succ i ih =>
    intro k h0 h1
    have hd := h i (by omega)
    have hq : 0 ≤ k / D i := Int.ediv_nonneg h0 (by omega)
    have := ih (fun j hj => h j (by omega)) (k / D i) hq (quo_lt2 hd h1)
    unfold od
    rw [od_same (E := D) (J := dg D i (k / D i)) (fun _ _ => rfl) (fun j hj => dg_succ_lt D i k hj), this, dg_succ_eq]
    exact Int.ediv_mul_add_emod k (D i)
theorem od_add (D I : Nat → Int) (a m : Nat) : od D I (a + m) = od D I a * pr (fun t => D (a + t)) m + od (fun t => D (a + t)) (fun t => I (a + t)) m := by
  induction m with
  | zero => simp [pr, od]
  | succ m ih =>
    show od D I (a + m) * D (a + m) + I (a + m) = _
    rw [ih]
    show _ = od D I a * (pr _ m * D (a + m)) + (od _ _ m * D (a + m) + I (a + m))
    rw [Int.add_mul, Int.mul_assoc, Int.add_assoc]
theorem od_rng (D I : Nat → Int) (r : Nat) (h : ∀ j, j < r → 0 ≤ I j ∧ I j < D j) : 0 ≤ od D I r ∧ od D I r < pr D r := by
  induction r with
  | zero => simp [od, pr]
  | succ n ih =>
    obtain ⟨a0, a1⟩ := ih (fun j hj => h j (by omega))
    obtain ⟨b0, b1⟩ := h n (by omega)
    unfold od pr
    constructor
    · have := Int.mul_nonneg a0 (show 0 ≤ D n by omega); omega
    · have : (od D I n + 1) * D n ≤ pr D n * D n := Int.mul_le_mul_of_nonneg_right (by omega) (by omega)
      rw [Int.add_mul] at this
      omega
/-- what lies behind an axis -/
def bhd (D : Nat → Int) (r a : Nat) : Int := pr (fun t => D (a + 1 + t)) (r - (a + 1))
theorem bhd_pos {D : Nat → Int} {r a : Nat} (h : ∀ j, j < r → 1 ≤ D j) : 1 ≤ bhd D r a := pr_pos (fun j hj => h _ (by omega))
theorem bhd_up1 (D : Nat → Int) (r a : Nat) (n : Int) : bhd (up1 D a n) r a = bhd D r a := pr_same (fun j hj => up1_ne D n (by omega))
theorem od_axis (D I : Nat → Int) {r a : Nat} (ha : a < r) : od D I r = (od D I a * D a + I a) * bhd D r a + od (fun t => D (a + 1 + t)) (fun t => I (a + 1 + t)) (r - (a + 1)) := by
  have := od_add D I (a + 1) (r - (a + 1))
  rw [show a + 1 + (r - (a + 1)) = r by omega] at this
  exact this
theorem pr_axis (D : Nat → Int) {r a : Nat} (ha : a < r) : pr D r = pr D a * D a * bhd D r a := by
  have := pr_add D (a + 1) (r - (a + 1))
  rw [show a + 1 + (r - (a + 1)) = r by omega] at this
  exact this
/-- a number parted along an axis: (block, at, rest) of ((block * n + at) * b + rest) -/
theorem part3 {n b x k q : Int} (hb : 1 ≤ b) (hk : 0 ≤ k) (hk2 : k < n) (hq : 0 ≤ q) (hq2 : q < b) :
    ((x * n + k) * b + q) / (n * b) = x ∧ ((x * n + k) * b + q) / b % n = k ∧ ((x * n + k) * b + q) % b = q := by
  have e1 : ((x * n + k) * b + q) / b = x * n + k := by
    rw [Int.add_comm, Int.add_mul_ediv_right _ _ (by omega), Int.ediv_eq_zero_of_lt hq hq2]; omega
  have e2 : (x * n + k) / n = x := by
    rw [Int.add_comm, Int.add_mul_ediv_right _ _ (by omega), Int.ediv_eq_zero_of_lt hk hk2]; omega
  refine ⟨?_, ?_, ?_⟩
  · rw [Int.mul_comm n b, ← Int.ediv_ediv_of_nonneg (by omega), e1, e2]
  · rw [e1, Int.add_comm, Int.add_mul_emod_self_right, Int.emod_eq_of_lt hk hk2]
  · rw [Int.add_comm, Int.add_mul_emod_self_right, Int.emod_eq_of_lt hq hq2]
/-- .. and back -/
theorem part_back (n b j : Int) (hn : 1 ≤ n) (hb : 1 ≤ b) : (j / (n * b) * n + j / b % n) * b + j % b = j := by
  have e : j / (n * b) = j / b / n := by rw [Int.mul_comm n b, ← Int.ediv_ediv_of_nonneg (by omega)]
  have h1 : j / b / n * n + j / b % n = j / b := Int.ediv_mul_add_emod _ _
  rw [e, h1]
  exact Int.ediv_mul_add_emod _ _
/-- an index with another number at the axis, in a list of dims with another length there -/
def mv (l b n : Int) (x : Int) (j : Int) : Int := (j / (n * b) * l + x) * b + j % b
theorem od_moved {D : Nat → Int} {r a : Nat} (ha : a < r) (h : ∀ j, j < r → 1 ≤ D j) (l x k : Int) (k0 : 0 ≤ k) (k1 : k < pr D r) :
    od (up1 D a l) (up1 (dg D r k) a x) r = mv l (bhd D r a) (D a) x k := by
  have hb := bhd_pos (a := a) h
  have e := od_dg D r h k k0 k1
  have hg := dg_rng D r h k
  rw [od_axis D _ ha] at e
  have t := od_rng (fun t => D (a + 1 + t)) (fun t => dg D r k (a + 1 + t)) (r - (a + 1)) (fun j hj => hg _ (by omega))
  obtain ⟨g0, g1⟩ := hg a ha
  have p := part3 (n := D a) (b := bhd D r a) (x := od D (dg D r k) a) (k := dg D r k a) hb g0 g1 t.1 t.2
  rw [e] at p
  rw [od_axis (up1 D a l) _ ha, bhd_up1, up1_at, up1_at,
    od_same (E := D) (J := dg D r k) (n := a) (fun j hj => up1_ne D l (by omega)) (fun j hj => up1_ne _ x (by omega)),
    od_same (E := fun t => D (a + 1 + t)) (J := fun t => dg D r k (a + 1 + t)) (n := r - (a + 1)) (fun j hj => up1_ne D l (by omega)) (fun j hj => up1_ne _ x (by omega))]
  unfold mv
  rw [p.1, p.2.2]
theorem dg_axis {D : Nat → Int} {r a : Nat} (ha : a < r) (h : ∀ j, j < r → 1 ≤ D j) (k : Int) (k0 : 0 ≤ k) (k1 : k < pr D r) :
    dg D r k a = k / bhd D r a % D a := by
  have hb := bhd_pos (a := a) h
  have e := od_dg D r h k k0 k1
  have hg := dg_rng D r h k
  rw [od_axis D _ ha] at e
  have t := od_rng (fun t => D (a + 1 + t)) (fun t => dg D r k (a + 1 + t)) (r - (a + 1)) (fun j hj => hg _ (by omega))
  obtain ⟨g0, g1⟩ := hg a ha
  have p := part3 (n := D a) (b := bhd D r a) (x := od D (dg D r k) a) (k := dg D r k a) hb g0 g1 t.1 t.2
  rw [e] at p
  exact p.2.1.symm
/-- where it lies: within -/
theorem mv_rng {l b n x j A : Int} (hb : 1 ≤ b) (hn : 1 ≤ n) (hx : 0 ≤ x) (hx2 : x < l) (hj : 0 ≤ j) (hj2 : j < A * n * b) : 0 ≤ mv l b n x j ∧ mv l b n x j < A * l * b := by
  have nb : 1 ≤ n * b := by have := Int.mul_le_mul hn hb (by omega) (by omega); omega
  have q0 : 0 ≤ j / (n * b) := Int.ediv_nonneg hj (by omega)
  have q1 : j / (n * b) < A := quo_lt2 nb (by rw [← Int.mul_assoc]; exact hj2)
  have m0 := Int.emod_nonneg j (show b ≠ 0 by omega)
  have m1 := Int.emod_lt_of_pos j (show 0 < b by omega)
  unfold mv
  generalize j / (n * b) = q at *
  generalize j % b = m at *
  have t0 : 0 ≤ q * l := Int.mul_nonneg q0 (by omega)
  have t1 : (q + 1) * l ≤ A * l := Int.mul_le_mul_of_nonneg_right (by omega) (by omega)
  rw [Int.add_mul] at t1
  have t2 : 0 ≤ (q * l + x) * b := Int.mul_nonneg (by omega) (by omega)
  have t3 : (q * l + x + 1) * b ≤ A * l * b := Int.mul_le_mul_of_nonneg_right (by omega) (by omega)
  rw [Int.add_mul (q * l + x)] at t3
  omega
/-- the number of the line that j lies in -/
def lnb (b n j : Int) : Int := j / (n * b) * b + j % b
theorem lnb_parts {b n j : Int} (hb : 1 ≤ b) : lnb b n j / b = j / (n * b) ∧ lnb b n j % b = j % b := by
  have m0 := Int.emod_nonneg j (show b ≠ 0 by omega)
  have m1 := Int.emod_lt_of_pos j (show 0 < b by omega)
  unfold lnb
  constructor
  · rw [Int.add_comm, Int.add_mul_ediv_right _ _ (by omega), Int.ediv_eq_zero_of_lt m0 m1]; omega
  · rw [Int.add_comm, Int.add_mul_emod_self_right, Int.emod_eq_of_lt m0 m1]
/-- which place of what comes out belongs to line m at k -/
theorem line_at {b n m k j : Int} (hb : 1 ≤ b) (hn : 1 ≤ n) (hk : 0 ≤ k) (hk2 : k < n) : j = (m / b * n + k) * b + m % b ↔ lnb b n j = m ∧ j / b % n = k := by
  have m0 := Int.emod_nonneg m (show b ≠ 0 by omega)
  have m1 := Int.emod_lt_of_pos m (show 0 < b by omega)
  constructor
  · rintro rfl
    obtain ⟨p1, p2, p3⟩ := part3 (x := m / b) (n := n) hb hk hk2 m0 m1
    refine ⟨?_, p2⟩
    unfold lnb
    rw [p1, p3]
    exact Int.ediv_mul_add_emod _ _
  · rintro ⟨rfl, rfl⟩
    have := lnb_parts (n := n) (j := j) hb
    rw [this.1, this.2]
    exact (part_back n b j hn hb).symm
theorem lnb_rng {b n j A : Int} (hb : 1 ≤ b) (hn : 1 ≤ n) (hj : 0 ≤ j) (hj2 : j < A * n * b) : 0 ≤ lnb b n j ∧ lnb b n j < A * b := by
  have := mv_rng (l := 1) (x := 0) hb hn (by omega) (by omega) hj hj2
  unfold mv at this
  unfold lnb
  simpa using this
end Vo
end Go.Proofs.Ytbdcbanbnbaoiaa
