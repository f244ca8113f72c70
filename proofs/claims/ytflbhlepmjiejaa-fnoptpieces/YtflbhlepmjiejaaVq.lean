/- Views, plain: the place of an index, the least and the greatest place, what a view is. -/
import Derived.Test.YtflbhlepmjiejaaVp
namespace Go.Proofs.Ytflbhlepmjiejaa
namespace Vp

/-- how far the k-th index lies from the first place -/
def rel (D S : Nat → Int) : Nat → Int → Int | 0, _ => 0 | i + 1, k => (k % D i) * S i + rel D S i (k / D i)
/-- the ints of the k-th index -/
def dg (D : Nat → Int) : Nat → Int → Nat → Int | 0, _, _ => 0 | i + 1, k, j => if j = i then k % D i else dg D i (k / D i) j
def sm (I S : Nat → Int) : Nat → Int | 0 => 0 | n + 1 => sm I S n + I n * S n
def lo (D S : Nat → Int) : Nat → Int | 0 => 0 | n + 1 => lo D S n + min ((D n - 1) * S n) 0
def hi (D S : Nat → Int) : Nat → Int | 0 => 0 | n + 1 => hi D S n + max ((D n - 1) * S n) 0
theorem sm_same {I J S T : Nat → Int} {n : Nat} (h : ∀ j, j < n → I j = J j) (h' : ∀ j, j < n → S j = T j) : sm I S n = sm J T n := by
  induction n with
  | zero => rfl
  | succ n ih => simp only [sm]; rw [ih (fun j hj => h j (by omega)) (fun j hj => h' j (by omega)), h n (by omega), h' n (by omega)]
theorem rel_same {D E S T : Nat → Int} {n : Nat} (h : ∀ j, j < n → D j = E j) (h' : ∀ j, j < n → S j = T j) : ∀ k, rel D S n k = rel E T n k := by
  induction n with
  | zero => intro k; rfl
  | succ n ih => intro k; simp only [rel]; rw [ih (fun j hj => h j (by omega)) (fun j hj => h' j (by omega)), h n (by omega), h' n (by omega)]
theorem lo_same {D E S T : Nat → Int} {n : Nat} (h : ∀ j, j < n → D j = E j) (h' : ∀ j, j < n → S j = T j) : lo D S n = lo E T n := by
  induction n with
  | zero => rfl
  | succ n ih => simp only [lo]; rw [ih (fun j hj => h j (by omega)) (fun j hj => h' j (by omega)), h n (by omega), h' n (by omega)]
theorem hi_same {D E S T : Nat → Int} {n : Nat} (h : ∀ j, j < n → D j = E j) (h' : ∀ j, j < n → S j = T j) : hi D S n = hi E T n := by
  induction n with
  | zero => rfl
  | succ n ih => simp only [hi]; rw [ih (fun j hj => h j (by omega)) (fun j hj => h' j (by omega)), h n (by omega), h' n (by omega)]
theorem sm_dg (D S : Nat → Int) (r : Nat) : ∀ k, sm (dg D r k) S r = rel D S r k := by
  induction r with
  | zero => intro k; rfl
  | succ r ih =>
    intro k
    simp only [sm, rel]
    rw [← ih (k / D r), sm_same (I := dg D (r + 1) k) (J := dg D r (k / D r)) (T := S) (fun j hj => by simp only [dg]; rw [if_neg (by omega)]) (fun _ _ => rfl)]
    simp only [dg, if_true]
    omega
theorem dg_rng (D : Nat → Int) (r : Nat) (h : ∀ j, j < r → 1 ≤ D j) : ∀ k j, j < r → 0 ≤ dg D r k j ∧ dg D r k j < D j := by
  induction r with
  | zero => intro k j hj; omega
  | succ r ih =>
    intro k j hj
    simp only [dg]
    by_cases e : j = r
    · subst e
      rw [if_pos rfl]
      have := h j (by omega)
      exact ⟨Int.emod_nonneg _ (by omega), Int.emod_lt_of_pos _ (by omega)⟩
    · rw [if_neg e]
      exact ih (fun i hi => h i (by omega)) _ j (by omega)
/-- one axis: between 0 and the last int -/
theorem step_bd {d n s : Int} (h0 : 0 ≤ d) (h1 : d ≤ n) : min (n * s) 0 ≤ d * s ∧ d * s ≤ max (n * s) 0 := by
  rcases Int.le_total 0 s with hs | hs
  · have a := Int.mul_nonneg h0 hs
    have b := Int.mul_le_mul_of_nonneg_right h1 hs
    generalize d * s = x at *
    generalize n * s = y at *
    omega
  · have a : d * s ≤ 0 := Int.mul_nonpos_of_nonneg_of_nonpos h0 hs
    have b := Int.mul_le_mul_of_nonpos_right h1 hs
    generalize d * s = x at *
    generalize n * s = y at *
    omega
theorem sm_bd {D S I : Nat → Int} (r : Nat) (h : ∀ j, j < r → 0 ≤ I j ∧ I j < D j) : lo D S r ≤ sm I S r ∧ sm I S r ≤ hi D S r := by
  induction r with
  | zero => exact ⟨Int.le_refl _, Int.le_refl _⟩
  | succ r ih =>
    have := ih (fun j hj => h j (by omega))
    obtain ⟨a, b⟩ := h r (by omega)
    have st := step_bd (s := S r) a (show I r ≤ D r - 1 by omega)
    simp only [sm, lo, hi]
    omega
theorem rel_bd {D S : Nat → Int} (r : Nat) (h : ∀ j, j < r → 1 ≤ D j) (k : Int) : lo D S r ≤ rel D S r k ∧ rel D S r k ≤ hi D S r := by
  rw [← sm_dg]; exact sm_bd r (dg_rng D r h k)
theorem pr_pos {D : Nat → Int} {r : Nat} (h : ∀ j, j < r → 1 ≤ D j) : 1 ≤ pr D r := by
  induction r with
  | zero => exact Int.le_refl _
  | succ r ih =>
    have a := ih (fun j hj => h j (by omega))
    have b := h r (by omega)
    have := Int.mul_le_mul a b (by omega) (by omega)
    simp only [pr]; omega
theorem split_k {d : Int} (hd : 1 ≤ d) {k' x P : Int} (hk : 0 ≤ k') (hk2 : k' < P) (hx : 0 ≤ x) (hx2 : x < d) :
    0 ≤ k' * d + x ∧ k' * d + x < P * d ∧ (k' * d + x) % d = x ∧ (k' * d + x) / d = k' := by
  have a := Int.mul_nonneg hk (show 0 ≤ d by omega)
  have b := Int.mul_le_mul_of_nonneg_right (show k' + 1 ≤ P by omega) (show 0 ≤ d by omega)
  rw [Int.add_mul, Int.one_mul] at b
  refine ⟨by omega, by omega, ?_, ?_⟩
  · rw [Int.add_comm, Int.add_mul_emod_self_right, Int.emod_eq_of_lt hx hx2]
  · rw [Int.add_comm, Int.add_mul_ediv_right _ _ (by omega), Int.ediv_eq_zero_of_lt hx hx2]; omega
theorem lo_at {D S : Nat → Int} (r : Nat) (h : ∀ j, j < r → 1 ≤ D j) : ∃ k, 0 ≤ k ∧ k < pr D r ∧ rel D S r k = lo D S r := by
  induction r with
  | zero => exact ⟨0, Int.le_refl _, by simp [pr], rfl⟩
  | succ r ih =>
    obtain ⟨k', k0, k1, e⟩ := ih (fun j hj => h j (by omega))
    have hd := h r (by omega)
    by_cases c : (D r - 1) * S r ≤ 0
    · obtain ⟨a, b, m, q⟩ := split_k hd k0 k1 (show 0 ≤ D r - 1 by omega) (show D r - 1 < D r by omega)
      refine ⟨k' * D r + (D r - 1), a, b, ?_⟩
      simp only [rel, lo]; rw [m, q, e]; omega
    · obtain ⟨a, b, m, q⟩ := split_k hd k0 k1 (Int.le_refl 0) (show 0 < D r by omega)
      refine ⟨k' * D r + 0, a, b, ?_⟩
      simp only [rel, lo]; rw [m, q, e, Int.zero_mul]; omega
theorem hi_at {D S : Nat → Int} (r : Nat) (h : ∀ j, j < r → 1 ≤ D j) : ∃ k, 0 ≤ k ∧ k < pr D r ∧ rel D S r k = hi D S r := by
  induction r with
  | zero => exact ⟨0, Int.le_refl _, by simp [pr], rfl⟩
  | succ r ih =>
    obtain ⟨k', k0, k1, e⟩ := ih (fun j hj => h j (by omega))
    have hd := h r (by omega)
    by_cases c : 0 ≤ (D r - 1) * S r
    · obtain ⟨a, b, m, q⟩ := split_k hd k0 k1 (show 0 ≤ D r - 1 by omega) (show D r - 1 < D r by omega)
      refine ⟨k' * D r + (D r - 1), a, b, ?_⟩
      simp only [rel, hi]; rw [m, q, e]; omega
    · obtain ⟨a, b, m, q⟩ := split_k hd k0 k1 (Int.le_refl 0) (show 0 < D r by omega)
      refine ⟨k' * D r + 0, a, b, ?_⟩
      simp only [rel, hi]; rw [m, q, e, Int.zero_mul]; omega

/-- what a view is -/
def VOk (r s : Nat) (D S : Nat → Int) (o n : Int) : Prop :=
  dok r D = true ∧ s = r ∧ 1 ≤ n ∧ n ≤ 4096 ∧ 0 ≤ o ∧ o < n ∧ (∀ j, j < r → -4096 ≤ S j ∧ S j ≤ 4096) ∧ 0 ≤ o + lo D S r ∧ o + hi D S r < n
instance (r s : Nat) (D S : Nat → Int) (o n : Int) : Decidable (VOk r s D S o n) := by unfold VOk; infer_instance
def vok (r s : Nat) (D S : Nat → Int) (o n : Int) : Bool := decide (VOk r s D S o n)
theorem vok_iff {r s : Nat} {D S : Nat → Int} {o n : Int} : vok r s D S o n = true ↔ VOk r s D S o n := by unfold vok; simp
theorem vok_no {r s : Nat} {D S : Nat → Int} {o n : Int} (h : ¬ VOk r s D S o n) : vok r s D S o n = false := by unfold vok; simp [h]
theorem vok_same {r s : Nat} {D S E T : Nat → Int} {o n : Int} (h : ∀ j, j < r → D j = E j) (h' : ∀ j, j < r → S j = T j) : vok r s D S o n = vok r s E T o n := by
  rw [Bool.eq_iff_iff, vok_iff, vok_iff]
  unfold VOk
  have e : dok r D = dok r E := by unfold dok; rw [sz_same h]
  rw [e, lo_same h h', hi_same h h']
  refine ⟨fun q => ⟨q.1, q.2.1, q.2.2.1, q.2.2.2.1, q.2.2.2.2.1, q.2.2.2.2.2.1, fun j hj => by rw [← h' j hj]; exact q.2.2.2.2.2.2.1 j hj, q.2.2.2.2.2.2.2⟩, fun q => ⟨q.1, q.2.1, q.2.2.1, q.2.2.2.1, q.2.2.2.2.1, q.2.2.2.2.2.1, fun j hj => by rw [h' j hj]; exact q.2.2.2.2.2.2.1 j hj, q.2.2.2.2.2.2.2⟩⟩
/-- lengths and strides that are in bounds give places that are small -/
theorem reach_bd {d s : Int} (h1 : 1 ≤ d) (h2 : d ≤ 4096) (s1 : -4096 ≤ s) (s2 : s ≤ 4096) : -16777216 ≤ (d - 1) * s ∧ (d - 1) * s ≤ 16777216 := by
  rcases Int.le_total 0 s with hs | hs
  · have a := Int.mul_nonneg (show 0 ≤ d - 1 by omega) hs
    have b := Int.mul_le_mul (show d - 1 ≤ 4096 by omega) s2 hs (by omega)
    omega
  · have a : (d - 1) * s ≤ 0 := Int.mul_nonpos_of_nonneg_of_nonpos (by omega) hs
    have b := Int.mul_le_mul (show d - 1 ≤ 4096 by omega) (show -s ≤ 4096 by omega) (by omega) (by omega)
    rw [Int.mul_neg] at b
    omega
theorem lohi_bd {D S : Nat → Int} (r : Nat) (hd : ∀ j, j < r → 1 ≤ D j ∧ D j ≤ 4096) (hs : ∀ j, j < r → -4096 ≤ S j ∧ S j ≤ 4096) :
    -16777216 * (r : Int) ≤ lo D S r ∧ lo D S r ≤ 0 ∧ 0 ≤ hi D S r ∧ hi D S r ≤ 16777216 * (r : Int) := by
  induction r with
  | zero => simp [lo, hi]
  | succ r ih =>
    have h := ih (fun j hj => hd j (by omega)) (fun j hj => hs j (by omega))
    have b := reach_bd (hd r (by omega)).1 (hd r (by omega)).2 (hs r (by omega)).1 (hs r (by omega)).2
    simp only [lo, hi]
    generalize (D r - 1) * S r = x at *
    omega
theorem VOk.len {r s : Nat} {D S : Nat → Int} {o n : Int} (h : VOk r s D S o n) {j : Nat} (hj : j < r) : 1 ≤ D j ∧ D j ≤ 4096 := dok_len h.1 hj
/-- the places of a view lie in its list -/
theorem VOk.place {r s : Nat} {D S : Nat → Int} {o n : Int} (h : VOk r s D S o n) (k : Int) : 0 ≤ o + rel D S r k ∧ o + rel D S r k < n := by
  have := rel_bd (S := S) r (fun j hj => (h.len hj).1) k
  obtain ⟨_, _, _, _, _, _, _, a, b⟩ := h
  omega
/-- and where all places lie in it, it is a view -/
theorem VOk.of {r : Nat} {D S : Nat → Int} {o n : Int} (h1 : dok r D = true) (h2 : 1 ≤ n) (h3 : n ≤ 4096) (h4 : 0 ≤ o) (h5 : o < n) (h6 : ∀ j, j < r → -4096 ≤ S j ∧ S j ≤ 4096)
    (h7 : ∀ k, 0 ≤ k → k < szR D r → 0 ≤ o + rel D S r k ∧ o + rel D S r k < n) : VOk r r D S o n := by
  have hd : ∀ j, j < r → 1 ≤ D j := fun j hj => (dok_len h1 hj).1
  have e : szR D r = pr D r := by
    rcases szR_cases D r with q | ⟨_, q, _⟩
    · have := (dok_iff.1 h1).2; omega
    · exact q
  obtain ⟨k, k0, k1, q⟩ := lo_at (S := S) r hd
  obtain ⟨k', k0', k1', q'⟩ := hi_at (S := S) r hd
  refine ⟨h1, rfl, h2, h3, h4, h5, h6, ?_, ?_⟩
  · rw [← q]; exact (h7 k k0 (by omega)).1
  · rw [← q']; exact (h7 k' k0' (by omega)).2
end Vp
end Go.Proofs.Ytflbhlepmjiejaa
