/- The order of a line, plain: how many stand ahead of a place. -/
import Derived.Test.YtbdcbanbnbaoiaaSw
namespace Go.Proofs.Ytbdcbanbnbaoiaa
namespace So
set_option linter.unusedVariables false
theorem ontoN : ∀ (r : Nat) (A : Nat → Nat), (∀ i, i < r → A i < r) → (∀ i k, i < r → k < r → A i = A k → i = k) → ∀ x, x < r → ∃ i, i < r ∧ A i = x
  | 0, _, _, _, x, hx => by omega
  | r + 1, A, h, inj, x, hx => by
    have key := ontoN r (fun i => if A i = r then A r else A i) (fun i hi => by
      have h1 := h i (by omega)
      have h2 := h r (by omega)
      have n1 : A i ≠ A r := fun e => by have := inj i r (by omega) (by omega) e; omega
      split
      · omega
      · omega) (fun i k hi hk e => by
      have n1 : A i ≠ A r := fun e => by have := inj i r (by omega) (by omega) e; omega
      have n2 : A k ≠ A r := fun e => by have := inj k r (by omega) (by omega) e; omega
      split at e
      · split at e
        · exact inj i k (by omega) (by omega) (by omega)
        · exact absurd e.symm n2
      · split at e
        · exact absurd e n1
        · exact inj i k (by omega) (by omega) e)
    have hv := h r (by omega)
    by_cases c : x = A r
    · exact ⟨r, by omega, c.symm⟩
    · by_cases c2 : x = r
      · obtain ⟨i, hi, e⟩ := key (A r) (by omega)
        split at e
        · exact ⟨i, by omega, by omega⟩
        · have := inj i r (by omega) (by omega) e
          omega
      · obtain ⟨i, hi, e⟩ := key x (by omega)
        split at e
        · exact absurd e.symm c
        · exact ⟨i, by omega, e⟩
def cnt (P : Nat → Bool) : Nat → Nat
  | 0 => 0
  | n + 1 => cnt P n + if P n then 1 else 0
theorem cnt_le {P Q : Nat → Bool} : ∀ n, (∀ u, u < n → P u = true → Q u = true) → cnt P n ≤ cnt Q n
  | 0, _ => Nat.le_refl _
  | n + 1, h => by
    have := cnt_le n (fun u hu => h u (by omega))
    have q := h n (by omega)
    unfold cnt
    by_cases c : P n = true
    · rw [if_pos c, if_pos (q c)]; omega
    · rw [if_neg c]; omega
theorem cnt_lt {P Q : Nat → Bool} {i : Nat} : ∀ n, (∀ u, u < n → P u = true → Q u = true) → i < n → P i = false → Q i = true → cnt P n < cnt Q n
  | 0, _, hi, _, _ => by omega
  | n + 1, h, hi, h1, h2 => by
    unfold cnt
    by_cases c : i = n
    · subst c
      have := cnt_le i (fun u hu => h u (by omega))
      rw [h1, h2]
      simp
      omega
    · have := cnt_lt n (fun u hu => h u (by omega)) (by omega) h1 h2
      have q := h n (by omega)
      by_cases d : P n = true
      · rw [if_pos d, if_pos (q d)]; omega
      · rw [if_neg d]; omega
theorem cnt_all (n : Nat) : cnt (fun _ => true) n = n := by
  induction n with
  | zero => rfl
  | succ n ih => unfold cnt; rw [ih]; rfl
/-- place u stands ahead of place i -/
def ahd (K : Int → Int) (u i : Nat) : Prop := lt K (u : Int) (i : Int)
instance (K : Int → Int) (u i : Nat) : Decidable (ahd K u i) := by unfold ahd lt; infer_instance
/-- how many of len places stand ahead of place i -/
def rnk (K : Int → Int) (len i : Nat) : Nat := cnt (fun u => decide (ahd K u i)) len
theorem rnk_lt {K : Int → Int} {len i j : Nat} (hi : i < len) (h : ahd K i j) : rnk K len i < rnk K len j :=
  cnt_lt (i := i) len (fun u hu q => by
    simp only [decide_eq_true_eq] at q ⊢
    exact lt_trans q h) hi (by simp only [decide_eq_false_iff_not]; exact lt_irrefl) (by simp only [decide_eq_true_eq]; exact h)
theorem rnk_len {K : Int → Int} {len i : Nat} (hi : i < len) : rnk K len i < len := by
  have := cnt_lt (P := fun u => decide (ahd K u i)) (Q := fun _ => true) (i := i) len (fun u hu q => rfl) hi (by simp only [decide_eq_false_iff_not]; exact lt_irrefl) rfl
  rw [cnt_all] at this
  exact this
theorem rnk_inj {K : Int → Int} {len i j : Nat} (hi : i < len) (hj : j < len) (h : rnk K len i = rnk K len j) : i = j := by
  rcases Nat.lt_trichotomy i j with c | c | c
  · rcases lt_total (K := K) (p := (i : Int)) (q := (j : Int)) (by omega) with d | d
    · have := rnk_lt hi d; omega
    · have := rnk_lt hj d; omega
  · exact c
  · rcases lt_total (K := K) (p := (i : Int)) (q := (j : Int)) (by omega) with d | d
    · have := rnk_lt hi d; omega
    · have := rnk_lt hj d; omega
def fnd (P : Nat → Bool) : Nat → Nat
  | 0 => 0
  | n + 1 => if P n then n else fnd P n
theorem fnd_is {P : Nat → Bool} : ∀ n i, i < n → P i = true → fnd P n < n ∧ P (fnd P n) = true
  | 0, i, hi, _ => by omega
  | n + 1, i, hi, h => by
    unfold fnd
    by_cases c : P n = true
    · rw [if_pos c]; exact ⟨by omega, c⟩
    · rw [if_neg c]
      have := fnd_is n i (by rcases Nat.lt_or_ge i n with d | d; exact d; have : i = n := by omega
                             subst this; exact absurd h c) h
      exact ⟨by omega, this.2⟩
/-- the place that stands k-th -/
def ord (K : Int → Int) (len k : Nat) : Nat := fnd (fun i => decide (rnk K len i = k)) len
theorem ord_is {K : Int → Int} {len k : Nat} (hk : k < len) : ord K len k < len ∧ rnk K len (ord K len k) = k := by
  obtain ⟨i, h1, h2⟩ := ontoN len (rnk K len) (fun i hi => rnk_len hi) (fun i j hi hj e => rnk_inj hi hj e) k hk
  have := fnd_is (P := fun i => decide (rnk K len i = k)) len i h1 (decide_eq_true h2)
  exact ⟨this.1, of_decide_eq_true this.2⟩
theorem ord_rnk {K : Int → Int} {len i : Nat} (hi : i < len) : ord K len (rnk K len i) = i :=
  have h := ord_is (K := K) (rnk_len (K := K) hi)
  rnk_inj h.1 hi h.2
theorem inc_id {f : Nat → Nat} {n : Nat} (h1 : ∀ i j, i < j → j < n → f i < f j) (h2 : ∀ i, i < n → f i < n) : ∀ k, k < n → f k = k := by
  have A : ∀ k, k < n → k ≤ f k := fun k => by
    induction k with
    | zero => intro _; omega
    | succ k ih => intro hk; have := ih (by omega); have := h1 k (k + 1) (by omega) hk; omega
  have B : ∀ d k, k + d + 1 = n → f k ≤ k := fun d => by
    induction d with
    | zero => intro k hk; have := h2 k (by omega); omega
    | succ d ih => intro k hk; have := ih (k + 1) (by omega); have := h1 k (k + 1) (by omega) (by omega); omega
  intro k hk
  have := A k hk
  have := B (n - 1 - k) k (by omega)
  omega
/-- places in order are those that stand first, second .. -/
theorem srt_ord {K : Int → Int} {E : Nat → Int} {len : Nat} (h : ∀ t, t < len → 0 ≤ E t ∧ E t < len) (hs : Srt K E 0 len) : ∀ k, k < len → E k = (ord K len k : Nat) := by
  have q := inc_id (f := fun k => rnk K len (E k).toNat) (n := len) (fun i j h1 h2 => by
    have a := h i (by omega)
    have b := h j h2
    refine rnk_lt (by omega) ?_
    have := hs i j (Nat.zero_le _) h1 h2
    unfold ahd
    rw [show ((E i).toNat : Int) = E i by omega, show ((E j).toNat : Int) = E j by omega]
    exact this) (fun i hi => rnk_len (by have := h i hi; omega))
  intro k hk
  have a := h k hk
  have e := q k hk
  have g := ord_rnk (K := K) (len := len) (i := (E k).toNat) (by omega)
  rw [e] at g
  omega
end So
end Go.Proofs.Ytbdcbanbnbaoiaa
