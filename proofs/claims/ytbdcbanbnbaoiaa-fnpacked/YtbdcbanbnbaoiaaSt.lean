/- The stable sort, plain: where two blocks are cut. -/
import Derived.Test.YtbdcbanbnbaoiaaSo
namespace Go.Proofs.Ytbdcbanbnbaoiaa
namespace So
set_option linter.unusedVariables false
theorem rot_none (D : Nat → Int) {s m e : Nat} (h : s = m ∨ e = m) (h1 : s ≤ m) (h2 : m ≤ e) : rot D s m e = D := by
  funext t
  unfold rot
  repeat' split
  all_goals first | rfl | omega | (congr 1; omega)
/-- between what the cut is looked for -/
structure Lim (a m b mid n S R : Nat) : Prop where
  dm : mid = (a + b) / 2
  dn : n = mid + m
  aS : a ≤ S
  SR : S ≤ R
  Rm : R ≤ m
  Rd : R ≤ mid
  nb : n ≤ b + S
  s0 : S = a ∨ n = b + S
  r0 : R = m ∨ R = mid
theorem lim_hi {a m b : Nat} (h1 : a < m) (h2 : m < b) (h : (a + b) / 2 < m) : Lim a m b ((a + b) / 2) ((a + b) / 2 + m) ((a + b) / 2 + m - b) ((a + b) / 2) :=
  ⟨rfl, rfl, by omega, by omega, by omega, by omega, by omega, by omega, by omega⟩
theorem lim_lo {a m b : Nat} (h1 : a < m) (h2 : m < b) (h : m ≤ (a + b) / 2) : Lim a m b ((a + b) / 2) ((a + b) / 2 + m) a m :=
  ⟨rfl, rfl, by omega, by omega, by omega, by omega, by omega, by omega, by omega⟩
theorem key_up {K : Int → Int} {D : Nat → Int} {a b i j : Nat} (h : Srt K D a b) (h1 : a ≤ i) (h2 : i ≤ j) (h3 : j < b) : K (D i) ≤ K (D j) := by
  by_cases c : i = j
  · rw [c]; omega
  · have := h i j h1 (by omega) h3
    unfold lt at this
    omega
theorem step_yes {K : Int → Int} {D : Nat → Int} {a m b mid n S R c : Nat} (l : Lim a m b mid n S R) (hL : Srt K D a m) (hR : Srt K D m b) (h1 : S ≤ c) (h2 : c < R) (h : ¬ K (D (n - 1 - c)) < K (D c)) : ∀ t, S ≤ t → t < c + 1 → K (D t) ≤ K (D (n - 1 - t)) := fun t q1 q2 => by
  have := l.aS; have := l.Rm; have := l.Rd; have := l.nb; have := l.dn
  have u := key_up hL (i := t) (j := c) (by omega) (by omega) (by omega)
  have v := key_up hR (i := n - 1 - c) (j := n - 1 - t) (by omega) (by omega) (by omega)
  omega
theorem step_no {K : Int → Int} {D : Nat → Int} {a m b mid n S R c : Nat} (l : Lim a m b mid n S R) (hL : Srt K D a m) (hR : Srt K D m b) (h1 : S ≤ c) (h2 : c < R) (h : K (D (n - 1 - c)) < K (D c)) : ∀ t, c ≤ t → t < R → K (D (n - 1 - t)) < K (D t) := fun t q1 q2 => by
  have := l.aS; have := l.Rm; have := l.Rd; have := l.nb; have := l.dn
  have u := key_up hL (i := c) (j := t) (by omega) (by omega) (by omega)
  have v := key_up hR (i := n - 1 - t) (j := n - 1 - c) (by omega) (by omega) (by omega)
  omega
/-- the cut: what the turn leaves are two halves, each of two blocks in order -/
theorem found {K : Int → Int} {D : Nat → Int} {a m b mid n S R s e : Nat} (l : Lim a m b mid n S R) (hL : Srt K D a m) (hR : Srt K D m b) (hB : Bef D a m b) (h1 : S ≤ s) (h2 : s ≤ R) (he : e = n - s)
    (y : ∀ t, S ≤ t → t < s → K (D t) ≤ K (D (n - 1 - t))) (z : ∀ t, s ≤ t → t < R → K (D (n - 1 - t)) < K (D t)) : a ≤ s ∧ s ≤ m ∧ s ≤ mid ∧ m ≤ e ∧ mid ≤ e ∧ e ≤ b ∧ Half K (rot D s m e) a s mid e b := by
  have q1 := l.aS; have q2 := l.Rm; have q3 := l.Rd; have q4 := l.nb; have q5 := l.dn; have q6 := l.s0; have q7 := l.r0
  subst he
  refine ⟨by omega, by omega, by omega, by omega, by omega, by omega, ?_⟩
  refine halves hL hR hB (by omega) (by omega) (by omega) (by omega) (by omega) ?_ ?_
  · by_cases c : S = s
    · rcases q6 with d | d
      · exact .inl (by omega)
      · exact .inr (.inl (by omega))
    · have := y (s - 1) (by omega) (by omega)
      rw [show n - 1 - (s - 1) = n - s by omega] at this
      exact .inr (.inr this)
  · by_cases c : s = R
    · rcases q7 with d | d
      · exact .inl (by omega)
      · exact .inr (.inl (by omega))
    · have := z s (by omega) (by omega)
      rw [show n - 1 - s = n - s - 1 by omega] at this
      exact .inr (.inr this)
/-- a half of which one block is empty is in order -/
theorem Half.left {K : Int → Int} {D : Nat → Int} {a s mid e b : Nat} (h : Half K D a s mid e b) (q : ¬ (a < s ∧ s < mid)) (h1 : a ≤ s) (h2 : s ≤ mid) : Srt K D a mid := by
  by_cases c : a < s
  · have d : s = mid := by omega
    rw [← d]; exact h.l1
  · have d : a = s := by omega
    rw [d]; exact h.l2
theorem Half.right {K : Int → Int} {D : Nat → Int} {a s mid e b : Nat} (h : Half K D a s mid e b) (q : ¬ (mid < e ∧ e < b)) (h1 : mid ≤ e) (h2 : e ≤ b) : Srt K D mid b := by
  by_cases c : mid < e
  · have d : e = b := by omega
    rw [← d]; exact h.r1
  · have d : mid = e := by omega
    rw [d]; exact h.r2
end So
end Go.Proofs.Ytbdcbanbnbaoiaa
