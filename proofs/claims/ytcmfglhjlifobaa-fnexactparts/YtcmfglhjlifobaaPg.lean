/- Forms: the model's condition and the program's are one, plain. -/
import Derived.Test.YtcmfglhjlifobaaPf
namespace Go.Proofs.Ytcmfglhjlifobaa
namespace Vo
open Go.ChangeShapes Go.WideShapes Go.ChangeAt Go.RowKit Go.Joins Go.Sort
open Vl Vp
set_option linter.unusedVariables false
set_option linter.unusedSimpArgs false
theorem scanL_succ (s : ByteArray) (i : Nat) : scanL s (i + 1) = if bt s i = 44 then ((scanL s i).1 ++ [((scanL s i).2, i)], i + 1) else scanL s i := rfl
/-- no comma stands in the open group -/
theorem scanL_open (s : ByteArray) (i : Nat) : ∀ j, (scanL s i).2 ≤ j → j < i → bt s j ≠ 44 := by
  induction i with
  | zero => intro j _ h; omega
  | succ i ih =>
    intro j h1 h2
    rw [scanL_succ] at h1
    by_cases e : bt s i = 44
    · rw [if_pos e] at h1
      have h1 : i + 1 ≤ j := h1
      omega
    · rw [if_neg e] at h1
      by_cases hj : j = i
      · rw [hj]; exact e
      · exact ih j h1 (by omega)
/-- .. nor in a closed one -/
theorem scanL_mem (s : ByteArray) (i : Nat) : ∀ p ∈ (scanL s i).1, p.1 ≤ p.2 ∧ p.2 < i ∧ ∀ j, p.1 ≤ j → j < p.2 → bt s j ≠ 44 := by
  induction i with
  | zero => intro p hp; exact absurd hp (by simp [scanL])
  | succ i ih =>
    intro p hp
    rw [scanL_succ] at hp
    by_cases e : bt s i = 44
    · rw [if_pos e] at hp
      rcases List.mem_append.1 hp with hp | hp
      · obtain ⟨h1, h2, h3⟩ := ih p hp
        exact ⟨h1, by omega, h3⟩
      · rw [List.mem_singleton] at hp
        subst hp
        exact ⟨scanL_from s i, Nat.lt_succ_self _, scanL_open s i⟩
    · rw [if_neg e] at hp
      obtain ⟨h1, h2, h3⟩ := ih p hp
      exact ⟨h1, by omega, h3⟩
/-- every byte but a comma stands in a group -/
theorem scanL_cover (s : ByteArray) (i : Nat) : ∀ j, j < i → bt s j = 44 ∨ (∃ p ∈ (scanL s i).1, p.1 ≤ j ∧ j < p.2) ∨ (scanL s i).2 ≤ j := by
  induction i with
  | zero => intro j h; omega
  | succ i ih =>
    intro j hj
    rw [scanL_succ]
    by_cases e : bt s i = 44
    · rw [if_pos e]
      by_cases hji : j = i
      · rw [hji]; exact .inl e
      · rcases ih j (by omega) with h | ⟨p, hp, h⟩ | h
        · exact .inl h
        · exact .inr (.inl ⟨p, List.mem_append.2 (.inl hp), h⟩)
        · exact .inr (.inl ⟨((scanL s i).2, i), List.mem_append.2 (.inr (List.mem_singleton.2 rfl)), h, by show j < i; omega⟩)
    · rw [if_neg e]
      by_cases hji : j = i
      · rw [hji]; exact .inr (.inr (scanL_from s i))
      · exact ih j (by omega)
theorem grps_mem {s : ByteArray} {A : Nat} {p : Nat × Nat} (hp : p ∈ grps s A) : p.1 ≤ p.2 ∧ p.2 ≤ A ∧ ∀ j, p.1 ≤ j → j < p.2 → bt s j ≠ 44 := by
  unfold grps at hp
  rcases List.mem_append.1 hp with hp | hp
  · obtain ⟨h1, h2, h3⟩ := scanL_mem s A p hp
    exact ⟨h1, by omega, h3⟩
  · rw [List.mem_singleton] at hp
    subst hp
    exact ⟨scanL_from s A, Nat.le_refl _, scanL_open s A⟩
theorem grps_cover {s : ByteArray} {A j : Nat} (hj : j < A) : bt s j = 44 ∨ ∃ p ∈ grps s A, p.1 ≤ j ∧ j < p.2 := by
  unfold grps
  rcases scanL_cover s A j hj with h | ⟨p, hp, h⟩ | h
  · exact .inl h
  · exact .inr ⟨p, List.mem_append.2 (.inl hp), h⟩
  · exact .inr ⟨((scanL s A).2, A), List.mem_append.2 (.inr (List.mem_singleton.2 rfl)), h, hj⟩
theorem grT_mem {s : ByteArray} {L : List (Nat × Nat)} {t : Nat} (ht : t < L.length) : ∃ p ∈ L, grT s L t = s.extract p.1 p.2 := by
  refine ⟨L[t], List.getElem_mem ht, ?_⟩
  unfold grT
  rw [List.getElem?_eq_getElem ht]
theorem grT_of {s : ByteArray} {L : List (Nat × Nat)} {p : Nat × Nat} (hp : p ∈ L) : ∃ t, t < L.length ∧ grT s L t = s.extract p.1 p.2 := by
  obtain ⟨t, ht, e⟩ := List.getElem_of_mem hp
  refine ⟨t, ht, ?_⟩
  unfold grT
  rw [List.getElem?_eq_getElem ht, e]
/-- letters and commas alone ahead of A: every group is of letters -/
theorem lc_groups {s : ByteArray} {A : Nat} (hA : A ≤ s.size) : lcN s A = true ↔ ∀ t, t < (grps s A).length → letN (grT s (grps s A) t) (grT s (grps s A) t).size = true := by
  constructor
  · intro h t ht
    obtain ⟨p, hp, e⟩ := grT_mem (s := s) ht
    obtain ⟨h1, h2, h3⟩ := grps_mem hp
    rw [e, letN_iff]
    intro j hj
    rw [ByteArray.size_extract] at hj
    rw [bt_extract (by omega) (by omega)]
    rcases lcN_iff.1 h (p.1 + j) (by omega) with q | q
    · exact q
    · exact absurd q (h3 _ (by omega) (by omega))
  · intro h
    rw [lcN_iff]
    intro j hj
    rcases grps_cover hj with q | ⟨p, hp, q1, q2⟩
    · exact .inr q
    · left
      obtain ⟨h1, h2, h3⟩ := grps_mem hp
      obtain ⟨t, ht, e⟩ := grT_of (s := s) hp
      have hl := h t ht
      rw [e, letN_iff] at hl
      have := hl (j - p.1) (by rw [ByteArray.size_extract]; omega)
      rw [bt_extract (by omega) (by omega), show p.1 + (j - p.1) = j by omega] at this
      exact this
/-- the model's condition at an arrow -/
def modB (s : ByteArray) (A : Nat) : Prop := (grps s A).length ≤ 6 ∧ letOk (outT s A) = true ∧ (∀ t, t < (grps s A).length → letOk (grT s (grps s A) t) = true) ∧ outN (outT s A) (grT s (grps s A)) (grps s A).length (outT s A).size = true
theorem letOk_iff {s : ByteArray} : letOk s = true ↔ letN s s.size = true ∧ s.size ≤ 6 := by
  unfold letOk
  simp only [Bool.and_eq_true, decide_eq_true_eq]
theorem yes_mod {s : ByteArray} {A : Nat} (h1 : A + 1 < s.size) (h2 : bt s A = 45) (h3 : bt s (A + 1) = 62) : yesB s A = true ↔ modB s A := by
  rw [yesB_iff, lc_groups (show A ≤ s.size by omega)]
  unfold modB grpOk outOk
  simp only [Bool.and_eq_true, decide_eq_true_eq, Bool.not_eq_true']
  constructor
  · rintro ⟨_, _, _, hlc, ⟨g1, g2⟩, o1, o2⟩
    refine ⟨g1, letOk_iff.2 ⟨?_, o1⟩, fun t ht => letOk_iff.2 ⟨hlc t ht, ?_⟩, o2⟩
    · rw [letN_iff]
      intro j hj
      obtain ⟨_, hany⟩ := outN_iff.1 o2 j hj
      obtain ⟨t, ht, hh⟩ := anyN_iff.1 hany
      obtain ⟨i, hi, e⟩ := hasN_iff.1 hh
      rw [← e]
      exact letN_iff.1 (hlc t ht) i hi
    · rcases Nat.lt_or_ge 6 (grT s (grps s A) t).size with q | q
      · rw [longN_iff.2 ⟨t, ht, q⟩] at g2; exact absurd g2 (by decide)
      · exact q
  · rintro ⟨g1, o1, gl, o2⟩
    refine ⟨h1, h2, h3, fun t ht => (letOk_iff.1 (gl t ht)).1, ⟨g1, ?_⟩, (letOk_iff.1 o1).2, o2⟩
    cases hl : longN (grT s (grps s A)) (grps s A).length with
    | false => rfl
    | true =>
      obtain ⟨t, ht, q⟩ := longN_iff.1 hl
      have := (letOk_iff.1 (gl t ht)).2
      omega
/-- the first arrow stands at A -/
def arAt (s : ByteArray) (A : Nat) : Prop := A + 1 < s.size ∧ bt s A = 45 ∧ bt s (A + 1) = 62
theorem yes_first {s : ByteArray} {A B : Nat} (hA : arAt s A) (hno : ∀ j, j < A → ¬ arAt s j) (hB : yesB s B = true) : B = A := by
  obtain ⟨b1, b2, b3, b4, _⟩ := yesB_iff.1 hB
  have q1 : ¬ B < A := fun h => hno B h ⟨b1, b2, b3⟩
  have q2 : ¬ A < B := fun h => by
    rcases lcN_iff.1 b4 A h with q | q
    · rw [hA.2.1] at q; exact absurd q (by decide)
    · rw [hA.2.1] at q; omega
  omega
theorem no_first {s : ByteArray} (hno : ∀ j, j + 1 < s.size → ¬ arAt s j) (B : Nat) : yesB s B = false := by
  cases h : yesB s B with
  | false => rfl
  | true =>
    obtain ⟨b1, b2, b3, _⟩ := yesB_iff.1 h
    exact absurd ⟨b1, b2, b3⟩ (hno B b1)
theorem no_mod {s : ByteArray} {A : Nat} (hA : arAt s A) (hno : ∀ j, j < A → ¬ arAt s j) (hm : ¬ modB s A) (B : Nat) : yesB s B = false := by
  cases h : yesB s B with
  | false => rfl
  | true =>
    have e := yes_first hA hno h
    rw [e] at h
    exact absurd ((yes_mod hA.1 hA.2.1 hA.2.2).1 h) hm
end Vo
end Go.Proofs.Ytcmfglhjlifobaa
