/- Rooms that are free, plain. -/
import Derived.Test.YtbdcbanbnbaoiaaHd
namespace Go.Proofs.Ytbdcbanbnbaoiaa
namespace Vo
open Vl Vp
set_option linter.unusedVariables false
set_option linter.unusedSimpArgs false
theorem kr_mem {z : Int} {D : Nat → RV} {m q : Nat} : q ∈ kr z D m ↔ q < m ∧ ¬ delR z (D q) := by
  unfold kr
  rw [List.mem_filter, List.mem_range]
  simp
theorem kr_get {z : Int} {D : Nat → RV} {m i : Nat} (h : i < (kr z D m).length) : (kr z D m).getD i 0 < m ∧ ¬ delR z (D ((kr z D m).getD i 0)) := by
  have e : (kr z D m).getD i 0 = (kr z D m)[i] := by rw [List.getD_eq_getElem?_getD, List.getElem?_eq_getElem h]; rfl
  rw [e]
  exact kr_mem.1 (List.getElem_mem h)
theorem kr_inc {z : Int} {D : Nat → RV} {m i j : Nat} (hij : i < j) (h : j < (kr z D m).length) : (kr z D m).getD i 0 < (kr z D m).getD j 0 := by
  have p : List.Pairwise (· < ·) (kr z D m) := List.Pairwise.filter _ List.pairwise_lt_range
  have e : ∀ t (ht : t < (kr z D m).length), (kr z D m).getD t 0 = (kr z D m)[t] := fun t ht => by rw [List.getD_eq_getElem?_getD, List.getElem?_eq_getElem ht]; rfl
  rw [e i (by omega), e j h]
  exact List.pairwise_iff_getElem.1 p i j (by omega) h hij
theorem kr_has {z : Int} {D : Nat → RV} {m q : Nat} (hq : q < m) (hd : ¬ delR z (D q)) : ∃ i, i < (kr z D m).length ∧ (kr z D m).getD i 0 = q := by
  obtain ⟨i, hi, e⟩ := List.getElem_of_mem (kr_mem.2 ⟨hq, hd⟩)
  exact ⟨i, hi, by rw [List.getD_eq_getElem?_getD, List.getElem?_eq_getElem hi]; exact e⟩
/-- rooms in order, none empty, no two side by side: what is free in the arena -/
structure Fre (n : Nat) (D : Nat → RV) (F : Int → Prop) : Prop where
  in' : ∀ i, i < n → 0 ≤ (D i).f ∧ (D i).f < (D i).e ∧ (D i).e ≤ 1000000
  ord : ∀ i j, i < j → j < n → (D i).e < (D j).f
  cov : ∀ x : Int, 0 ≤ x → x < 1000000 → (F x ↔ ∃ i, i < n ∧ (D i).f ≤ x ∧ x < (D i).e)
theorem Fre.len {n : Nat} {D : Nat → RV} {F : Int → Prop} (h : Fre n D F) : (n : Int) ≤ 1000000 := by
  have q : ∀ i, i < n → (i : Int) ≤ (D i).f := by
    intro i
    induction i with
    | zero => intro hi; have := (h.in' 0 hi).1; omega
    | succ i ih => intro hi; have a := ih (by omega); have b := h.in' i (by omega); have c := h.ord i (i + 1) (by omega) hi; omega
  rcases Nat.eq_zero_or_pos n with e | e
  · omega
  · have a := q (n - 1) (by omega); have b := h.in' (n - 1) (by omega); omega
theorem Fre.rb {n : Nat} {D : Nat → RV} {F : Int → Prop} (h : Fre n D F) : ∀ i, i < n → rb (D i) := fun i hi => by have := h.in' i hi; unfold Vo.rb; omega
theorem fre_all : Fre 1 (fun _ => ⟨0, 1000000⟩) (fun _ => True) :=
  ⟨fun i hi => by dsimp only; omega, fun i j h1 h2 => by omega, fun x h0 h1 => ⟨fun _ => ⟨0, by omega, h0, h1⟩, fun _ => trivial⟩⟩
theorem Fre.congr {n : Nat} {D : Nat → RV} {F G : Int → Prop} (h : Fre n D F) (e : ∀ x, F x ↔ G x) : Fre n D G := ⟨h.in', h.ord, fun x h0 h1 => (e x).symm.trans (h.cov x h0 h1)⟩
theorem Fre.same {n : Nat} {D E : Nat → RV} {F : Int → Prop} (h : Fre n D F) (e : ∀ i, i < n → E i = D i) : Fre n E F :=
  ⟨fun i hi => by rw [e i hi]; exact h.in' i hi, fun i j h1 h2 => by rw [e i (by omega), e j h2]; exact h.ord i j h1 h2, fun x h0 h1 => (h.cov x h0 h1).trans ⟨fun ⟨i, a, b⟩ => ⟨i, a, by rw [e i a]; exact b⟩, fun ⟨i, a, b⟩ => ⟨i, a, by rw [e i a] at b; exact b⟩⟩⟩
/-- one is taken -/
theorem Fre.take {n : Nat} {D : Nat → RV} {F : Int → Prop} {a b : Int} (h : Fre n D F) (hab : a < b) : Fre (kr 1 (cutR a b D) (2 * n)).length (lfR 1 (cutR a b D) (2 * n)) (fun x => F x ∧ ¬ (a ≤ x ∧ x < b)) := by
  have sub : ∀ q, q < 2 * n → ¬ delR 1 (cutR a b D q) → (D (q / 2)).f ≤ (cutR a b D q).f ∧ (cutR a b D q).f < (cutR a b D q).e ∧ (cutR a b D q).e ≤ (D (q / 2)).e ∧ (q % 2 = 0 → (cutR a b D q).e ≤ a) ∧ (q % 2 = 1 → b ≤ (cutR a b D q).f) := by
    intro q hq hd
    unfold delR at hd
    revert hd
    unfold cutR cutA cutB
    by_cases c : q % 2 = 0
    · rw [if_pos c]
      dsimp only
      split
      · intro hd; refine ⟨by omega, by omega, by omega, fun _ => by omega, fun _ => by omega⟩
      · intro hd; refine ⟨by omega, by omega, by omega, fun _ => by omega, fun _ => by omega⟩
    · rw [if_neg c]
      dsimp only
      split
      · intro hd; refine ⟨by omega, by omega, by omega, fun _ => by omega, fun _ => by omega⟩
      · intro hd; refine ⟨by omega, by omega, by omega, fun _ => by omega, fun _ => by omega⟩
  refine ⟨fun i hi => ?_, fun i j h1 h2 => ?_, fun x h0 h1 => ?_⟩
  · obtain ⟨q1, q2⟩ := kr_get hi
    have s := sub _ q1 q2
    have t := h.in' ((kr 1 (cutR a b D) (2 * n)).getD i 0 / 2) (by omega)
    unfold lfR
    omega
  · obtain ⟨q1, q2⟩ := kr_get (i := i) (by omega : i < (kr 1 (cutR a b D) (2 * n)).length)
    obtain ⟨r1, r2⟩ := kr_get h2
    have lt := kr_inc h1 h2
    have s := sub _ q1 q2
    have t := sub _ r1 r2
    unfold lfR
    generalize (kr 1 (cutR a b D) (2 * n)).getD i 0 = q at *
    generalize (kr 1 (cutR a b D) (2 * n)).getD j 0 = r at *
    by_cases c : q / 2 = r / 2
    · have e1 : q % 2 = 0 := by omega
      have e2 : r % 2 = 1 := by omega
      have := s.2.2.2.1 e1
      have := t.2.2.2.2 e2
      omega
    · have := h.ord (q / 2) (r / 2) (by omega) (by omega)
      omega
  · rw [h.cov x h0 h1]
    constructor
    · rintro ⟨⟨i, i1, i2, i3⟩, hn⟩
      by_cases c : x < a
      · have e : cutR a b D (2 * i) = cutA a (D i) := by unfold cutR; rw [if_pos (by omega), show 2 * i / 2 = i by omega]
        have ee : (cutA a (D i)).f = (D i).f ∧ x < (cutA a (D i)).e := by unfold cutA; refine ⟨rfl, ?_⟩; dsimp only; split <;> omega
        obtain ⟨k, k1, k2⟩ := kr_has (z := 1) (D := cutR a b D) (m := 2 * n) (q := 2 * i) (by omega) (by rw [e]; unfold delR; omega)
        exact ⟨k, k1, by unfold lfR; rw [k2, e]; omega, by unfold lfR; rw [k2, e]; omega⟩
      · have e : cutR a b D (2 * i + 1) = cutB b (D i) := by unfold cutR; rw [if_neg (by omega), show (2 * i + 1) / 2 = i by omega]
        have ee : (cutB b (D i)).e = (D i).e ∧ (cutB b (D i)).f ≤ x := by unfold cutB; refine ⟨rfl, ?_⟩; dsimp only; split <;> omega
        obtain ⟨k, k1, k2⟩ := kr_has (z := 1) (D := cutR a b D) (m := 2 * n) (q := 2 * i + 1) (by omega) (by rw [e]; unfold delR; omega)
        exact ⟨k, k1, by unfold lfR; rw [k2, e]; omega, by unfold lfR; rw [k2, e]; omega⟩
    · rintro ⟨i, i1, i2, i3⟩
      obtain ⟨q1, q2⟩ := kr_get i1
      have s := sub _ q1 q2
      unfold lfR at i2 i3
      generalize (kr 1 (cutR a b D) (2 * n)).getD i 0 = q at *
      refine ⟨⟨q / 2, by omega, by omega, by omega⟩, fun hh => ?_⟩
      rcases Nat.mod_two_eq_zero_or_one q with c | c
      · have := s.2.2.2.1 c; omega
      · have := s.2.2.2.2 c; omega
/-- a row of free places lies in one room -/
theorem Fre.one {n : Nat} {D : Nat → RV} {F : Int → Prop} (h : Fre n D F) {o z : Int} (h0 : 0 ≤ o) (hz : 1 ≤ z) (h1 : o + z ≤ 1000000) (hf : ∀ x, o ≤ x → x < o + z → F x) : ∃ i, i < n ∧ (D i).f ≤ o ∧ o + z ≤ (D i).e := by
  obtain ⟨i, i1, i2, i3⟩ := (h.cov o h0 (by omega)).1 (hf o (by omega) (by omega))
  refine ⟨i, i1, i2, ?_⟩
  rcases Int.lt_or_le (D i).e (o + z) with c | c
  · have e := h.in' i i1
    obtain ⟨j, j1, j2, j3⟩ := (h.cov (D i).e (by omega) (by omega)).1 (hf (D i).e (by omega) c)
    rcases Nat.lt_trichotomy i j with d | d | d
    · have := h.ord i j d j1; omega
    · subst d; omega
    · have := h.ord j i d i1; omega
  · exact c
/-- the first room of that size -/
def fst0 (z : Int) (D : Nat → RV) (n : Nat) : Int := (lfR z D n 0).f
theorem Fre.first {n : Nat} {D : Nat → RV} {F : Int → Prop} (h : Fre n D F) {z M : Int} (hz : 1 ≤ z) (h0 : 0 ≤ M) (hM : M + z ≤ 1000000) (hF : ∀ x, M ≤ x → F x) :
    0 < (kr z D n).length ∧ 0 ≤ fst0 z D n ∧ fst0 z D n ≤ M ∧ (∀ x, fst0 z D n ≤ x → x < fst0 z D n + z → F x) ∧ (∀ o, 0 ≤ o → o + z ≤ 1000000 → (∀ x, o ≤ x → x < o + z → F x) → fst0 z D n ≤ o) ∧ (0 < fst0 z D n → ¬ F (fst0 z D n - 1)) := by
  have any : ∀ o, 0 ≤ o → o + z ≤ 1000000 → (∀ x, o ≤ x → x < o + z → F x) → 0 < (kr z D n).length ∧ fst0 z D n ≤ o := by
    intro o o0 o1 of
    obtain ⟨i, i1, i2, i3⟩ := h.one o0 hz o1 of
    obtain ⟨k, k1, k2⟩ := kr_has (z := z) (D := D) (m := n) (q := i) i1 (by unfold delR; omega)
    refine ⟨by omega, ?_⟩
    obtain ⟨q1, q2⟩ := kr_get (z := z) (D := D) (m := n) (i := 0) (by omega)
    unfold fst0 lfR
    by_cases c : k = 0
    · rw [c] at k2; rw [k2]; exact i2
    · have lt := kr_inc (z := z) (D := D) (m := n) (i := 0) (j := k) (by omega) k1
      rw [k2] at lt
      have a := h.ord _ i lt i1
      have b := h.in' _ q1
      omega
  obtain ⟨p, pm⟩ := any M h0 hM (fun x h1 _ => hF x h1)
  obtain ⟨q1, q2⟩ := kr_get (z := z) (D := D) (m := n) (i := 0) p
  have b := h.in' _ q1
  unfold delR at q2
  refine ⟨p, by unfold fst0 lfR; omega, pm, fun x h1 h2 => ?_, fun o o0 o1 of => (any o o0 o1 of).2, fun hp hx => ?_⟩
  · unfold fst0 lfR at h1 h2
    exact (h.cov x (by omega) (by omega)).2 ⟨_, q1, by omega, by omega⟩
  · unfold fst0 lfR at hp hx
    obtain ⟨j, j1, j2, j3⟩ := (h.cov _ (by omega) (by omega)).1 hx
    rcases Nat.lt_trichotomy j ((kr z D n).getD 0 0) with d | d | d
    · have := h.ord _ _ d q1; omega
    · subst d; omega
    · have := h.ord _ _ d j1; omega
end Vo
end Go.Proofs.Ytbdcbanbnbaoiaa
