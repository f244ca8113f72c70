/- The stable sort walked: merges of every length; blocks, plain. -/
import Derived.Test.YtbdcbanbnbaoiaaSu
namespace Go.Proofs.Ytbdcbanbnbaoiaa
namespace So
open Go.ChangeShapes Go.WideShapes Go.ChangeAt Go.RowKit Go.Joins
open Vl
set_option linter.unusedVariables false
set_option linter.unusedSimpArgs false
theorem Cmp.kept {F : Nat} {cs : Array Value} {K : Int → Int} {Z : Int → Int → Int} {N g : Nat} {w W : World} (h : Cmp F cs K Z N g w) (hk : Kept (· = g) w W) : Cmp F cs K Z N g W :=
  ⟨h.enter, fun p q W' p0 p1 q0 q1 hw => h.does p q W' p0 p1 q0 q1 (hk.trans hw), h.neg⟩
theorem symF (g r c N F : Nat) (cs : Array Value) (K : Int → Int) (Z : Int → Int → Int) (w : World) (hr : (r : Int) ≤ 1048576) (hc : Cmp F cs K Z N g w) : ∀ l, Less F cs K N g r c l w
  | 0 => fun a m b D W hl => by omega
  | l + 1 => fun a m b D W hl h1 h2 h3 hw hD hL hR hB hk => by
    by_cases q : b - a < l
    · exact symF g r c N F cs K Z w hr hc l a m b D W q h1 h2 h3 hw hD hL hR hB hk
    · by_cases q1 : m = a + 1
      · subst q1
        have := symA g r c N D a b F cs K Z W hw (by omega) h3 hr (hc.kept hk) hD hR hB
        rw [show ((a + 1 : Nat) : Int) = (a : Int) + 1 by omega]
        exact this
      · by_cases q2 : b = m + 1
        · subst q2
          have := symB g r c N D a m F cs K Z W hw (by omega) h3 hr (hc.kept hk) hD hL hB
          rw [show ((m + 1 : Nat) : Int) = (m : Int) + 1 by omega]
          exact this
        · have hl' : b - a = l := by omega
          refine symC g r c N D a m b F cs K Z W hw (by omega) (by omega) h3 hr (hc.kept hk) hD hL hR hB ?_
          rw [hl']
          exact fun a' m' b' D' W' g1 g2 g3 g4 g5 g6 g7 g8 g9 g10 => symF g r c N F cs K Z w hr hc l a' m' b' D' W' g1 g2 g3 g4 g5 g6 g7 g8 g9 (hk.trans g10)
theorem bef_per {E E' : Nat → Int} {x y z n : Nat} (h : Bef E 0 z n) (p : Per E E' x y) (hy : y ≤ n) (hz : z ≤ x ∨ y ≤ z) : Bef E' 0 z n := by
  intro i j h1 h2 h3 h4
  obtain ⟨i', g1, g2⟩ : ∃ i', i' < z ∧ E' i = E i' := by
    by_cases q : x ≤ i ∧ i < y
    · obtain ⟨t, t1, t2, t3⟩ := p.at q.1 q.2
      exact ⟨t, by omega, t3⟩
    · exact ⟨i, h2, p.out (by omega)⟩
  obtain ⟨j', g3, g4, g5⟩ : ∃ j', z ≤ j' ∧ j' < n ∧ E' j = E j' := by
    by_cases q : x ≤ j ∧ j < y
    · obtain ⟨t, t1, t2, t3⟩ := p.at q.1 q.2
      exact ⟨t, by omega, by omega, t3⟩
    · exact ⟨j, h3, h4, p.out (by omega)⟩
  rw [g2, g5]
  exact h i' j' (Nat.zero_le _) g1 g3 g4
/-- blocks of s are in order, each behind the last -/
structure Blk (K : Int → Int) (E : Nat → Int) (n s : Nat) : Prop where
  srt : ∀ i, Srt K E (i * s) (min ((i + 1) * s) n)
  bef : ∀ i, Bef E 0 (i * s) n
/-- the first k blocks of 20 are in order -/
structure P1 (K : Int → Int) (D E : Nat → Int) (n k : Nat) : Prop where
  per : Per D E 0 (20 * k)
  srt : ∀ i, i < k → Srt K E (20 * i) (20 * i + 20)
  bef : ∀ i, Bef E 0 (20 * i) n
theorem p1_zero {K : Int → Int} {D : Nat → Int} {n : Nat} (hO : ∀ s t, s < t → t < n → D s < D t) : P1 K D D n 0 :=
  ⟨Per.refl _ _ _, fun i hi => by omega, fun i x y h1 h2 h3 h4 => hO x y (by omega) h4⟩
theorem P1.next {K : Int → Int} {D E E' : Nat → Int} {n k : Nat} (h : P1 K D E n k) (hk : 20 * k + 20 ≤ n) (p : Per E E' (20 * k) (20 * k + 20)) (s : Srt K E' (20 * k) (20 * k + 20)) : P1 K D E' n (k + 1) :=
  ⟨(h.per.wide (Nat.le_refl _) (by omega)).trans (p.wide (Nat.zero_le _) (by omega)), fun i hi => by
    by_cases q : i = k
    · rw [q]; exact s
    · exact (h.srt i (by omega)).same (fun t t1 t2 => p.out (by omega)), fun i => bef_per (h.bef i) p (by omega) (by omega)⟩
theorem P1.last {K : Int → Int} {D E E' : Nat → Int} {n k : Nat} (h : P1 K D E n k) (hk : 20 * k ≤ n) (hk' : n < 20 * k + 20) (p : Per E E' (20 * k) n) (s : Srt K E' (20 * k) n) : Per D E' 0 n ∧ Blk K E' n 20 :=
  ⟨(h.per.wide (Nat.le_refl _) hk).trans (p.wide (Nat.zero_le _) (Nat.le_refl _)), fun i => by
    rw [Nat.mul_comm i 20, Nat.mul_comm (i + 1) 20]
    rcases Nat.lt_trichotomy i k with q | q | q
    · exact ((h.srt i q).same (fun t t1 t2 => p.out (by omega))).sub (Nat.le_refl _) (by omega)
    · rw [q]; exact s.sub (Nat.le_refl _) (by omega)
    · intro x y h1 h2 h3; omega, fun i => by rw [Nat.mul_comm i 20]; exact bef_per (h.bef i) p (Nat.le_refl _) (by omega)⟩
theorem P1.inc {K : Int → Int} {D E : Nat → Int} {n k : Nat} (h : P1 K D E n k) (hO : ∀ s t, s < t → t < n → D s < D t) : ∀ s t, 20 * k ≤ s → s < t → t < n → E s < E t := fun s t h1 h2 h3 => by
  rw [h.per.out (.inr h1), h.per.out (.inr (by omega : 20 * k ≤ t))]
  exact hO s t h2 h3
/-- below a all is merged to blocks of 2 s -/
structure P2 (K : Int → Int) (D E : Nat → Int) (n s k a : Nat) : Prop where
  at' : a = k * (2 * s)
  per : Per D E 0 a
  srt : ∀ i, i < k → Srt K E (i * (2 * s)) ((i + 1) * (2 * s))
  bef : ∀ i, Bef E 0 (i * (2 * s)) n
theorem twice (i s : Nat) : 2 * i * s = i * (2 * s) := by rw [Nat.mul_comm 2 i, Nat.mul_assoc]
theorem twice1 (i s : Nat) : (2 * i + 1) * s = i * (2 * s) + s := by rw [Nat.add_mul, twice, Nat.one_mul]
theorem succm (i s : Nat) : (i + 1) * (2 * s) = i * (2 * s) + 2 * s := by rw [Nat.add_mul, Nat.one_mul]
theorem p2_zero {K : Int → Int} {D : Nat → Int} {n s : Nat} (h : Blk K D n s) : P2 K D D n s 0 0 :=
  ⟨by omega, Per.refl _ _ _, fun i hi => by omega, fun i => by rw [← twice]; exact h.bef (2 * i)⟩
theorem mul_side (i k s : Nat) : i * (2 * s) ≤ k * (2 * s) ∨ k * (2 * s) + 2 * s ≤ i * (2 * s) := by
  rcases Nat.lt_or_ge k i with q | q
  · right; rw [← succm]; exact Nat.mul_le_mul_right _ q
  · left; exact Nat.mul_le_mul_right _ q
theorem P2.one {K : Int → Int} {D E : Nat → Int} {n s k a : Nat} (h : P2 K D E n s k a) (hB : Blk K D n s) : Srt K E a (min (a + s) n) := by
  have q := hB.srt (2 * k)
  rw [twice1, twice, ← h.at'] at q
  exact q.same (fun t t1 t2 => h.per.out (.inr t1))
theorem P2.two {K : Int → Int} {D E : Nat → Int} {n s k a : Nat} (h : P2 K D E n s k a) (hB : Blk K D n s) : Srt K E (a + s) (min (a + 2 * s) n) := by
  have q := hB.srt (2 * k + 1)
  rw [show 2 * k + 1 + 1 = 2 * (k + 1) by omega, twice1, twice, succm, ← h.at'] at q
  exact q.same (fun t t1 t2 => h.per.out (.inr (by omega)))
theorem P2.both {K : Int → Int} {D E : Nat → Int} {n s k a b : Nat} (h : P2 K D E n s k a) (hB : Blk K D n s) (hb : b ≤ n) : Bef E a (a + s) b := by
  have q := hB.bef (2 * k + 1)
  rw [twice1, ← h.at'] at q
  intro i j h1 h2 h3 h4
  rw [h.per.out (.inr h1), h.per.out (.inr (by omega : a ≤ j))]
  exact q i j (Nat.zero_le _) h2 h3 (by omega)
theorem P2.next {K : Int → Int} {D E E' : Nat → Int} {n s k a : Nat} (h : P2 K D E n s k a) (hk : a + 2 * s ≤ n) (p : Per E E' a (a + 2 * s)) (q : Srt K E' a (a + 2 * s)) : P2 K D E' n s (k + 1) (a + 2 * s) :=
  ⟨by rw [succm, h.at'], (h.per.wide (Nat.le_refl _) (by omega)).trans (p.wide (Nat.zero_le _) (Nat.le_refl _)), fun i hi => by
    by_cases c : i = k
    · rw [c, succm, ← h.at']; exact q
    · have e := mul_side (i + 1) k s
      have e2 : (i + 1) * (2 * s) ≤ k * (2 * s) := Nat.mul_le_mul_right _ (by omega)
      rw [← h.at'] at e2
      exact (h.srt i (by omega)).same (fun t t1 t2 => p.out (.inl (by omega))), fun i => bef_per (h.bef i) p hk (by have := mul_side i k s; rw [← h.at'] at this; exact this)⟩
theorem P2.last {K : Int → Int} {D E E' : Nat → Int} {n s k a : Nat} (h : P2 K D E n s k a) (hk : a ≤ n) (hk' : n < a + 2 * s) (p : Per E E' a n) (q : Srt K E' a n) : Per D E' 0 n ∧ Blk K E' n (2 * s) :=
  ⟨(h.per.wide (Nat.le_refl _) hk).trans (p.wide (Nat.zero_le _) (Nat.le_refl _)), fun i => by
    rcases Nat.lt_trichotomy i k with c | c | c
    · have e2 : (i + 1) * (2 * s) ≤ k * (2 * s) := Nat.mul_le_mul_right _ (by omega)
      rw [← h.at'] at e2
      exact ((h.srt i c).same (fun t t1 t2 => p.out (.inl (by omega)))).sub (Nat.le_refl _) (Nat.min_le_left _ _)
    · rw [c, ← h.at']; exact q.sub (Nat.le_refl _) (Nat.min_le_right _ _)
    · have e := mul_side i k s
      rw [← h.at'] at e
      have e2 : k * (2 * s) + 2 * s ≤ i * (2 * s) := by rw [← succm]; exact Nat.mul_le_mul_right _ c
      rw [← h.at'] at e2
      intro x y h1 h2 h3
      have := Nat.min_le_right ((i + 1) * (2 * s)) n
      omega, fun i => bef_per (h.bef i) p (Nat.le_refl _) (by have := mul_side i k s; rw [← h.at'] at this; omega)⟩
theorem Blk.all {K : Int → Int} {E : Nat → Int} {n s : Nat} (h : Blk K E n s) (hs : n ≤ s) : Srt K E 0 n := by
  have q := h.srt 0
  rw [Nat.zero_mul] at q
  exact q.sub (Nat.le_refl _) (by omega)
end So
end Go.Proofs.Ytbdcbanbnbaoiaa
