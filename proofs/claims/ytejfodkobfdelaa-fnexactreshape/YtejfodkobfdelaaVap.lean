/- Slice of the model. -/
import Derived.Test.YtejfodkobfdelaaVao
import Derived.Test.YtejfodkobfdelaaVam
namespace Go.Proofs.Ytejfodkobfdelaa
namespace Vo
open Go.ChangeShapes Go.WideShapes Go.ChangeAt Go.RowKit Go.Joins
open Vl Vp Vr
set_option linter.unusedVariables false
set_option linter.unusedSimpArgs false

theorem zero_orZero : PV.zero.orZero = PV.zero := by
  unfold PV.orZero
  split <;> rfl
theorem turnedV_zero {r s : Nat} {D S : Nat → Int} {o n : Int} {T : PV} (h : T = PV.zero) : turnedV r s D S o n T = PV.zero := by
  subst h
  unfold turnedV
  rw [zero_orZero]
  split <;> rfl
theorem turnedV_no {r s : Nat} {D S : Nat → Int} {o n x : Int} {T : PV} (h : axOk r s D S o n x = false) (ht : ¬ (0 ≤ x ∧ x < r) → T = PV.zero) : turnedV r s D S o n T = PV.zero := by
  by_cases q : 0 ≤ x ∧ x < r
  · unfold turnedV
    unfold axOk at h
    rw [decide_eq_true q, Bool.and_true] at h
    rw [h]; rfl
  · exact turnedV_zero (ht q)
/-- the model's view under way -/
structure MS (w : World) (P g h r ac ad : Nat) (D S : Nat → Int) (o n : Int) (X : World) : Prop where
  box : Box X P (.slice (some ⟨g, 0, none⟩) r ac) (.slice (some ⟨h, 0, none⟩) r ad) (.int .i64 o) (.int .i64 n)
  free : Free X P
  rbox : Box X (w.heap.size + 1) (.slice none 0 0) (.slice none 0 0) (.int .i64 0) (.int .i64 0)
  rfree : Free X (w.heap.size + 1)
  ra : Rw X g r D
  rb : Rw X h r S
  l1 : w.heap.size + 1 < P
  l2 : w.heap.size + 1 < g
  l3 : w.heap.size + 1 < h
  n1 : P ≠ g
  n2 : P ≠ h
  n3 : g ≠ h
  sz : w.heap.size + 1 < X.heap.size
  below : Below w.heap.size w X
theorem MS.drewN {w : World} {P g h r ac ad : Nat} {D S : Nat → Int} {o n : Int} {X : World} (q : MS w P g h r ac ad D S o n X) (k : Nat) : MS w P g h r ac ad D S o n (X.drewN k) :=
  ⟨q.box, q.free, q.rbox, q.rfree, q.ra, q.rb, q.l1, q.l2, q.l3, q.n1, q.n2, q.n3, q.sz, below_drewN q.below k⟩
theorem MS.setO {w : World} {P g h r ac ad : Nat} {D S : Nat → Int} {o n : Int} {X : World} (q : MS w P g h r ac ad D S o n X) (u : Int) : MS w P g h r ac ad D S u n (X.setCell ⟨P, 2, none⟩ (.int .i64 u)) :=
  ⟨box_set2 q.box _, q.free.set _ _, q.rbox.set _ _ (by have := q.l1; show w.heap.size + 1 ≠ P; omega), q.rfree.set _ _, Rw.other q.ra (by have := q.n1; show g ≠ P; omega), Rw.other q.rb (by have := q.n2; show h ≠ P; omega), q.l1, q.l2, q.l3, q.n1, q.n2, q.n3, by simp [World.setCell]; exact q.sz, q.below.setCell (by have := q.l1; show w.heap.size ≤ P; omega) _⟩
theorem MS.setA {w : World} {P g h r ac ad : Nat} {D S : Nat → Int} {o n : Int} {X : World} (q : MS w P g h r ac ad D S o n X) (k : Nat) (u : Int) (hu : bd u) : MS w P g h r ac ad (upd D k u) S o n (X.setCell ⟨g, k, none⟩ (.int .i64 u)) :=
  ⟨q.box.set _ _ (by exact q.n1), q.free.set _ _, q.rbox.set _ _ (by have := q.l2; show w.heap.size + 1 ≠ g; omega), q.rfree.set _ _, q.ra.set k u hu, Rw.other q.rb (by have := q.n3; show h ≠ g; omega), q.l1, q.l2, q.l3, q.n1, q.n2, q.n3, by simp [World.setCell]; exact q.sz, q.below.setCell (by have := q.l2; show w.heap.size ≤ g; omega) _⟩
theorem MS.setB {w : World} {P g h r ac ad : Nat} {D S : Nat → Int} {o n : Int} {X : World} (q : MS w P g h r ac ad D S o n X) (k : Nat) (u : Int) (hu : bd u) : MS w P g h r ac ad D (upd S k u) o n (X.setCell ⟨h, k, none⟩ (.int .i64 u)) :=
  ⟨q.box.set _ _ (by exact q.n2), q.free.set _ _, q.rbox.set _ _ (by have := q.l3; show w.heap.size + 1 ≠ h; omega), q.rfree.set _ _, Rw.other q.ra (by exact q.n3), q.rb.set k u hu, q.l1, q.l2, q.l3, q.n1, q.n2, q.n3, by simp [World.setCell]; exact q.sz, q.below.setCell (by have := q.l3; show w.heap.size ≤ h; omega) _⟩
theorem MS.own {w : World} {P g h r ac ad : Nat} {D S : Nat → Int} {o n : Int} {X : World} (q : MS w P g h r ac ad D S o n X) : VOwn w.heap.size X (some ⟨g, 0, none⟩) (some ⟨h, 0, none⟩) r r D S :=
  vown_of q.ra q.rb (by have := q.l2; omega) (by have := q.l3; omega) q.n3
theorem upd_upd (D : Nat → Int) (k : Nat) (a b : Int) : upd (upd D k a) k b = upd D k b := by
  funext j
  unfold upd
  split <;> rfl
theorem upd_at (D : Nat → Int) (k : Nat) (a : Int) : upd D k a k = a := by unfold upd; simp
/-- which way the tests go, in the model's order -/
theorem slice_ways' {r : Nat} {D : Nat → Int} {k : Nat} {f c t L : Int} (hk : k < r) (hL : f + (c - 1) * t = L) :
    (decide (c < 1) = true ∧ ¬ sliceOk r D k f c t) ∨ (decide (c < 1) = false ∧ decide (4096 < c) = true ∧ ¬ sliceOk r D k f c t) ∨
    (decide (c < 1) = false ∧ decide (4096 < c) = false ∧ decide (t < -4096) = true ∧ ¬ sliceOk r D k f c t) ∨ (decide (c < 1) = false ∧ decide (4096 < c) = false ∧ decide (t < -4096) = false ∧ decide (4096 < t) = true ∧ ¬ sliceOk r D k f c t) ∨
    (decide (c < 1) = false ∧ decide (4096 < c) = false ∧ decide (t < -4096) = false ∧ decide (4096 < t) = false ∧ decide (f < 0) = true ∧ ¬ sliceOk r D k f c t) ∨ (decide (c < 1) = false ∧ decide (4096 < c) = false ∧ decide (t < -4096) = false ∧ decide (4096 < t) = false ∧ decide (f < 0) = false ∧ decide (D k ≤ f) = true ∧ ¬ sliceOk r D k f c t) ∨
    (decide (f < 0) = false ∧ decide (D k ≤ f) = false ∧ decide (c < 1) = false ∧ decide (4096 < c) = false ∧ decide (t < -4096) = false ∧ decide (4096 < t) = false ∧ decide (L < 0) = true ∧ ¬ sliceOk r D k f c t) ∨ (decide (f < 0) = false ∧ decide (D k ≤ f) = false ∧ decide (c < 1) = false ∧ decide (4096 < c) = false ∧ decide (t < -4096) = false ∧ decide (4096 < t) = false ∧ decide (L < 0) = false ∧ decide (D k ≤ L) = true ∧ ¬ sliceOk r D k f c t) ∨
    (decide (f < 0) = false ∧ decide (D k ≤ f) = false ∧ decide (c < 1) = false ∧ decide (4096 < c) = false ∧ decide (t < -4096) = false ∧ decide (4096 < t) = false ∧ decide (L < 0) = false ∧ decide (D k ≤ L) = false ∧ sliceOk r D k f c t) := by
  rcases slice_ways (D := D) hk hL with q | q | q | q | q | q | q | q | q
  · obtain ⟨d1, no⟩ := q
    by_cases a3 : c < 1
    · exact .inl ⟨decide_eq_true a3, no⟩
    refine .inr ?_
    by_cases a4 : 4096 < c
    · exact .inl ⟨decide_eq_false a3, decide_eq_true a4, no⟩
    refine .inr ?_
    by_cases a5 : t < -4096
    · exact .inl ⟨decide_eq_false a3, decide_eq_false a4, decide_eq_true a5, no⟩
    refine .inr ?_
    by_cases a6 : 4096 < t
    · exact .inl ⟨decide_eq_false a3, decide_eq_false a4, decide_eq_false a5, decide_eq_true a6, no⟩
    exact .inr (.inl ⟨decide_eq_false a3, decide_eq_false a4, decide_eq_false a5, decide_eq_false a6, d1, no⟩)
  · obtain ⟨d1, d2, no⟩ := q
    by_cases a3 : c < 1
    · exact .inl ⟨decide_eq_true a3, no⟩
    refine .inr ?_
    by_cases a4 : 4096 < c
    · exact .inl ⟨decide_eq_false a3, decide_eq_true a4, no⟩
    refine .inr ?_
    by_cases a5 : t < -4096
    · exact .inl ⟨decide_eq_false a3, decide_eq_false a4, decide_eq_true a5, no⟩
    refine .inr ?_
    by_cases a6 : 4096 < t
    · exact .inl ⟨decide_eq_false a3, decide_eq_false a4, decide_eq_false a5, decide_eq_true a6, no⟩
    exact .inr (.inr (.inl ⟨decide_eq_false a3, decide_eq_false a4, decide_eq_false a5, decide_eq_false a6, d1, d2, no⟩))
  · obtain ⟨d1, d2, d3, no⟩ := q
    exact .inl ⟨d3, no⟩
  · obtain ⟨d1, d2, d3, d4, no⟩ := q
    exact .inr (.inl ⟨d3, d4, no⟩)
  · obtain ⟨d1, d2, d3, d4, d5, no⟩ := q
    exact .inr (.inr (.inl ⟨d3, d4, d5, no⟩))
  · obtain ⟨d1, d2, d3, d4, d5, d6, no⟩ := q
    exact .inr (.inr (.inr (.inl ⟨d3, d4, d5, d6, no⟩)))
  · exact .inr (.inr (.inr (.inr (.inr (.inr (.inl q))))))
  · exact .inr (.inr (.inr (.inr (.inr (.inr (.inr (.inl q)))))))
  · exact .inr (.inr (.inr (.inr (.inr (.inr (.inr (.inr q)))))))
theorem turned_le (r s : Nat) (D S : Nat → Int) (o n : Int) (T : PV) : (turnedV r s D S o n T).r ≤ T.r ∧ (turnedV r s D S o n T).s ≤ T.s := by
  unfold turnedV PV.orZero
  split
  · split
    · exact ⟨Nat.le_refl _, Nat.le_refl _⟩
    · exact ⟨Nat.zero_le _, Nat.zero_le _⟩
  · exact ⟨Nat.zero_le _, Nat.zero_le _⟩
end Vo
end Go.Proofs.Ytejfodkobfdelaa
