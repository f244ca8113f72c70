/- Lemmas for the proof of the law. -/
import Derived.Test.YtjlmbeachanlfaaMgaw
import Derived.Test.YtjlmbeachanlfaaMgax
/- The turn of Slice. -/
namespace Go.Proofs.Ytjlmbeachanlfaa
namespace Vo
open Go.ChangeShapes Go.WideShapes Go.ChangeAt Go.RowKit Go.Joins
open Vl Vp Vr
set_option linter.unusedVariables false
set_option linter.unusedSimpArgs false

theorem ints_here {B : Nat} {w : World} {a : Option Addr} {r : Nat} {D : Nat → Int} (h : Ints B w a r D) : Ints w.heap.size w a r D := by
  rcases h with h | ⟨b, off, e, hb, hc⟩
  · exact .inl h
  · by_cases h0 : r = 0
    · exact .inl h0
    · exact .inr ⟨b, off, e, World.block_lt_of_cell? _ _ (hc 0 (by omega)).1, hc⟩
theorem sliceV_no {r s : Nat} {D S : Nat → Int} {o n x f c t : Int} (h : ¬ sliceOk r D x f c t) : sliceV r s D S o n x f c t = PV.zero := by unfold sliceV; rw [if_neg h]
theorem sliceV_yes {r s : Nat} {D S : Nat → Int} {o n x f c t : Int} (h : sliceOk r D x f c t) : sliceV r s D S o n x f c t = ⟨r, s, upd D x.toNat c, upd S x.toNat (if c = 1 then 0 else S x.toNat * t), o + f * S x.toNat, n⟩ := by unfold sliceV; rw [if_pos h]
/-- products of numbers up to 4096 -/
theorem mul_bd {a b : Int} (a1 : -4096 ≤ a) (a2 : a ≤ 4096) (b1 : -4096 ≤ b) (b2 : b ≤ 4096) : -16777216 ≤ a * b ∧ a * b ≤ 16777216 := by
  have h1 : 0 ≤ (4096 - a) * (4096 - b) := Int.mul_nonneg (by omega) (by omega)
  have h2 : 0 ≤ (4096 + a) * (4096 + b) := Int.mul_nonneg (by omega) (by omega)
  have h3 : 0 ≤ (4096 - a) * (4096 + b) := Int.mul_nonneg (by omega) (by omega)
  have h4 : 0 ≤ (4096 + a) * (4096 - b) := Int.mul_nonneg (by omega) (by omega)
  simp only [Int.mul_sub, Int.sub_mul, Int.add_mul, Int.mul_add] at h1 h2 h3 h4
  omega
theorem wrap_id {z : Int} (h1 : -9223372036854775808 ≤ z) (h2 : z ≤ 9223372036854775807) : IntKind.i64.wrap z = z := by rw [IntKind.wrap_i64]; omega
/-- a view with one place turned -/
theorem upd_own {B : Nat} {w : World} {g h r : Nat} {D S : Nat → Int} (k : Nat) (u v : Int) (hd : Rw w g r D) (hs : Rw w h r S) (b1 : B ≤ g) (b2 : B ≤ h) (hn : g ≠ h) (bu : bd u) (bv : bd v) :
    VOwn B ((w.setCell ⟨g, k, none⟩ (.int .i64 u)).setCell ⟨h, k, none⟩ (.int .i64 v)) (some ⟨g, 0, none⟩) (some ⟨h, 0, none⟩) r r (upd D k u) (upd S k v) :=
  vown_of (Rw.other (hd.set k u bu) hn) ((Rw.other (p := ⟨g, k, none⟩) hs (by exact fun e => hn e.symm)).set k v bv) b1 b2 hn
/-- which way the tests go, in the program's order -/
theorem slice_ways {r : Nat} {D : Nat → Int} {k : Nat} {f c t L : Int} (hk : k < r) (hL : f + (c - 1) * t = L) :
    (decide (f < 0) = true ∧ ¬ sliceOk r D k f c t) ∨ (decide (f < 0) = false ∧ decide (D k ≤ f) = true ∧ ¬ sliceOk r D k f c t) ∨
    (decide (f < 0) = false ∧ decide (D k ≤ f) = false ∧ decide (c < 1) = true ∧ ¬ sliceOk r D k f c t) ∨ (decide (f < 0) = false ∧ decide (D k ≤ f) = false ∧ decide (c < 1) = false ∧ decide (4096 < c) = true ∧ ¬ sliceOk r D k f c t) ∨
    (decide (f < 0) = false ∧ decide (D k ≤ f) = false ∧ decide (c < 1) = false ∧ decide (4096 < c) = false ∧ decide (t < -4096) = true ∧ ¬ sliceOk r D k f c t) ∨ (decide (f < 0) = false ∧ decide (D k ≤ f) = false ∧ decide (c < 1) = false ∧ decide (4096 < c) = false ∧ decide (t < -4096) = false ∧ decide (4096 < t) = true ∧ ¬ sliceOk r D k f c t) ∨
    (decide (f < 0) = false ∧ decide (D k ≤ f) = false ∧ decide (c < 1) = false ∧ decide (4096 < c) = false ∧ decide (t < -4096) = false ∧ decide (4096 < t) = false ∧ decide (L < 0) = true ∧ ¬ sliceOk r D k f c t) ∨ (decide (f < 0) = false ∧ decide (D k ≤ f) = false ∧ decide (c < 1) = false ∧ decide (4096 < c) = false ∧ decide (t < -4096) = false ∧ decide (4096 < t) = false ∧ decide (L < 0) = false ∧ decide (D k ≤ L) = true ∧ ¬ sliceOk r D k f c t) ∨
    (decide (f < 0) = false ∧ decide (D k ≤ f) = false ∧ decide (c < 1) = false ∧ decide (4096 < c) = false ∧ decide (t < -4096) = false ∧ decide (4096 < t) = false ∧ decide (L < 0) = false ∧ decide (D k ≤ L) = false ∧ sliceOk r D k f c t) := by
  have key : sliceOk r D k f c t ↔ (0 ≤ f ∧ f < D k ∧ 1 ≤ c ∧ c ≤ 4096 ∧ -4096 ≤ t ∧ t ≤ 4096 ∧ 0 ≤ L ∧ L < D k) := by
    unfold sliceOk
    rw [hL, Int.toNat_natCast]
    exact ⟨fun q => q.2.2, fun q => ⟨by omega, by omega, q⟩⟩
  rw [key]
  clear key hL hk
  generalize D k = d
  by_cases a1 : f < 0
  · exact .inl ⟨decide_eq_true a1, by omega⟩
  refine .inr ?_
  by_cases a2 : d ≤ f
  · exact .inl ⟨decide_eq_false a1, decide_eq_true a2, by omega⟩
  refine .inr ?_
  by_cases a3 : c < 1
  · exact .inl ⟨decide_eq_false a1, decide_eq_false a2, decide_eq_true a3, by omega⟩
  refine .inr ?_
  by_cases a4 : 4096 < c
  · exact .inl ⟨decide_eq_false a1, decide_eq_false a2, decide_eq_false a3, decide_eq_true a4, by omega⟩
  refine .inr ?_
  by_cases a5 : t < -4096
  · exact .inl ⟨decide_eq_false a1, decide_eq_false a2, decide_eq_false a3, decide_eq_false a4, decide_eq_true a5, by omega⟩
  refine .inr ?_
  by_cases a6 : 4096 < t
  · exact .inl ⟨decide_eq_false a1, decide_eq_false a2, decide_eq_false a3, decide_eq_false a4, decide_eq_false a5, decide_eq_true a6, by omega⟩
  refine .inr ?_
  by_cases a7 : L < 0
  · exact .inl ⟨decide_eq_false a1, decide_eq_false a2, decide_eq_false a3, decide_eq_false a4, decide_eq_false a5, decide_eq_false a6, decide_eq_true a7, by omega⟩
  refine .inr ?_
  by_cases a8 : d ≤ L
  · exact .inl ⟨decide_eq_false a1, decide_eq_false a2, decide_eq_false a3, decide_eq_false a4, decide_eq_false a5, decide_eq_false a6, decide_eq_false a7, decide_eq_true a8, by omega⟩
  exact .inr ⟨decide_eq_false a1, decide_eq_false a2, decide_eq_false a3, decide_eq_false a4, decide_eq_false a5, decide_eq_false a6, decide_eq_false a7, decide_eq_false a8, by omega⟩
theorem slice_wraps {f c t L d : Int} (hL : f + (c - 1) * t = L) (hd : d ≤ 4096) (d1 : decide (f < 0) = false) (d2 : decide (d ≤ f) = false) (d3 : decide (c < 1) = false) (d4 : decide (4096 < c) = false) (d5 : decide (t < -4096) = false) (d6 : decide (4096 < t) = false) :
    IntKind.i64.wrap (c - 1) = c - 1 ∧ IntKind.i64.wrap ((c - 1) * t) = (c - 1) * t ∧ IntKind.i64.wrap (f + (c - 1) * t) = L := by
  simp only [decide_eq_false_iff_not] at d1 d2 d3 d4 d5 d6
  have := mul_bd (a := c - 1) (b := t) (by omega) (by omega) (by omega) (by omega)
  exact ⟨wrap_id (by omega) (by omega), wrap_id (by omega) (by omega), by rw [wrap_id (by omega) (by omega), hL]⟩
/-- the stride of an axis that was made -/
def so (c m : Int) : Int := if c = 1 then 0 else m
theorem so_bd {c m : Int} (h : bd m) : bd (so c m) := by
  unfold so bd at *
  split <;> omega
/-- a turn under way: the view in its variable, its two lists, the variable of the answer -/
structure TS (W : World) (ga gb r ac ad : Nat) (D S : Nat → Int) (o n : Int) (X : World) : Prop where
  box : Box X W.heap.size (.slice (some ⟨ga, 0, none⟩) r ac) (.slice (some ⟨gb, 0, none⟩) r ad) (.int .i64 o) (.int .i64 n)
  free : Free X W.heap.size
  rbox : Box X (W.heap.size + 1) (.slice none 0 0) (.slice none 0 0) (.int .i64 0) (.int .i64 0)
  rfree : Free X (W.heap.size + 1)
  ra : Rw X ga r D
  rb : Rw X gb r S
  la : ga < W.heap.size
  lb : gb < W.heap.size
  ne : ga ≠ gb
  sz : W.heap.size + 1 < X.heap.size
  kept : Kept (fun k => k = ga ∨ k = gb) W X
theorem TS.drewN {W : World} {ga gb r ac ad : Nat} {D S : Nat → Int} {o n : Int} {X : World} (h : TS W ga gb r ac ad D S o n X) (q : Nat) : TS W ga gb r ac ad D S o n (X.drewN q) :=
  ⟨h.box, h.free, h.rbox, h.rfree, h.ra, h.rb, h.la, h.lb, h.ne, h.sz, ⟨h.kept.os, h.kept.tape, h.kept.output, h.kept.size, h.kept.block⟩⟩
theorem box_set2 {w : World} {p : Nat} {v0 v1 v2 v3 : Value} (h : Box w p v0 v1 v2 v3) (u : Value) : Box (w.setCell ⟨p, 2, none⟩ u) p v0 v1 u v3 := by
  obtain ⟨a, b, c, d⟩ := h
  refine ⟨?_, ?_, World.cell?_setCell_same _ _ _ c, ?_⟩
  · rw [World.cell?_setCell_other _ _ _ _ (by intro e; cases e)]; exact a
  · rw [World.cell?_setCell_other _ _ _ _ (by intro e; cases e)]; exact b
  · rw [World.cell?_setCell_other _ _ _ _ (by intro e; cases e)]; exact d
theorem TS.setO {W : World} {ga gb r ac ad : Nat} {D S : Nat → Int} {o n : Int} {X : World} (h : TS W ga gb r ac ad D S o n X) (u : Int) : TS W ga gb r ac ad D S u n (X.setCell ⟨W.heap.size, 2, none⟩ (.int .i64 u)) :=
  ⟨box_set2 h.box _, h.free.set _ _, h.rbox.set _ _ (by show W.heap.size + 1 ≠ W.heap.size; omega), h.rfree.set _ _, Rw.other h.ra (by have := h.la; show ga ≠ W.heap.size; omega), Rw.other h.rb (by have := h.lb; show gb ≠ W.heap.size; omega), h.la, h.lb, h.ne, by simp [World.setCell]; exact h.sz,
    Kept.then h.kept (Kept.setCell X ⟨W.heap.size, 2, none⟩ (.int .i64 u)) (fun i e => .inl (by have e : i = W.heap.size := e; omega))⟩
theorem TS.setA {W : World} {ga gb r ac ad : Nat} {D S : Nat → Int} {o n : Int} {X : World} (h : TS W ga gb r ac ad D S o n X) (k : Nat) (u : Int) (hu : bd u) : TS W ga gb r ac ad (upd D k u) S o n (X.setCell ⟨ga, k, none⟩ (.int .i64 u)) :=
  ⟨h.box.set _ _ (by have := h.la; show W.heap.size ≠ ga; omega), h.free.set _ _, h.rbox.set _ _ (by have := h.la; show W.heap.size + 1 ≠ ga; omega), h.rfree.set _ _, h.ra.set k u hu, Rw.other h.rb (by have := h.ne; show gb ≠ ga; omega), h.la, h.lb, h.ne, by simp [World.setCell]; exact h.sz,
    Kept.then h.kept (Kept.setCell X ⟨ga, k, none⟩ (.int .i64 u)) (fun i e => .inr (.inl e))⟩
theorem TS.setB {W : World} {ga gb r ac ad : Nat} {D S : Nat → Int} {o n : Int} {X : World} (h : TS W ga gb r ac ad D S o n X) (k : Nat) (u : Int) (hu : bd u) : TS W ga gb r ac ad D (upd S k u) o n (X.setCell ⟨gb, k, none⟩ (.int .i64 u)) :=
  ⟨h.box.set _ _ (by have := h.lb; show W.heap.size ≠ gb; omega), h.free.set _ _, h.rbox.set _ _ (by have := h.lb; show W.heap.size + 1 ≠ gb; omega), h.rfree.set _ _, Rw.other h.ra (by have := h.ne; show ga ≠ gb; omega), h.rb.set k u hu, h.la, h.lb, h.ne, by simp [World.setCell]; exact h.sz,
    Kept.then h.kept (Kept.setCell X ⟨gb, k, none⟩ (.int .i64 u)) (fun i e => .inr (.inr e))⟩
theorem TS.out {W : World} {C ga gb r ac ad : Nat} {D S : Nat → Int} {o n : Int} {X : World} (h : TS W ga gb r ac ad D S o n X) (ha : C ≤ ga) (hb : C ≤ gb) : TurnR C ⟨r, r, D, S, o, n⟩ (.slice (some ⟨ga, 0, none⟩) r ac) (.slice (some ⟨gb, 0, none⟩) r ad) W
    (.returned (.agg #[.slice (some ⟨ga, 0, none⟩) r ac, .slice (some ⟨gb, 0, none⟩) r ad, .int .i64 o, .int .i64 n])) ((((X.setCell ⟨W.heap.size + 1, 0, none⟩ (.slice (some ⟨ga, 0, none⟩) r ac)).setCell ⟨W.heap.size + 1, 1, none⟩ (.slice (some ⟨gb, 0, none⟩) r ad)).setCell ⟨W.heap.size + 1, 2, none⟩ (.int .i64 o)).setCell ⟨W.heap.size + 1, 3, none⟩ (.int .i64 n)) := by
  have k4 := kept_sets4 X (W.heap.size + 1) (.slice (some ⟨ga, 0, none⟩) r ac) (.slice (some ⟨gb, 0, none⟩) r ad) (.int .i64 o) (.int .i64 n)
  have la := h.la
  have lb := h.lb
  refine ⟨_, _, _, _, rfl, vown_of (h.ra.kept k4 (by omega)) (h.rb.kept k4 (by omega)) ha hb h.ne, (Kept.then h.kept k4 (fun i e => .inl (by have e : i = W.heap.size + 1 := e; omega))).mono ?_⟩
  rintro k _ (rfl | rfl)
  · exact .inl rfl
  · exact .inr rfl
end Vo
end Go.Proofs.Ytjlmbeachanlfaa

/- Slice of the model. -/
namespace Go.Proofs.Ytjlmbeachanlfaa
namespace Vo
open Go.ChangeShapes Go.WideShapes Go.ChangeAt Go.RowKit Go.Joins
open Vl Vp Vr
set_option linter.unusedVariables false
set_option linter.unusedSimpArgs false

theorem zero_orZero : PV.zero.orZero = PV.zero := by
  unfold PV.orZero
  split <;> rfl
theorem turnedV_zero {r s : Nat} {D S : Nat → Int} {o n : Int} {T : PV} (h : T = PV.zero) : turnedV r s D S o n T = PV.zero := by
  subst h
  unfold turnedV
  rw [zero_orZero]
  split <;> rfl
theorem turnedV_no {r s : Nat} {D S : Nat → Int} {o n x : Int} {T : PV} (h : axOk r s D S o n x = false) (ht : ¬ (0 ≤ x ∧ x < r) → T = PV.zero) : turnedV r s D S o n T = PV.zero := by
  by_cases q : 0 ≤ x ∧ x < r
  · unfold turnedV
    unfold axOk at h
    rw [decide_eq_true q, Bool.and_true] at h
    rw [h]; rfl
  · exact turnedV_zero (ht q)
/-- the model's view under way -/
structure MS (w : World) (P g h r ac ad : Nat) (D S : Nat → Int) (o n : Int) (X : World) : Prop where
  box : Box X P (.slice (some ⟨g, 0, none⟩) r ac) (.slice (some ⟨h, 0, none⟩) r ad) (.int .i64 o) (.int .i64 n)
  free : Free X P
  rbox : Box X (w.heap.size + 1) (.slice none 0 0) (.slice none 0 0) (.int .i64 0) (.int .i64 0)
  rfree : Free X (w.heap.size + 1)
  ra : Rw X g r D
  rb : Rw X h r S
  l1 : w.heap.size + 1 < P
  l2 : w.heap.size + 1 < g
  l3 : w.heap.size + 1 < h
  n1 : P ≠ g
  n2 : P ≠ h
  n3 : g ≠ h
  sz : w.heap.size + 1 < X.heap.size
  below : Below w.heap.size w X
theorem MS.drewN {w : World} {P g h r ac ad : Nat} {D S : Nat → Int} {o n : Int} {X : World} (q : MS w P g h r ac ad D S o n X) (k : Nat) : MS w P g h r ac ad D S o n (X.drewN k) :=
  ⟨q.box, q.free, q.rbox, q.rfree, q.ra, q.rb, q.l1, q.l2, q.l3, q.n1, q.n2, q.n3, q.sz, below_drewN q.below k⟩
theorem MS.setO {w : World} {P g h r ac ad : Nat} {D S : Nat → Int} {o n : Int} {X : World} (q : MS w P g h r ac ad D S o n X) (u : Int) : MS w P g h r ac ad D S u n (X.setCell ⟨P, 2, none⟩ (.int .i64 u)) :=
  ⟨box_set2 q.box _, q.free.set _ _, q.rbox.set _ _ (by have := q.l1; show w.heap.size + 1 ≠ P; omega), q.rfree.set _ _, Rw.other q.ra (by have := q.n1; show g ≠ P; omega), Rw.other q.rb (by have := q.n2; show h ≠ P; omega), q.l1, q.l2, q.l3, q.n1, q.n2, q.n3, by simp [World.setCell]; exact q.sz, q.below.setCell (by have := q.l1; show w.heap.size ≤ P; omega) _⟩
theorem MS.setA {w : World} {P g h r ac ad : Nat} {D S : Nat → Int} {o n : Int} {X : World} (q : MS w P g h r ac ad D S o n X) (k : Nat) (u : Int) (hu : bd u) : MS w P g h r ac ad (upd D k u) S o n (X.setCell ⟨g, k, none⟩ (.int .i64 u)) :=
  ⟨q.box.set _ _ (by exact q.n1), q.free.set _ _, q.rbox.set _ _ (by have := q.l2; show w.heap.size + 1 ≠ g; omega), q.rfree.set _ _, q.ra.set k u hu, Rw.other q.rb (by have := q.n3; show h ≠ g; omega), q.l1, q.l2, q.l3, q.n1, q.n2, q.n3, by simp [World.setCell]; exact q.sz, q.below.setCell (by have := q.l2; show w.heap.size ≤ g; omega) _⟩
theorem MS.setB {w : World} {P g h r ac ad : Nat} {D S : Nat → Int} {o n : Int} {X : World} (q : MS w P g h r ac ad D S o n X) (k : Nat) (u : Int) (hu : bd u) : MS w P g h r ac ad D (upd S k u) o n (X.setCell ⟨h, k, none⟩ (.int .i64 u)) :=
  ⟨q.box.set _ _ (by exact q.n2), q.free.set _ _, q.rbox.set _ _ (by have := q.l3; show w.heap.size + 1 ≠ h; omega), q.rfree.set _ _, Rw.other q.ra (by exact q.n3), q.rb.set k u hu, q.l1, q.l2, q.l3, q.n1, q.n2, q.n3, by simp [World.setCell]; exact q.sz, q.below.setCell (by have := q.l3; show w.heap.size ≤ h; omega) _⟩
theorem MS.own {w : World} {P g h r ac ad : Nat} {D S : Nat → Int} {o n : Int} {X : World} (q : MS w P g h r ac ad D S o n X) : VOwn w.heap.size X (some ⟨g, 0, none⟩) (some ⟨h, 0, none⟩) r r D S :=
  vown_of q.ra q.rb (by have := q.l2; omega) (by have := q.l3; omega) q.n3
theorem upd_upd (D : Nat → Int) (k : Nat) (a b : Int) : upd (upd D k a) k b = upd D k b := by
  funext j
  unfold upd
  split <;> rfl
theorem upd_at (D : Nat → Int) (k : Nat) (a : Int) : upd D k a k = a := by unfold upd; simp
/-- which way the tests go, in the model's order -/
theorem slice_ways' {r : Nat} {D : Nat → Int} {k : Nat} {f c t L : Int} (hk : k < r) (hL : f + (c - 1) * t = L) :
    (decide (c < 1) = true ∧ ¬ sliceOk r D k f c t) ∨ (decide (c < 1) = false ∧ decide (4096 < c) = true ∧ ¬ sliceOk r D k f c t) ∨
    (decide (c < 1) = false ∧ decide (4096 < c) = false ∧ decide (t < -4096) = true ∧ ¬ sliceOk r D k f c t) ∨ (decide (c < 1) = false ∧ decide (4096 < c) = false ∧ decide (t < -4096) = false ∧ decide (4096 < t) = true ∧ ¬ sliceOk r D k f c t) ∨
    (decide (c < 1) = false ∧ decide (4096 < c) = false ∧ decide (t < -4096) = false ∧ decide (4096 < t) = false ∧ decide (f < 0) = true ∧ ¬ sliceOk r D k f c t) ∨ (decide (c < 1) = false ∧ decide (4096 < c) = false ∧ decide (t < -4096) = false ∧ decide (4096 < t) = false ∧ decide (f < 0) = false ∧ decide (D k ≤ f) = true ∧ ¬ sliceOk r D k f c t) ∨
    (decide (f < 0) = false ∧ decide (D k ≤ f) = false ∧ decide (c < 1) = false ∧ decide (4096 < c) = false ∧ decide (t < -4096) = false ∧ decide (4096 < t) = false ∧ decide (L < 0) = true ∧ ¬ sliceOk r D k f c t) ∨ (decide (f < 0) = false ∧ decide (D k ≤ f) = false ∧ decide (c < 1) = false ∧ decide (4096 < c) = false ∧ decide (t < -4096) = false ∧ decide (4096 < t) = false ∧ decide (L < 0) = false ∧ decide (D k ≤ L) = true ∧ ¬ sliceOk r D k f c t) ∨
    (decide (f < 0) = false ∧ decide (D k ≤ f) = false ∧ decide (c < 1) = false ∧ decide (4096 < c) = false ∧ decide (t < -4096) = false ∧ decide (4096 < t) = false ∧ decide (L < 0) = false ∧ decide (D k ≤ L) = false ∧ sliceOk r D k f c t) := by
  rcases slice_ways (D := D) hk hL with q | q | q | q | q | q | q | q | q
  · obtain ⟨d1, no⟩ := q
    by_cases a3 : c < 1
    · exact .inl ⟨decide_eq_true a3, no⟩
    refine .inr ?_
    by_cases a4 : 4096 < c
    · exact .inl ⟨decide_eq_false a3, decide_eq_true a4, no⟩
    refine .inr ?_
    by_cases a5 : t < -4096
    · exact .inl ⟨decide_eq_false a3, decide_eq_false a4, decide_eq_true a5, no⟩
    refine .inr ?_
    by_cases a6 : 4096 < t
    · exact .inl ⟨decide_eq_false a3, decide_eq_false a4, decide_eq_false a5, decide_eq_true a6, no⟩
    exact .inr (.inl ⟨decide_eq_false a3, decide_eq_false a4, decide_eq_false a5, decide_eq_false a6, d1, no⟩)
  · obtain ⟨d1, d2, no⟩ := q
    by_cases a3 : c < 1
    · exact .inl ⟨decide_eq_true a3, no⟩
    refine .inr ?_
    by_cases a4 : 4096 < c
    · exact .inl ⟨decide_eq_false a3, decide_eq_true a4, no⟩
    refine .inr ?_
    by_cases a5 : t < -4096
    · exact .inl ⟨decide_eq_false a3, decide_eq_false a4, decide_eq_true a5, no⟩
    refine .inr ?_
    by_cases a6 : 4096 < t
    · exact .inl ⟨decide_eq_false a3, decide_eq_false a4, decide_eq_false a5, decide_eq_true a6, no⟩
    exact .inr (.inr (.inl ⟨decide_eq_false a3, decide_eq_false a4, decide_eq_false a5, decide_eq_false a6, d1, d2, no⟩))
  · obtain ⟨d1, d2, d3, no⟩ := q
    exact .inl ⟨d3, no⟩
  · obtain ⟨d1, d2, d3, d4, no⟩ := q
    exact .inr (.inl ⟨d3, d4, no⟩)
  · obtain ⟨d1, d2, d3, d4, d5, no⟩ := q
    exact .inr (.inr (.inl ⟨d3, d4, d5, no⟩))
  · obtain ⟨d1, d2, d3, d4, d5, d6, no⟩ := q
    exact .inr (.inr (.inr (.inl ⟨d3, d4, d5, d6, no⟩)))
  · exact .inr (.inr (.inr (.inr (.inr (.inr (.inl q))))))
  · exact .inr (.inr (.inr (.inr (.inr (.inr (.inr (.inl q)))))))
  · exact .inr (.inr (.inr (.inr (.inr (.inr (.inr (.inr q)))))))
theorem turned_le (r s : Nat) (D S : Nat → Int) (o n : Int) (T : PV) : (turnedV r s D S o n T).r ≤ T.r ∧ (turnedV r s D S o n T).s ≤ T.s := by
  unfold turnedV PV.orZero
  split
  · split
    · exact ⟨Nat.le_refl _, Nat.le_refl _⟩
    · exact ⟨Nat.zero_le _, Nat.zero_le _⟩
  · exact ⟨Nat.zero_le _, Nat.zero_le _⟩
end Vo
end Go.Proofs.Ytjlmbeachanlfaa
