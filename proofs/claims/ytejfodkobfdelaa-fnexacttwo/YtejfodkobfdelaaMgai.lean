/- Lemmas for the proof of the law. -/
import Derived.Test.YtejfodkobfdelaaMgah
import Derived.Deep.RegionLaw
/- Views that are answered. -/
namespace Go.Proofs.Ytejfodkobfdelaa
namespace Vo
open Go.ChangeShapes Go.WideShapes Go.ChangeAt Go.RowKit Go.Joins
open Vl Vp Vr
set_option linter.unusedVariables false

/-- a view, plain -/
structure PV where
  r : Nat
  s : Nat
  D : Nat → Int
  S : Nat → Int
  o : Int
  n : Int
def PV.zero : PV := ⟨0, 0, fun _ => 0, fun _ => 0, 0, 0⟩
def PV.ok (v : PV) : Bool := vok v.r v.s v.D v.S v.o v.n
def PV.orZero (v : PV) : PV := if v.ok = true then v else PV.zero
/-- a view that is answered: of one's own, from B on -/
def ViewR (B : Nat) (v : PV) (w : World) (e : Ending) (w' : World) : Prop :=
  ∃ a b c d, e = .returned (.agg #[.slice a v.r c, .slice b v.s d, .int .i64 v.o, .int .i64 v.n]) ∧ VOwn B w' a b v.r v.s v.D v.S ∧ Below w.heap.size w w'
theorem viewR_zero {B : Nat} {w w' : World} (hb : Below w.heap.size w w') : ViewR B PV.zero w (.returned (.agg #[.slice none 0 0, .slice none 0 0, .int .i64 0, .int .i64 0])) w' :=
  ⟨none, none, 0, 0, rfl, ⟨.inl rfl, .inl rfl, fun k h => absurd rfl h.1⟩, hb⟩
/-- what a turn of a view is, where T is what comes -/
def turnedV (r s : Nat) (D S : Nat → Int) (o n : Int) (T : PV) : PV := if vok r s D S o n = true then T.orZero else PV.zero
/-- the blocks of two lists of one's own -/
def OB (va vb : Value) : Nat → Prop := fun k => va.ownBlock = some k ∨ vb.ownBlock = some k
/-- what a turn answers: it may write into the two lists that it was handed -/
def TurnR (B : Nat) (v : PV) (va vb : Value) (W : World) (e : Ending) (W' : World) : Prop :=
  ∃ a b c d, e = .returned (.agg #[.slice a v.r c, .slice b v.s d, .int .i64 v.o, .int .i64 v.n]) ∧ VOwn B W' a b v.r v.s v.D v.S ∧ Kept (OB va vb) W W'
theorem turnR_zero {B : Nat} {va vb : Value} {w w' : World} (hb : Kept (OB va vb) w w') : TurnR B PV.zero va vb w (.returned (.agg #[.slice none 0 0, .slice none 0 0, .int .i64 0, .int .i64 0])) w' :=
  ⟨none, none, 0, 0, rfl, ⟨.inl rfl, .inl rfl, fun k h => absurd rfl h.1⟩, hb⟩
theorem box_cells {w : World} {p : Nat} {v0 v1 v2 v3 : Value} (h : Box w p v0 v1 v2 v3) (i : Nat) (hi : i < 4) : ∃ v, w.cell? ⟨p, i, none⟩ = some v := by
  obtain ⟨a, b, c, d⟩ := h
  have : i = 0 ∨ i = 1 ∨ i = 2 ∨ i = 3 := by omega
  rcases this with rfl | rfl | rfl | rfl
  · exact ⟨_, a⟩
  · exact ⟨_, b⟩
  · exact ⟨_, c⟩
  · exact ⟨_, d⟩
/-- the marks of a variable -/
def Free (w : World) (p : Nat) : Prop := ∀ i, w.frozen? ⟨p, i, none⟩ = false
theorem Free.below {B : Nat} {w w' : World} {p : Nat} (h : Free w p) (hb : Below B w w') (hp : p < B) : Free w' p := fun i => (hb.frozen (p := ⟨p, i, none⟩) hp).trans (h i)
theorem Free.kept {T : Nat → Prop} {w w' : World} {p : Nat} (h : Free w p) (hk : Kept T w w') (hp : p < w.heap.size) (hn : ¬ T p) : Free w' p := fun i => (World.frozen?_of_block (w := w) (a := ⟨p, i, none⟩) (hk.block p hp hn)).trans (h i)
theorem Free.set {w : World} {p : Nat} (h : Free w p) (q : Addr) (u : Value) : Free (w.setCell q u) p := fun i => by rw [World.frozen?_setCell]; exact h i
theorem free_new (w : World) (cs : Array Value) (t : TypeId) : Free (w.alloc (.cells cs t)) w.heap.size := fun i => by simp [go_sem]

theorem box_set01 {w : World} {p : Nat} {v0 v1 v2 v3 : Value} (h : Box w p v0 v1 v2 v3) (u0 u1 : Value) : Box ((w.setCell ⟨p, 0, none⟩ u0).setCell ⟨p, 1, none⟩ u1) p u0 u1 v2 v3 := by
  obtain ⟨a, b, c, d⟩ := h
  refine ⟨?_, ?_, ?_, ?_⟩
  · rw [World.cell?_setCell_other _ _ _ _ (by intro e; cases e), World.cell?_setCell_same _ _ _ a]
  · exact World.cell?_setCell_same _ _ _ ((World.cell?_setCell_other _ _ _ _ (by intro e; cases e)).trans b)
  · rw [World.cell?_setCell_other _ _ _ _ (by intro e; cases e), World.cell?_setCell_other _ _ _ _ (by intro e; cases e)]; exact c
  · rw [World.cell?_setCell_other _ _ _ _ (by intro e; cases e), World.cell?_setCell_other _ _ _ _ (by intro e; cases e)]; exact d
theorem box_set1 {w : World} {p : Nat} {v0 v1 v2 v3 : Value} (h : Box w p v0 v1 v2 v3) (u1 : Value) : Box (w.setCell ⟨p, 1, none⟩ u1) p v0 u1 v2 v3 := by
  obtain ⟨a, b, c, d⟩ := h
  refine ⟨?_, World.cell?_setCell_same _ _ _ b, ?_, ?_⟩
  · rw [World.cell?_setCell_other _ _ _ _ (by intro e; cases e)]; exact a
  · rw [World.cell?_setCell_other _ _ _ _ (by intro e; cases e)]; exact c
  · rw [World.cell?_setCell_other _ _ _ _ (by intro e; cases e)]; exact d
theorem box_sets4 {w : World} {p : Nat} {v0 v1 v2 v3 : Value} (h : Box w p v0 v1 v2 v3) (u0 u1 u2 u3 : Value) : Box ((((w.setCell ⟨p, 0, none⟩ u0).setCell ⟨p, 1, none⟩ u1).setCell ⟨p, 2, none⟩ u2).setCell ⟨p, 3, none⟩ u3) p u0 u1 u2 u3 := by
  obtain ⟨a, b, c, d⟩ := h
  unfold Box
  refine ⟨?_, ?_, ?_, ?_⟩ <;> simp [go_sem, a, b, c, d]
theorem Box.set {w : World} {p : Nat} {v0 v1 v2 v3 : Value} (h : Box w p v0 v1 v2 v3) (q : Addr) (u : Value) (hn : p ≠ q.block) : Box (w.setCell q u) p v0 v1 v2 v3 := by
  obtain ⟨a, b, c, d⟩ := h
  exact ⟨set_other hn a, set_other hn b, set_other hn c, set_other hn d⟩
theorem RowV.mono {B B' : Nat} {w : World} {v : Value} {r : Nat} {D : Nat → Int} (h : RowV B w v r D) (hB : B' ≤ B) : RowV B' w v r D := by
  obtain ⟨⟨h1, h2⟩, hb⟩ := h
  refine ⟨⟨h1, ?_⟩, hb⟩
  rcases h2 with h2 | ⟨g, cap, cur, e, hg, rest⟩
  · exact .inl h2
  · exact .inr ⟨g, cap, cur, e, by omega, rest⟩
theorem RowV.below {B : Nat} {w w' : World} {v : Value} {r : Nat} {D : Nat → Int} (h : RowV B w v r D) (hb : Below w.heap.size w w') : RowV B w' v r D := ⟨own_below h.1 hb, h.2⟩
theorem RowV.kept {T : Nat → Prop} {B : Nat} {w w' : World} {v : Value} {r : Nat} {D : Nat → Int} (h : RowV B w v r D) (hk : Kept T w w') (hn : ∀ k, v.ownBlock = some k → ¬ T k) : RowV B w' v r D := by
  obtain ⟨⟨h1, h2⟩, hb⟩ := h
  refine ⟨⟨h1, ?_⟩, hb⟩
  rcases h2 with h2 | ⟨g, cap, cur, e, hg, hh, rest⟩
  · exact .inl h2
  · refine .inr ⟨g, cap, cur, e, hg, ?_, rest⟩
    rw [hk.block g (Array.getElem?_eq_some_iff.1 hh).1 (hn g (by rw [e]; rfl))]; exact hh
theorem RowV.lt {B : Nat} {w : World} {v : Value} {r : Nat} {D : Nat → Int} (h : RowV B w v r D) {k : Nat} (hk : v.ownBlock = some k) : B ≤ k ∧ k < w.heap.size := h.1.lt k hk
theorem Kept.then {S T : Nat → Prop} {a b c : World} (h : Kept S a b) (k : Kept T b c) (ht : ∀ i, T i → a.heap.size ≤ i ∨ S i) : Kept S a c :=
  ⟨k.os.trans h.os, k.tape.trans h.tape, k.output.trans h.output, Nat.le_trans h.size k.size, fun i hi hn => (k.block i (Nat.lt_of_lt_of_le hi h.size) (fun q => by rcases ht i q with q | q; omega; exact hn q)).trans (h.block i hi hn)⟩
theorem kept_sets4 (w : World) (p : Nat) (u0 u1 u2 u3 : Value) : Kept (· = p) w ((((w.setCell ⟨p, 0, none⟩ u0).setCell ⟨p, 1, none⟩ u1).setCell ⟨p, 2, none⟩ u2).setCell ⟨p, 3, none⟩ u3) :=
  (((Kept.setCell w ⟨p, 0, none⟩ u0).trans (Kept.setCell _ ⟨p, 1, none⟩ u1)).trans (Kept.setCell _ ⟨p, 2, none⟩ u2)).trans (Kept.setCell _ ⟨p, 3, none⟩ u3)
end Vo
end Go.Proofs.Ytejfodkobfdelaa

/- Whole views: plain; Whole on the model's side. -/
namespace Go.Proofs.Ytejfodkobfdelaa
namespace Vo
open Go.ChangeShapes Go.WideShapes Go.ChangeAt Go.RowKit Go.Joins
open Vl Vp Vr
set_option linter.unusedVariables false
set_option linter.unusedSimpArgs false

/-- the product of the last k lengths -/
def bh (D : Nat → Int) (r : Nat) : Nat → Int | 0 => 1 | k + 1 => bh D r k * D (r - 1 - k)
theorem pr_front (E : Nat → Int) (m : Nat) : pr E (m + 1) = E 0 * pr (fun t => E (t + 1)) m := by
  induction m with
  | zero => simp [pr]
  | succ m ih =>
    have e : pr E (m + 1 + 1) = pr E (m + 1) * E (m + 1) := rfl
    rw [e, ih]
    simp only [pr]
    rw [Int.mul_assoc]
theorem bh_seg (D : Nat → Int) (r m : Nat) (hm : m ≤ r) : bh D r m = pr (fun t => D (r - m + t)) m := by
  induction m with
  | zero => rfl
  | succ m ih =>
    simp only [bh]
    rw [ih (by omega), pr_front, Int.mul_comm]
    congr 1
    · congr 1; omega
    · exact pr_same (fun j hj => by congr 1; omega)
theorem pr_add (D : Nat → Int) (a b : Nat) : pr D (a + b) = pr D a * pr (fun t => D (a + t)) b := by
  induction b with
  | zero => simp [pr]
  | succ b ih =>
    have e : pr D (a + (b + 1)) = pr D (a + b) * D (a + b) := rfl
    rw [e, ih]; simp only [pr]; rw [Int.mul_assoc]
theorem bh_le {D : Nat → Int} {r : Nat} (h : ∀ j, j < r → 1 ≤ D j) (m : Nat) (hm : m ≤ r) : 1 ≤ bh D r m ∧ bh D r m ≤ pr D r := by
  rw [bh_seg D r m hm]
  have p1 := pr_pos (D := D) (r := r - m) (fun j hj => h j (by omega))
  have p2 := pr_pos (D := fun t => D (r - m + t)) (r := m) (fun j hj => h _ (by omega))
  have e := pr_add D (r - m) m
  rw [show r - m + m = r by omega] at e
  refine ⟨p2, ?_⟩
  rw [e]
  have := Int.mul_le_mul_of_nonneg_right p1 (show 0 ≤ pr (fun t => D (r - m + t)) m by omega)
  omega
/-- the size of the lengths behind an axis -/
theorem tail_size {D : Nat → Int} {r i : Nat} (hi : i < r) (h : dok r D = true) : szR (fun t => D (i + 1 + t)) (r - (i + 1)) = bh D r (r - 1 - i) := by
  have hd : ∀ j, j < r → 1 ≤ D j := fun j hj => (dok_len h hj).1
  have hp : pr D r ≤ 4096 := by
    have := (dok_iff.1 h).2
    rcases szR_cases D r with q | ⟨_, q, _, q4⟩
    · omega
    · omega
  have hb := bh_le hd (r - 1 - i) (by omega)
  have e := bh_seg D r (r - 1 - i) (by omega)
  rw [show r - (r - 1 - i) = i + 1 by omega] at e
  rw [show r - (i + 1) = r - 1 - i by omega]
  -- where all are lengths and the product fits, szR is the product
  have key : ∀ (E : Nat → Int) (m : Nat), (∀ j, j < m → 1 ≤ E j) → pr E m ≤ 4096 → szR E m = pr E m := by
    intro E m
    induction m with
    | zero => intro _ _; rfl
    | succ m ih =>
      intro h1 h2
      have a1 := pr_pos (D := E) (r := m) (fun j hj => h1 j (by omega))
      have a2 := h1 m (by omega)
      have a3 : pr E m ≤ pr E m * E m := by
        have := Int.mul_le_mul_of_nonneg_left a2 (show 0 ≤ pr E m by omega)
        omega
      have a4 : pr E (m + 1) = pr E m * E m := rfl
      have i1 := ih (fun j hj => h1 j (by omega)) (by omega)
      rw [szR_next (by omega) a2 (by rw [i1]; omega), i1]; rfl
  rw [key _ _ (fun j hj => hd _ (by omega)) (by omega), e]
def stW (D : Nat → Int) (r : Nat) : Nat → Int := fun j => if D j = 1 then 0 else bh D r (r - 1 - j)
/-- the whole view of these lengths -/
def wholeV (r : Nat) (D : Nat → Int) : PV := if dok r D = true then ⟨r, r, D, stW D r, 0, szR D r⟩ else PV.zero
theorem wholeV_no {r : Nat} {D : Nat → Int} (h : dok r D = false) : wholeV r D = PV.zero := by unfold wholeV; rw [h]; simp
theorem wholeV_yes {r : Nat} {D : Nat → Int} (h : dok r D = true) : wholeV r D = ⟨r, r, D, stW D r, 0, szR D r⟩ := by unfold wholeV; rw [if_pos h]
theorem l3Ints (B : Nat) (ad : Addr) (r cap : Nat) (D : Nat → Int) (w : World) (h : Ints B w (some ad) r D) (hB : B ≤ w.heap.size) (hr : (r : Int) ≤ 1048576) :
    Calls Try.prog 27 #[.slice (some ad) r cap] w fun e w' => ∃ v, e = .returned v ∧ RowV w.heap.size w' v r D ∧ Below w.heap.size w w' := by
  obtain ⟨i0, hi0, hz0, hz1, hz2⟩ := info_parts infoInt
  have hbd : ∀ j, j < r → bd (D j) := fun j hj => h.bd j hj
  have H := hide h
  have HB := hide hbd
  clear h hbd
  have hown0 : (w.alloc (.cells #[] 3)).ownsRow w.heap.size 3 1 (.slice (some ⟨w.heap.size, 0, none⟩) 0 0) 0 [] :=
    ⟨rfl, .inr ⟨w.heap.size, 0, #[], rfl, Nat.le_refl _, heap_alloc_new w _, Nat.le_refl _, by simp [maxLen], rfl, rfl⟩⟩
  have B0 := hide (show Below w.heap.size w (w.alloc (.cells #[] 3)) from (Below.refl _ _).alloc (Nat.le_refl _) _)
  have hnews := hide (ints_of (H.out.below (B0.out.mono hB)) rfl)
  go_enter Try.func27, Try.ntmps27
  go_wp2_with (at_builtin; refine wpList_append_own _ rfl _ _ 22 rfl w.heap.size 3 i0 (.int .i64 0) 1 8 Try.underlying22 hi0 hz0 hz1 hz2 rfl (by decide) _ _ _ rfl hown0 ad r cap (ints r D) rfl (by rw [ints_len]; omega) hnews.out (ints_one r D) (by unfold maxLen; omega) (by omega) (by simp) ?_; intro v' w1 hown1 hgrow1 _)
  go_ret
  rw [List.nil_append, Nat.zero_add] at hown1
  exact ⟨v', rfl, ⟨hown1, HB.out⟩, B0.out.grown hgrow1 (by simp) (by rintro k ⟨⟩; exact Nat.le_refl _)⟩
end Vo
end Go.Proofs.Ytejfodkobfdelaa
