/- Lemmas for the proof of the law. -/
import Derived.Test.YtflbhlepmjiejaaVl
import Derived.RangeFuncIn
import Derived.RangeFuncRecord
import Derived.RangeFuncSeq
import Derived.RangeFuncLeaves
import Derived.RangeFuncCalls
import Derived.ControlIn
import Derived.Test.YtflbhlepmjiejaaVo
import Derived.Test.YtflbhlepmjiejaaMra
import Derived.Test.YtflbhlepmjiejaaVn
import Derived.Deep.LoopGhost
import Derived.Deep.RegionHeld3
import Derived.RangeFuncBound
import Derived.OwnWalkIn
import Derived.TacticsInMore
import Derived.LoopNIn
import Derived.LoopIn
import Derived.Shelf.Abstract
import Derived.Test.YtflbhlepmjiejaaVc
import Derived.Deep.RegionLaw
/- A range over a function whose rounds are numbered: the k-th one is handed 'encs k'. What the body may write is a list of blocks of the caller's; the iterator may write what it laid itself. -/
namespace Go.Proofs.Ytflbhlepmjiejaa
namespace Vr
open Go.RowKit
open Vl
set_option linter.unusedVariables false

variable {P : Program}

end Vr
end Go.Proofs.Ytflbhlepmjiejaa

/- The iterator over a view's places (eachPlace): an odometer. -/
namespace Go.Proofs.Ytflbhlepmjiejaa
namespace Vo
open Go.ChangeShapes Go.WideShapes Go.ChangeAt Go.RowKit Go.Joins
open Vl Vp Vr
set_option linter.unusedVariables false

theorem carry {d k : Int} (hd : 1 ≤ d) (h : k % d = d - 1) : (k + 1) % d = 0 ∧ (k + 1) / d = k / d + 1 := by
  have e : k + 1 = 0 + d * (k / d + 1) := by
    have := Int.mul_ediv_add_emod k d
    rw [Int.mul_add]; omega
  constructor
  · rw [e, Int.add_mul_emod_self_left]; rfl
  · rw [e, Int.add_mul_ediv_left _ _ (by omega)]; simp
theorem nocarry {d k : Int} (hd : 1 ≤ d) (h : k % d ≠ d - 1) : (k + 1) % d = k % d + 1 ∧ (k + 1) / d = k / d := by
  have h1 := Int.emod_nonneg k (show d ≠ 0 by omega)
  have h2 := Int.emod_lt_of_pos k (show 0 < d by omega)
  have e : k + 1 = (k % d + 1) + d * (k / d) := by
    have := Int.mul_ediv_add_emod k d
    omega
  constructor
  · have : (k % d + 1 + d * (k / d)) % d = k % d + 1 := by rw [Int.add_mul_emod_self_left, Int.emod_eq_of_lt (by omega) (by omega)]
    rwa [← e] at this
  · rw [e, Int.add_mul_ediv_left _ _ (by omega), Int.ediv_eq_zero_of_lt (by omega) (by omega)]
    omega
/-- the odometer between two rounds: the last axes are back at 0, m are left, whose index is the q-th -/
def Odo (D S : Nat → Int) (r : Nat) (k : Int) (m : Nat) (q : Int) : Prop :=
  m ≤ r ∧ 0 ≤ q ∧ q < pr D m ∧ (∀ j, j < r → dg D r (k + 1) j = if j < m then dg D m (q + 1) j else 0) ∧ rel D S r (k + 1) = rel D S m (q + 1) ∧ ∃ Q : Int, 1 ≤ Q ∧ k + 1 = (q + 1) * Q ∧ pr D r = pr D m * Q
theorem Odo.step {D S : Nat → Int} {r : Nat} {k q : Int} {m : Nat} (h : Odo D S r k (m + 1) q) (hd : 1 ≤ D m) (hq : q % D m = D m - 1) : Odo D S r k m (q / D m) := by
  obtain ⟨hm, q0, q1, h1, h2, Q, hQ, e1, e2⟩ := h
  obtain ⟨c1, c2⟩ := carry hd hq
  have e3 : q + 1 = (q / D m + 1) * D m := by
    have := Int.mul_ediv_add_emod q (D m)
    rw [Int.add_mul, Int.one_mul, Int.mul_comm (q / D m)]; omega
  refine ⟨by omega, Int.ediv_nonneg q0 (by omega), ?_, fun j hj => ?_, ?_, D m * Q, ?_, ?_, ?_⟩
  · have hp : q < pr D m * D m := q1
    exact Int.ediv_lt_of_lt_mul (by omega) hp
  · rw [h1 j hj]
    simp only [dg, c1, c2]
    by_cases e : j = m
    · subst e; simp
    · by_cases l : j < m
      · rw [if_pos (by omega), if_neg e, if_pos l]
      · rw [if_neg (by omega), if_neg l]
  · rw [h2]; simp only [rel, c1, c2]; omega
  · have := Int.mul_le_mul hd hQ (by omega) (by omega); omega
  · rw [e1, e3, Int.mul_assoc]
  · rw [e2]; simp only [pr]; rw [Int.mul_assoc]
/-- all axes were at their last int: the last round was the last one -/
theorem Odo.last {D S : Nat → Int} {r : Nat} {k q : Int} (h : Odo D S r k 0 q) : k + 1 = pr D r := by
  obtain ⟨_, q0, q1, _, _, Q, hQ, e1, e2⟩ := h
  simp only [pr] at q1 e2
  obtain rfl : q = 0 := by omega
  rw [e1, e2]; omega
/-- an axis is not: there is a next round -/
theorem Odo.next {D S : Nat → Int} {r : Nat} {k q : Int} {m : Nat} (h : Odo D S r k (m + 1) q) (hd : 1 ≤ D m) (hq : q % D m ≠ D m - 1) :
    k + 1 < pr D r ∧ (∀ j, j < r → dg D r (k + 1) j = if j < m then dg D m (q / D m) j else if j = m then q % D m + 1 else 0) ∧ rel D S r (k + 1) = (q % D m + 1) * S m + rel D S m (q / D m) := by
  obtain ⟨hm, q0, q1, h1, h2, Q, hQ, e1, e2⟩ := h
  obtain ⟨c1, c2⟩ := nocarry hd hq
  refine ⟨?_, fun j hj => ?_, ?_⟩
  · have z0 := Int.emod_nonneg q (show D m ≠ 0 by omega)
    have z1 := Int.emod_lt_of_pos q (show 0 < D m by omega)
    have hp : q < pr D m * D m := q1
    have hl : q / D m < pr D m := Int.ediv_lt_of_lt_mul (by omega) hp
    have e3 := Int.mul_ediv_add_emod q (D m)
    have e4 : q + 1 < pr D m * D m := by
      have := Int.mul_le_mul_of_nonneg_right (show q / D m + 1 ≤ pr D m by omega) (show 0 ≤ D m by omega)
      rw [Int.add_mul, Int.one_mul, Int.mul_comm (q / D m)] at this
      omega
    rw [e1, e2]
    show (q + 1) * Q < pr D m * D m * Q
    exact Int.mul_lt_mul_of_pos_right e4 (by omega)
  · rw [h1 j hj]
    simp only [dg, c1, c2]
    by_cases e : j = m
    · subst e; simp
    · by_cases l : j < m
      · rw [if_pos (by omega), if_neg e, if_pos l]
      · rw [if_neg (by omega), if_neg l, if_neg e]
  · rw [h2]; simp only [rel, c1, c2]
/-- how many places there are -/
def cnt (r s : Nat) (D S : Nat → Int) (o n : Int) : Nat := if vok r s D S o n = true then (szR D r).toNat else 0
end Vo
end Go.Proofs.Ytflbhlepmjiejaa

/- eachPlace's walk. -/
namespace Go.Proofs.Ytflbhlepmjiejaa
namespace Vo
open Go.ChangeShapes Go.WideShapes Go.ChangeAt Go.RowKit Go.Joins
open Vl Vp Vr
set_option linter.unusedVariables false
attribute [local go_sem] Oper.semAt_some

end Vo
end Go.Proofs.Ytflbhlepmjiejaa

/- ViewOk, the model's side; Place on both sides. -/
namespace Go.Proofs.Ytflbhlepmjiejaa
namespace Vo
open Go.ChangeShapes Go.WideShapes Go.ChangeAt Go.RowKit Go.Joins
open Vl Vp
set_option linter.unusedVariables false

end Vo
end Go.Proofs.Ytflbhlepmjiejaa

/- Places that are there twice, places that meet: plain, and Twice on the model's side. -/
namespace Go.Proofs.Ytflbhlepmjiejaa
namespace Vo
open Go.ChangeShapes Go.WideShapes Go.ChangeAt Go.RowKit Go.Joins
open Vl Vp
set_option linter.unusedVariables false

/-- a row of flags of one's own -/
def Bw (w : World) (g n : Nat) (f : Nat → Bool) : Prop := ∀ t, t < n → w.cell? ⟨g, t, none⟩ = some (.bool (f t)) ∧ w.frozen? ⟨g, t, none⟩ = false
theorem Bw.below {B : Nat} {w w' : World} {g n : Nat} {f : Nat → Bool} (h : Bw w g n f) (hb : Below B w w') (hg : g < B) : Bw w' g n f := fun t ht =>
  ⟨(hb.cell (p := ⟨g, t, none⟩) hg).trans (h t ht).1, (hb.frozen (p := ⟨g, t, none⟩) hg).trans (h t ht).2⟩
theorem Bw.same {w : World} {g n : Nat} {f f' : Nat → Bool} (h : Bw w g n f) (e : ∀ t, t < n → f' t = f t) : Bw w g n f' := fun t ht => by rw [e t ht]; exact h t ht
theorem Bw.set {w : World} {g n : Nat} {f : Nat → Bool} (h : Bw w g n f) (j : Nat) : Bw (w.setCell ⟨g, j, none⟩ (.bool true)) g n (fun t => f t || (j == t)) := by
  intro t ht
  rw [World.frozen?_setCell]
  by_cases c : t = j
  · subst c
    rw [World.cell?_setCell_same _ _ _ (h t ht).1]
    refine ⟨by simp, (h t ht).2⟩
  · rw [World.cell?_setCell_other _ _ _ _ (by intro e; cases e; exact c rfl)]
    dsimp only
    rw [show (j == t) = false by rw [beq_eq_false_iff_ne]; omega, Bool.or_false]
    exact h t ht
end Vo
end Go.Proofs.Ytflbhlepmjiejaa

/- Twice and Meet, the program's side: ranges over the places. -/
namespace Go.Proofs.Ytflbhlepmjiejaa
namespace Vo
open Go.ChangeShapes Go.WideShapes Go.ChangeAt Go.RowKit Go.Joins
open Vl Vp Vr
set_option linter.unusedVariables false
attribute [local go_sem] Oper.semAt_some

theorem set_other {W : World} {p q : Addr} {u v : Value} (h : q.block ≠ p.block) (hc : W.cell? q = some v) : (W.setCell p u).cell? q = some v := (World.cell?_of_block (w := W) (Below.heap_setCell W p u q.block h)).trans hc
end Vo
end Go.Proofs.Ytflbhlepmjiejaa

/- Places on both sides. -/
namespace Go.Proofs.Ytflbhlepmjiejaa
namespace Vo
open Go.ChangeShapes Go.WideShapes Go.ChangeAt Go.RowKit Go.Joins
open Vl Vp Vr
set_option linter.unusedVariables false
attribute [local go_sem] Oper.semAt_some

/-- a list that is answered -/
def Lists (B : Nat) (r : Nat) (D : Nat → Int) (w : World) (e : Ending) (w' : World) : Prop := ∃ a c, e = .returned (.slice a r c) ∧ OwnL B w' a r D ∧ Below w.heap.size w w'
end Vo
end Go.Proofs.Ytflbhlepmjiejaa

/- Views that are answered. -/
namespace Go.Proofs.Ytflbhlepmjiejaa
namespace Vo
open Go.ChangeShapes Go.WideShapes Go.ChangeAt Go.RowKit Go.Joins
open Vl Vp Vr
set_option linter.unusedVariables false

/-- a view, plain -/
structure PV where
  r : Nat
  s : Nat
  D : Nat → Int
  S : Nat → Int
  o : Int
  n : Int
def PV.zero : PV := ⟨0, 0, fun _ => 0, fun _ => 0, 0, 0⟩
def PV.ok (v : PV) : Bool := vok v.r v.s v.D v.S v.o v.n
/-- the blocks of two lists of one's own -/
def OB (va vb : Value) : Nat → Prop := fun k => va.ownBlock = some k ∨ vb.ownBlock = some k
/-- the marks of a variable -/
def Free (w : World) (p : Nat) : Prop := ∀ i, w.frozen? ⟨p, i, none⟩ = false
theorem Free.below {B : Nat} {w w' : World} {p : Nat} (h : Free w p) (hb : Below B w w') (hp : p < B) : Free w' p := fun i => (hb.frozen (p := ⟨p, i, none⟩) hp).trans (h i)
theorem Free.kept {T : Nat → Prop} {w w' : World} {p : Nat} (h : Free w p) (hk : Kept T w w') (hp : p < w.heap.size) (hn : ¬ T p) : Free w' p := fun i => (World.frozen?_of_block (w := w) (a := ⟨p, i, none⟩) (hk.block p hp hn)).trans (h i)
theorem Free.set {w : World} {p : Nat} (h : Free w p) (q : Addr) (u : Value) : Free (w.setCell q u) p := fun i => by rw [World.frozen?_setCell]; exact h i
theorem Box.set {w : World} {p : Nat} {v0 v1 v2 v3 : Value} (h : Box w p v0 v1 v2 v3) (q : Addr) (u : Value) (hn : p ≠ q.block) : Box (w.setCell q u) p v0 v1 v2 v3 := by
  obtain ⟨a, b, c, d⟩ := h
  exact ⟨set_other hn a, set_other hn b, set_other hn c, set_other hn d⟩
theorem RowV.mono {B B' : Nat} {w : World} {v : Value} {r : Nat} {D : Nat → Int} (h : RowV B w v r D) (hB : B' ≤ B) : RowV B' w v r D := by
  obtain ⟨⟨h1, h2⟩, hb⟩ := h
  refine ⟨⟨h1, ?_⟩, hb⟩
  rcases h2 with h2 | ⟨g, cap, cur, e, hg, rest⟩
  · exact .inl h2
  · exact .inr ⟨g, cap, cur, e, by omega, rest⟩
theorem RowV.below {B : Nat} {w w' : World} {v : Value} {r : Nat} {D : Nat → Int} (h : RowV B w v r D) (hb : Below w.heap.size w w') : RowV B w' v r D := ⟨own_below h.1 hb, h.2⟩
theorem RowV.kept {T : Nat → Prop} {B : Nat} {w w' : World} {v : Value} {r : Nat} {D : Nat → Int} (h : RowV B w v r D) (hk : Kept T w w') (hn : ∀ k, v.ownBlock = some k → ¬ T k) : RowV B w' v r D := by
  obtain ⟨⟨h1, h2⟩, hb⟩ := h
  refine ⟨⟨h1, ?_⟩, hb⟩
  rcases h2 with h2 | ⟨g, cap, cur, e, hg, hh, rest⟩
  · exact .inl h2
  · refine .inr ⟨g, cap, cur, e, hg, ?_, rest⟩
    rw [hk.block g (Array.getElem?_eq_some_iff.1 hh).1 (hn g (by rw [e]; rfl))]; exact hh
theorem RowV.lt {B : Nat} {w : World} {v : Value} {r : Nat} {D : Nat → Int} (h : RowV B w v r D) {k : Nat} (hk : v.ownBlock = some k) : B ≤ k ∧ k < w.heap.size := h.1.lt k hk
theorem Kept.then {S T : Nat → Prop} {a b c : World} (h : Kept S a b) (k : Kept T b c) (ht : ∀ i, T i → a.heap.size ≤ i ∨ S i) : Kept S a c :=
  ⟨k.os.trans h.os, k.tape.trans h.tape, k.output.trans h.output, Nat.le_trans h.size k.size, fun i hi hn => (k.block i (Nat.lt_of_lt_of_le hi h.size) (fun q => by rcases ht i q with q | q; omega; exact hn q)).trans (h.block i hi hn)⟩
end Vo
end Go.Proofs.Ytflbhlepmjiejaa

/- Whole views: plain; Whole on the model's side. -/
namespace Go.Proofs.Ytflbhlepmjiejaa
namespace Vo
open Go.ChangeShapes Go.WideShapes Go.ChangeAt Go.RowKit Go.Joins
open Vl Vp Vr
set_option linter.unusedVariables false
set_option linter.unusedSimpArgs false

theorem l3Ints (B : Nat) (ad : Addr) (r cap : Nat) (D : Nat → Int) (w : World) (h : Ints B w (some ad) r D) (hB : B ≤ w.heap.size) (hr : (r : Int) ≤ 1048576) :
    Calls Try.prog 31 #[.slice (some ad) r cap] w fun e w' => ∃ v, e = .returned v ∧ RowV w.heap.size w' v r D ∧ Below w.heap.size w w' := by
  obtain ⟨i0, hi0, hz0, hz1, hz2⟩ := info_parts infoInt
  have hbd : ∀ j, j < r → bd (D j) := fun j hj => h.bd j hj
  have H := hide h
  have HB := hide hbd
  clear h hbd
  have hown0 : (w.alloc (.cells #[] 3)).ownsRow w.heap.size 3 1 (.slice (some ⟨w.heap.size, 0, none⟩) 0 0) 0 [] :=
    ⟨rfl, .inr ⟨w.heap.size, 0, #[], rfl, Nat.le_refl _, heap_alloc_new w _, Nat.le_refl _, by simp [maxLen], rfl, rfl⟩⟩
  have B0 := hide (show Below w.heap.size w (w.alloc (.cells #[] 3)) from (Below.refl _ _).alloc (Nat.le_refl _) _)
  have hnews := hide (ints_of (H.out.below (B0.out.mono hB)) rfl)
  go_enter Try.func31, Try.ntmps31
  go_wp2_with (at_builtin; refine wpList_append_own _ rfl _ _ 28 rfl w.heap.size 3 i0 (.int .i64 0) 1 8 Try.underlying28 hi0 hz0 hz1 hz2 rfl (by decide) _ _ _ rfl hown0 ad r cap (ints r D) rfl (by rw [ints_len]; omega) hnews.out (ints_one r D) (by unfold maxLen; omega) (by omega) (by simp) ?_; intro v' w1 hown1 hgrow1 _)
  go_ret
  rw [List.nil_append, Nat.zero_add] at hown1
  exact ⟨v', rfl, ⟨hown1, HB.out⟩, B0.out.grown hgrow1 (by simp) (by rintro k ⟨⟩; exact Nat.le_refl _)⟩
end Vo
end Go.Proofs.Ytflbhlepmjiejaa
