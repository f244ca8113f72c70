/- push: an axis behind all others. -/
import Derived.Test.YtgcialbchmbgkaaVap
import Derived.Maps.AppendAt
namespace Go.Proofs.Ytgcialbchmbgkaa
namespace Vo
open Go.ChangeShapes Go.WideShapes Go.ChangeAt Go.RowKit Go.Joins
open Vl Vp Vr
set_option linter.unusedVariables false
set_option linter.unusedSimpArgs false

/-- a row of one's own under a store into itself -/
theorem RowV.set {B : Nat} {w : World} {v : Value} {r : Nat} {D : Nat → Int} (h : RowV B w v r D) {g : Nat} (hg : v.ownBlock = some g) (k : Nat) (hk : k < r) (u : Int) (hu : bd u) : RowV B (w.setCell ⟨g, k, none⟩ (.int .i64 u)) v r (upd D k u) := by
  obtain ⟨⟨h1, h2⟩, hb⟩ := h
  refine ⟨⟨by simp [ints], ?_⟩, fun j hj => ?_⟩
  · rcases h2 with ⟨rfl, rfl⟩ | ⟨g', cap, cur, rfl, hg', hh, hc1, hc2, hc3, hc4⟩
    · omega
    · have e : g' = g := by simpa [Value.ownBlock] using hg
      subst e
      refine .inr ⟨g', cap, cur.setIfInBounds k (.int .i64 u), rfl, hg', ?_, hc1, hc2, by simpa using hc3, ?_⟩
      · have hlt := lt_of_block hh
        have h' : w.heap[g'] = .cells cur 3 (0, 0) := by simpa [Array.getElem?_eq_getElem hlt] using hh
        show (w.heap.modify g' _)[g']? = _
        rw [Array.getElem?_eq_getElem (by simpa using hlt), Array.getElem_modify_self, h']
        simp
      · have e : ints r (upd D k u) = (ints r D).set k (.int .i64 u) := by
          refine List.ext_getElem? fun j => ?_
          by_cases hj : j < r
          · rw [ints_get r _ j hj, List.getElem?_set]
            by_cases hjk : k = j
            · subst hjk
              rw [if_pos rfl, if_pos (by rw [ints_len]; exact hj)]
              unfold upd; rw [if_pos rfl]
            · rw [if_neg hjk, ints_get r _ j hj]
              unfold upd; rw [if_neg (fun q => hjk q.symm)]
          · rw [List.getElem?_eq_none (by rw [ints_len]; omega), List.getElem?_eq_none (by rw [List.length_set, ints_len]; omega)]
        rw [e, ← hc4, Array.toList_setIfInBounds, Nat.mul_one, List.take_set]
  · unfold upd
    split
    · exact hu
    · exact hb j hj
theorem own_some {w : World} {B : Nat} {t : TypeId} {v : Value} {r : Nat} {xs : List Value} (h : w.ownsRow B t 1 v (r + 1) xs) : ∃ g c, v = .slice (some ⟨g, 0, none⟩) (r + 1) c := by
  obtain ⟨_, ⟨_, h0⟩ | ⟨g, cap, cur, e, _⟩⟩ := h
  · omega
  · exact ⟨g, cap, e⟩
/-- a list with one more behind -/
theorem ints_snoc (r : Nat) (D : Nat → Int) (x : Int) : ints r D ++ [.int .i64 x] = ints (r + 1) (upd D r x) := by
  rw [← ints_succ]
  have e : ints r D = ints r (upd D r x) := by
    unfold ints
    refine List.map_congr_left fun t ht => ?_
    rw [List.mem_range] at ht
    unfold upd; rw [if_neg (by omega)]
  rw [← e, show upd D r x r = x from upd_at D r x]
theorem bd_snoc {r : Nat} {D : Nat → Int} {x : Int} (h : ∀ j, j < r → bd (D j)) (hx : bd x) : ∀ j, j < r + 1 → bd (upd D r x j) := by
  intro j hj
  unfold upd
  split
  · exact hx
  · exact h j (by omega)
/-- a view in its variable whose two lists are rows of one's own -/
structure PB (B : Nat) (P : Nat) (va vb : Value) (r s : Nat) (D S : Nat → Int) (o n : Int) (X : World) : Prop where
  box : Box X P va vb (.int .i64 o) (.int .i64 n)
  free : Free X P
  ra : RowV B X va r D
  rb : RowV B X vb s S
  ne : ∀ k, va.ownBlock = some k → vb.ownBlock = some k → False
  np : ∀ k, OB va vb k → k ≠ P
  lt : P < X.heap.size
  hB : B ≤ X.heap.size
/-- what push leaves -/
def PushR (B P : Nat) (va vb : Value) (r s : Nat) (D S : Nat → Int) (o n x y : Int) (w w' : World) : Prop :=
  ∃ va' vb', PB B P va' vb' (r + 1) (s + 1) (upd D r x) (upd S s y) o n w' ∧ Kept (fun k => k = P ∨ OB va vb k) w w' ∧ ∀ k, OB va' vb' k → OB va vb k ∨ w.heap.size ≤ k
theorem box_set0 {w : World} {p : Nat} {v0 v1 v2 v3 : Value} (h : Box w p v0 v1 v2 v3) (u : Value) : Box (w.setCell ⟨p, 0, none⟩ u) p u v1 v2 v3 := by
  obtain ⟨a, b, c, d⟩ := h
  refine ⟨World.cell?_setCell_same _ _ _ a, ?_, ?_, ?_⟩
  · rw [World.cell?_setCell_other _ _ _ _ (by intro e; cases e)]; exact b
  · rw [World.cell?_setCell_other _ _ _ _ (by intro e; cases e)]; exact c
  · rw [World.cell?_setCell_other _ _ _ _ (by intro e; cases e)]; exact d
/-- one list of a view that grows -/
theorem grow_one {B P : Nat} {v v' : Value} {r : Nat} {D : Nat → Int} {x : Int} {w w1 : World} (c : Nat) (hr : RowV B w v r D) (hx : bd x) (hP : P < w.heap.size) (hnp : ¬ v.ownBlock = some P) (hown : w1.ownsRow B 3 1 v' (r + 1) (ints r D ++ [.int .i64 x]))
    (hg : (w.alloc (.cells #[.int .i64 x] 3)).grownBy w1 v.ownBlock) (hat : v'.ownBlock = v.ownBlock ∨ v'.ownBlock = some (w.alloc (.cells #[.int .i64 x] 3)).heap.size) (u : Value) :
    RowV B (w1.setCell ⟨P, c, none⟩ u) v' (r + 1) (upd D r x) ∧ Kept (fun k => k = P ∨ v.ownBlock = some k) w (w1.setCell ⟨P, c, none⟩ u) ∧ (∀ k, v'.ownBlock = some k → v.ownBlock = some k ∨ w.heap.size ≤ k) := by
  have K1 : Kept (fun k => v.ownBlock = some k) w w1 := (Kept.of_below ((Below.refl _ w).alloc (Nat.le_refl _) _)).trans ⟨hg.os, hg.tape, hg.output, hg.size, fun j hj hn => hg.block j hj (fun e => hn e.symm)⟩
  have hw : ∀ k, v'.ownBlock = some k → v.ownBlock = some k ∨ w.heap.size ≤ k := by
    intro k q
    rcases hat with e | e
    · exact .inl (e ▸ q)
    · rw [q] at e
      injection e with e
      simp at e
      exact .inr (by omega)
  refine ⟨⟨?_, bd_snoc hr.2 hx⟩, ?_, hw⟩
  · rw [← ints_snoc]
    refine ownsRow_setCell_other hown ?_ _
    intro q
    rcases hw P q with q | q
    · exact hnp q
    · omega
  · exact Kept.then (K1.mono (fun k _ q => .inr q)) (Kept.setCell w1 ⟨P, c, none⟩ u) (fun i e => .inr (.inl e))
end Vo
end Go.Proofs.Ytgcialbchmbgkaa
