/- Lemmas for the proof of the law. -/
import Derived.Test.YtjlmbeachanlfaaMgap
import Derived.Test.YtjlmbeachanlfaaMgaf
import Derived.Deep.RegionHeld3
/- CacheOk of the program. -/
namespace Go.Proofs.Ytjlmbeachanlfaa
namespace Vo
open Go.ChangeShapes Go.WideShapes Go.ChangeAt Go.RowKit Go.Joins Go.Sort
open Vl Vp
set_option linter.unusedVariables false
set_option linter.unusedSimpArgs false
theorem rowsA_same {n : Nat} {L L' : Nat → LV} (h : LSame n L L') : decide (RowsA n L') = decide (RowsA n L) := by
  refine decide_eq_decide.2 ⟨fun q i hi => ?_, fun q i hi => ?_⟩
  · have := q i hi
    rwa [(h i hi).1, (h i hi).2, (h 0 (by omega)).1] at this
  · rw [(h i hi).1, (h i hi).2, (h 0 (by omega)).1]
    exact q i hi
theorem cacheB_same {n m : Nat} {L L' M M' : Nat → LV} (h : LSame n L L') (h' : LSame m M M') : cacheB n m L' M' = cacheB n m L M := by
  unfold cacheB; rw [rowsA_same h, rowsA_same h']
theorem LLen.same {n : Nat} {L L' : Nat → LV} {z : Int} (h : LLen n L z) (hs : LSame n L L') : LLen n L' z := fun i hi => by rw [(hs i hi).1]; exact h i hi
theorem LSame.both {n : Nat} {L A B : Nat → LV} (h : LSame n L A) (h' : LSame n L B) : ∀ i, i < n → (B i).r = (A i).r ∧ ∀ j, j < (A i).r → (A i).D j = (B i).D j := fun i hi => ⟨by rw [(h i hi).1, (h' i hi).1], fun j _ => by rw [(h i hi).2, (h' i hi).2]⟩
set_option maxHeartbeats 1000000 in
theorem cacheOk (B : Nat) (a b : Option Addr) (n m cap dap : Nat) (L M : Nat → LV) (w : World) (hB : B ≤ w.heap.size) (h : LL B w a n L) (h' : LL B w b m M) (hn : (n : Int) ≤ 1048576) (hm : (m : Int) ≤ 1048576) (hl : LLen n L 1048576) (hl' : LLen m M 1048576) :
    Calls Try.prog 23 #[.agg #[.slice a n cap, .slice b m dap]] w fun e w' => e = .returned (.bool (cacheB n m L M)) ∧ Below w.heap.size w w' := by
  have bl : Below w.heap.size w (w.alloc (.cells #[.slice a n cap, .slice b m dap] 27)) := (Below.refl _ _).alloc (Nat.le_refl _) _
  have BL := hide bl
  have H := hide (h.below (bl.mono hB))
  have H' := hide (h'.below (bl.mono hB))
  have HL := hide hl
  have HL' := hide hl'
  clear h h' hl hl' bl
  by_cases e0 : n = m
  rotate_left
  · have ez := hide (show cacheB n m L M = false by unfold cacheB; rw [decide_eq_false e0]; simp)
    have e0' : ((n : Int) == (m : Int)) = false := beq_eq_false_iff_ne.2 (by omega)
    clear e0
    go_enter Try.func23, Try.ntmps23
    go_wp2_with fail
    go_ret
    exact ⟨by rw [ez.out]; rfl, BL.out⟩
  have e0' : ((n : Int) == (m : Int)) = true := beq_iff_eq.2 (by omega)
  have E0 := hide e0
  clear e0
  by_cases e2 : n ≤ 4096
  rotate_left
  · have ez := hide (show cacheB n m L M = false by unfold cacheB; rw [decide_eq_false e2]; simp)
    have e2' : decide ((n : Int) ≤ 4096) = false := decide_eq_false (by omega)
    have e2'' : decide (n ≤ 4096) = false := decide_eq_false (by omega)
    clear e2
    go_enter Try.func23, Try.ntmps23
    go_wp2_with fail
    go_ret
    exact ⟨by rw [ez.out]; rfl, BL.out⟩
  have e2' : decide ((n : Int) ≤ 4096) = true := decide_eq_true (by omega)
  have e2'' : decide (n ≤ 4096) = true := decide_eq_true (by omega)
  have E2 := hide e2
  clear e2
  cases eB : decide (RowsA n L) with
  | false =>
    have ez := hide (show cacheB n m L M = false by unfold cacheB; rw [eB]; simp)
    have EB := hide eB
    clear eB
    go_enter Try.func23, Try.ntmps23
    go_wp2_with fail
    refine (rowsOk B a n cap L _ (by simp; omega) H.out hn HL.out).mono ?_
    rintro e w1 ⟨rfl, b1⟩
    rw [EB.out]
    have B1 := hide (BL.out.trans (b1.mono (by simp)))
    clear b1
    go_wp2_with fail
    go_ret
    exact ⟨by rw [ez.out]; rfl, B1.out⟩
  | true =>
    have ez := hide (show cacheB n m L M = decide (RowsA m M) by
      unfold cacheB
      rw [eB, decide_eq_true E0.out, decide_eq_true E2.out]; simp)
    have EB := hide eB
    clear eB
    go_enter Try.func23, Try.ntmps23
    go_wp2_with fail
    refine (rowsOk B a n cap L _ (by simp; omega) H.out hn HL.out).mono ?_
    rintro e w1 ⟨rfl, b1⟩
    rw [EB.out]
    have hc1 := old_cells b1
    have c10 := fun i => hc1 w.heap.size i (by simp)
    have B1 := hide (BL.out.trans (b1.mono (by simp)))
    have H1 := hide (H'.out.below (b1.mono (by simp; omega)))
    have z1 : w.heap.size < w1.heap.size := by have := b1.size; simp at this; omega
    clear b1 hc1
    go_wp2_with fail
    refine (rowsOk B b m dap M _ (by omega) H1.out hm HL'.out).mono ?_
    rintro e w2 ⟨rfl, b2⟩
    have B2 := hide (B1.out.trans (b2.mono B1.out.size))
    clear b2
    go_wp2_with fail
    go_ret
    exact ⟨by rw [ez.out]; rfl, B2.out⟩
end Vo
end Go.Proofs.Ytjlmbeachanlfaa

/- Lists of tensors in memory: what the laws do with them. -/
namespace Go.Proofs.Ytjlmbeachanlfaa
namespace Vo
open Go.ChangeShapes Go.WideShapes Go.ChangeAt Go.RowKit Go.Joins Go.Sort
open Vl Vp
set_option linter.unusedVariables false
set_option linter.unusedSimpArgs false
/-- a tensor's two lists -/
structure TV where
  a : Option Addr
  b : Option Addr
  r : Nat
  s : Nat
  cap : Nat
  dap : Nat
  D : Nat → Int
  S : Nat → Int
/-- a list of tensors that can be read -/
def TL (B : Nat) (w : World) (a : Option Addr) (n : Nat) (T : Nat → TV) : Prop :=
  n = 0 ∨ ∃ blk off, a = some ⟨blk, off, none⟩ ∧ blk < B ∧ ∀ i, i < n → w.cell? ⟨blk, off + i * 2, none⟩ = some (.slice (T i).a (T i).r (T i).cap) ∧ w.cell? ⟨blk, off + i * 2 + 1, none⟩ = some (.slice (T i).b (T i).s (T i).dap) ∧ Ints B w (T i).a (T i).r (T i).D ∧ Ints B w (T i).b (T i).s (T i).S
theorem TL.below {B : Nat} {w w' : World} {a : Option Addr} {n : Nat} {T : Nat → TV} (h : TL B w a n T) (hb : Below B w w') : TL B w' a n T := by
  rcases h with h | ⟨blk, off, rfl, hB, hc⟩
  · exact .inl h
  · refine .inr ⟨blk, off, rfl, hB, fun i hi => ?_⟩
    obtain ⟨c0, c1, i0, i1⟩ := hc i hi
    exact ⟨(hb.cell (p := ⟨blk, off + i * 2, none⟩) hB).trans c0, (hb.cell (p := ⟨blk, off + i * 2 + 1, none⟩) hB).trans c1, i0.below hb, i1.below hb⟩
theorem TL.mono {B B' : Nat} {w : World} {a : Option Addr} {n : Nat} {T : Nat → TV} (h : TL B w a n T) (hb : B ≤ B') : TL B' w a n T := by
  rcases h with h | ⟨blk, off, rfl, hB, hc⟩
  · exact .inl h
  · exact .inr ⟨blk, off, rfl, by omega, fun i hi => ⟨(hc i hi).1, (hc i hi).2.1, (hc i hi).2.2.1.mono hb, (hc i hi).2.2.2.mono hb⟩⟩
/-- lengths that can be -/
def TLen (n : Nat) (T : Nat → TV) (m : Int) : Prop := ∀ i, i < n → ((T i).r : Int) ≤ m ∧ ((T i).s : Int) ≤ m
/-- how many numbers there are in all -/
def tsum (T : Nat → TV) : Nat → Nat | 0 => 0 | n + 1 => tsum T n + ((T n).r + (T n).s)
theorem tsum_le {T : Nat → TV} {n i : Nat} (h : i < n) : (T i).r + (T i).s ≤ tsum T n := by
  induction n with
  | zero => omega
  | succ n ih =>
    show _ ≤ tsum T n + ((T n).r + (T n).s)
    by_cases c : i = n
    · subst c; omega
    · have := ih (by omega); omega
theorem tsum_mono {T : Nat → TV} {n m : Nat} (h : n ≤ m) : tsum T n ≤ tsum T m := by
  induction m with
  | zero => have : n = 0 := by omega
            subst this; exact Nat.le_refl _
  | succ m ih =>
    by_cases c : n = m + 1
    · subst c; exact Nat.le_refl _
    · exact Nat.le_trans (ih (by omega)) (Nat.le_add_right _ _)
theorem tlen_of {T : Nat → TV} {n : Nat} (h : (tsum T n : Int) ≤ 1048576) : TLen n T 1048576 := fun i hi => by have := tsum_le (T := T) hi; omega
/-- a list of tensors of one's own, k of them laid: each one's blocks lie between two limits -/
structure OTL (B : Nat) (w : World) (g n k : Nat) (T : Nat → TV) (lim : Nat → Nat) : Prop where
  lo : B ≤ g
  lt : g < w.heap.size
  laid : ∀ i, i < k → w.cell? ⟨g, i * 2, none⟩ = some (.slice (T i).a (T i).r (T i).cap) ∧ w.cell? ⟨g, i * 2 + 1, none⟩ = some (.slice (T i).b (T i).s (T i).dap)
  rest : ∀ i, k ≤ i → i < n → w.cell? ⟨g, i * 2, none⟩ = some (.slice none 0 0) ∧ w.cell? ⟨g, i * 2 + 1, none⟩ = some (.slice none 0 0)
  free : ∀ i, w.frozen? ⟨g, i, none⟩ = false
  low : g < lim 0
  own : ∀ i, i < k → VOwn (lim i) w (T i).a (T i).b (T i).r (T i).s (T i).D (T i).S
  high : ∀ i, i < k → ∀ q, VBlk (T i).a (T i).b (T i).r (T i).s q → q < lim (i + 1)
  mono : ∀ i, i < k → lim i ≤ lim (i + 1)
  top : lim k ≤ w.heap.size
theorem lim_le {lim : Nat → Nat} {k : Nat} (h : ∀ i, i < k → lim i ≤ lim (i + 1)) {i j : Nat} (hij : i ≤ j) (hj : j ≤ k) : lim i ≤ lim j := by
  induction j with
  | zero => have : i = 0 := by omega
            subst this; exact Nat.le_refl _
  | succ j ih =>
    by_cases c : i = j + 1
    · subst c; exact Nat.le_refl _
    · exact Nat.le_trans (ih (by omega) (by omega)) (h j (by omega))
theorem OTL.below {B : Nat} {w w' : World} {g n k : Nat} {T : Nat → TV} {lim : Nat → Nat} (h : OTL B w g n k T lim) (hb : Below w.heap.size w w') : OTL B w' g n k T lim :=
  ⟨h.lo, Nat.lt_of_lt_of_le h.lt hb.size, fun i hi => ⟨(hb.cell (p := ⟨g, i * 2, none⟩) h.lt).trans (h.laid i hi).1, (hb.cell (p := ⟨g, i * 2 + 1, none⟩) h.lt).trans (h.laid i hi).2⟩,
    fun i h1 h2 => ⟨(hb.cell (p := ⟨g, i * 2, none⟩) h.lt).trans (h.rest i h1 h2).1, (hb.cell (p := ⟨g, i * 2 + 1, none⟩) h.lt).trans (h.rest i h1 h2).2⟩,
    fun i => (hb.frozen (p := ⟨g, i, none⟩) h.lt).trans (h.free i), h.low, fun i hi => (h.own i hi).below hb, h.high, h.mono, Nat.le_trans h.top hb.size⟩
theorem OTL.read {B : Nat} {w : World} {g n : Nat} {T : Nat → TV} {lim : Nat → Nat} (h : OTL B w g n n T lim) : TL w.heap.size w (some ⟨g, 0, none⟩) n T :=
  .inr ⟨g, 0, rfl, h.lt, fun i hi => ⟨by rw [Nat.zero_add]; exact (h.laid i hi).1, by rw [Nat.zero_add]; exact (h.laid i hi).2, (h.own i hi).d.ints, (h.own i hi).t.ints⟩⟩
theorem otl_put {B : Nat} {X X1 : World} {g n k g1 g2 r s : Nat} {D S : Nat → Int} {U : Nat → TV} {lim : Nat → Nat} (h : OTL B X g n k U lim) (hk : k < n) (hb : Below X.heap.size X X1) (vo : VOwn X.heap.size X1 (some ⟨g1, 0, none⟩) (some ⟨g2, 0, none⟩) r s D S) :
    OTL B ((X1.setCell ⟨g, k * 2, none⟩ (.slice (some ⟨g1, 0, none⟩) r r)).setCell ⟨g, k * 2 + 1, none⟩ (.slice (some ⟨g2, 0, none⟩) s s)) g n (k + 1) (fun i => if i = k then ⟨some ⟨g1, 0, none⟩, some ⟨g2, 0, none⟩, r, s, r, s, D, S⟩ else U i) (fun i => if i = k + 1 then X1.heap.size else lim i) := by
  have k2 : Kept (· = g) X1 ((X1.setCell ⟨g, k * 2, none⟩ (.slice (some ⟨g1, 0, none⟩) r r)).setCell ⟨g, k * 2 + 1, none⟩ (.slice (some ⟨g2, 0, none⟩) s s)) := (Kept.setCell X1 ⟨g, k * 2, none⟩ _).trans (Kept.setCell _ ⟨g, k * 2 + 1, none⟩ _)
  have h1 := h.below hb
  have ltX := h.lt
  have far : ∀ j, j ≠ k * 2 → j ≠ k * 2 + 1 → ((X1.setCell ⟨g, k * 2, none⟩ (.slice (some ⟨g1, 0, none⟩) r r)).setCell ⟨g, k * 2 + 1, none⟩ (.slice (some ⟨g2, 0, none⟩) s s)).cell? ⟨g, j, none⟩ = X1.cell? ⟨g, j, none⟩ := fun j n0 n1 => by
    rw [World.cell?_setCell_other _ _ _ _ (by intro e; injection e with _ e _; omega), World.cell?_setCell_other _ _ _ _ (by intro e; injection e with _ e _; omega)]
  obtain ⟨e0, e1⟩ := h1.rest k (Nat.le_refl _) hk
  have blkU : ∀ i, i < k → ∀ q, VBlk (U i).a (U i).b (U i).r (U i).s q → q ≠ g := fun i hi q hq e => by
    have a := ((h.own i hi).blk hq).1
    have b := lim_le h.mono (show 0 ≤ i by omega) (by omega)
    have c := h.low
    omega
  have blkN : ∀ q, VBlk (some ⟨g1, 0, none⟩) (some ⟨g2, 0, none⟩) r s q → X.heap.size ≤ q ∧ q < X1.heap.size := fun q hq => vo.blk hq
  refine ⟨h.lo, Nat.lt_of_lt_of_le h1.lt k2.size, fun i hi => ?_, fun i hi hi2 => ?_, fun i => ?_, by show g < (if 0 = k + 1 then _ else lim 0); rw [if_neg (by omega)]; exact h.low, fun i hi => ?_, fun i hi q hq => ?_, fun i hi => ?_, by show (if k + 1 = k + 1 then X1.heap.size else _) ≤ _; rw [if_pos rfl]; exact k2.size⟩
  · by_cases c : i = k
    · subst c
      simp only [if_true]
      refine ⟨?_, World.cell?_setCell_same _ _ _ ((World.cell?_setCell_other _ _ _ _ (by intro e; injection e with _ e _; omega)).trans e1)⟩
      rw [World.cell?_setCell_other _ _ _ _ (by intro e; injection e with _ e _; omega)]
      exact World.cell?_setCell_same _ _ _ e0
    · simp only [c, if_false]
      rw [far _ (by omega) (by omega), far _ (by omega) (by omega)]
      exact h1.laid i (by omega)
  · rw [far _ (by omega) (by omega), far _ (by omega) (by omega)]
    exact h1.rest i (by omega) hi2
  · rw [World.frozen?_setCell, World.frozen?_setCell]
    exact h1.free i
  · by_cases c : i = k
    · subst c
      simp only [if_true, show ¬ i = i + 1 by omega, if_false]
      exact (vo.kept k2 (fun q hq e => by have := (blkN q hq).1; have e : q = g := e; omega)).mono h.top
    · simp only [c, if_false, show ¬ i = k + 1 by omega]
      exact (h1.own i (by omega)).kept k2 (fun q hq e => blkU i (by omega) q hq e)
  · by_cases c : i = k
    · subst c
      simp only [if_true] at hq ⊢
      exact (blkN q hq).2
    · simp only [c, if_false] at hq
      show q < (if i + 1 = k + 1 then _ else lim (i + 1))
      rw [if_neg (by omega)]
      exact h.high i (by omega) q hq
  · show (if i = k + 1 then _ else lim i) ≤ (if i + 1 = k + 1 then X1.heap.size else lim (i + 1))
    rw [if_neg (by omega)]
    by_cases c : i = k
    · subst c
      rw [if_pos rfl]
      exact Nat.le_trans h.top hb.size
    · rw [if_neg (by omega)]
      exact h.mono i (by omega)
/-- the same tensors -/
def TSame (n : Nat) (T U : Nat → TV) : Prop := ∀ i, i < n → (U i).r = (T i).r ∧ (U i).s = (T i).s ∧ (U i).D = (T i).D ∧ (U i).S = (T i).S ∧ (U i).cap = (T i).r ∧ (U i).dap = (T i).s
end Vo
end Go.Proofs.Ytjlmbeachanlfaa
