/- Lives in memory: what the laws do with them. -/
import Derived.Test.YtbdcbanbnbaoiaaAr
import Derived.Test.YtbdcbanbnbaoiaaVv
import Derived.Deep.RegionHeld3
import Derived.Lib.SmallJoins
namespace Go.Proofs.Ytbdcbanbnbaoiaa
namespace Vo
open Go.ChangeShapes Go.WideShapes Go.ChangeAt Go.RowKit Go.Joins Go.Sort
open Vl Vp
set_option linter.unusedVariables false
set_option linter.unusedSimpArgs false
/-- a life: its buffer, its size, from where, up to where -/
structure MV where
  b : Int
  s : Int
  f : Int
  t : Int
def LM (B : Nat) (w : World) (a : Option Addr) (n : Nat) (C : Nat → MV) : Prop :=
  n = 0 ∨ ∃ blk off, a = some ⟨blk, off, none⟩ ∧ blk < B ∧ ∀ i, i < n → (w.cell? ⟨blk, off + i * 4, none⟩ = some (.int .i64 (C i).b) ∧ w.cell? ⟨blk, off + i * 4 + 1, none⟩ = some (.int .i64 (C i).s) ∧ w.cell? ⟨blk, off + i * 4 + 2, none⟩ = some (.int .i64 (C i).f) ∧ w.cell? ⟨blk, off + i * 4 + 3, none⟩ = some (.int .i64 (C i).t)) ∧ bd (C i).b ∧ bd (C i).s ∧ bd (C i).f ∧ bd (C i).t
theorem LM.below {B : Nat} {w w' : World} {a : Option Addr} {n : Nat} {C : Nat → MV} (h : LM B w a n C) (hb : Below B w w') : LM B w' a n C := by
  rcases h with h | ⟨blk, off, rfl, hB, hc⟩
  · exact .inl h
  · refine .inr ⟨blk, off, rfl, hB, fun i hi => ?_⟩
    obtain ⟨⟨c0, c1, c2, c3⟩, d⟩ := hc i hi
    exact ⟨⟨(hb.cell (p := ⟨blk, off + i * 4, none⟩) hB).trans c0, (hb.cell (p := ⟨blk, off + i * 4 + 1, none⟩) hB).trans c1, (hb.cell (p := ⟨blk, off + i * 4 + 2, none⟩) hB).trans c2, (hb.cell (p := ⟨blk, off + i * 4 + 3, none⟩) hB).trans c3⟩, d⟩
theorem LM.mono {B B' : Nat} {w : World} {a : Option Addr} {n : Nat} {C : Nat → MV} (h : LM B w a n C) (hb : B ≤ B') : LM B' w a n C := by
  rcases h with h | ⟨blk, off, rfl, hB, hc⟩
  · exact .inl h
  · exact .inr ⟨blk, off, rfl, by omega, hc⟩
theorem below_alloc4 (o1 o2 o3 : Obj) (w : World) : Below w.heap.size w (((w.alloc o1).alloc o2).alloc o3) := (((Below.refl _ _).alloc (Nat.le_refl _) _).alloc (by simp) _).alloc (by simp; omega) _
/-- a list of lives of one's own, k of them laid -/
structure OML (B : Nat) (w : World) (g n k : Nat) (C : Nat → MV) : Prop where
  lo : B ≤ g
  lt : g < w.heap.size
  laid : ∀ i, i < k → (w.cell? ⟨g, i * 4, none⟩ = some (.int .i64 (C i).b) ∧ w.cell? ⟨g, i * 4 + 1, none⟩ = some (.int .i64 (C i).s) ∧ w.cell? ⟨g, i * 4 + 2, none⟩ = some (.int .i64 (C i).f) ∧ w.cell? ⟨g, i * 4 + 3, none⟩ = some (.int .i64 (C i).t)) ∧ bd (C i).b ∧ bd (C i).s ∧ bd (C i).f ∧ bd (C i).t
  rest : ∀ i, k ≤ i → i < n → w.cell? ⟨g, i * 4, none⟩ = some (.int .i64 0) ∧ w.cell? ⟨g, i * 4 + 1, none⟩ = some (.int .i64 0) ∧ w.cell? ⟨g, i * 4 + 2, none⟩ = some (.int .i64 0) ∧ w.cell? ⟨g, i * 4 + 3, none⟩ = some (.int .i64 0)
  free : ∀ i, w.frozen? ⟨g, i, none⟩ = false
theorem OML.below {B : Nat} {w w' : World} {g n k : Nat} {C : Nat → MV} (h : OML B w g n k C) (hb : Below w.heap.size w w') : OML B w' g n k C :=
  have c : ∀ i, w'.cell? ⟨g, i, none⟩ = w.cell? ⟨g, i, none⟩ := fun i => hb.cell (p := ⟨g, i, none⟩) h.lt
  ⟨h.lo, Nat.lt_of_lt_of_le h.lt hb.size, fun i hi => by rw [c, c, c, c]; exact h.laid i hi, fun i h1 h2 => by rw [c, c, c, c]; exact h.rest i h1 h2, fun i => (hb.frozen (p := ⟨g, i, none⟩) h.lt).trans (h.free i)⟩
theorem OML.read {B : Nat} {w : World} {g n : Nat} {C : Nat → MV} (h : OML B w g n n C) : LM w.heap.size w (some ⟨g, 0, none⟩) n C :=
  .inr ⟨g, 0, rfl, h.lt, fun i hi => by rw [Nat.zero_add]; exact h.laid i hi⟩
theorem oml_put {B : Nat} {X X1 : World} {g n k : Nat} {b s f t : Int} {U : Nat → MV} (h : OML B X g n k U) (hk : k < n) (hb : Below X.heap.size X X1) (hd : bd b ∧ bd s ∧ bd f ∧ bd t) :
    OML B ((((X1.setCell ⟨g, k * 4, none⟩ (.int .i64 b)).setCell ⟨g, k * 4 + 1, none⟩ (.int .i64 s)).setCell ⟨g, k * 4 + 2, none⟩ (.int .i64 f)).setCell ⟨g, k * 4 + 3, none⟩ (.int .i64 t)) g n (k + 1) (fun i => if i = k then ⟨b, s, f, t⟩ else U i) := by
  have h1 := h.below hb
  have far : ∀ j, j ≠ k * 4 → j ≠ k * 4 + 1 → j ≠ k * 4 + 2 → j ≠ k * 4 + 3 → ((((X1.setCell ⟨g, k * 4, none⟩ (.int .i64 b)).setCell ⟨g, k * 4 + 1, none⟩ (.int .i64 s)).setCell ⟨g, k * 4 + 2, none⟩ (.int .i64 f)).setCell ⟨g, k * 4 + 3, none⟩ (.int .i64 t)).cell? ⟨g, j, none⟩ = X1.cell? ⟨g, j, none⟩ := fun j n0 n1 n2 n3 => by
    rw [World.cell?_setCell_other _ _ _ _ (by intro e; injection e with _ e _; omega), World.cell?_setCell_other _ _ _ _ (by intro e; injection e with _ e _; omega), World.cell?_setCell_other _ _ _ _ (by intro e; injection e with _ e _; omega), World.cell?_setCell_other _ _ _ _ (by intro e; injection e with _ e _; omega)]
  obtain ⟨e0, e1, e2, e3⟩ := h1.rest k (Nat.le_refl _) hk
  refine ⟨h.lo, by simpa [World.setCell] using h1.lt, fun i hi => ?_, fun i hi hi2 => ?_, fun i => ?_⟩
  · by_cases c : i = k
    · subst c
      simp only [if_true]
      refine ⟨⟨?_, ?_, ?_, ?_⟩, hd⟩
      · rw [World.cell?_setCell_other _ _ _ _ (by intro e; injection e with _ e _; omega), World.cell?_setCell_other _ _ _ _ (by intro e; injection e with _ e _; omega), World.cell?_setCell_other _ _ _ _ (by intro e; injection e with _ e _; omega)]
        exact World.cell?_setCell_same _ _ _ (e0)
      · rw [World.cell?_setCell_other _ _ _ _ (by intro e; injection e with _ e _; omega), World.cell?_setCell_other _ _ _ _ (by intro e; injection e with _ e _; omega)]
        exact World.cell?_setCell_same _ _ _ ((World.cell?_setCell_other _ _ _ _ (by intro e; injection e with _ e _; omega)).trans (e1))
      · rw [World.cell?_setCell_other _ _ _ _ (by intro e; injection e with _ e _; omega)]
        exact World.cell?_setCell_same _ _ _ ((World.cell?_setCell_other _ _ _ _ (by intro e; injection e with _ e _; omega)).trans ((World.cell?_setCell_other _ _ _ _ (by intro e; injection e with _ e _; omega)).trans (e2)))
      · exact World.cell?_setCell_same _ _ _ ((World.cell?_setCell_other _ _ _ _ (by intro e; injection e with _ e _; omega)).trans ((World.cell?_setCell_other _ _ _ _ (by intro e; injection e with _ e _; omega)).trans ((World.cell?_setCell_other _ _ _ _ (by intro e; injection e with _ e _; omega)).trans (e3))))
    · simp only [c, if_false]
      rw [far _ (by omega) (by omega) (by omega) (by omega), far _ (by omega) (by omega) (by omega) (by omega), far _ (by omega) (by omega) (by omega) (by omega), far _ (by omega) (by omega) (by omega) (by omega)]
      exact h1.laid i (by omega)
  · rw [far _ (by omega) (by omega) (by omega) (by omega), far _ (by omega) (by omega) (by omega) (by omega), far _ (by omega) (by omega) (by omega) (by omega), far _ (by omega) (by omega) (by omega) (by omega)]
    exact h1.rest i (by omega) hi2
  · rw [World.frozen?_setCell, World.frozen?_setCell, World.frozen?_setCell, World.frozen?_setCell]
    exact h1.free i
def MSame (n : Nat) (C U : Nat → MV) : Prop := ∀ i, i < n → U i = C i
theorem make_life (n : Nat) (hn : (n : Int) ≤ 1048576) (w : World) : (Instr.makeSlice 24 (.int .i64 n) (.int .i64 n)).run Try.prog w = .ok (.slice (some ⟨w.heap.size, 0, none⟩) n n) (w.alloc (.cells (madeCells #[.int .i64 0, .int .i64 0, .int .i64 0, .int .i64 0] (n * 4)) 31)) := by
  have hi : (Try.prog.info? 31).map (fun i => (i.zero, i.size, i.bytes)) = some (some (.agg #[.int .i64 0, .int .i64 0, .int .i64 0, .int .i64 0]), 4, 32) := by kernel_rfl
  obtain ⟨i, h1, h2⟩ := Option.map_eq_some_iff.1 hi
  simp only [Prod.mk.injEq] at h2
  obtain ⟨hz, hs, hb⟩ := h2
  have := run_make (P := Try.prog) w 24 31 i (.agg #[.int .i64 0, .int .i64 0, .int .i64 0, .int .i64 0]) Try.underlying24 h1 hz .i64 .i64 n n (by omega) (Int.le_refl _) (by rw [hb]; omega) (by omega)
  rw [hs] at this
  simpa [Value.cells] using this
theorem oml_new (w : World) (n : Nat) (C : Nat → MV) : OML w.heap.size (w.alloc (.cells (madeCells #[.int .i64 0, .int .i64 0, .int .i64 0, .int .i64 0] (n * 4)) 31)) w.heap.size n 0 C := by
  refine ⟨Nat.le_refl _, by simp, fun i hi => by omega, fun i _ hi => ?_, fun i => by simp [go_sem]⟩
  have m0 : i * 4 % 4 = 0 := by omega
  have m1 : (i * 4 + 1) % 4 = 1 := by omega
  have m2 : (i * 4 + 2) % 4 = 2 := by omega
  have m3 : (i * 4 + 3) % 4 = 3 := by omega
  refine ⟨?_, ?_, ?_, ?_⟩
  · rw [World.cell?_alloc_at _ _ _ _ rfl]
    simp [madeCells, m0, show i * 4 < n * 4 by omega]
  · rw [World.cell?_alloc_at _ _ _ _ rfl]
    simp [madeCells, m1, show i * 4 + 1 < n * 4 by omega]
  · rw [World.cell?_alloc_at _ _ _ _ rfl]
    simp [madeCells, m2, show i * 4 + 2 < n * 4 by omega]
  · rw [World.cell?_alloc_at _ _ _ _ rfl]
    simp [madeCells, m3, show i * 4 + 3 < n * 4 by omega]
end Vo
end Go.Proofs.Ytbdcbanbnbaoiaa
