/- Moves in memory: lists of them, rows of lists. -/
import Derived.Test.YtkllbolamgmmaaaVl
import Derived.Deep.AppendLies
import Derived.Deep.RegionHeld3
import Derived.Lib.SmallJoins
namespace Go.Proofs.Ytkllbolamgmmaaa
namespace Vo
open Go.ChangeShapes Go.WideShapes Go.ChangeAt Go.RowKit Go.Joins Go.Sort
open Vl
set_option linter.unusedVariables false
set_option linter.unusedSimpArgs false
/-- a Move -/
structure Mov where
  f : Int
  t : Int
  c : Int
  d : Bool
def mcs (x : Mov) : List Value := [.int .i64 x.f, .int .i64 x.t, .int .i64 x.c, .bool x.d]
def mvb (l : List Mov) : List Value := l.flatMap mcs
theorem mvb_app (l m : List Mov) : mvb (l ++ m) = mvb l ++ mvb m := by simp [mvb]
theorem mvb_one (x : Mov) : mvb [x] = mcs x := by simp [mvb]
theorem mvb_len : ∀ l : List Mov, (mvb l).length = l.length * 4
  | [] => rfl
  | x :: l => by
    show (mcs x ++ mvb l).length = _
    rw [List.length_append, mvb_len l, List.length_cons]
    simp [mcs]; omega
theorem mvb_get {d : Nat} (hd : d < 4) : ∀ (l : List Mov) (i : Nat) (hi : i < l.length), (mvb l)[i * 4 + d]? = (mcs l[i])[d]?
  | [], i, h => by simp at h
  | x :: l, 0, _ => by
    show (mcs x ++ mvb l)[0 * 4 + d]? = (mcs x)[d]?
    rw [List.getElem?_append_left (by simp [mcs]; omega)]
    congr 1; omega
  | x :: l, i + 1, h => by
    show (mcs x ++ mvb l)[(i + 1) * 4 + d]? = (mcs (l[i]'(by simpa using h)))[d]?
    rw [List.getElem?_append_right (by simp [mcs]; omega), ← mvb_get hd l i (by simpa using h)]
    congr 1
    simp [mcs]; omega
theorem mvb_cell (l : List Mov) : ∀ u ∈ mvb l, u.oneCell' = true := by
  intro u hu
  unfold mvb at hu
  obtain ⟨x, _, hx⟩ := List.mem_flatMap.1 hu
  simp [mcs] at hx
  rcases hx with rfl | rfl | rfl | rfl <;> rfl
/-- Moves that are read: below block B -/
def ML (B : Nat) (w : World) (a : Option Addr) (l : List Mov) : Prop :=
  l = [] ∨ ∃ b o, a = some ⟨b, o, none⟩ ∧ b < B ∧ ∀ j u, (mvb l)[j]? = some u → w.cell? ⟨b, o + j, none⟩ = some u
theorem ML.below {B : Nat} {w w' : World} {a : Option Addr} {l : List Mov} (h : ML B w a l) (hb : Below B w w') : ML B w' a l := by
  rcases h with h | ⟨b, o, e, hB, hc⟩
  · exact .inl h
  · exact .inr ⟨b, o, e, hB, fun j u hu => (hb.cell (p := ⟨b, o + j, none⟩) hB).trans (hc j u hu)⟩
theorem ML.mono {B B' : Nat} {w : World} {a : Option Addr} {l : List Mov} (h : ML B w a l) (hB : B ≤ B') : ML B' w a l := by
  rcases h with h | ⟨b, o, e, hb, hc⟩
  · exact .inl h
  · exact .inr ⟨b, o, e, by omega, hc⟩
theorem mov_at {w : World} {b o : Nat} {l : List Mov} (hc : ∀ j u, (mvb l)[j]? = some u → w.cell? ⟨b, o + j, none⟩ = some u) (i : Nat) (hi : i < l.length) :
    w.cell? ⟨b, o + i * 4, none⟩ = some (.int .i64 l[i].f) ∧ w.cell? ⟨b, o + i * 4 + 1, none⟩ = some (.int .i64 l[i].t) ∧ w.cell? ⟨b, o + i * 4 + 2, none⟩ = some (.int .i64 l[i].c) ∧ w.cell? ⟨b, o + i * 4 + 3, none⟩ = some (.bool l[i].d) := by
  have q := fun d (hd : d < 4) => mvb_get hd l i hi
  refine ⟨?_, ?_, ?_, ?_⟩
  · exact hc (i * 4) _ ((q 0 (by omega)).trans rfl)
  · rw [Nat.add_assoc]; exact hc (i * 4 + 1) _ ((q 1 (by omega)).trans rfl)
  · rw [Nat.add_assoc]; exact hc (i * 4 + 2) _ ((q 2 (by omega)).trans rfl)
  · rw [Nat.add_assoc]; exact hc (i * 4 + 3) _ ((q 3 (by omega)).trans rfl)
/-- Moves of one's own -/
def OM (E : Nat) (w : World) (a : Option Addr) (l : List Mov) : Prop :=
  l = [] ∨ ∃ g, a = some ⟨g, 0, none⟩ ∧ E ≤ g ∧ g < w.heap.size ∧ (∀ j u, (mvb l)[j]? = some u → w.cell? ⟨g, j, none⟩ = some u) ∧ ∀ j, w.frozen? ⟨g, j, none⟩ = false
theorem OM.read {E : Nat} {w : World} {a : Option Addr} {l : List Mov} (h : OM E w a l) : ML w.heap.size w a l := by
  rcases h with h | ⟨g, e, h1, h2, h3, h4⟩
  · exact .inl h
  · exact .inr ⟨g, 0, e, h2, fun j u hu => by rw [Nat.zero_add]; exact h3 j u hu⟩
theorem OM.mono {E E' : Nat} {w : World} {a : Option Addr} {l : List Mov} (h : OM E w a l) (hE : E' ≤ E) : OM E' w a l := by
  rcases h with h | ⟨g, e, h1, h2⟩
  · exact .inl h
  · exact .inr ⟨g, e, by omega, h2⟩
theorem OM.kept {S : Nat → Prop} {E : Nat} {w w' : World} {a : Option Addr} {l : List Mov} (h : OM E w a l) (hk : Kept S w w') (hs : ∀ b, Blk a l.length b → ¬ S b) : OM E w' a l := by
  rcases h with h | ⟨g, e, h1, h2, h3, h4⟩
  · exact .inl h
  · by_cases l0 : l = []
    · exact .inl l0
    · have eb := hk.block g h2 (hs g ⟨fun q => l0 (List.length_eq_zero_iff.1 q), _, e, rfl⟩)
      exact .inr ⟨g, e, h1, Nat.lt_of_lt_of_le h2 hk.size, fun j u hu => (World.cell?_of_block (w := w) (a := ⟨g, j, none⟩) eb).trans (h3 j u hu), fun j => (World.frozen?_of_block (w := w) (a := ⟨g, j, none⟩) eb).trans (h4 j)⟩
theorem OM.below {E : Nat} {w w' : World} {a : Option Addr} {l : List Mov} (h : OM E w a l) (hk : Below w.heap.size w w') : OM E w' a l := h.kept (Kept.of_below (S := fun _ => False) hk) (fun _ _ q => q)
theorem OM.blk {E : Nat} {w : World} {a : Option Addr} {l : List Mov} (h : OM E w a l) {b : Nat} (hb : Blk a l.length b) : E ≤ b ∧ b < w.heap.size := by
  obtain ⟨hr, ad, e, rfl⟩ := hb
  rcases h with h | ⟨g, e', h1, h2, _⟩
  · exact absurd (by rw [h]; rfl) hr
  · rw [e] at e'; cases e'; exact ⟨h1, h2⟩
theorem rows_kept {T : Nat → Prop} {B z n : Nat} {e : TypeId} {w w' : World} {v : Value} {xs : List Value} (h : w.ownsRow B e z v n xs) (hk : Kept T w w') (hn : ∀ k, v.ownBlock = some k → ¬ T k) : w'.ownsRow B e z v n xs := by
  obtain ⟨h1, h2⟩ := h
  refine ⟨h1, ?_⟩
  rcases h2 with h2 | ⟨g, cap, cur, e, hg, hh, rest⟩
  · exact .inl h2
  · refine .inr ⟨g, cap, cur, e, hg, ?_, rest⟩
    rw [hk.block g (Array.getElem?_eq_some_iff.1 hh).1 (hn g (by rw [e]; rfl))]; exact hh
/-- a list that grows -/
def RowMv (E : Nat) (w : World) (v : Value) (l : List Mov) : Prop := w.ownsRow E 33 4 v l.length (mvb l)
theorem RowMv.own {E : Nat} {w : World} {v : Value} {l : List Mov} (h : RowMv E w v l) : ∃ a c, v = .slice a l.length c ∧ OM E w a l := by
  have h0 := h
  obtain ⟨_, ⟨rfl, e⟩ | ⟨g, cap, cur, rfl, hg, hh, rest⟩⟩ := h
  · exact ⟨none, 0, by rw [e], .inl (List.length_eq_zero_iff.1 e)⟩
  · refine ⟨_, _, rfl, .inr ⟨g, rfl, hg, (Array.getElem?_eq_some_iff.1 hh).1, fun j u hu => ?_, fun j => World.ownsRow.frozenAt h0 j⟩⟩
    have := World.ownsRow.cells (g := g) h0 rfl j u hu
    rw [Go.WideShapes.add_plain] at this
    simpa using this
theorem RowMv.below {E : Nat} {w w' : World} {v : Value} {l : List Mov} (h : RowMv E w v l) (hb : Below w.heap.size w w') : RowMv E w' v l := rows_kept (T := fun _ => False) h (Kept.of_below hb) (fun _ _ q => q)
theorem rowMv_new (w : World) : RowMv w.heap.size (w.alloc (.cells #[] 33)) (.slice (some ⟨w.heap.size, 0, none⟩) 0 0) [] := ⟨rfl, .inr ⟨w.heap.size, 0, #[], rfl, Nat.le_refl _, heap_alloc_new w _, Nat.le_refl _, by simp [maxLen], rfl, rfl⟩⟩
/-- a list of Moves that stands somewhere -/
structure VM where
  a : Option Addr
  c : Nat
  l : List Mov
def hdM (L : List VM) : List Value := L.map fun x => .slice x.a x.l.length x.c
theorem hdM_app (L M : List VM) : hdM (L ++ M) = hdM L ++ hdM M := by simp [hdM]
theorem hdM_len (L : List VM) : (hdM L).length = L.length := by simp [hdM]
theorem hdM_get {L : List VM} {i : Nat} (hi : i < L.length) : (hdM L)[i]? = some (.slice L[i].a L[i].l.length L[i].c) := by simp [hdM, hi]
theorem hdM_one (L : List VM) : ∀ u ∈ hdM L, u.oneCell' = true := by
  intro u hu
  obtain ⟨x, _, rfl⟩ := List.mem_map.1 hu
  rfl
def cnt (L : List VM) : List (List Mov) := L.map (·.l)
theorem cnt_app (L M : List VM) : cnt (L ++ M) = cnt L ++ cnt M := by simp [cnt]
theorem cnt_len (L : List VM) : (cnt L).length = L.length := by simp [cnt]
/-- rows that are read -/
def LLM (B : Nat) (w : World) (a : Option Addr) (L : List VM) : Prop :=
  L = [] ∨ ∃ b o, a = some ⟨b, o, none⟩ ∧ b < B ∧ (∀ i (h : i < L.length), w.cell? ⟨b, o + i, none⟩ = some (.slice L[i].a L[i].l.length L[i].c)) ∧ ∀ x ∈ L, ML B w x.a x.l
theorem LLM.below {B : Nat} {w w' : World} {a : Option Addr} {L : List VM} (h : LLM B w a L) (hb : Below B w w') : LLM B w' a L := by
  rcases h with h | ⟨b, o, e, hB, hc, hm⟩
  · exact .inl h
  · exact .inr ⟨b, o, e, hB, fun i hi => (hb.cell (p := ⟨b, o + i, none⟩) hB).trans (hc i hi), fun x hx => (hm x hx).below hb⟩
theorem LLM.mono {B B' : Nat} {w : World} {a : Option Addr} {L : List VM} (h : LLM B w a L) (hB : B ≤ B') : LLM B' w a L := by
  rcases h with h | ⟨b, o, e, hb, hc, hm⟩
  · exact .inl h
  · exact .inr ⟨b, o, e, by omega, hc, fun x hx => (hm x hx).mono hB⟩
/-- two lists that lie apart -/
def Apt (x y : VM) : Prop := ∀ b, Blk x.a x.l.length b → ¬ Blk y.a y.l.length b
/-- rows of one's own, their heads in a row that grows -/
structure RowsM (E : Nat) (w : World) (v : Value) (L : List VM) : Prop where
  heads : w.ownsRow E 30 1 v L.length (hdM L)
  own : ∀ x ∈ L, OM E w x.a x.l
  ne : ∀ x ∈ L, ∀ b, Blk x.a x.l.length b → v.ownBlock ≠ some b
  apart : L.Pairwise Apt
theorem rowsM_new (w : World) : RowsM w.heap.size (w.alloc (.cells #[] 30)) (.slice (some ⟨w.heap.size, 0, none⟩) 0 0) [] :=
  ⟨⟨rfl, .inr ⟨w.heap.size, 0, #[], rfl, Nat.le_refl _, heap_alloc_new w _, Nat.le_refl _, by simp [maxLen], rfl, rfl⟩⟩, fun x hx => by simp at hx, fun x hx => by simp at hx, List.Pairwise.nil⟩
theorem RowsM.kept {T : Nat → Prop} {E : Nat} {w w' : World} {v : Value} {L : List VM} (h : RowsM E w v L) (hk : Kept T w w') (hv : ∀ b, v.ownBlock = some b → ¬ T b) (hT : ∀ x ∈ L, ∀ b, Blk x.a x.l.length b → ¬ T b) : RowsM E w' v L :=
  ⟨rows_kept h.heads hk hv, fun x hx => (h.own x hx).kept hk (hT x hx), h.ne, h.apart⟩
theorem RowsM.below {E : Nat} {w w' : World} {v : Value} {L : List VM} (h : RowsM E w v L) (hb : Below w.heap.size w w') : RowsM E w' v L :=
  h.kept (Kept.of_below (S := fun _ => False) hb) (fun _ _ q => q) (fun _ _ _ _ q => q)
theorem RowsM.mono {E E' : Nat} {w : World} {v : Value} {L : List VM} (h : RowsM E w v L) (hE : E' ≤ E) : RowsM E' w v L :=
  ⟨Go.Joins.ownsRow_le h.heads hE, fun x hx => (h.own x hx).mono hE, h.ne, h.apart⟩
theorem RowsM.slice {E : Nat} {w : World} {v : Value} {L : List VM} (h : RowsM E w v L) : ∃ a c, v = .slice a L.length c := by
  obtain ⟨_, ⟨rfl, e⟩ | ⟨g, cap, cur, rfl, rest⟩⟩ := h.heads
  · exact ⟨none, 0, by rw [e]⟩
  · exact ⟨_, _, rfl⟩
theorem RowsM.read {E c : Nat} {w : World} {a : Option Addr} {L : List VM} (h : RowsM E w (.slice a L.length c) L) : LLM w.heap.size w a L := by
  by_cases l0 : L.length = 0
  · exact .inl (List.length_eq_zero_iff.1 l0)
  · obtain ⟨g, cap, e, h1, h2⟩ := World.ownsRow.form h.heads (by omega)
    injection e with e1 e2 e3
    subst e1
    subst e3
    refine .inr ⟨g, 0, rfl, h2, fun i hi => ?_, fun x hx => (h.own x hx).read⟩
    rw [Nat.zero_add, h.heads.cellAt i (by omega)]
    exact hdM_get hi
/-- a list is put behind rows -/
theorem RowsM.put {E : Nat} {X X1 w2 : World} {v : Value} {L : List VM} {a : Option Addr} {l : List Mov} {c g c' H : Nat} (h : RowsM E X v L) (hb : Below X.heap.size X X1) (hE : E ≤ X.heap.size) (ro : OM X.heap.size X1 a l)
    (ho : w2.ownsRow E 30 1 (.slice (some ⟨g, 0, none⟩) (L.length + 1) c') (L.length + 1) (hdM L ++ [.slice a l.length c])) (hk : Kept (fun b => v.ownBlock = some b) X1 w2) (hat : v.ownBlock = some g ∨ H = g) (hH : X1.heap.size ≤ H) :
    RowsM E w2 (.slice (some ⟨g, 0, none⟩) (L.length + 1) c') (L ++ [⟨a, c, l⟩]) := by
  have h1 := h.below hb
  have zz := hb.size
  have vlt : ∀ b, v.ownBlock = some b → b < X.heap.size := fun b e => (h.heads.lt b e).2
  have nv : ∀ b, Blk a l.length b → v.ownBlock ≠ some b := fun b q e => by have := (ro.blk q).1; have := vlt b e; omega
  have gne : ∀ {y : VM}, OM E X1 y.a y.l → (∀ b, Blk y.a y.l.length b → v.ownBlock ≠ some b) → ∀ b, Blk y.a y.l.length b → (Value.slice (some ⟨g, 0, none⟩) (L.length + 1) c').ownBlock ≠ some b := fun {y} o q b hb' e => by
    have e : g = b := Option.some.inj e
    rcases hat with u | u
    · exact q b hb' (by rw [u, e])
    · have := (o.blk hb').2
      omega
  refine ⟨by rw [List.length_append, hdM_app]; exact ho, fun x hx => ?_, fun x hx b q => ?_, ?_⟩
  · rcases List.mem_append.1 hx with m | m
    · exact (h1.own x m).kept hk (fun b q e => h.ne x m b q e)
    · obtain rfl := List.mem_singleton.1 m
      exact (ro.kept hk (fun b q e => nv b q e)).mono hE
  · rcases List.mem_append.1 hx with m | m
    · exact gne (y := x) (h1.own x m) (h.ne x m) b q
    · obtain rfl := List.mem_singleton.1 m
      exact gne (y := ⟨a, c, l⟩) (ro.mono hE) nv b q
  · refine List.pairwise_append.2 ⟨h.apart, List.pairwise_singleton _ _, fun x hx y hy b q q' => ?_⟩
    obtain rfl := List.mem_singleton.1 hy
    have := ((h.own x hx).blk q).2
    have := (ro.blk q').1
    omega
end Vo
end Go.Proofs.Ytkllbolamgmmaaa
