/- Lists of ints in memory, and what the exact laws do with them: they are copied, compared, marked. -/
import Derived.Test.YtkllbolamgmmaaaRows
import Derived.WalkKit
import Derived.ProofKit
import Derived.OpenShut
import Derived.Below
import Derived.Lib.SmallJoins
import Derived.Deep.QuietTactic
import Derived.BigQuiet
import Derived.WalkSmall
import Derived.WalkSpells
import Derived.Laws.MakeOwn
import Derived.Laws.OwnMore
namespace Go.Proofs.Ytkllbolamgmmaaa
namespace Vl
open Go.ChangeShapes Go.WideShapes Go.ChangeAt Go.RowKit Go.Joins
set_option linter.unusedVariables false
theorem hide {p : Prop} (h : p) : Hid p := h
theorem ret_int {k : IntKind} {a b : Int} (h : a = b) : Ending.returned (.int k a) = .returned (.int k b) := by rw [h]
theorem ret_bool {a b : Bool} (h : a = b) : Ending.returned (.bool a) = .returned (.bool b) := by rw [h]

/-- all blocks but those of S lie as they lay -/
structure Kept (S : Nat → Prop) (w w' : World) : Prop where
  os : w'.os = w.os
  tape : w'.tape = w.tape
  output : w'.output = w.output
  size : w.heap.size ≤ w'.heap.size
  block : ∀ k, k < w.heap.size → ¬ S k → w'.heap[k]? = w.heap[k]?
theorem Kept.refl (S : Nat → Prop) (w : World) : Kept S w w := ⟨rfl, rfl, rfl, Nat.le_refl _, fun _ _ _ => rfl⟩
theorem Kept.trans {S : Nat → Prop} {a b c : World} (h : Kept S a b) (k : Kept S b c) : Kept S a c :=
  ⟨k.os.trans h.os, k.tape.trans h.tape, k.output.trans h.output, Nat.le_trans h.size k.size, fun i hi hn => (k.block i (Nat.lt_of_lt_of_le hi h.size) hn).trans (h.block i hi hn)⟩
theorem Kept.mono {S T : Nat → Prop} {w w' : World} (h : Kept S w w') (hs : ∀ k, k < w.heap.size → S k → T k) : Kept T w w' := ⟨h.os, h.tape, h.output, h.size, fun k hk hn => h.block k hk (fun s => hn (hs k hk s))⟩
theorem Kept.of_below {S : Nat → Prop} {w w' : World} (h : Below w.heap.size w w') : Kept S w w' := ⟨h.os, h.tape, h.output, h.size, fun k hk _ => h.block k hk⟩
theorem Kept.below {S : Nat → Prop} {B : Nat} {w w' : World} (h : Kept S w w') (hB : B ≤ w.heap.size) (hs : ∀ k, S k → B ≤ k) : Below B w w' :=
  ⟨h.os, h.tape, h.output, h.size, fun k hk => h.block k (Nat.lt_of_lt_of_le hk hB) (fun s => by have := hs k s; omega)⟩
theorem Kept.setCell (w : World) (p : Addr) (u : Value) : Kept (· = p.block) w (w.setCell p u) :=
  ⟨rfl, rfl, rfl, by simp [World.setCell], fun k _ hn => Below.heap_setCell _ _ _ _ hn⟩

def bd (z : Int) : Prop := -9223372036854775808 ≤ z ∧ z ≤ 9223372036854775807
/-- a row of ints of one's own -/
def Rw (w : World) (g r : Nat) (D : Nat → Int) : Prop := ∀ t, t < r → w.cell? ⟨g, t, none⟩ = some (.int .i64 (D t)) ∧ w.frozen? ⟨g, t, none⟩ = false ∧ bd (D t)
/-- ints that are read: below block B -/
def Ints (B : Nat) (w : World) (a : Option Addr) (r : Nat) (D : Nat → Int) : Prop :=
  r = 0 ∨ ∃ b off, a = some ⟨b, off, none⟩ ∧ b < B ∧ ∀ j, j < r → w.cell? ⟨b, off + j, none⟩ = some (.int .i64 (D j)) ∧ bd (D j)
theorem Ints.below {B : Nat} {w w' : World} {a : Option Addr} {r : Nat} {D : Nat → Int} (h : Ints B w a r D) (hb : Below B w w') : Ints B w' a r D := by
  rcases h with h | ⟨b, off, e, hB, hc⟩
  · exact .inl h
  · exact .inr ⟨b, off, e, hB, fun j hj => ⟨(hb.cell (p := ⟨b, off + j, none⟩) hB).trans (hc j hj).1, (hc j hj).2⟩⟩
theorem Ints.mono {B B' : Nat} {w : World} {a : Option Addr} {r : Nat} {D : Nat → Int} (h : Ints B w a r D) (hB : B ≤ B') : Ints B' w a r D := by
  rcases h with h | ⟨b, off, e, hb, hc⟩
  · exact .inl h
  · exact .inr ⟨b, off, e, by omega, hc⟩
theorem Ints.kept {S : Nat → Prop} {B : Nat} {w w' : World} {a : Option Addr} {r : Nat} {D : Nat → Int} (h : Ints B w a r D) (hB : B ≤ w.heap.size) (hk : Kept S w w') (hs : ∀ b, b < B → ¬ S b) : Ints B w' a r D := by
  rcases h with h | ⟨b, off, e, hb, hc⟩
  · exact .inl h
  · exact .inr ⟨b, off, e, hb, fun j hj => ⟨(World.cell?_of_block (w := w) (a := ⟨b, off + j, none⟩) (hk.block b (by omega) (hs b hb))).trans (hc j hj).1, (hc j hj).2⟩⟩
theorem Ints.bd {B : Nat} {w : World} {a : Option Addr} {r : Nat} {D : Nat → Int} (h : Ints B w a r D) (j : Nat) (hj : j < r) : bd (D j) := by
  rcases h with h | ⟨b, off, e, hb, hc⟩
  · omega
  · exact (hc j hj).2
theorem Ints.same {B : Nat} {w : World} {a : Option Addr} {r : Nat} {D E : Nat → Int} (h : Ints B w a r D) (he : ∀ j, j < r → E j = D j) : Ints B w a r E := by
  rcases h with h | ⟨b, off, e, hb, hc⟩
  · exact .inl h
  · exact .inr ⟨b, off, e, hb, fun j hj => by rw [he j hj]; exact hc j hj⟩
theorem Rw.lt {w : World} {g r : Nat} {D : Nat → Int} (h : Rw w g r D) (hr : r ≠ 0) : g < w.heap.size := World.block_lt_of_cell? _ _ (h 0 (by omega)).1
theorem Rw.below {B : Nat} {w w' : World} {g r : Nat} {D : Nat → Int} (h : Rw w g r D) (hb : Below B w w') (hg : g < B) : Rw w' g r D := fun t ht =>
  ⟨(hb.cell (p := ⟨g, t, none⟩) hg).trans (h t ht).1, (hb.frozen (p := ⟨g, t, none⟩) hg).trans (h t ht).2.1, (h t ht).2.2⟩
theorem Rw.kept {S : Nat → Prop} {w w' : World} {g r : Nat} {D : Nat → Int} (h : Rw w g r D) (hk : Kept S w w') (hg : ¬ S g) : Rw w' g r D := fun t ht => by
  have hl : g < w.heap.size := World.block_lt_of_cell? _ _ (h t ht).1
  exact ⟨(World.cell?_of_block (w := w) (a := ⟨g, t, none⟩) (hk.block g hl hg)).trans (h t ht).1, (World.frozen?_of_block (w := w) (a := ⟨g, t, none⟩) (hk.block g hl hg)).trans (h t ht).2.1, (h t ht).2.2⟩
theorem Rw.same {w : World} {g r : Nat} {D E : Nat → Int} (h : Rw w g r D) (e : ∀ t, t < r → E t = D t) : Rw w g r E := fun t ht => by rw [e t ht]; exact h t ht
theorem Rw.set {w : World} {g r : Nat} {D : Nat → Int} (h : Rw w g r D) (j : Nat) (v : Int) (hv : bd v) : Rw (w.setCell ⟨g, j, none⟩ (.int .i64 v)) g r (fun t => if t = j then v else D t) := by
  intro t ht
  rw [World.frozen?_setCell]
  by_cases c : t = j
  · subst c
    rw [World.cell?_setCell_same _ _ _ (h t ht).1]
    refine ⟨by simp, (h t ht).2.1, by simpa using hv⟩
  · rw [World.cell?_setCell_other _ _ _ _ (by intro e; cases e; exact c rfl)]
    simp only [c, if_false]
    exact h t ht
theorem Rw.ints {w : World} {g r B : Nat} {D : Nat → Int} (h : Rw w g r D) (hB : g < B) : Ints B w (some ⟨g, 0, none⟩) r D := by
  refine .inr ⟨g, 0, rfl, hB, fun j hj => ?_⟩
  rw [Nat.zero_add]
  exact ⟨(h j hj).1, (h j hj).2.2⟩
theorem rw_new (w : World) (r : Nat) (ty : TypeId) : Rw (w.alloc (.cells (madeCells #[.int .i64 0] r) ty)) w.heap.size r (fun _ => 0) := by
  intro t ht
  refine ⟨?_, ?_, by show bd 0; unfold bd; omega⟩
  · rw [World.cell?_alloc_at _ _ _ _ rfl]
    simp [madeCells, ht, Nat.mod_one]
  · simp [go_sem]

/-- a list of one's own: its block lies at or beyond B -/
def OwnL (B : Nat) (w : World) (a : Option Addr) (r : Nat) (D : Nat → Int) : Prop := r = 0 ∨ ∃ g, a = some ⟨g, 0, none⟩ ∧ B ≤ g ∧ Rw w g r D
/-- the block of a list -/
def Blk (a : Option Addr) (r : Nat) : Nat → Prop := fun b => r ≠ 0 ∧ ∃ ad : Addr, a = some ad ∧ ad.block = b
theorem OwnL.ints {B : Nat} {w : World} {a : Option Addr} {r : Nat} {D : Nat → Int} (h : OwnL B w a r D) : Ints w.heap.size w a r D := by
  by_cases hr : r = 0
  · exact .inl hr
  · rcases h with h | ⟨g, rfl, hB, hw⟩
    · exact absurd h hr
    · exact hw.ints (hw.lt hr)
theorem OwnL.mono {B B' : Nat} {w : World} {a : Option Addr} {r : Nat} {D : Nat → Int} (h : OwnL B w a r D) (hB : B' ≤ B) : OwnL B' w a r D := by
  rcases h with h | ⟨g, e, hb, hw⟩
  · exact .inl h
  · exact .inr ⟨g, e, by omega, hw⟩
theorem OwnL.kept {S : Nat → Prop} {B : Nat} {w w' : World} {a : Option Addr} {r : Nat} {D : Nat → Int} (h : OwnL B w a r D) (hk : Kept S w w') (hs : ∀ b, Blk a r b → ¬ S b) : OwnL B w' a r D := by
  by_cases hr : r = 0
  · exact .inl hr
  · rcases h with h | ⟨g, rfl, hB, hw⟩
    · exact absurd h hr
    · exact .inr ⟨g, rfl, hB, hw.kept hk (hs g ⟨hr, _, rfl, rfl⟩)⟩
theorem OwnL.below {B : Nat} {w w' : World} {a : Option Addr} {r : Nat} {D : Nat → Int} (h : OwnL B w a r D) (hk : Below w.heap.size w w') : OwnL B w' a r D := h.kept (Kept.of_below (S := fun _ => False) hk) (fun _ _ s => s)
theorem OwnL.blk {B : Nat} {w : World} {a : Option Addr} {r : Nat} {D : Nat → Int} (h : OwnL B w a r D) {b : Nat} (hb : Blk a r b) : B ≤ b ∧ b < w.heap.size := by
  obtain ⟨hr, ad, rfl, rfl⟩ := hb
  rcases h with h | ⟨g, e, hB, hw⟩
  · exact absurd h hr
  · obtain rfl : ad = _ := Option.some.inj e
    exact ⟨hB, hw.lt hr⟩
theorem OwnL.bd {B : Nat} {w : World} {a : Option Addr} {r : Nat} {D : Nat → Int} (h : OwnL B w a r D) (j : Nat) (hj : j < r) : bd (D j) := h.ints.bd j hj
theorem OwnL.same {B : Nat} {w : World} {a : Option Addr} {r : Nat} {D E : Nat → Int} (h : OwnL B w a r D) (he : ∀ j, j < r → E j = D j) : OwnL B w a r E := by
  rcases h with h | ⟨g, e, hb, hw⟩
  · exact .inl h
  · exact .inr ⟨g, e, hb, hw.same he⟩

theorem make_int (r : Nat) (hr : (r : Int) ≤ 4194304) (w : World) : (Instr.makeSlice 44 (.int .i64 r) (.int .i64 r)).run Try.prog w = .ok (.slice (some ⟨w.heap.size, 0, none⟩) r r) (w.alloc (.cells (madeCells #[.int .i64 0] r) 3)) := by
  have hi : (Try.prog.info? 3).map (fun i => (i.zero, i.size, i.bytes)) = some (some (.int .i64 0), 1, 8) := by kernel_rfl
  obtain ⟨i, h1, h2⟩ := Option.map_eq_some_iff.1 hi
  simp only [Prod.mk.injEq] at h2
  obtain ⟨hz, hs, hb⟩ := h2
  have := run_make (P := Try.prog) w 44 3 i (.int .i64 0) Try.underlying44 h1 hz .i64 .i64 r r (by omega) (Int.le_refl _) (by rw [hb]; omega) (by omega)
  rw [hs] at this
  simpa [Value.cells] using this

/-- what is left of l behind r -/
def Sz (l : Int) (r : Nat) (x : Int) : Prop := (l < r ∧ x = -1) ∨ (r ≤ l ∧ x = l - r)
/-- an argument: ints that can be read -/
def Arg (w : World) (a : Option Addr) (r : Nat) : Prop := (r : Int) ≤ 9223372036854775807 ∧ ∃ D, Ints w.heap.size w a r D
theorem arg_of {H : Type} {enc : TypeId × Value → H} {w : World} {base : Nat} {spare : Nat → Bool} {held : Bool} {fuel : Nat} {c : Value} {x : DataW H × List MemPlace}
    (h : DataW.trod enc Try.prog w base spare held fuel 44 [c] = some x) : ∃ a r cap, c = .slice a r cap ∧ Arg w a r := by
  rcases open_ints Try.underlying44 Try.underlying3 (by kernel_rfl) h with ⟨hc, _⟩ | ⟨x, l, cp, zs, hc, _, hl, hm, hz, _, hcell, hwz⟩
  · simp at hc
    exact ⟨none, 0, 0, hc, by omega, fun _ => 0, .inl rfl⟩
  · simp at hc
    refine ⟨some x, l, cp, hc, ?_⟩
    unfold maxLen at hm
    refine ⟨by omega, fun j => zs.getD j 0, ?_⟩
    by_cases h0 : l = 0
    · exact .inl h0
    · have hzl : l ≤ zs.length := by rw [hz]; split <;> omega
      obtain ⟨b, off, rfl, hq⟩ := ints_at hcell (by omega)
      refine .inr ⟨b, off, rfl, World.block_lt_of_cell? _ _ (hq 0 (by omega)), fun j hj => ⟨hq j (by omega), ?_⟩⟩
      have hmem : zs.getD j 0 ∈ zs := by
        rw [List.getD, List.getElem?_eq_getElem (by omega), Option.getD_some]; exact List.getElem_mem _
      exact bounds_i64 (hwz _ hmem)
theorem arg_at {H : Type} {enc : TypeId × Value → H} {w : World} {base : Nat} {spare : Nat → Bool} {held : Bool} {a : Option Addr} {r cap : Nat} {d : DataW H} {p : List MemPlace}
    (h : DataW.Trod enc Try.prog w base spare held 44 (.slice a r cap) d p) : Arg w a r := by
  obtain ⟨fuel, hf⟩ := h
  obtain ⟨a', r', cap', e, h'⟩ := arg_of (c := .slice a r cap) (by simpa [Value.cells] using hf)
  simp at e
  obtain ⟨rfl, rfl, rfl⟩ := e
  exact h'
end Vl
end Go.Proofs.Ytkllbolamgmmaaa
