/- Rows of bytes that came of a text: their mark lies behind their room, and they are written on. -/
import Derived.Test.YtbbmbgjjhaajjaaGreatDoorSc
import Derived.Lib.FrozenHead2
import Derived.Lib.ConvBytes
import Derived.Laws.IdiomStrings
namespace Go.Proofs.YtbbmbgjjhaajjaaGreatDoor
namespace Vo
open Go.ChangeShapes Go.WideShapes Go.ChangeAt Go.RowKit Go.Joins Go.Sort
open Vl Vp
set_option linter.unusedVariables false
set_option linter.unusedSimpArgs false
theorem put_all (g o : Nat) (t : TypeId) (fz : Nat × Nat) : ∀ (vs : List Value) (i : Nat) (cur : Array Value) (w : World), w.heap[g]? = some (.cells cur t fz) → (fz.2 ≤ o + i ∨ cur.size ≤ fz.1) → o + i + vs.length ≤ cur.size → (∀ v ∈ vs, v.oneCell' = true) →
    (storeCells ⟨g, o, none⟩ vs i).run Tryz.prog w = .ok () (w.setRow g (cur.toList.take (o + i) ++ vs ++ cur.toList.drop (o + i + vs.length)).toArray) := by
  intro vs
  induction vs with
  | nil =>
    intro i cur w hg _ _ _
    simp only [storeCells, List.append_nil, List.length_nil, Nat.add_zero, List.take_append_drop, Array.toArray_toList]
    rw [setRow_self w g cur t fz hg]
    rfl
  | cons v rest ih =>
    intro i cur w hg hfz hl h1
    simp only [List.length_cons] at hl
    have hi : o + i < cur.size := by omega
    have ha : (⟨g, o, none⟩ : Addr).add i = ⟨g, o + i, none⟩ := by unfold Addr.add; split <;> simp_all
    have hc : w.cell? ⟨g, o + i, none⟩ = some cur[o + i] := by simp [World.cell?, hg, hi]
    have hf : w.frozen? ⟨g, o + i, none⟩ = false := by
      obtain ⟨lo, hh⟩ := fz
      simp only [World.frozen?, hg, Bool.and_eq_false_iff, decide_eq_false_iff_not]
      simp only at hfz
      omega
    have hst : (store ((⟨g, o, none⟩ : Addr).add i) v).run Tryz.prog w = .ok () (w.setRow g (cur.setIfInBounds (o + i) v)) := by
      rw [ha, run_store Tryz.prog w _ v _ (h1 v (by simp)), hc]
      simp [hf, setCell_eq_setRow w g (o + i) cur t fz v hg]
    have q := ih (i + 1) (cur.setIfInBounds (o + i) v) (w.setRow g (cur.setIfInBounds (o + i) v)) (setRow_heap w g cur _ t _ hg) (by simp only [Array.size_setIfInBounds]; omega) (by simp only [Array.size_setIfInBounds]; omega) (fun x hx => h1 x (by simp [hx]))
    simp only [storeCells, Sem.run_bind, hst, Result.andThen_ok, q, setRow_setRow]
    congr 3
    have e := list_seg_step cur.toList (o + i) v rest (by simp only [Array.length_toList]; omega)
    simpa [Array.toList_setIfInBounds, Nat.add_assoc] using e
/-- a row of bytes that holds a text and may grow -/
def RowB (w : World) (base : Nat) (v : Value) (l : List UInt8) : Prop :=
  ∃ g cap cur fz, v = .slice (some ⟨g, 0, none⟩) l.length cap ∧ base ≤ g ∧ w.heap[g]? = some (.cells cur 5 fz) ∧ (fz.2 ≤ l.length ∨ cap ≤ fz.1) ∧ l.length ≤ cap ∧ cap ≤ maxLen ∧ cur.size = cap ∧ cur.toList.take l.length = Lib.byteCells l
theorem RowB.kept {w w' : World} {base : Nat} {v : Value} {l : List UInt8} (h : RowB w base v l) (hb : Below w.heap.size w w') : RowB w' base v l := by
  obtain ⟨g, cap, cur, fz, rfl, hg, hh, rest⟩ := h
  refine ⟨g, cap, cur, fz, rfl, hg, ?_, rest⟩
  have hlt : g < w.heap.size := by
    rcases Nat.lt_or_ge g w.heap.size with h' | h'
    · exact h'
    · simp [Array.getElem?_eq_none h'] at hh
  rw [hb.block g hlt]
  exact hh
theorem RowB.cells {w : World} {base : Nat} {g cap : Nat} {l : List UInt8} (h : RowB w base (.slice (some ⟨g, 0, none⟩) l.length cap) l) : ∀ j u, (Lib.byteCells l)[j]? = some u → w.cell? ((⟨g, 0, none⟩ : Addr).add j) = some u := by
  obtain ⟨g', cap', cur, fz, e, hg, hh, hz, h1, h2, h3, h4⟩ := h
  injection e with e1 e2 e3
  injection e1 with e1
  injection e1 with e1
  subst e1
  intro j u hu
  have ha : (⟨g, 0, none⟩ : Addr).add j = ⟨g, j, none⟩ := by unfold Addr.add; split <;> simp_all
  rw [ha, Go.Joins.cell_of_block hh]
  rw [← h4, List.getElem?_take] at hu
  split at hu
  · simpa using hu
  · cases hu
/-- texts behind one another -/
theorem rowB_put {w : World} {base g cap : Nat} {cur : Array Value} {fz : Nat × Nat} {l m : List UInt8} (hg : base ≤ g) (hh : w.heap[g]? = some (.cells cur 5 fz)) (hz : fz.2 ≤ l.length ∨ cap ≤ fz.1) (h2 : cap ≤ maxLen) (h3 : cur.size = cap) (h4 : cur.toList.take l.length = Lib.byteCells l) (hr : l.length + m.length ≤ cap) :
    RowB (w.setRow g (cur.toList.take l.length ++ Lib.byteCells m ++ cur.toList.drop (l.length + (Lib.byteCells m).length)).toArray) base (.slice (some ⟨g, 0, none⟩) (l.length + m.length) cap) (l ++ m) := by
  refine ⟨g, cap, _, fz, by rw [List.length_append], hg, setRow_heap w g cur _ _ _ hh, by rw [List.length_append]; omega, by rw [List.length_append]; omega, h2, ?_, ?_⟩
  · simp only [List.size_toArray, List.length_append, List.length_take, List.length_drop, Array.length_toList, Lib.byteCells_length]
    omega
  · rw [h4, Lib.byteCells_append]
    have : (l ++ m).length = (Lib.byteCells l ++ Lib.byteCells m).length := by simp [Lib.byteCells_length]
    rw [this]
    exact List.take_left
theorem rowB_new {w : World} {base : Nat} {l m : List UInt8} {cap : Nat} (hb : base ≤ w.heap.size) (hc : l.length + m.length ≤ cap) (h2 : cap ≤ maxLen) :
    RowB (w.drew.alloc (.cells ((Lib.byteCells l).toArray ++ (Lib.byteCells m).toArray ++ Builtin.zeroCells (Value.int .u8 0).cells (cap - (l.length + m.length))) 5)) base (.slice (some ⟨w.heap.size, 0, none⟩) (l.length + m.length) cap) (l ++ m) := by
  refine ⟨w.heap.size, cap, _, (0, 0), by rw [List.length_append], hb, heap_alloc_new w.drew _, .inl (Nat.zero_le _), by rw [List.length_append]; exact hc, h2, ?_, ?_⟩
  · have hz1 : (Value.int IntKind.u8 0).cells.size = 1 := rfl
    simp only [Array.size_append, List.size_toArray, size_zeroCells, hz1, Lib.byteCells_length]
    omega
  · simp only [Array.toList_append, List.append_assoc]
    rw [← List.append_assoc, ← Lib.byteCells_append]
    have : (l ++ m).length = (Lib.byteCells (l ++ m)).length := by simp [Lib.byteCells_length]
    rw [this]
    exact List.take_left
theorem appText (w : World) (base : Nat) (ty : TypeId) (v : Value) (l m : List UInt8) (h : RowB w base v l) (hlen : l.length + m.length ≤ 140737488355328) (hb : base ≤ w.heap.size) :
    ∃ v' w', (Builtin.append_ #[30, 9] ty #[v, .string ⟨m.toArray⟩]).run Tryz.prog w = .ok v' w' ∧ RowB w' base v' (l ++ m) ∧ Below base w w' := by
  obtain ⟨i0, hi, hz0, hz1, hz2⟩ := info_parts bld_byte
  have h0 := h
  obtain ⟨g, cap, cur, fz, rfl, hg, hh, hz, h1, h2, h3, h4⟩ := h
  have es : (⟨m.toArray⟩ : ByteArray).size = m.length := by show m.toArray.size = _; simp
  have ec : Lib.strCells ⟨m.toArray⟩ = Lib.byteCells m := rfl
  by_cases hr : l.length + m.length ≤ cap
  · have hf := Lib.run_firstCells_string (P := Tryz.prog) w 1 ⟨m.toArray⟩
    have hst := put_all g l.length 5 fz (Lib.byteCells m) 0 cur w hh (by omega) (by rw [Lib.byteCells_length]; omega) (Lib.strCells_oneCell ⟨m.toArray⟩)
    simp only [Nat.add_zero] at hst
    rw [es, ec] at hf
    have hrun : (Builtin.append_ #[30, 9] ty #[.slice (some ⟨g, 0, none⟩) l.length cap, .string ⟨m.toArray⟩]).run Tryz.prog w = .ok (.slice (some ⟨g, 0, none⟩) (l.length + m.length) cap) (w.setRow g (cur.toList.take l.length ++ Lib.byteCells m ++ cur.toList.drop (l.length + (Lib.byteCells m).length)).toArray) := by
      simp [Builtin.append_, run_underlying Tryz.underlying30, run_underlying Tryz.underlying9, sizeOf, typeInfo, hi, hz1, Builtin.lenOf, es, hr, hf, Addr.add_lit, hst]
    refine ⟨_, _, hrun, rowB_put hg hh hz h2 h3 h4 hr, ⟨rfl, rfl, rfl, by simp, fun k hk => setRow_other w g k _ (by omega)⟩⟩
  · have hr2 := Lib.run_append_grow_string (P := Tryz.prog) w 30 9 ty 5 i0 (.int .u8 0) Tryz.underlying30 Tryz.underlying9 hi hz0 ⟨g, 0, none⟩ l.length cap (Lib.byteCells l) (by rw [hz1, Lib.byteCells_length, Nat.mul_one]) h0.cells ⟨m.toArray⟩ (by rw [es]; omega) (by rw [es]; omega) (by rw [hz2, es]; exact growslice_fits (by omega) (by omega))
    rw [es, ec] at hr2
    have hge := grownCap_ge w (l.length + m.length) cap 5
    have hcm := grownCap_le_maxLen w (l.length + m.length) cap 5 (by unfold maxLen; omega)
    exact ⟨_, _, hr2, rowB_new hb hge hcm, ⟨rfl, rfl, rfl, by simp, fun k hk => heap_alloc_old w.drew _ (by show k < w.heap.size; omega)⟩⟩
theorem appByte (w : World) (base : Nat) (ty : TypeId) (v : Value) (l : List UInt8) (c : UInt8) (h : RowB w base v l) (hlen : l.length + 1 ≤ 140737488355328) (hb : base ≤ w.heap.size) (ad : Addr) (hc : w.cell? (ad.add 0) = some (.int .u8 c.toNat)) :
    ∃ v' w', (Builtin.append_ #[30, 30] ty #[v, .slice (some ad) 1 1]).run Tryz.prog w = .ok v' w' ∧ RowB w' base v' (l ++ [c]) ∧ Below base w w' := by
  obtain ⟨i0, hi, hz0, hz1, hz2⟩ := info_parts bld_byte
  have h0 := h
  obtain ⟨g, cap, cur, fz, rfl, hg, hh, hz, h1, h2, h3, h4⟩ := h
  have hn : ∀ j u, (Lib.byteCells [c])[j]? = some u → w.cell? (ad.add j) = some u := by
    intro j u hu
    match j, hu with
    | 0, hu => simp [Lib.byteCells] at hu; rw [← hu]; exact hc
    | (j + 1), hu => simp [Lib.byteCells] at hu
  by_cases hr : l.length + 1 ≤ cap
  · have hf := run_firstCells_some (P := Tryz.prog) w i0.size 1 ad 1 1 (Lib.byteCells [c]) (by rw [hz1]; rfl) hn
    have hst := put_all g l.length 5 fz (Lib.byteCells [c]) 0 cur w hh (by omega) (by rw [Lib.byteCells_length]; simp only [List.length_cons, List.length_nil]; omega) (Lib.strCells_oneCell ⟨[c].toArray⟩)
    simp only [Nat.add_zero] at hst
    rw [hz1] at hf
    have hrun : (Builtin.append_ #[30, 30] ty #[.slice (some ⟨g, 0, none⟩) l.length cap, .slice (some ad) 1 1]).run Tryz.prog w = .ok (.slice (some ⟨g, 0, none⟩) (l.length + [c].length) cap) (w.setRow g (cur.toList.take l.length ++ Lib.byteCells [c] ++ cur.toList.drop (l.length + (Lib.byteCells [c]).length)).toArray) := by
      simp [Builtin.append_, run_underlying Tryz.underlying30, sizeOf, typeInfo, hi, hz1, Builtin.lenOf, hr, hf, Addr.add_lit, hst]
    exact ⟨_, _, hrun, rowB_put hg hh hz h2 h3 h4 hr, ⟨rfl, rfl, rfl, by simp, fun k hk => setRow_other w g k _ (by omega)⟩⟩
  · have hr2 := run_append_grow (P := Tryz.prog) w 30 ty 5 i0 (.int .u8 0) Tryz.underlying30 hi hz0 ⟨g, 0, none⟩ l.length cap (Lib.byteCells l) (by rw [hz1, Lib.byteCells_length, Nat.mul_one]) h0.cells ad 1 1 (Lib.byteCells [c]) (by rw [hz1]; rfl) hn (by omega) (by omega) (by rw [hz2]; exact growslice_fits (by omega) (by omega))
    have hge := grownCap_ge w (l.length + 1) cap 5
    have hcm := grownCap_le_maxLen w (l.length + 1) cap 5 (by unfold maxLen; omega)
    exact ⟨_, _, hr2, rowB_new (m := [c]) hb hge hcm, ⟨rfl, rfl, rfl, by simp, fun k hk => heap_alloc_old w.drew _ (by show k < w.heap.size; omega)⟩⟩
/-- a text made a row -/
theorem rowB_of (w : World) (l : List UInt8) (hl : l.length ≤ 140737488355328) : ∃ v, (convert 9 30 (.string ⟨l.toArray⟩)).run Tryz.prog w = .ok v (Lib.bytesWorld w 5 ⟨l.toArray⟩) ∧ RowB (Lib.bytesWorld w 5 ⟨l.toArray⟩) w.heap.size v l ∧ Below w.heap.size w (Lib.bytesWorld w 5 ⟨l.toArray⟩) := by
  have es : (⟨l.toArray⟩ : ByteArray).size = l.length := by show l.toArray.size = _; simp
  have hr := Lib.run_convert_string_bytes w 9 30 5 ⟨l.toArray⟩ Tryz.underlying9 Tryz.underlying30 Tryz.underlying5
  have hge := grownCap_ge w (⟨l.toArray⟩ : ByteArray).size 0 5
  have hcm := grownCap_le_maxLen w (⟨l.toArray⟩ : ByteArray).size 0 5 (by rw [es]; unfold maxLen; omega)
  rw [es] at hge hcm hr
  have hsz : (Lib.bytesCells w 5 ⟨l.toArray⟩).size = grownCap w l.length 0 5 := by
    unfold Lib.bytesCells
    rw [es]
    simp only [Array.size_append, Array.size_map, Array.size_replicate, List.size_toArray]
    omega
  refine ⟨_, hr, ⟨w.heap.size, _, _, _, rfl, Nat.le_refl _, Lib.bytesWorld_at_new w 5 ⟨l.toArray⟩, .inr (by show _ ≤ (Lib.bytesCells w 5 ⟨l.toArray⟩).size; rw [hsz]; exact Nat.le_refl _), hge, hcm, hsz, ?_⟩, ⟨rfl, rfl, rfl, by rw [Lib.bytesWorld_size]; omega, fun k hk => Lib.bytesWorld_at_old w 5 ⟨l.toArray⟩ k hk⟩⟩
  unfold Lib.bytesCells
  simp only [Array.toList_append]
  have : l.length = ((Array.map (fun b : UInt8 => Value.int .u8 b.toNat) l.toArray).toList).length := by simp
  rw [this, List.take_left]
  simp [Lib.byteCells]
/-- .. and back -/
theorem rowB_text (w : World) (base : Nat) (v : Value) (l : List UInt8) (h : RowB w base v l) : (convert 30 9 v).run Tryz.prog w = .ok (.string ⟨l.toArray⟩) w := by
  have h0 := h
  obtain ⟨g, cap, cur, fz, rfl, hg, hh, hz, h1, h2, h3, h4⟩ := h
  exact run_convert_bytes_back w 30 9 5 ⟨g, 0, none⟩ cap l Tryz.underlying30 Tryz.underlying5 Tryz.underlying9 (fun j hj => h0.cells j _ (by simp [Lib.byteCells, hj]))
end Vo
end Go.Proofs.YtbbmbgjjhaajjaaGreatDoor
