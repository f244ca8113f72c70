/- Skip and Resize on both sides (written by tools/gen16.py). -/
import Derived.Test.YtcnopdonnjemmabWh
import Derived.Test.YtcnopdonnjemmabQt
namespace Go.Proofs.Ytcnopdonnjemmab
namespace Vo
open Go.ChangeShapes Go.WideShapes Go.ChangeAt Go.RowKit Go.Joins Go.Sort
open Vl
set_option linter.unusedVariables false
set_option linter.unusedSimpArgs false
/-- a variable that came in and the answer's: blocks p, p + 1 of n cells -/
structure D2 (n : Nat) (w : World) (p : Nat) (S R : Nat → Value) : Prop where
  s : ∀ i, i < n → w.cell? ⟨p, i, none⟩ = some (S i)
  r : ∀ i, i < n → w.cell? ⟨p + 1, i, none⟩ = some (R i)
  fs : ∀ i, w.frozen? ⟨p, i, none⟩ = false
  fr : ∀ i, w.frozen? ⟨p + 1, i, none⟩ = false
  z : p + 1 < w.heap.size
def upd2 (f : Nat → Value) (k : Nat) (x : Value) (i : Nat) : Value := if i = k then x else f i
theorem cell_oth2 {w : World} {b i c j : Nat} {v : Value} (n : ¬ (c = b ∧ j = i)) : (w.setCell ⟨b, i, none⟩ v).cell? ⟨c, j, none⟩ = w.cell? ⟨c, j, none⟩ :=
  World.cell?_setCell_other _ _ _ _ (fun q => by cases q; exact n ⟨rfl, rfl⟩)
theorem D2.setS {n p : Nat} {w : World} {S R : Nat → Value} (h : D2 n w p S R) (k : Nat) (x : Value) (hk : k < n) : D2 n (w.setCell ⟨p, k, none⟩ x) p (upd2 S k x) R where
  s i hi := by
    unfold upd2
    by_cases c : i = k
    · subst c; rw [if_pos rfl]; exact World.cell?_setCell_same _ _ _ (h.s i hi)
    · rw [if_neg c, cell_oth2 (by omega)]; exact h.s i hi
  r i hi := by rw [cell_oth2 (by omega)]; exact h.r i hi
  fs i := by rw [World.frozen?_setCell]; exact h.fs i
  fr i := by rw [World.frozen?_setCell]; exact h.fr i
  z := by simpa [World.setCell] using h.z
theorem D2.setR {n p : Nat} {w : World} {S R : Nat → Value} (h : D2 n w p S R) (k : Nat) (x : Value) (hk : k < n) : D2 n (w.setCell ⟨p + 1, k, none⟩ x) p S (upd2 R k x) where
  s i hi := by rw [cell_oth2 (by omega)]; exact h.s i hi
  r i hi := by
    unfold upd2
    by_cases c : i = k
    · subst c; rw [if_pos rfl]; exact World.cell?_setCell_same _ _ _ (h.r i hi)
    · rw [if_neg c, cell_oth2 (by omega)]; exact h.r i hi
  fs i := by rw [World.frozen?_setCell]; exact h.fs i
  fr i := by rw [World.frozen?_setCell]; exact h.fr i
  z := by simpa [World.setCell] using h.z
theorem D2.below {n p : Nat} {w w' : World} {S R : Nat → Value} (h : D2 n w p S R) (b : Below w.heap.size w w') : D2 n w' p S R where
  s i hi := by have := h.z; rw [b.cell (p := ⟨p, i, none⟩) (by show p < _; omega)]; exact h.s i hi
  r i hi := by have := h.z; rw [b.cell (p := ⟨p + 1, i, none⟩) (by show p + 1 < _; omega)]; exact h.r i hi
  fs i := (b.frozen (p := ⟨p, i, none⟩) (by have := h.z; show p < _; omega)).trans (h.fs i)
  fr i := (b.frozen (p := ⟨p + 1, i, none⟩) h.z).trans (h.fr i)
  z := Nat.lt_of_lt_of_le h.z b.size
theorem D2.new (w : World) (S R : Array Value) (t u : TypeId) (n : Nat) (hS : S.size = n) (hR : R.size = n) : D2 n ((w.alloc (.cells S t)).alloc (.cells R u)) w.heap.size (fun i => S.getD i undef) (fun i => R.getD i undef) where
  s i hi := by simp [go_sem, Array.getD, hS, hi]
  r i hi := by simp [go_sem, Array.getD, hR, hi]
  fs i := by simp [go_sem]
  fr i := by simp [go_sem]
  z := by simp
set_option maxHeartbeats 1000000 in
theorem sRes_no1 (a b s e t k n : Int) (w : World) (ha : bd a) (hb : bd b) (hs : bd s) (he : bd e) (ht : bd t) (hk : bd k) (hn : bd n) (g1 : feOk a b s e t k = false) :
    Calls Try.prog 6 #[.agg #[.int .i64 a, .int .i64 b, .int .i64 s, .int .i64 e, .int .i64 t, .int .i64 k], .int .i64 n] w fun e9 w' => e9 = .returned (.tuple #[.agg #[.int .i64 0, .int .i64 0, .int .i64 0, .int .i64 0, .int .i64 0, .int .i64 0], .bool false]) ∧ Below w.heap.size w w' := by
  have Ha := hide ha
  have Hb := hide hb
  have Hs := hide hs
  have He := hide he
  have Ht := hide ht
  have Hk := hide hk
  clear ha hb hs he ht hk
  have Hn := hide hn
  clear hn
  have G1 := hide g1
  clear g1
  have k0 := D2.new w #[.int .i64 a, .int .i64 b, .int .i64 s, .int .i64 e, .int .i64 t, .int .i64 k] #[.int .i64 0, .int .i64 0, .int .i64 0, .int .i64 0, .int .i64 0, .int .i64 0] 24 24 6 rfl rfl
  obtain ⟨W0, hW0⟩ : ∃ W0, (w.alloc (.cells #[.int .i64 a, .int .i64 b, .int .i64 s, .int .i64 e, .int .i64 t, .int .i64 k] 24)).alloc (.cells #[.int .i64 0, .int .i64 0, .int .i64 0, .int .i64 0, .int .i64 0, .int .i64 0] 24) = W0 := ⟨_, rfl⟩
  rw [hW0] at k0
  have H := hide k0
  have BL := hide (show Below w.heap.size w W0 from hW0 ▸ ((Below.refl _ _).alloc (Nat.le_refl _) _).alloc (by simp) _)
  clear k0
  have s0 : W0.cell? ⟨w.heap.size, 0, none⟩ = some (.int .i64 a) := H.out.s 0 (by omega)
  have s1 : W0.cell? ⟨w.heap.size, 1, none⟩ = some (.int .i64 b) := H.out.s 1 (by omega)
  have s2 : W0.cell? ⟨w.heap.size, 2, none⟩ = some (.int .i64 s) := H.out.s 2 (by omega)
  have s3 : W0.cell? ⟨w.heap.size, 3, none⟩ = some (.int .i64 e) := H.out.s 3 (by omega)
  have s4 : W0.cell? ⟨w.heap.size, 4, none⟩ = some (.int .i64 t) := H.out.s 4 (by omega)
  have s5 : W0.cell? ⟨w.heap.size, 5, none⟩ = some (.int .i64 k) := H.out.s 5 (by omega)
  go_enter Try.func6, Try.ntmps6
  go_wp2_with fail
  clear s0 s1 s2 s3 s4 s5 hW0
  refine (gFeedS a b s e t k false Ha.out Hb.out Hs.out He.out Ht.out Hk.out G1.out _).mono ?_
  rintro e1 w1 ⟨rfl, q1⟩
  replace H := hide (H.out.below q1)
  replace BL := hide (BL.out.trans (q1.mono BL.out.size))
  clear q1
  obtain ⟨Y1, hY1⟩ : ∃ Y1, w1.setCell ⟨w.heap.size, 5, none⟩ (.int .i64 n) = Y1 := ⟨_, rfl⟩
  have e5 : w1.cell? ⟨w.heap.size, 5, none⟩ = some _ := H.out.s 5 (by omega)
  have f5 : w1.frozen? ⟨w.heap.size, 5, none⟩ = false := H.out.fs 5
  replace H := hide (show D2 6 Y1 w.heap.size _ _ from hY1 ▸ H.out.setS 5 (.int .i64 n) (by omega))
  replace BL := hide (show Below w.heap.size w Y1 from hY1 ▸ BL.out.setCell (Nat.le_refl _) _)
  obtain ⟨X0, hX0⟩ : ∃ X0, Y1.setCell ⟨w.heap.size + 1, 0, none⟩ (.int .i64 0) = X0 := ⟨_, rfl⟩
  have HX0 := hide (show D2 6 X0 w.heap.size _ _ from hX0 ▸ H.out.setR 0 (.int .i64 0) (by omega))
  have cX0 : Y1.cell? ⟨w.heap.size + 1, 0, none⟩ = some _ := H.out.r 0 (by omega)
  have gX0 : Y1.frozen? ⟨w.heap.size + 1, 0, none⟩ = false := H.out.fr 0
  have BX0 := hide (show Below w.heap.size w X0 from hX0 ▸ BL.out.setCell (by show w.heap.size ≤ w.heap.size + 1; omega) _)
  obtain ⟨X1, hX1⟩ : ∃ X1, X0.setCell ⟨w.heap.size + 1, 1, none⟩ (.int .i64 0) = X1 := ⟨_, rfl⟩
  have HX1 := hide (show D2 6 X1 w.heap.size _ _ from hX1 ▸ HX0.out.setR 1 (.int .i64 0) (by omega))
  have cX1 : X0.cell? ⟨w.heap.size + 1, 1, none⟩ = some _ := HX0.out.r 1 (by omega)
  have gX1 : X0.frozen? ⟨w.heap.size + 1, 1, none⟩ = false := HX0.out.fr 1
  have BX1 := hide (show Below w.heap.size w X1 from hX1 ▸ BX0.out.setCell (by show w.heap.size ≤ w.heap.size + 1; omega) _)
  obtain ⟨X2, hX2⟩ : ∃ X2, X1.setCell ⟨w.heap.size + 1, 2, none⟩ (.int .i64 0) = X2 := ⟨_, rfl⟩
  have HX2 := hide (show D2 6 X2 w.heap.size _ _ from hX2 ▸ HX1.out.setR 2 (.int .i64 0) (by omega))
  have cX2 : X1.cell? ⟨w.heap.size + 1, 2, none⟩ = some _ := HX1.out.r 2 (by omega)
  have gX2 : X1.frozen? ⟨w.heap.size + 1, 2, none⟩ = false := HX1.out.fr 2
  have BX2 := hide (show Below w.heap.size w X2 from hX2 ▸ BX1.out.setCell (by show w.heap.size ≤ w.heap.size + 1; omega) _)
  obtain ⟨X3, hX3⟩ : ∃ X3, X2.setCell ⟨w.heap.size + 1, 3, none⟩ (.int .i64 0) = X3 := ⟨_, rfl⟩
  have HX3 := hide (show D2 6 X3 w.heap.size _ _ from hX3 ▸ HX2.out.setR 3 (.int .i64 0) (by omega))
  have cX3 : X2.cell? ⟨w.heap.size + 1, 3, none⟩ = some _ := HX2.out.r 3 (by omega)
  have gX3 : X2.frozen? ⟨w.heap.size + 1, 3, none⟩ = false := HX2.out.fr 3
  have BX3 := hide (show Below w.heap.size w X3 from hX3 ▸ BX2.out.setCell (by show w.heap.size ≤ w.heap.size + 1; omega) _)
  obtain ⟨X4, hX4⟩ : ∃ X4, X3.setCell ⟨w.heap.size + 1, 4, none⟩ (.int .i64 0) = X4 := ⟨_, rfl⟩
  have HX4 := hide (show D2 6 X4 w.heap.size _ _ from hX4 ▸ HX3.out.setR 4 (.int .i64 0) (by omega))
  have cX4 : X3.cell? ⟨w.heap.size + 1, 4, none⟩ = some _ := HX3.out.r 4 (by omega)
  have gX4 : X3.frozen? ⟨w.heap.size + 1, 4, none⟩ = false := HX3.out.fr 4
  have BX4 := hide (show Below w.heap.size w X4 from hX4 ▸ BX3.out.setCell (by show w.heap.size ≤ w.heap.size + 1; omega) _)
  obtain ⟨X5, hX5⟩ : ∃ X5, X4.setCell ⟨w.heap.size + 1, 5, none⟩ (.int .i64 0) = X5 := ⟨_, rfl⟩
  have HX5 := hide (show D2 6 X5 w.heap.size _ _ from hX5 ▸ HX4.out.setR 5 (.int .i64 0) (by omega))
  have cX5 : X4.cell? ⟨w.heap.size + 1, 5, none⟩ = some _ := HX4.out.r 5 (by omega)
  have gX5 : X4.frozen? ⟨w.heap.size + 1, 5, none⟩ = false := HX4.out.fr 5
  have BX5 := hide (show Below w.heap.size w X5 from hX5 ▸ BX4.out.setCell (by show w.heap.size ≤ w.heap.size + 1; omega) _)
  have r0 : X5.cell? ⟨w.heap.size + 1, 0, none⟩ = some (.int .i64 0) := HX5.out.r 0 (by omega)
  have r1 : X5.cell? ⟨w.heap.size + 1, 1, none⟩ = some (.int .i64 0) := HX5.out.r 1 (by omega)
  have r2 : X5.cell? ⟨w.heap.size + 1, 2, none⟩ = some (.int .i64 0) := HX5.out.r 2 (by omega)
  have r3 : X5.cell? ⟨w.heap.size + 1, 3, none⟩ = some (.int .i64 0) := HX5.out.r 3 (by omega)
  have r4 : X5.cell? ⟨w.heap.size + 1, 4, none⟩ = some (.int .i64 0) := HX5.out.r 4 (by omega)
  have r5 : X5.cell? ⟨w.heap.size + 1, 5, none⟩ = some (.int .i64 0) := HX5.out.r 5 (by omega)
  go_wp2_with fail
  exact bodyPost_ret (v := .tuple #[.agg #[.int .i64 0, .int .i64 0, .int .i64 0, .int .i64 0, .int .i64 0, .int .i64 0], .bool false]) (by simp [results, Try.results6, go_sem, r0, r1, r2, r3, r4, r5]) rfl ⟨rfl, BX5.out⟩
set_option maxHeartbeats 1000000 in
theorem sRes_no2 (a b s e t k n : Int) (w : World) (ha : bd a) (hb : bd b) (hs : bd s) (he : bd e) (ht : bd t) (hk : bd k) (hn : bd n) (g1 : feOk a b s e t k = true) (g2 : feOk a b s e t n = false) :
    Calls Try.prog 6 #[.agg #[.int .i64 a, .int .i64 b, .int .i64 s, .int .i64 e, .int .i64 t, .int .i64 k], .int .i64 n] w fun e9 w' => e9 = .returned (.tuple #[.agg #[.int .i64 0, .int .i64 0, .int .i64 0, .int .i64 0, .int .i64 0, .int .i64 0], .bool false]) ∧ Below w.heap.size w w' := by
  have Ha := hide ha
  have Hb := hide hb
  have Hs := hide hs
  have He := hide he
  have Ht := hide ht
  have Hk := hide hk
  clear ha hb hs he ht hk
  have Hn := hide hn
  clear hn
  have G1 := hide g1
  clear g1
  have G2 := hide g2
  clear g2
  have k0 := D2.new w #[.int .i64 a, .int .i64 b, .int .i64 s, .int .i64 e, .int .i64 t, .int .i64 k] #[.int .i64 0, .int .i64 0, .int .i64 0, .int .i64 0, .int .i64 0, .int .i64 0] 24 24 6 rfl rfl
  obtain ⟨W0, hW0⟩ : ∃ W0, (w.alloc (.cells #[.int .i64 a, .int .i64 b, .int .i64 s, .int .i64 e, .int .i64 t, .int .i64 k] 24)).alloc (.cells #[.int .i64 0, .int .i64 0, .int .i64 0, .int .i64 0, .int .i64 0, .int .i64 0] 24) = W0 := ⟨_, rfl⟩
  rw [hW0] at k0
  have H := hide k0
  have BL := hide (show Below w.heap.size w W0 from hW0 ▸ ((Below.refl _ _).alloc (Nat.le_refl _) _).alloc (by simp) _)
  clear k0
  have s0 : W0.cell? ⟨w.heap.size, 0, none⟩ = some (.int .i64 a) := H.out.s 0 (by omega)
  have s1 : W0.cell? ⟨w.heap.size, 1, none⟩ = some (.int .i64 b) := H.out.s 1 (by omega)
  have s2 : W0.cell? ⟨w.heap.size, 2, none⟩ = some (.int .i64 s) := H.out.s 2 (by omega)
  have s3 : W0.cell? ⟨w.heap.size, 3, none⟩ = some (.int .i64 e) := H.out.s 3 (by omega)
  have s4 : W0.cell? ⟨w.heap.size, 4, none⟩ = some (.int .i64 t) := H.out.s 4 (by omega)
  have s5 : W0.cell? ⟨w.heap.size, 5, none⟩ = some (.int .i64 k) := H.out.s 5 (by omega)
  go_enter Try.func6, Try.ntmps6
  go_wp2_with fail
  clear s0 s1 s2 s3 s4 s5 hW0
  refine (gFeedS a b s e t k true Ha.out Hb.out Hs.out He.out Ht.out Hk.out G1.out _).mono ?_
  rintro e1 w1 ⟨rfl, q1⟩
  replace H := hide (H.out.below q1)
  replace BL := hide (BL.out.trans (q1.mono BL.out.size))
  clear q1
  obtain ⟨Y1, hY1⟩ : ∃ Y1, w1.setCell ⟨w.heap.size, 5, none⟩ (.int .i64 n) = Y1 := ⟨_, rfl⟩
  have e5 : w1.cell? ⟨w.heap.size, 5, none⟩ = some _ := H.out.s 5 (by omega)
  have f5 : w1.frozen? ⟨w.heap.size, 5, none⟩ = false := H.out.fs 5
  replace H := hide (show D2 6 Y1 w.heap.size _ _ from hY1 ▸ H.out.setS 5 (.int .i64 n) (by omega))
  replace BL := hide (show Below w.heap.size w Y1 from hY1 ▸ BL.out.setCell (Nat.le_refl _) _)
  have s0 : Y1.cell? ⟨w.heap.size, 0, none⟩ = some (.int .i64 a) := H.out.s 0 (by omega)
  have s1 : Y1.cell? ⟨w.heap.size, 1, none⟩ = some (.int .i64 b) := H.out.s 1 (by omega)
  have s2 : Y1.cell? ⟨w.heap.size, 2, none⟩ = some (.int .i64 s) := H.out.s 2 (by omega)
  have s3 : Y1.cell? ⟨w.heap.size, 3, none⟩ = some (.int .i64 e) := H.out.s 3 (by omega)
  have s4 : Y1.cell? ⟨w.heap.size, 4, none⟩ = some (.int .i64 t) := H.out.s 4 (by omega)
  have s5 : Y1.cell? ⟨w.heap.size, 5, none⟩ = some (.int .i64 n) := H.out.s 5 (by omega)
  go_wp2_with fail
  clear s0 s1 s2 s3 s4 s5 e5 f5 hY1
  refine (gFeedS a b s e t n false Ha.out Hb.out Hs.out He.out Ht.out Hn.out G2.out _).mono ?_
  rintro e1 w2 ⟨rfl, q2⟩
  replace H := hide (H.out.below q2)
  replace BL := hide (BL.out.trans (q2.mono BL.out.size))
  clear q2
  obtain ⟨X0, hX0⟩ : ∃ X0, w2.setCell ⟨w.heap.size + 1, 0, none⟩ (.int .i64 0) = X0 := ⟨_, rfl⟩
  have HX0 := hide (show D2 6 X0 w.heap.size _ _ from hX0 ▸ H.out.setR 0 (.int .i64 0) (by omega))
  have cX0 : w2.cell? ⟨w.heap.size + 1, 0, none⟩ = some _ := H.out.r 0 (by omega)
  have gX0 : w2.frozen? ⟨w.heap.size + 1, 0, none⟩ = false := H.out.fr 0
  have BX0 := hide (show Below w.heap.size w X0 from hX0 ▸ BL.out.setCell (by show w.heap.size ≤ w.heap.size + 1; omega) _)
  obtain ⟨X1, hX1⟩ : ∃ X1, X0.setCell ⟨w.heap.size + 1, 1, none⟩ (.int .i64 0) = X1 := ⟨_, rfl⟩
  have HX1 := hide (show D2 6 X1 w.heap.size _ _ from hX1 ▸ HX0.out.setR 1 (.int .i64 0) (by omega))
  have cX1 : X0.cell? ⟨w.heap.size + 1, 1, none⟩ = some _ := HX0.out.r 1 (by omega)
  have gX1 : X0.frozen? ⟨w.heap.size + 1, 1, none⟩ = false := HX0.out.fr 1
  have BX1 := hide (show Below w.heap.size w X1 from hX1 ▸ BX0.out.setCell (by show w.heap.size ≤ w.heap.size + 1; omega) _)
  obtain ⟨X2, hX2⟩ : ∃ X2, X1.setCell ⟨w.heap.size + 1, 2, none⟩ (.int .i64 0) = X2 := ⟨_, rfl⟩
  have HX2 := hide (show D2 6 X2 w.heap.size _ _ from hX2 ▸ HX1.out.setR 2 (.int .i64 0) (by omega))
  have cX2 : X1.cell? ⟨w.heap.size + 1, 2, none⟩ = some _ := HX1.out.r 2 (by omega)
  have gX2 : X1.frozen? ⟨w.heap.size + 1, 2, none⟩ = false := HX1.out.fr 2
  have BX2 := hide (show Below w.heap.size w X2 from hX2 ▸ BX1.out.setCell (by show w.heap.size ≤ w.heap.size + 1; omega) _)
  obtain ⟨X3, hX3⟩ : ∃ X3, X2.setCell ⟨w.heap.size + 1, 3, none⟩ (.int .i64 0) = X3 := ⟨_, rfl⟩
  have HX3 := hide (show D2 6 X3 w.heap.size _ _ from hX3 ▸ HX2.out.setR 3 (.int .i64 0) (by omega))
  have cX3 : X2.cell? ⟨w.heap.size + 1, 3, none⟩ = some _ := HX2.out.r 3 (by omega)
  have gX3 : X2.frozen? ⟨w.heap.size + 1, 3, none⟩ = false := HX2.out.fr 3
  have BX3 := hide (show Below w.heap.size w X3 from hX3 ▸ BX2.out.setCell (by show w.heap.size ≤ w.heap.size + 1; omega) _)
  obtain ⟨X4, hX4⟩ : ∃ X4, X3.setCell ⟨w.heap.size + 1, 4, none⟩ (.int .i64 0) = X4 := ⟨_, rfl⟩
  have HX4 := hide (show D2 6 X4 w.heap.size _ _ from hX4 ▸ HX3.out.setR 4 (.int .i64 0) (by omega))
  have cX4 : X3.cell? ⟨w.heap.size + 1, 4, none⟩ = some _ := HX3.out.r 4 (by omega)
  have gX4 : X3.frozen? ⟨w.heap.size + 1, 4, none⟩ = false := HX3.out.fr 4
  have BX4 := hide (show Below w.heap.size w X4 from hX4 ▸ BX3.out.setCell (by show w.heap.size ≤ w.heap.size + 1; omega) _)
  obtain ⟨X5, hX5⟩ : ∃ X5, X4.setCell ⟨w.heap.size + 1, 5, none⟩ (.int .i64 0) = X5 := ⟨_, rfl⟩
  have HX5 := hide (show D2 6 X5 w.heap.size _ _ from hX5 ▸ HX4.out.setR 5 (.int .i64 0) (by omega))
  have cX5 : X4.cell? ⟨w.heap.size + 1, 5, none⟩ = some _ := HX4.out.r 5 (by omega)
  have gX5 : X4.frozen? ⟨w.heap.size + 1, 5, none⟩ = false := HX4.out.fr 5
  have BX5 := hide (show Below w.heap.size w X5 from hX5 ▸ BX4.out.setCell (by show w.heap.size ≤ w.heap.size + 1; omega) _)
  have r0 : X5.cell? ⟨w.heap.size + 1, 0, none⟩ = some (.int .i64 0) := HX5.out.r 0 (by omega)
  have r1 : X5.cell? ⟨w.heap.size + 1, 1, none⟩ = some (.int .i64 0) := HX5.out.r 1 (by omega)
  have r2 : X5.cell? ⟨w.heap.size + 1, 2, none⟩ = some (.int .i64 0) := HX5.out.r 2 (by omega)
  have r3 : X5.cell? ⟨w.heap.size + 1, 3, none⟩ = some (.int .i64 0) := HX5.out.r 3 (by omega)
  have r4 : X5.cell? ⟨w.heap.size + 1, 4, none⟩ = some (.int .i64 0) := HX5.out.r 4 (by omega)
  have r5 : X5.cell? ⟨w.heap.size + 1, 5, none⟩ = some (.int .i64 0) := HX5.out.r 5 (by omega)
  go_wp2_with fail
  exact bodyPost_ret (v := .tuple #[.agg #[.int .i64 0, .int .i64 0, .int .i64 0, .int .i64 0, .int .i64 0, .int .i64 0], .bool false]) (by simp [results, Try.results6, go_sem, r0, r1, r2, r3, r4, r5]) rfl ⟨rfl, BX5.out⟩
set_option maxHeartbeats 1000000 in
theorem sRes_yes (a b s e t k n : Int) (w : World) (ha : bd a) (hb : bd b) (hs : bd s) (he : bd e) (ht : bd t) (hk : bd k) (hn : bd n) (g1 : feOk a b s e t k = true) (g2 : feOk a b s e t n = true) :
    Calls Try.prog 6 #[.agg #[.int .i64 a, .int .i64 b, .int .i64 s, .int .i64 e, .int .i64 t, .int .i64 k], .int .i64 n] w fun e9 w' => e9 = .returned (.tuple #[.agg #[.int .i64 a, .int .i64 b, .int .i64 s, .int .i64 e, .int .i64 t, .int .i64 n], .bool true]) ∧ Below w.heap.size w w' := by
  have Ha := hide ha
  have Hb := hide hb
  have Hs := hide hs
  have He := hide he
  have Ht := hide ht
  have Hk := hide hk
  clear ha hb hs he ht hk
  have Hn := hide hn
  clear hn
  have G1 := hide g1
  clear g1
  have G2 := hide g2
  clear g2
  have k0 := D2.new w #[.int .i64 a, .int .i64 b, .int .i64 s, .int .i64 e, .int .i64 t, .int .i64 k] #[.int .i64 0, .int .i64 0, .int .i64 0, .int .i64 0, .int .i64 0, .int .i64 0] 24 24 6 rfl rfl
  obtain ⟨W0, hW0⟩ : ∃ W0, (w.alloc (.cells #[.int .i64 a, .int .i64 b, .int .i64 s, .int .i64 e, .int .i64 t, .int .i64 k] 24)).alloc (.cells #[.int .i64 0, .int .i64 0, .int .i64 0, .int .i64 0, .int .i64 0, .int .i64 0] 24) = W0 := ⟨_, rfl⟩
  rw [hW0] at k0
  have H := hide k0
  have BL := hide (show Below w.heap.size w W0 from hW0 ▸ ((Below.refl _ _).alloc (Nat.le_refl _) _).alloc (by simp) _)
  clear k0
  have s0 : W0.cell? ⟨w.heap.size, 0, none⟩ = some (.int .i64 a) := H.out.s 0 (by omega)
  have s1 : W0.cell? ⟨w.heap.size, 1, none⟩ = some (.int .i64 b) := H.out.s 1 (by omega)
  have s2 : W0.cell? ⟨w.heap.size, 2, none⟩ = some (.int .i64 s) := H.out.s 2 (by omega)
  have s3 : W0.cell? ⟨w.heap.size, 3, none⟩ = some (.int .i64 e) := H.out.s 3 (by omega)
  have s4 : W0.cell? ⟨w.heap.size, 4, none⟩ = some (.int .i64 t) := H.out.s 4 (by omega)
  have s5 : W0.cell? ⟨w.heap.size, 5, none⟩ = some (.int .i64 k) := H.out.s 5 (by omega)
  go_enter Try.func6, Try.ntmps6
  go_wp2_with fail
  clear s0 s1 s2 s3 s4 s5 hW0
  refine (gFeedS a b s e t k true Ha.out Hb.out Hs.out He.out Ht.out Hk.out G1.out _).mono ?_
  rintro e1 w1 ⟨rfl, q1⟩
  replace H := hide (H.out.below q1)
  replace BL := hide (BL.out.trans (q1.mono BL.out.size))
  clear q1
  obtain ⟨Y1, hY1⟩ : ∃ Y1, w1.setCell ⟨w.heap.size, 5, none⟩ (.int .i64 n) = Y1 := ⟨_, rfl⟩
  have e5 : w1.cell? ⟨w.heap.size, 5, none⟩ = some _ := H.out.s 5 (by omega)
  have f5 : w1.frozen? ⟨w.heap.size, 5, none⟩ = false := H.out.fs 5
  replace H := hide (show D2 6 Y1 w.heap.size _ _ from hY1 ▸ H.out.setS 5 (.int .i64 n) (by omega))
  replace BL := hide (show Below w.heap.size w Y1 from hY1 ▸ BL.out.setCell (Nat.le_refl _) _)
  have s0 : Y1.cell? ⟨w.heap.size, 0, none⟩ = some (.int .i64 a) := H.out.s 0 (by omega)
  have s1 : Y1.cell? ⟨w.heap.size, 1, none⟩ = some (.int .i64 b) := H.out.s 1 (by omega)
  have s2 : Y1.cell? ⟨w.heap.size, 2, none⟩ = some (.int .i64 s) := H.out.s 2 (by omega)
  have s3 : Y1.cell? ⟨w.heap.size, 3, none⟩ = some (.int .i64 e) := H.out.s 3 (by omega)
  have s4 : Y1.cell? ⟨w.heap.size, 4, none⟩ = some (.int .i64 t) := H.out.s 4 (by omega)
  have s5 : Y1.cell? ⟨w.heap.size, 5, none⟩ = some (.int .i64 n) := H.out.s 5 (by omega)
  go_wp2_with fail
  clear s0 s1 s2 s3 s4 s5 e5 f5 hY1
  refine (gFeedS a b s e t n true Ha.out Hb.out Hs.out He.out Ht.out Hn.out G2.out _).mono ?_
  rintro e1 w2 ⟨rfl, q2⟩
  replace H := hide (H.out.below q2)
  replace BL := hide (BL.out.trans (q2.mono BL.out.size))
  clear q2
  have s0 : w2.cell? ⟨w.heap.size, 0, none⟩ = some (.int .i64 a) := H.out.s 0 (by omega)
  have s1 : w2.cell? ⟨w.heap.size, 1, none⟩ = some (.int .i64 b) := H.out.s 1 (by omega)
  have s2 : w2.cell? ⟨w.heap.size, 2, none⟩ = some (.int .i64 s) := H.out.s 2 (by omega)
  have s3 : w2.cell? ⟨w.heap.size, 3, none⟩ = some (.int .i64 e) := H.out.s 3 (by omega)
  have s4 : w2.cell? ⟨w.heap.size, 4, none⟩ = some (.int .i64 t) := H.out.s 4 (by omega)
  have s5 : w2.cell? ⟨w.heap.size, 5, none⟩ = some (.int .i64 n) := H.out.s 5 (by omega)
  obtain ⟨X0, hX0⟩ : ∃ X0, w2.setCell ⟨w.heap.size + 1, 0, none⟩ (.int .i64 a) = X0 := ⟨_, rfl⟩
  have HX0 := hide (show D2 6 X0 w.heap.size _ _ from hX0 ▸ H.out.setR 0 (.int .i64 a) (by omega))
  have cX0 : w2.cell? ⟨w.heap.size + 1, 0, none⟩ = some _ := H.out.r 0 (by omega)
  have gX0 : w2.frozen? ⟨w.heap.size + 1, 0, none⟩ = false := H.out.fr 0
  have BX0 := hide (show Below w.heap.size w X0 from hX0 ▸ BL.out.setCell (by show w.heap.size ≤ w.heap.size + 1; omega) _)
  obtain ⟨X1, hX1⟩ : ∃ X1, X0.setCell ⟨w.heap.size + 1, 1, none⟩ (.int .i64 b) = X1 := ⟨_, rfl⟩
  have HX1 := hide (show D2 6 X1 w.heap.size _ _ from hX1 ▸ HX0.out.setR 1 (.int .i64 b) (by omega))
  have cX1 : X0.cell? ⟨w.heap.size + 1, 1, none⟩ = some _ := HX0.out.r 1 (by omega)
  have gX1 : X0.frozen? ⟨w.heap.size + 1, 1, none⟩ = false := HX0.out.fr 1
  have BX1 := hide (show Below w.heap.size w X1 from hX1 ▸ BX0.out.setCell (by show w.heap.size ≤ w.heap.size + 1; omega) _)
  obtain ⟨X2, hX2⟩ : ∃ X2, X1.setCell ⟨w.heap.size + 1, 2, none⟩ (.int .i64 s) = X2 := ⟨_, rfl⟩
  have HX2 := hide (show D2 6 X2 w.heap.size _ _ from hX2 ▸ HX1.out.setR 2 (.int .i64 s) (by omega))
  have cX2 : X1.cell? ⟨w.heap.size + 1, 2, none⟩ = some _ := HX1.out.r 2 (by omega)
  have gX2 : X1.frozen? ⟨w.heap.size + 1, 2, none⟩ = false := HX1.out.fr 2
  have BX2 := hide (show Below w.heap.size w X2 from hX2 ▸ BX1.out.setCell (by show w.heap.size ≤ w.heap.size + 1; omega) _)
  obtain ⟨X3, hX3⟩ : ∃ X3, X2.setCell ⟨w.heap.size + 1, 3, none⟩ (.int .i64 e) = X3 := ⟨_, rfl⟩
  have HX3 := hide (show D2 6 X3 w.heap.size _ _ from hX3 ▸ HX2.out.setR 3 (.int .i64 e) (by omega))
  have cX3 : X2.cell? ⟨w.heap.size + 1, 3, none⟩ = some _ := HX2.out.r 3 (by omega)
  have gX3 : X2.frozen? ⟨w.heap.size + 1, 3, none⟩ = false := HX2.out.fr 3
  have BX3 := hide (show Below w.heap.size w X3 from hX3 ▸ BX2.out.setCell (by show w.heap.size ≤ w.heap.size + 1; omega) _)
  obtain ⟨X4, hX4⟩ : ∃ X4, X3.setCell ⟨w.heap.size + 1, 4, none⟩ (.int .i64 t) = X4 := ⟨_, rfl⟩
  have HX4 := hide (show D2 6 X4 w.heap.size _ _ from hX4 ▸ HX3.out.setR 4 (.int .i64 t) (by omega))
  have cX4 : X3.cell? ⟨w.heap.size + 1, 4, none⟩ = some _ := HX3.out.r 4 (by omega)
  have gX4 : X3.frozen? ⟨w.heap.size + 1, 4, none⟩ = false := HX3.out.fr 4
  have BX4 := hide (show Below w.heap.size w X4 from hX4 ▸ BX3.out.setCell (by show w.heap.size ≤ w.heap.size + 1; omega) _)
  obtain ⟨X5, hX5⟩ : ∃ X5, X4.setCell ⟨w.heap.size + 1, 5, none⟩ (.int .i64 n) = X5 := ⟨_, rfl⟩
  have HX5 := hide (show D2 6 X5 w.heap.size _ _ from hX5 ▸ HX4.out.setR 5 (.int .i64 n) (by omega))
  have cX5 : X4.cell? ⟨w.heap.size + 1, 5, none⟩ = some _ := HX4.out.r 5 (by omega)
  have gX5 : X4.frozen? ⟨w.heap.size + 1, 5, none⟩ = false := HX4.out.fr 5
  have BX5 := hide (show Below w.heap.size w X5 from hX5 ▸ BX4.out.setCell (by show w.heap.size ≤ w.heap.size + 1; omega) _)
  have r0 : X5.cell? ⟨w.heap.size + 1, 0, none⟩ = some (.int .i64 a) := HX5.out.r 0 (by omega)
  have r1 : X5.cell? ⟨w.heap.size + 1, 1, none⟩ = some (.int .i64 b) := HX5.out.r 1 (by omega)
  have r2 : X5.cell? ⟨w.heap.size + 1, 2, none⟩ = some (.int .i64 s) := HX5.out.r 2 (by omega)
  have r3 : X5.cell? ⟨w.heap.size + 1, 3, none⟩ = some (.int .i64 e) := HX5.out.r 3 (by omega)
  have r4 : X5.cell? ⟨w.heap.size + 1, 4, none⟩ = some (.int .i64 t) := HX5.out.r 4 (by omega)
  have r5 : X5.cell? ⟨w.heap.size + 1, 5, none⟩ = some (.int .i64 n) := HX5.out.r 5 (by omega)
  go_wp2_with fail
  exact bodyPost_ret (v := .tuple #[.agg #[.int .i64 a, .int .i64 b, .int .i64 s, .int .i64 e, .int .i64 t, .int .i64 n], .bool true]) (by simp [results, Try.results6, go_sem, r0, r1, r2, r3, r4, r5]) rfl ⟨rfl, BX5.out⟩
set_option maxHeartbeats 1000000 in
theorem iRes_no1 (a b s e t k n : Int) (w : World) (ha : bd a) (hb : bd b) (hs : bd s) (he : bd e) (ht : bd t) (hk : bd k) (hn : bd n) (g1 : feOk a b s e t k = false) :
    Calls Try.prog 8 #[.agg #[.int .i64 a, .int .i64 b, .int .i64 s, .int .i64 e, .int .i64 t, .int .i64 k], .int .i64 n] w fun e9 w' => e9 = .returned (.tuple #[.agg #[.int .i64 0, .int .i64 0, .int .i64 0, .int .i64 0, .int .i64 0, .int .i64 0], .bool false]) ∧ Below w.heap.size w w' := by
  have Ha := hide ha
  have Hb := hide hb
  have Hs := hide hs
  have He := hide he
  have Ht := hide ht
  have Hk := hide hk
  clear ha hb hs he ht hk
  have Hn := hide hn
  clear hn
  have G1 := hide g1
  clear g1
  have k0 := D2.new w #[.int .i64 a, .int .i64 b, .int .i64 s, .int .i64 e, .int .i64 t, .int .i64 k] #[.int .i64 0, .int .i64 0, .int .i64 0, .int .i64 0, .int .i64 0, .int .i64 0] 24 24 6 rfl rfl
  obtain ⟨W0, hW0⟩ : ∃ W0, (w.alloc (.cells #[.int .i64 a, .int .i64 b, .int .i64 s, .int .i64 e, .int .i64 t, .int .i64 k] 24)).alloc (.cells #[.int .i64 0, .int .i64 0, .int .i64 0, .int .i64 0, .int .i64 0, .int .i64 0] 24) = W0 := ⟨_, rfl⟩
  rw [hW0] at k0
  have H := hide k0
  have BL := hide (show Below w.heap.size w W0 from hW0 ▸ ((Below.refl _ _).alloc (Nat.le_refl _) _).alloc (by simp) _)
  clear k0
  have s0 : W0.cell? ⟨w.heap.size, 0, none⟩ = some (.int .i64 a) := H.out.s 0 (by omega)
  have s1 : W0.cell? ⟨w.heap.size, 1, none⟩ = some (.int .i64 b) := H.out.s 1 (by omega)
  have s2 : W0.cell? ⟨w.heap.size, 2, none⟩ = some (.int .i64 s) := H.out.s 2 (by omega)
  have s3 : W0.cell? ⟨w.heap.size, 3, none⟩ = some (.int .i64 e) := H.out.s 3 (by omega)
  have s4 : W0.cell? ⟨w.heap.size, 4, none⟩ = some (.int .i64 t) := H.out.s 4 (by omega)
  have s5 : W0.cell? ⟨w.heap.size, 5, none⟩ = some (.int .i64 k) := H.out.s 5 (by omega)
  obtain ⟨W2, hW2⟩ : ∃ W2, W0.alloc (.cells #[.int .i64 a, .int .i64 b, .int .i64 s, .int .i64 e, .int .i64 t, .int .i64 n] 24) = W2 := ⟨_, rfl⟩
  have nW2 : Below W0.heap.size W0 W2 := hW2 ▸ (Below.refl _ _).alloc (Nat.le_refl _) _
  have K := hide (show Box6 W2 W0.heap.size a b s e t n from hW2 ▸ box6_new _ _ _ _ _ _ _ _)
  have H2 := hide (H.out.below nW2)
  replace BL := hide (BL.out.trans (nW2.mono BL.out.size))
  clear nW2
  have z0 : W2.cell? ⟨w.heap.size, 0, none⟩ = some (.int .i64 a) := H2.out.s 0 (by omega)
  have z1 : W2.cell? ⟨w.heap.size, 1, none⟩ = some (.int .i64 b) := H2.out.s 1 (by omega)
  have z2 : W2.cell? ⟨w.heap.size, 2, none⟩ = some (.int .i64 s) := H2.out.s 2 (by omega)
  have z3 : W2.cell? ⟨w.heap.size, 3, none⟩ = some (.int .i64 e) := H2.out.s 3 (by omega)
  have z4 : W2.cell? ⟨w.heap.size, 4, none⟩ = some (.int .i64 t) := H2.out.s 4 (by omega)
  have z5 : W2.cell? ⟨w.heap.size, 5, none⟩ = some (.int .i64 k) := H2.out.s 5 (by omega)
  go_enter Try.func8, Try.ntmps8
  go_wp2_with fail
  clear s0 s1 s2 s3 s4 s5 hW0 hW2 z0 z1 z2 z3 z4 z5
  replace H := H2
  clear H2
  refine (gFeedI a b s e t k false Ha.out Hb.out Hs.out He.out Ht.out Hk.out G1.out _).mono ?_
  rintro e1 w1 ⟨rfl, q1⟩
  replace K := hide (K.out.below q1)
  replace H := hide (H.out.below q1)
  replace BL := hide (BL.out.trans (q1.mono BL.out.size))
  clear q1
  obtain ⟨X0, hX0⟩ : ∃ X0, w1.setCell ⟨w.heap.size + 1, 0, none⟩ (.int .i64 0) = X0 := ⟨_, rfl⟩
  have HX0 := hide (show D2 6 X0 w.heap.size _ _ from hX0 ▸ H.out.setR 0 (.int .i64 0) (by omega))
  have cX0 : w1.cell? ⟨w.heap.size + 1, 0, none⟩ = some _ := H.out.r 0 (by omega)
  have gX0 : w1.frozen? ⟨w.heap.size + 1, 0, none⟩ = false := H.out.fr 0
  have BX0 := hide (show Below w.heap.size w X0 from hX0 ▸ BL.out.setCell (by show w.heap.size ≤ w.heap.size + 1; omega) _)
  obtain ⟨X1, hX1⟩ : ∃ X1, X0.setCell ⟨w.heap.size + 1, 1, none⟩ (.int .i64 0) = X1 := ⟨_, rfl⟩
  have HX1 := hide (show D2 6 X1 w.heap.size _ _ from hX1 ▸ HX0.out.setR 1 (.int .i64 0) (by omega))
  have cX1 : X0.cell? ⟨w.heap.size + 1, 1, none⟩ = some _ := HX0.out.r 1 (by omega)
  have gX1 : X0.frozen? ⟨w.heap.size + 1, 1, none⟩ = false := HX0.out.fr 1
  have BX1 := hide (show Below w.heap.size w X1 from hX1 ▸ BX0.out.setCell (by show w.heap.size ≤ w.heap.size + 1; omega) _)
  obtain ⟨X2, hX2⟩ : ∃ X2, X1.setCell ⟨w.heap.size + 1, 2, none⟩ (.int .i64 0) = X2 := ⟨_, rfl⟩
  have HX2 := hide (show D2 6 X2 w.heap.size _ _ from hX2 ▸ HX1.out.setR 2 (.int .i64 0) (by omega))
  have cX2 : X1.cell? ⟨w.heap.size + 1, 2, none⟩ = some _ := HX1.out.r 2 (by omega)
  have gX2 : X1.frozen? ⟨w.heap.size + 1, 2, none⟩ = false := HX1.out.fr 2
  have BX2 := hide (show Below w.heap.size w X2 from hX2 ▸ BX1.out.setCell (by show w.heap.size ≤ w.heap.size + 1; omega) _)
  obtain ⟨X3, hX3⟩ : ∃ X3, X2.setCell ⟨w.heap.size + 1, 3, none⟩ (.int .i64 0) = X3 := ⟨_, rfl⟩
  have HX3 := hide (show D2 6 X3 w.heap.size _ _ from hX3 ▸ HX2.out.setR 3 (.int .i64 0) (by omega))
  have cX3 : X2.cell? ⟨w.heap.size + 1, 3, none⟩ = some _ := HX2.out.r 3 (by omega)
  have gX3 : X2.frozen? ⟨w.heap.size + 1, 3, none⟩ = false := HX2.out.fr 3
  have BX3 := hide (show Below w.heap.size w X3 from hX3 ▸ BX2.out.setCell (by show w.heap.size ≤ w.heap.size + 1; omega) _)
  obtain ⟨X4, hX4⟩ : ∃ X4, X3.setCell ⟨w.heap.size + 1, 4, none⟩ (.int .i64 0) = X4 := ⟨_, rfl⟩
  have HX4 := hide (show D2 6 X4 w.heap.size _ _ from hX4 ▸ HX3.out.setR 4 (.int .i64 0) (by omega))
  have cX4 : X3.cell? ⟨w.heap.size + 1, 4, none⟩ = some _ := HX3.out.r 4 (by omega)
  have gX4 : X3.frozen? ⟨w.heap.size + 1, 4, none⟩ = false := HX3.out.fr 4
  have BX4 := hide (show Below w.heap.size w X4 from hX4 ▸ BX3.out.setCell (by show w.heap.size ≤ w.heap.size + 1; omega) _)
  obtain ⟨X5, hX5⟩ : ∃ X5, X4.setCell ⟨w.heap.size + 1, 5, none⟩ (.int .i64 0) = X5 := ⟨_, rfl⟩
  have HX5 := hide (show D2 6 X5 w.heap.size _ _ from hX5 ▸ HX4.out.setR 5 (.int .i64 0) (by omega))
  have cX5 : X4.cell? ⟨w.heap.size + 1, 5, none⟩ = some _ := HX4.out.r 5 (by omega)
  have gX5 : X4.frozen? ⟨w.heap.size + 1, 5, none⟩ = false := HX4.out.fr 5
  have BX5 := hide (show Below w.heap.size w X5 from hX5 ▸ BX4.out.setCell (by show w.heap.size ≤ w.heap.size + 1; omega) _)
  have r0 : X5.cell? ⟨w.heap.size + 1, 0, none⟩ = some (.int .i64 0) := HX5.out.r 0 (by omega)
  have r1 : X5.cell? ⟨w.heap.size + 1, 1, none⟩ = some (.int .i64 0) := HX5.out.r 1 (by omega)
  have r2 : X5.cell? ⟨w.heap.size + 1, 2, none⟩ = some (.int .i64 0) := HX5.out.r 2 (by omega)
  have r3 : X5.cell? ⟨w.heap.size + 1, 3, none⟩ = some (.int .i64 0) := HX5.out.r 3 (by omega)
  have r4 : X5.cell? ⟨w.heap.size + 1, 4, none⟩ = some (.int .i64 0) := HX5.out.r 4 (by omega)
  have r5 : X5.cell? ⟨w.heap.size + 1, 5, none⟩ = some (.int .i64 0) := HX5.out.r 5 (by omega)
  go_wp2_with fail
  exact bodyPost_ret (v := .tuple #[.agg #[.int .i64 0, .int .i64 0, .int .i64 0, .int .i64 0, .int .i64 0, .int .i64 0], .bool false]) (by simp [results, Try.results8, go_sem, r0, r1, r2, r3, r4, r5]) rfl ⟨rfl, BX5.out⟩
set_option maxHeartbeats 1000000 in
theorem iRes_no2 (a b s e t k n : Int) (w : World) (ha : bd a) (hb : bd b) (hs : bd s) (he : bd e) (ht : bd t) (hk : bd k) (hn : bd n) (g1 : feOk a b s e t k = true) (g2 : feOk a b s e t n = false) :
    Calls Try.prog 8 #[.agg #[.int .i64 a, .int .i64 b, .int .i64 s, .int .i64 e, .int .i64 t, .int .i64 k], .int .i64 n] w fun e9 w' => e9 = .returned (.tuple #[.agg #[.int .i64 0, .int .i64 0, .int .i64 0, .int .i64 0, .int .i64 0, .int .i64 0], .bool false]) ∧ Below w.heap.size w w' := by
  have Ha := hide ha
  have Hb := hide hb
  have Hs := hide hs
  have He := hide he
  have Ht := hide ht
  have Hk := hide hk
  clear ha hb hs he ht hk
  have Hn := hide hn
  clear hn
  have G1 := hide g1
  clear g1
  have G2 := hide g2
  clear g2
  have k0 := D2.new w #[.int .i64 a, .int .i64 b, .int .i64 s, .int .i64 e, .int .i64 t, .int .i64 k] #[.int .i64 0, .int .i64 0, .int .i64 0, .int .i64 0, .int .i64 0, .int .i64 0] 24 24 6 rfl rfl
  obtain ⟨W0, hW0⟩ : ∃ W0, (w.alloc (.cells #[.int .i64 a, .int .i64 b, .int .i64 s, .int .i64 e, .int .i64 t, .int .i64 k] 24)).alloc (.cells #[.int .i64 0, .int .i64 0, .int .i64 0, .int .i64 0, .int .i64 0, .int .i64 0] 24) = W0 := ⟨_, rfl⟩
  rw [hW0] at k0
  have H := hide k0
  have BL := hide (show Below w.heap.size w W0 from hW0 ▸ ((Below.refl _ _).alloc (Nat.le_refl _) _).alloc (by simp) _)
  clear k0
  have s0 : W0.cell? ⟨w.heap.size, 0, none⟩ = some (.int .i64 a) := H.out.s 0 (by omega)
  have s1 : W0.cell? ⟨w.heap.size, 1, none⟩ = some (.int .i64 b) := H.out.s 1 (by omega)
  have s2 : W0.cell? ⟨w.heap.size, 2, none⟩ = some (.int .i64 s) := H.out.s 2 (by omega)
  have s3 : W0.cell? ⟨w.heap.size, 3, none⟩ = some (.int .i64 e) := H.out.s 3 (by omega)
  have s4 : W0.cell? ⟨w.heap.size, 4, none⟩ = some (.int .i64 t) := H.out.s 4 (by omega)
  have s5 : W0.cell? ⟨w.heap.size, 5, none⟩ = some (.int .i64 k) := H.out.s 5 (by omega)
  obtain ⟨W2, hW2⟩ : ∃ W2, W0.alloc (.cells #[.int .i64 a, .int .i64 b, .int .i64 s, .int .i64 e, .int .i64 t, .int .i64 n] 24) = W2 := ⟨_, rfl⟩
  have nW2 : Below W0.heap.size W0 W2 := hW2 ▸ (Below.refl _ _).alloc (Nat.le_refl _) _
  have K := hide (show Box6 W2 W0.heap.size a b s e t n from hW2 ▸ box6_new _ _ _ _ _ _ _ _)
  have H2 := hide (H.out.below nW2)
  replace BL := hide (BL.out.trans (nW2.mono BL.out.size))
  clear nW2
  have z0 : W2.cell? ⟨w.heap.size, 0, none⟩ = some (.int .i64 a) := H2.out.s 0 (by omega)
  have z1 : W2.cell? ⟨w.heap.size, 1, none⟩ = some (.int .i64 b) := H2.out.s 1 (by omega)
  have z2 : W2.cell? ⟨w.heap.size, 2, none⟩ = some (.int .i64 s) := H2.out.s 2 (by omega)
  have z3 : W2.cell? ⟨w.heap.size, 3, none⟩ = some (.int .i64 e) := H2.out.s 3 (by omega)
  have z4 : W2.cell? ⟨w.heap.size, 4, none⟩ = some (.int .i64 t) := H2.out.s 4 (by omega)
  have z5 : W2.cell? ⟨w.heap.size, 5, none⟩ = some (.int .i64 k) := H2.out.s 5 (by omega)
  go_enter Try.func8, Try.ntmps8
  go_wp2_with fail
  clear s0 s1 s2 s3 s4 s5 hW0 hW2 z0 z1 z2 z3 z4 z5
  replace H := H2
  clear H2
  refine (gFeedI a b s e t k true Ha.out Hb.out Hs.out He.out Ht.out Hk.out G1.out _).mono ?_
  rintro e1 w1 ⟨rfl, q1⟩
  replace K := hide (K.out.below q1)
  replace H := hide (H.out.below q1)
  replace BL := hide (BL.out.trans (q1.mono BL.out.size))
  clear q1
  obtain ⟨-, c0, c1, c2, c3, c4, c5⟩ := K.out
  go_wp2_with fail
  clear c0 c1 c2 c3 c4 c5
  refine (gFeedI a b s e t n false Ha.out Hb.out Hs.out He.out Ht.out Hn.out G2.out _).mono ?_
  rintro e1 w2 ⟨rfl, q2⟩
  replace K := hide (K.out.below q2)
  replace H := hide (H.out.below q2)
  replace BL := hide (BL.out.trans (q2.mono BL.out.size))
  clear q2
  obtain ⟨X0, hX0⟩ : ∃ X0, w2.setCell ⟨w.heap.size + 1, 0, none⟩ (.int .i64 0) = X0 := ⟨_, rfl⟩
  have HX0 := hide (show D2 6 X0 w.heap.size _ _ from hX0 ▸ H.out.setR 0 (.int .i64 0) (by omega))
  have cX0 : w2.cell? ⟨w.heap.size + 1, 0, none⟩ = some _ := H.out.r 0 (by omega)
  have gX0 : w2.frozen? ⟨w.heap.size + 1, 0, none⟩ = false := H.out.fr 0
  have BX0 := hide (show Below w.heap.size w X0 from hX0 ▸ BL.out.setCell (by show w.heap.size ≤ w.heap.size + 1; omega) _)
  obtain ⟨X1, hX1⟩ : ∃ X1, X0.setCell ⟨w.heap.size + 1, 1, none⟩ (.int .i64 0) = X1 := ⟨_, rfl⟩
  have HX1 := hide (show D2 6 X1 w.heap.size _ _ from hX1 ▸ HX0.out.setR 1 (.int .i64 0) (by omega))
  have cX1 : X0.cell? ⟨w.heap.size + 1, 1, none⟩ = some _ := HX0.out.r 1 (by omega)
  have gX1 : X0.frozen? ⟨w.heap.size + 1, 1, none⟩ = false := HX0.out.fr 1
  have BX1 := hide (show Below w.heap.size w X1 from hX1 ▸ BX0.out.setCell (by show w.heap.size ≤ w.heap.size + 1; omega) _)
  obtain ⟨X2, hX2⟩ : ∃ X2, X1.setCell ⟨w.heap.size + 1, 2, none⟩ (.int .i64 0) = X2 := ⟨_, rfl⟩
  have HX2 := hide (show D2 6 X2 w.heap.size _ _ from hX2 ▸ HX1.out.setR 2 (.int .i64 0) (by omega))
  have cX2 : X1.cell? ⟨w.heap.size + 1, 2, none⟩ = some _ := HX1.out.r 2 (by omega)
  have gX2 : X1.frozen? ⟨w.heap.size + 1, 2, none⟩ = false := HX1.out.fr 2
  have BX2 := hide (show Below w.heap.size w X2 from hX2 ▸ BX1.out.setCell (by show w.heap.size ≤ w.heap.size + 1; omega) _)
  obtain ⟨X3, hX3⟩ : ∃ X3, X2.setCell ⟨w.heap.size + 1, 3, none⟩ (.int .i64 0) = X3 := ⟨_, rfl⟩
  have HX3 := hide (show D2 6 X3 w.heap.size _ _ from hX3 ▸ HX2.out.setR 3 (.int .i64 0) (by omega))
  have cX3 : X2.cell? ⟨w.heap.size + 1, 3, none⟩ = some _ := HX2.out.r 3 (by omega)
  have gX3 : X2.frozen? ⟨w.heap.size + 1, 3, none⟩ = false := HX2.out.fr 3
  have BX3 := hide (show Below w.heap.size w X3 from hX3 ▸ BX2.out.setCell (by show w.heap.size ≤ w.heap.size + 1; omega) _)
  obtain ⟨X4, hX4⟩ : ∃ X4, X3.setCell ⟨w.heap.size + 1, 4, none⟩ (.int .i64 0) = X4 := ⟨_, rfl⟩
  have HX4 := hide (show D2 6 X4 w.heap.size _ _ from hX4 ▸ HX3.out.setR 4 (.int .i64 0) (by omega))
  have cX4 : X3.cell? ⟨w.heap.size + 1, 4, none⟩ = some _ := HX3.out.r 4 (by omega)
  have gX4 : X3.frozen? ⟨w.heap.size + 1, 4, none⟩ = false := HX3.out.fr 4
  have BX4 := hide (show Below w.heap.size w X4 from hX4 ▸ BX3.out.setCell (by show w.heap.size ≤ w.heap.size + 1; omega) _)
  obtain ⟨X5, hX5⟩ : ∃ X5, X4.setCell ⟨w.heap.size + 1, 5, none⟩ (.int .i64 0) = X5 := ⟨_, rfl⟩
  have HX5 := hide (show D2 6 X5 w.heap.size _ _ from hX5 ▸ HX4.out.setR 5 (.int .i64 0) (by omega))
  have cX5 : X4.cell? ⟨w.heap.size + 1, 5, none⟩ = some _ := HX4.out.r 5 (by omega)
  have gX5 : X4.frozen? ⟨w.heap.size + 1, 5, none⟩ = false := HX4.out.fr 5
  have BX5 := hide (show Below w.heap.size w X5 from hX5 ▸ BX4.out.setCell (by show w.heap.size ≤ w.heap.size + 1; omega) _)
  have r0 : X5.cell? ⟨w.heap.size + 1, 0, none⟩ = some (.int .i64 0) := HX5.out.r 0 (by omega)
  have r1 : X5.cell? ⟨w.heap.size + 1, 1, none⟩ = some (.int .i64 0) := HX5.out.r 1 (by omega)
  have r2 : X5.cell? ⟨w.heap.size + 1, 2, none⟩ = some (.int .i64 0) := HX5.out.r 2 (by omega)
  have r3 : X5.cell? ⟨w.heap.size + 1, 3, none⟩ = some (.int .i64 0) := HX5.out.r 3 (by omega)
  have r4 : X5.cell? ⟨w.heap.size + 1, 4, none⟩ = some (.int .i64 0) := HX5.out.r 4 (by omega)
  have r5 : X5.cell? ⟨w.heap.size + 1, 5, none⟩ = some (.int .i64 0) := HX5.out.r 5 (by omega)
  go_wp2_with fail
  exact bodyPost_ret (v := .tuple #[.agg #[.int .i64 0, .int .i64 0, .int .i64 0, .int .i64 0, .int .i64 0, .int .i64 0], .bool false]) (by simp [results, Try.results8, go_sem, r0, r1, r2, r3, r4, r5]) rfl ⟨rfl, BX5.out⟩
set_option maxHeartbeats 1000000 in
theorem iRes_yes (a b s e t k n : Int) (w : World) (ha : bd a) (hb : bd b) (hs : bd s) (he : bd e) (ht : bd t) (hk : bd k) (hn : bd n) (g1 : feOk a b s e t k = true) (g2 : feOk a b s e t n = true) :
    Calls Try.prog 8 #[.agg #[.int .i64 a, .int .i64 b, .int .i64 s, .int .i64 e, .int .i64 t, .int .i64 k], .int .i64 n] w fun e9 w' => e9 = .returned (.tuple #[.agg #[.int .i64 a, .int .i64 b, .int .i64 s, .int .i64 e, .int .i64 t, .int .i64 n], .bool true]) ∧ Below w.heap.size w w' := by
  have Ha := hide ha
  have Hb := hide hb
  have Hs := hide hs
  have He := hide he
  have Ht := hide ht
  have Hk := hide hk
  clear ha hb hs he ht hk
  have Hn := hide hn
  clear hn
  have G1 := hide g1
  clear g1
  have G2 := hide g2
  clear g2
  have k0 := D2.new w #[.int .i64 a, .int .i64 b, .int .i64 s, .int .i64 e, .int .i64 t, .int .i64 k] #[.int .i64 0, .int .i64 0, .int .i64 0, .int .i64 0, .int .i64 0, .int .i64 0] 24 24 6 rfl rfl
  obtain ⟨W0, hW0⟩ : ∃ W0, (w.alloc (.cells #[.int .i64 a, .int .i64 b, .int .i64 s, .int .i64 e, .int .i64 t, .int .i64 k] 24)).alloc (.cells #[.int .i64 0, .int .i64 0, .int .i64 0, .int .i64 0, .int .i64 0, .int .i64 0] 24) = W0 := ⟨_, rfl⟩
  rw [hW0] at k0
  have H := hide k0
  have BL := hide (show Below w.heap.size w W0 from hW0 ▸ ((Below.refl _ _).alloc (Nat.le_refl _) _).alloc (by simp) _)
  clear k0
  have s0 : W0.cell? ⟨w.heap.size, 0, none⟩ = some (.int .i64 a) := H.out.s 0 (by omega)
  have s1 : W0.cell? ⟨w.heap.size, 1, none⟩ = some (.int .i64 b) := H.out.s 1 (by omega)
  have s2 : W0.cell? ⟨w.heap.size, 2, none⟩ = some (.int .i64 s) := H.out.s 2 (by omega)
  have s3 : W0.cell? ⟨w.heap.size, 3, none⟩ = some (.int .i64 e) := H.out.s 3 (by omega)
  have s4 : W0.cell? ⟨w.heap.size, 4, none⟩ = some (.int .i64 t) := H.out.s 4 (by omega)
  have s5 : W0.cell? ⟨w.heap.size, 5, none⟩ = some (.int .i64 k) := H.out.s 5 (by omega)
  obtain ⟨W2, hW2⟩ : ∃ W2, W0.alloc (.cells #[.int .i64 a, .int .i64 b, .int .i64 s, .int .i64 e, .int .i64 t, .int .i64 n] 24) = W2 := ⟨_, rfl⟩
  have nW2 : Below W0.heap.size W0 W2 := hW2 ▸ (Below.refl _ _).alloc (Nat.le_refl _) _
  have K := hide (show Box6 W2 W0.heap.size a b s e t n from hW2 ▸ box6_new _ _ _ _ _ _ _ _)
  have H2 := hide (H.out.below nW2)
  replace BL := hide (BL.out.trans (nW2.mono BL.out.size))
  clear nW2
  have z0 : W2.cell? ⟨w.heap.size, 0, none⟩ = some (.int .i64 a) := H2.out.s 0 (by omega)
  have z1 : W2.cell? ⟨w.heap.size, 1, none⟩ = some (.int .i64 b) := H2.out.s 1 (by omega)
  have z2 : W2.cell? ⟨w.heap.size, 2, none⟩ = some (.int .i64 s) := H2.out.s 2 (by omega)
  have z3 : W2.cell? ⟨w.heap.size, 3, none⟩ = some (.int .i64 e) := H2.out.s 3 (by omega)
  have z4 : W2.cell? ⟨w.heap.size, 4, none⟩ = some (.int .i64 t) := H2.out.s 4 (by omega)
  have z5 : W2.cell? ⟨w.heap.size, 5, none⟩ = some (.int .i64 k) := H2.out.s 5 (by omega)
  go_enter Try.func8, Try.ntmps8
  go_wp2_with fail
  clear s0 s1 s2 s3 s4 s5 hW0 hW2 z0 z1 z2 z3 z4 z5
  replace H := H2
  clear H2
  refine (gFeedI a b s e t k true Ha.out Hb.out Hs.out He.out Ht.out Hk.out G1.out _).mono ?_
  rintro e1 w1 ⟨rfl, q1⟩
  replace K := hide (K.out.below q1)
  replace H := hide (H.out.below q1)
  replace BL := hide (BL.out.trans (q1.mono BL.out.size))
  clear q1
  obtain ⟨-, c0, c1, c2, c3, c4, c5⟩ := K.out
  go_wp2_with fail
  clear c0 c1 c2 c3 c4 c5
  refine (gFeedI a b s e t n true Ha.out Hb.out Hs.out He.out Ht.out Hn.out G2.out _).mono ?_
  rintro e1 w2 ⟨rfl, q2⟩
  replace K := hide (K.out.below q2)
  replace H := hide (H.out.below q2)
  replace BL := hide (BL.out.trans (q2.mono BL.out.size))
  clear q2
  obtain ⟨-, c0, c1, c2, c3, c4, c5⟩ := K.out
  obtain ⟨X0, hX0⟩ : ∃ X0, w2.setCell ⟨w.heap.size + 1, 0, none⟩ (.int .i64 a) = X0 := ⟨_, rfl⟩
  have HX0 := hide (show D2 6 X0 w.heap.size _ _ from hX0 ▸ H.out.setR 0 (.int .i64 a) (by omega))
  have cX0 : w2.cell? ⟨w.heap.size + 1, 0, none⟩ = some _ := H.out.r 0 (by omega)
  have gX0 : w2.frozen? ⟨w.heap.size + 1, 0, none⟩ = false := H.out.fr 0
  have BX0 := hide (show Below w.heap.size w X0 from hX0 ▸ BL.out.setCell (by show w.heap.size ≤ w.heap.size + 1; omega) _)
  obtain ⟨X1, hX1⟩ : ∃ X1, X0.setCell ⟨w.heap.size + 1, 1, none⟩ (.int .i64 b) = X1 := ⟨_, rfl⟩
  have HX1 := hide (show D2 6 X1 w.heap.size _ _ from hX1 ▸ HX0.out.setR 1 (.int .i64 b) (by omega))
  have cX1 : X0.cell? ⟨w.heap.size + 1, 1, none⟩ = some _ := HX0.out.r 1 (by omega)
  have gX1 : X0.frozen? ⟨w.heap.size + 1, 1, none⟩ = false := HX0.out.fr 1
  have BX1 := hide (show Below w.heap.size w X1 from hX1 ▸ BX0.out.setCell (by show w.heap.size ≤ w.heap.size + 1; omega) _)
  obtain ⟨X2, hX2⟩ : ∃ X2, X1.setCell ⟨w.heap.size + 1, 2, none⟩ (.int .i64 s) = X2 := ⟨_, rfl⟩
  have HX2 := hide (show D2 6 X2 w.heap.size _ _ from hX2 ▸ HX1.out.setR 2 (.int .i64 s) (by omega))
  have cX2 : X1.cell? ⟨w.heap.size + 1, 2, none⟩ = some _ := HX1.out.r 2 (by omega)
  have gX2 : X1.frozen? ⟨w.heap.size + 1, 2, none⟩ = false := HX1.out.fr 2
  have BX2 := hide (show Below w.heap.size w X2 from hX2 ▸ BX1.out.setCell (by show w.heap.size ≤ w.heap.size + 1; omega) _)
  obtain ⟨X3, hX3⟩ : ∃ X3, X2.setCell ⟨w.heap.size + 1, 3, none⟩ (.int .i64 e) = X3 := ⟨_, rfl⟩
  have HX3 := hide (show D2 6 X3 w.heap.size _ _ from hX3 ▸ HX2.out.setR 3 (.int .i64 e) (by omega))
  have cX3 : X2.cell? ⟨w.heap.size + 1, 3, none⟩ = some _ := HX2.out.r 3 (by omega)
  have gX3 : X2.frozen? ⟨w.heap.size + 1, 3, none⟩ = false := HX2.out.fr 3
  have BX3 := hide (show Below w.heap.size w X3 from hX3 ▸ BX2.out.setCell (by show w.heap.size ≤ w.heap.size + 1; omega) _)
  obtain ⟨X4, hX4⟩ : ∃ X4, X3.setCell ⟨w.heap.size + 1, 4, none⟩ (.int .i64 t) = X4 := ⟨_, rfl⟩
  have HX4 := hide (show D2 6 X4 w.heap.size _ _ from hX4 ▸ HX3.out.setR 4 (.int .i64 t) (by omega))
  have cX4 : X3.cell? ⟨w.heap.size + 1, 4, none⟩ = some _ := HX3.out.r 4 (by omega)
  have gX4 : X3.frozen? ⟨w.heap.size + 1, 4, none⟩ = false := HX3.out.fr 4
  have BX4 := hide (show Below w.heap.size w X4 from hX4 ▸ BX3.out.setCell (by show w.heap.size ≤ w.heap.size + 1; omega) _)
  obtain ⟨X5, hX5⟩ : ∃ X5, X4.setCell ⟨w.heap.size + 1, 5, none⟩ (.int .i64 n) = X5 := ⟨_, rfl⟩
  have HX5 := hide (show D2 6 X5 w.heap.size _ _ from hX5 ▸ HX4.out.setR 5 (.int .i64 n) (by omega))
  have cX5 : X4.cell? ⟨w.heap.size + 1, 5, none⟩ = some _ := HX4.out.r 5 (by omega)
  have gX5 : X4.frozen? ⟨w.heap.size + 1, 5, none⟩ = false := HX4.out.fr 5
  have BX5 := hide (show Below w.heap.size w X5 from hX5 ▸ BX4.out.setCell (by show w.heap.size ≤ w.heap.size + 1; omega) _)
  have r0 : X5.cell? ⟨w.heap.size + 1, 0, none⟩ = some (.int .i64 a) := HX5.out.r 0 (by omega)
  have r1 : X5.cell? ⟨w.heap.size + 1, 1, none⟩ = some (.int .i64 b) := HX5.out.r 1 (by omega)
  have r2 : X5.cell? ⟨w.heap.size + 1, 2, none⟩ = some (.int .i64 s) := HX5.out.r 2 (by omega)
  have r3 : X5.cell? ⟨w.heap.size + 1, 3, none⟩ = some (.int .i64 e) := HX5.out.r 3 (by omega)
  have r4 : X5.cell? ⟨w.heap.size + 1, 4, none⟩ = some (.int .i64 t) := HX5.out.r 4 (by omega)
  have r5 : X5.cell? ⟨w.heap.size + 1, 5, none⟩ = some (.int .i64 n) := HX5.out.r 5 (by omega)
  go_wp2_with fail
  exact bodyPost_ret (v := .tuple #[.agg #[.int .i64 a, .int .i64 b, .int .i64 s, .int .i64 e, .int .i64 t, .int .i64 n], .bool true]) (by simp [results, Try.results8, go_sem, r0, r1, r2, r3, r4, r5]) rfl ⟨rfl, BX5.out⟩
theorem resizeBoth (a b s e t k n : Int) (ha : bd a) (hb : bd b) (hs : bd s) (he : bd e) (ht : bd t) (hk : bd k) (hn : bd n) : ∃ (a' b' s' e' t' k' : Int) (o : Bool),
    (∀ w, Calls Try.prog 6 #[.agg #[.int .i64 a, .int .i64 b, .int .i64 s, .int .i64 e, .int .i64 t, .int .i64 k], .int .i64 n] w fun e9 w' => e9 = .returned (.tuple #[.agg #[.int .i64 a', .int .i64 b', .int .i64 s', .int .i64 e', .int .i64 t', .int .i64 k'], .bool o]) ∧ Below w.heap.size w w') ∧
    (∀ w, Calls Try.prog 8 #[.agg #[.int .i64 a, .int .i64 b, .int .i64 s, .int .i64 e, .int .i64 t, .int .i64 k], .int .i64 n] w fun e9 w' => e9 = .returned (.tuple #[.agg #[.int .i64 a', .int .i64 b', .int .i64 s', .int .i64 e', .int .i64 t', .int .i64 k'], .bool o]) ∧ Below w.heap.size w w') := by
  cases g1 : feOk a b s e t k
  · exact ⟨0, 0, 0, 0, 0, 0, false, fun w => sRes_no1 a b s e t k n w ha hb hs he ht hk hn g1, fun w => iRes_no1 a b s e t k n w ha hb hs he ht hk hn g1⟩
  cases g2 : feOk a b s e t n
  · exact ⟨0, 0, 0, 0, 0, 0, false, fun w => sRes_no2 a b s e t k n w ha hb hs he ht hk hn g1 g2, fun w => iRes_no2 a b s e t k n w ha hb hs he ht hk hn g1 g2⟩
  · exact ⟨a, b, s, e, t, n, true, fun w => sRes_yes a b s e t k n w ha hb hs he ht hk hn g1 g2, fun w => iRes_yes a b s e t k n w ha hb hs he ht hk hn g1 g2⟩
end Vo
end Go.Proofs.Ytcnopdonnjemmab
