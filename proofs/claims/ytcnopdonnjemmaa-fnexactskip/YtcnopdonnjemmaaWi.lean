/- Skip and Resize on both sides (written by tools/gen16.py). -/
import Derived.Test.YtcnopdonnjemmaaWh
import Derived.Test.YtcnopdonnjemmaaQt
namespace Go.Proofs.Ytcnopdonnjemmaa
namespace Vo
open Go.ChangeShapes Go.WideShapes Go.ChangeAt Go.RowKit Go.Joins Go.Sort
open Vl
set_option linter.unusedVariables false
set_option linter.unusedSimpArgs false
/-- a variable that came in and the answer's: blocks p, p + 1 of n cells -/
structure D2 (n : Nat) (w : World) (p : Nat) (S R : Nat → Value) : Prop where
  s : ∀ i, i < n → w.cell? ⟨p, i, none⟩ = some (S i)
  r : ∀ i, i < n → w.cell? ⟨p + 1, i, none⟩ = some (R i)
  fs : ∀ i, w.frozen? ⟨p, i, none⟩ = false
  fr : ∀ i, w.frozen? ⟨p + 1, i, none⟩ = false
  z : p + 1 < w.heap.size
def upd2 (f : Nat → Value) (k : Nat) (x : Value) (i : Nat) : Value := if i = k then x else f i
theorem cell_oth2 {w : World} {b i c j : Nat} {v : Value} (n : ¬ (c = b ∧ j = i)) : (w.setCell ⟨b, i, none⟩ v).cell? ⟨c, j, none⟩ = w.cell? ⟨c, j, none⟩ :=
  World.cell?_setCell_other _ _ _ _ (fun q => by cases q; exact n ⟨rfl, rfl⟩)
theorem D2.setS {n p : Nat} {w : World} {S R : Nat → Value} (h : D2 n w p S R) (k : Nat) (x : Value) (hk : k < n) : D2 n (w.setCell ⟨p, k, none⟩ x) p (upd2 S k x) R where
  s i hi := by
    unfold upd2
    by_cases c : i = k
    · subst c; rw [if_pos rfl]; exact World.cell?_setCell_same _ _ _ (h.s i hi)
    · rw [if_neg c, cell_oth2 (by omega)]; exact h.s i hi
  r i hi := by rw [cell_oth2 (by omega)]; exact h.r i hi
  fs i := by rw [World.frozen?_setCell]; exact h.fs i
  fr i := by rw [World.frozen?_setCell]; exact h.fr i
  z := by simpa [World.setCell] using h.z
theorem D2.setR {n p : Nat} {w : World} {S R : Nat → Value} (h : D2 n w p S R) (k : Nat) (x : Value) (hk : k < n) : D2 n (w.setCell ⟨p + 1, k, none⟩ x) p S (upd2 R k x) where
  s i hi := by rw [cell_oth2 (by omega)]; exact h.s i hi
  r i hi := by
    unfold upd2
    by_cases c : i = k
    · subst c; rw [if_pos rfl]; exact World.cell?_setCell_same _ _ _ (h.r i hi)
    · rw [if_neg c, cell_oth2 (by omega)]; exact h.r i hi
  fs i := by rw [World.frozen?_setCell]; exact h.fs i
  fr i := by rw [World.frozen?_setCell]; exact h.fr i
  z := by simpa [World.setCell] using h.z
theorem D2.below {n p : Nat} {w w' : World} {S R : Nat → Value} (h : D2 n w p S R) (b : Below w.heap.size w w') : D2 n w' p S R where
  s i hi := by have := h.z; rw [b.cell (p := ⟨p, i, none⟩) (by show p < _; omega)]; exact h.s i hi
  r i hi := by have := h.z; rw [b.cell (p := ⟨p + 1, i, none⟩) (by show p + 1 < _; omega)]; exact h.r i hi
  fs i := (b.frozen (p := ⟨p, i, none⟩) (by have := h.z; show p < _; omega)).trans (h.fs i)
  fr i := (b.frozen (p := ⟨p + 1, i, none⟩) h.z).trans (h.fr i)
  z := Nat.lt_of_lt_of_le h.z b.size
theorem D2.new (w : World) (S R : Array Value) (t u : TypeId) (n : Nat) (hS : S.size = n) (hR : R.size = n) : D2 n ((w.alloc (.cells S t)).alloc (.cells R u)) w.heap.size (fun i => S.getD i undef) (fun i => R.getD i undef) where
  s i hi := by simp [go_sem, Array.getD, hS, hi]
  r i hi := by simp [go_sem, Array.getD, hR, hi]
  fs i := by simp [go_sem]
  fr i := by simp [go_sem]
  z := by simp
set_option maxHeartbeats 1000000 in
theorem iSki_no1 (a b s e t k n : Int) (w : World) (ha : bd a) (hb : bd b) (hs : bd s) (he : bd e) (ht : bd t) (hk : bd k) (hn : bd n) (g1 : feOk a b s e t k = false) :
    Calls Try.prog 28 #[.agg #[.int .i64 a, .int .i64 b, .int .i64 s, .int .i64 e, .int .i64 t, .int .i64 k], .int .i64 n] w fun e w' => e = .returned (.tuple #[.agg #[.int .i64 0, .int .i64 0, .int .i64 0, .int .i64 0, .int .i64 0, .int .i64 0], .bool false]) ∧ Below w.heap.size w w' := by
  have Ha := hide ha
  have Hb := hide hb
  have Hs := hide hs
  have He := hide he
  have Ht := hide ht
  have Hk := hide hk
  clear ha hb hs he ht hk
  have Hn := hide hn
  clear hn
  have G1 := hide g1
  clear g1
  have k0 := D2.new w #[.int .i64 a, .int .i64 b, .int .i64 s, .int .i64 e, .int .i64 t, .int .i64 k] #[.int .i64 0, .int .i64 0, .int .i64 0, .int .i64 0, .int .i64 0, .int .i64 0] 34 34 6 rfl rfl
  obtain ⟨W0, hW0⟩ : ∃ W0, (w.alloc (.cells #[.int .i64 a, .int .i64 b, .int .i64 s, .int .i64 e, .int .i64 t, .int .i64 k] 34)).alloc (.cells #[.int .i64 0, .int .i64 0, .int .i64 0, .int .i64 0, .int .i64 0, .int .i64 0] 34) = W0 := ⟨_, rfl⟩
  rw [hW0] at k0
  have H := hide k0
  have BL := hide (show Below w.heap.size w W0 from hW0 ▸ ((Below.refl _ _).alloc (Nat.le_refl _) _).alloc (by simp) _)
  clear k0
  have s0 : W0.cell? ⟨w.heap.size, 0, none⟩ = some (.int .i64 a) := H.out.s 0 (by omega)
  have s1 : W0.cell? ⟨w.heap.size, 1, none⟩ = some (.int .i64 b) := H.out.s 1 (by omega)
  have s2 : W0.cell? ⟨w.heap.size, 2, none⟩ = some (.int .i64 s) := H.out.s 2 (by omega)
  have s3 : W0.cell? ⟨w.heap.size, 3, none⟩ = some (.int .i64 e) := H.out.s 3 (by omega)
  have s4 : W0.cell? ⟨w.heap.size, 4, none⟩ = some (.int .i64 t) := H.out.s 4 (by omega)
  have s5 : W0.cell? ⟨w.heap.size, 5, none⟩ = some (.int .i64 k) := H.out.s 5 (by omega)
  go_enter Try.func28, Try.ntmps28
  go_wp2_with fail
  clear s0 s1 s2 s3 s4 s5 hW0
  refine (gFeedI a b s e t k false Ha.out Hb.out Hs.out He.out Ht.out Hk.out G1.out _).mono ?_
  rintro e1 w1 ⟨rfl, q1⟩
  replace H := hide (H.out.below q1)
  replace BL := hide (BL.out.trans (q1.mono BL.out.size))
  clear q1
  obtain ⟨X0, hX0⟩ : ∃ X0, w1.setCell ⟨w.heap.size + 1, 0, none⟩ (.int .i64 0) = X0 := ⟨_, rfl⟩
  have HX0 := hide (show D2 6 X0 w.heap.size _ _ from hX0 ▸ H.out.setR 0 (.int .i64 0) (by omega))
  have cX0 : w1.cell? ⟨w.heap.size + 1, 0, none⟩ = some _ := H.out.r 0 (by omega)
  have gX0 : w1.frozen? ⟨w.heap.size + 1, 0, none⟩ = false := H.out.fr 0
  have BX0 := hide (show Below w.heap.size w X0 from hX0 ▸ BL.out.setCell (by show w.heap.size ≤ w.heap.size + 1; omega) _)
  obtain ⟨X1, hX1⟩ : ∃ X1, X0.setCell ⟨w.heap.size + 1, 1, none⟩ (.int .i64 0) = X1 := ⟨_, rfl⟩
  have HX1 := hide (show D2 6 X1 w.heap.size _ _ from hX1 ▸ HX0.out.setR 1 (.int .i64 0) (by omega))
  have cX1 : X0.cell? ⟨w.heap.size + 1, 1, none⟩ = some _ := HX0.out.r 1 (by omega)
  have gX1 : X0.frozen? ⟨w.heap.size + 1, 1, none⟩ = false := HX0.out.fr 1
  have BX1 := hide (show Below w.heap.size w X1 from hX1 ▸ BX0.out.setCell (by show w.heap.size ≤ w.heap.size + 1; omega) _)
  obtain ⟨X2, hX2⟩ : ∃ X2, X1.setCell ⟨w.heap.size + 1, 2, none⟩ (.int .i64 0) = X2 := ⟨_, rfl⟩
  have HX2 := hide (show D2 6 X2 w.heap.size _ _ from hX2 ▸ HX1.out.setR 2 (.int .i64 0) (by omega))
  have cX2 : X1.cell? ⟨w.heap.size + 1, 2, none⟩ = some _ := HX1.out.r 2 (by omega)
  have gX2 : X1.frozen? ⟨w.heap.size + 1, 2, none⟩ = false := HX1.out.fr 2
  have BX2 := hide (show Below w.heap.size w X2 from hX2 ▸ BX1.out.setCell (by show w.heap.size ≤ w.heap.size + 1; omega) _)
  obtain ⟨X3, hX3⟩ : ∃ X3, X2.setCell ⟨w.heap.size + 1, 3, none⟩ (.int .i64 0) = X3 := ⟨_, rfl⟩
  have HX3 := hide (show D2 6 X3 w.heap.size _ _ from hX3 ▸ HX2.out.setR 3 (.int .i64 0) (by omega))
  have cX3 : X2.cell? ⟨w.heap.size + 1, 3, none⟩ = some _ := HX2.out.r 3 (by omega)
  have gX3 : X2.frozen? ⟨w.heap.size + 1, 3, none⟩ = false := HX2.out.fr 3
  have BX3 := hide (show Below w.heap.size w X3 from hX3 ▸ BX2.out.setCell (by show w.heap.size ≤ w.heap.size + 1; omega) _)
  obtain ⟨X4, hX4⟩ : ∃ X4, X3.setCell ⟨w.heap.size + 1, 4, none⟩ (.int .i64 0) = X4 := ⟨_, rfl⟩
  have HX4 := hide (show D2 6 X4 w.heap.size _ _ from hX4 ▸ HX3.out.setR 4 (.int .i64 0) (by omega))
  have cX4 : X3.cell? ⟨w.heap.size + 1, 4, none⟩ = some _ := HX3.out.r 4 (by omega)
  have gX4 : X3.frozen? ⟨w.heap.size + 1, 4, none⟩ = false := HX3.out.fr 4
  have BX4 := hide (show Below w.heap.size w X4 from hX4 ▸ BX3.out.setCell (by show w.heap.size ≤ w.heap.size + 1; omega) _)
  obtain ⟨X5, hX5⟩ : ∃ X5, X4.setCell ⟨w.heap.size + 1, 5, none⟩ (.int .i64 0) = X5 := ⟨_, rfl⟩
  have HX5 := hide (show D2 6 X5 w.heap.size _ _ from hX5 ▸ HX4.out.setR 5 (.int .i64 0) (by omega))
  have cX5 : X4.cell? ⟨w.heap.size + 1, 5, none⟩ = some _ := HX4.out.r 5 (by omega)
  have gX5 : X4.frozen? ⟨w.heap.size + 1, 5, none⟩ = false := HX4.out.fr 5
  have BX5 := hide (show Below w.heap.size w X5 from hX5 ▸ BX4.out.setCell (by show w.heap.size ≤ w.heap.size + 1; omega) _)
  have r0 : X5.cell? ⟨w.heap.size + 1, 0, none⟩ = some (.int .i64 0) := HX5.out.r 0 (by omega)
  have r1 : X5.cell? ⟨w.heap.size + 1, 1, none⟩ = some (.int .i64 0) := HX5.out.r 1 (by omega)
  have r2 : X5.cell? ⟨w.heap.size + 1, 2, none⟩ = some (.int .i64 0) := HX5.out.r 2 (by omega)
  have r3 : X5.cell? ⟨w.heap.size + 1, 3, none⟩ = some (.int .i64 0) := HX5.out.r 3 (by omega)
  have r4 : X5.cell? ⟨w.heap.size + 1, 4, none⟩ = some (.int .i64 0) := HX5.out.r 4 (by omega)
  have r5 : X5.cell? ⟨w.heap.size + 1, 5, none⟩ = some (.int .i64 0) := HX5.out.r 5 (by omega)
  go_wp2_with fail
  exact bodyPost_ret (v := .tuple #[.agg #[.int .i64 0, .int .i64 0, .int .i64 0, .int .i64 0, .int .i64 0, .int .i64 0], .bool false]) (by simp [results, Try.results28, go_sem, r0, r1, r2, r3, r4, r5]) rfl ⟨rfl, BX5.out⟩
set_option maxHeartbeats 1000000 in
theorem iSki_no2 (a b s e t k n : Int) (w : World) (ha : bd a) (hb : bd b) (hs : bd s) (he : bd e) (ht : bd t) (hk : bd k) (hn : bd n) (g1 : feOk a b s e t k = true) (g2 : decide (0 ≤ n ∧ n ≤ 1000000000000) = false) :
    Calls Try.prog 28 #[.agg #[.int .i64 a, .int .i64 b, .int .i64 s, .int .i64 e, .int .i64 t, .int .i64 k], .int .i64 n] w fun e w' => e = .returned (.tuple #[.agg #[.int .i64 0, .int .i64 0, .int .i64 0, .int .i64 0, .int .i64 0, .int .i64 0], .bool false]) ∧ Below w.heap.size w w' := by
  have Ha := hide ha
  have Hb := hide hb
  have Hs := hide hs
  have He := hide he
  have Ht := hide ht
  have Hk := hide hk
  clear ha hb hs he ht hk
  have Hn := hide hn
  clear hn
  have G1 := hide g1
  have G2 := hide g2
  clear g1 g2
  have k0 := D2.new w #[.int .i64 a, .int .i64 b, .int .i64 s, .int .i64 e, .int .i64 t, .int .i64 k] #[.int .i64 0, .int .i64 0, .int .i64 0, .int .i64 0, .int .i64 0, .int .i64 0] 34 34 6 rfl rfl
  obtain ⟨W0, hW0⟩ : ∃ W0, (w.alloc (.cells #[.int .i64 a, .int .i64 b, .int .i64 s, .int .i64 e, .int .i64 t, .int .i64 k] 34)).alloc (.cells #[.int .i64 0, .int .i64 0, .int .i64 0, .int .i64 0, .int .i64 0, .int .i64 0] 34) = W0 := ⟨_, rfl⟩
  rw [hW0] at k0
  have H := hide k0
  have BL := hide (show Below w.heap.size w W0 from hW0 ▸ ((Below.refl _ _).alloc (Nat.le_refl _) _).alloc (by simp) _)
  clear k0
  have s0 : W0.cell? ⟨w.heap.size, 0, none⟩ = some (.int .i64 a) := H.out.s 0 (by omega)
  have s1 : W0.cell? ⟨w.heap.size, 1, none⟩ = some (.int .i64 b) := H.out.s 1 (by omega)
  have s2 : W0.cell? ⟨w.heap.size, 2, none⟩ = some (.int .i64 s) := H.out.s 2 (by omega)
  have s3 : W0.cell? ⟨w.heap.size, 3, none⟩ = some (.int .i64 e) := H.out.s 3 (by omega)
  have s4 : W0.cell? ⟨w.heap.size, 4, none⟩ = some (.int .i64 t) := H.out.s 4 (by omega)
  have s5 : W0.cell? ⟨w.heap.size, 5, none⟩ = some (.int .i64 k) := H.out.s 5 (by omega)
  go_enter Try.func28, Try.ntmps28
  go_wp2_with fail
  clear s0 s1 s2 s3 s4 s5 hW0
  refine (gFeedI a b s e t k true Ha.out Hb.out Hs.out He.out Ht.out Hk.out G1.out _).mono ?_
  rintro e1 w1 ⟨rfl, q1⟩
  replace H := hide (H.out.below q1)
  replace BL := hide (BL.out.trans (q1.mono BL.out.size))
  clear q1
  go_wp2_with fail
  refine (inB_one 0 1000000000000 n false _ _ (by decide) Hn.out G2.out rfl).mono ?_
  rintro e1 w2 ⟨rfl, q2⟩
  replace H := hide (H.out.below q2)
  replace BL := hide (BL.out.trans (q2.mono BL.out.size))
  clear q2
  obtain ⟨X0, hX0⟩ : ∃ X0, w2.setCell ⟨w.heap.size + 1, 0, none⟩ (.int .i64 0) = X0 := ⟨_, rfl⟩
  have HX0 := hide (show D2 6 X0 w.heap.size _ _ from hX0 ▸ H.out.setR 0 (.int .i64 0) (by omega))
  have cX0 : w2.cell? ⟨w.heap.size + 1, 0, none⟩ = some _ := H.out.r 0 (by omega)
  have gX0 : w2.frozen? ⟨w.heap.size + 1, 0, none⟩ = false := H.out.fr 0
  have BX0 := hide (show Below w.heap.size w X0 from hX0 ▸ BL.out.setCell (by show w.heap.size ≤ w.heap.size + 1; omega) _)
  obtain ⟨X1, hX1⟩ : ∃ X1, X0.setCell ⟨w.heap.size + 1, 1, none⟩ (.int .i64 0) = X1 := ⟨_, rfl⟩
  have HX1 := hide (show D2 6 X1 w.heap.size _ _ from hX1 ▸ HX0.out.setR 1 (.int .i64 0) (by omega))
  have cX1 : X0.cell? ⟨w.heap.size + 1, 1, none⟩ = some _ := HX0.out.r 1 (by omega)
  have gX1 : X0.frozen? ⟨w.heap.size + 1, 1, none⟩ = false := HX0.out.fr 1
  have BX1 := hide (show Below w.heap.size w X1 from hX1 ▸ BX0.out.setCell (by show w.heap.size ≤ w.heap.size + 1; omega) _)
  obtain ⟨X2, hX2⟩ : ∃ X2, X1.setCell ⟨w.heap.size + 1, 2, none⟩ (.int .i64 0) = X2 := ⟨_, rfl⟩
  have HX2 := hide (show D2 6 X2 w.heap.size _ _ from hX2 ▸ HX1.out.setR 2 (.int .i64 0) (by omega))
  have cX2 : X1.cell? ⟨w.heap.size + 1, 2, none⟩ = some _ := HX1.out.r 2 (by omega)
  have gX2 : X1.frozen? ⟨w.heap.size + 1, 2, none⟩ = false := HX1.out.fr 2
  have BX2 := hide (show Below w.heap.size w X2 from hX2 ▸ BX1.out.setCell (by show w.heap.size ≤ w.heap.size + 1; omega) _)
  obtain ⟨X3, hX3⟩ : ∃ X3, X2.setCell ⟨w.heap.size + 1, 3, none⟩ (.int .i64 0) = X3 := ⟨_, rfl⟩
  have HX3 := hide (show D2 6 X3 w.heap.size _ _ from hX3 ▸ HX2.out.setR 3 (.int .i64 0) (by omega))
  have cX3 : X2.cell? ⟨w.heap.size + 1, 3, none⟩ = some _ := HX2.out.r 3 (by omega)
  have gX3 : X2.frozen? ⟨w.heap.size + 1, 3, none⟩ = false := HX2.out.fr 3
  have BX3 := hide (show Below w.heap.size w X3 from hX3 ▸ BX2.out.setCell (by show w.heap.size ≤ w.heap.size + 1; omega) _)
  obtain ⟨X4, hX4⟩ : ∃ X4, X3.setCell ⟨w.heap.size + 1, 4, none⟩ (.int .i64 0) = X4 := ⟨_, rfl⟩
  have HX4 := hide (show D2 6 X4 w.heap.size _ _ from hX4 ▸ HX3.out.setR 4 (.int .i64 0) (by omega))
  have cX4 : X3.cell? ⟨w.heap.size + 1, 4, none⟩ = some _ := HX3.out.r 4 (by omega)
  have gX4 : X3.frozen? ⟨w.heap.size + 1, 4, none⟩ = false := HX3.out.fr 4
  have BX4 := hide (show Below w.heap.size w X4 from hX4 ▸ BX3.out.setCell (by show w.heap.size ≤ w.heap.size + 1; omega) _)
  obtain ⟨X5, hX5⟩ : ∃ X5, X4.setCell ⟨w.heap.size + 1, 5, none⟩ (.int .i64 0) = X5 := ⟨_, rfl⟩
  have HX5 := hide (show D2 6 X5 w.heap.size _ _ from hX5 ▸ HX4.out.setR 5 (.int .i64 0) (by omega))
  have cX5 : X4.cell? ⟨w.heap.size + 1, 5, none⟩ = some _ := HX4.out.r 5 (by omega)
  have gX5 : X4.frozen? ⟨w.heap.size + 1, 5, none⟩ = false := HX4.out.fr 5
  have BX5 := hide (show Below w.heap.size w X5 from hX5 ▸ BX4.out.setCell (by show w.heap.size ≤ w.heap.size + 1; omega) _)
  have r0 : X5.cell? ⟨w.heap.size + 1, 0, none⟩ = some (.int .i64 0) := HX5.out.r 0 (by omega)
  have r1 : X5.cell? ⟨w.heap.size + 1, 1, none⟩ = some (.int .i64 0) := HX5.out.r 1 (by omega)
  have r2 : X5.cell? ⟨w.heap.size + 1, 2, none⟩ = some (.int .i64 0) := HX5.out.r 2 (by omega)
  have r3 : X5.cell? ⟨w.heap.size + 1, 3, none⟩ = some (.int .i64 0) := HX5.out.r 3 (by omega)
  have r4 : X5.cell? ⟨w.heap.size + 1, 4, none⟩ = some (.int .i64 0) := HX5.out.r 4 (by omega)
  have r5 : X5.cell? ⟨w.heap.size + 1, 5, none⟩ = some (.int .i64 0) := HX5.out.r 5 (by omega)
  go_wp2_with fail
  exact bodyPost_ret (v := .tuple #[.agg #[.int .i64 0, .int .i64 0, .int .i64 0, .int .i64 0, .int .i64 0, .int .i64 0], .bool false]) (by simp [results, Try.results28, go_sem, r0, r1, r2, r3, r4, r5]) rfl ⟨rfl, BX5.out⟩
set_option maxHeartbeats 1000000 in
theorem iSki_no3 (a b s e t k n : Int) (w : World) (ha : bd a) (hb : bd b) (hs : bd s) (he : bd e) (ht : bd t) (hk : bd k) (hn : bd n) (Q D M G E R U : Int) (a0 : 1 ≤ a) (a1 : a ≤ 4096) (b0 : 1 ≤ b) (b1 : b ≤ a) (t0 : 0 ≤ t) (t1 : t ≤ 4096) (n0 : 0 ≤ n) (n1 : n ≤ 1000000000000) (hQ : a / b = Q) (hD : t / b = D) (hM : D + n = M) (hG : M / Q = G) (hE : e + G = E) (hR : M % Q = R) (hU : R * b = U) (q0 : 1 ≤ Q) (d0 : 0 ≤ D) (d1 : D ≤ 4096) (m0 : 0 ≤ M) (g0 : 0 ≤ G) (e0 : 0 ≤ e) (e1' : e ≤ 1000000) (G1' : G ≤ 1000000004096) (u0 : 0 ≤ U) (u1 : U ≤ 16777216) (c : 1000000 < E) (g1 : feOk a b s e t k = true) (g2 : decide (0 ≤ n ∧ n ≤ 1000000000000) = true) :
    Calls Try.prog 28 #[.agg #[.int .i64 a, .int .i64 b, .int .i64 s, .int .i64 e, .int .i64 t, .int .i64 k], .int .i64 n] w fun e w' => e = .returned (.tuple #[.agg #[.int .i64 0, .int .i64 0, .int .i64 0, .int .i64 0, .int .i64 0, .int .i64 0], .bool false]) ∧ Below w.heap.size w w' := by
  have Ha := hide ha
  have Hb := hide hb
  have Hs := hide hs
  have He := hide he
  have Ht := hide ht
  have Hk := hide hk
  clear ha hb hs he ht hk
  have Hn := hide hn
  clear hn
  have G1 := hide g1
  have G2 := hide g2
  clear g1 g2
  have k0 := D2.new w #[.int .i64 a, .int .i64 b, .int .i64 s, .int .i64 e, .int .i64 t, .int .i64 k] #[.int .i64 0, .int .i64 0, .int .i64 0, .int .i64 0, .int .i64 0, .int .i64 0] 34 34 6 rfl rfl
  obtain ⟨W0, hW0⟩ : ∃ W0, (w.alloc (.cells #[.int .i64 a, .int .i64 b, .int .i64 s, .int .i64 e, .int .i64 t, .int .i64 k] 34)).alloc (.cells #[.int .i64 0, .int .i64 0, .int .i64 0, .int .i64 0, .int .i64 0, .int .i64 0] 34) = W0 := ⟨_, rfl⟩
  rw [hW0] at k0
  have H := hide k0
  have BL := hide (show Below w.heap.size w W0 from hW0 ▸ ((Below.refl _ _).alloc (Nat.le_refl _) _).alloc (by simp) _)
  clear k0
  have s0 : W0.cell? ⟨w.heap.size, 0, none⟩ = some (.int .i64 a) := H.out.s 0 (by omega)
  have s1 : W0.cell? ⟨w.heap.size, 1, none⟩ = some (.int .i64 b) := H.out.s 1 (by omega)
  have s2 : W0.cell? ⟨w.heap.size, 2, none⟩ = some (.int .i64 s) := H.out.s 2 (by omega)
  have s3 : W0.cell? ⟨w.heap.size, 3, none⟩ = some (.int .i64 e) := H.out.s 3 (by omega)
  have s4 : W0.cell? ⟨w.heap.size, 4, none⟩ = some (.int .i64 t) := H.out.s 4 (by omega)
  have s5 : W0.cell? ⟨w.heap.size, 5, none⟩ = some (.int .i64 k) := H.out.s 5 (by omega)
  go_enter Try.func28, Try.ntmps28
  go_wp2_with fail
  clear s0 s1 s2 s3 s4 s5 hW0
  refine (gFeedI a b s e t k true Ha.out Hb.out Hs.out He.out Ht.out Hk.out G1.out _).mono ?_
  rintro e1 w1 ⟨rfl, q1⟩
  replace H := hide (H.out.below q1)
  replace BL := hide (BL.out.trans (q1.mono BL.out.size))
  clear q1
  go_wp2_with fail
  refine (inB_one 0 1000000000000 n true _ _ (by decide) Hn.out G2.out rfl).mono ?_
  rintro e1 w2 ⟨rfl, q2⟩
  replace H := hide (H.out.below q2)
  replace BL := hide (BL.out.trans (q2.mono BL.out.size))
  clear q2
  have zb : (b == 0) = false := beq_eq_false_iff_ne.2 (by omega)
  have zq : (Q == 0) = false := beq_eq_false_iff_ne.2 (by omega)
  have s0 : w2.cell? ⟨w.heap.size, 0, none⟩ = some (.int .i64 a) := H.out.s 0 (by omega)
  have s1 : w2.cell? ⟨w.heap.size, 1, none⟩ = some (.int .i64 b) := H.out.s 1 (by omega)
  have s2 : w2.cell? ⟨w.heap.size, 2, none⟩ = some (.int .i64 s) := H.out.s 2 (by omega)
  have s3 : w2.cell? ⟨w.heap.size, 3, none⟩ = some (.int .i64 e) := H.out.s 3 (by omega)
  have s4 : w2.cell? ⟨w.heap.size, 4, none⟩ = some (.int .i64 t) := H.out.s 4 (by omega)
  have s5 : w2.cell? ⟨w.heap.size, 5, none⟩ = some (.int .i64 k) := H.out.s 5 (by omega)
  go_wp2_with fail
  have k0 := cell_regrown s0
  have k1 := cell_regrown s1
  have k2 := cell_regrown s2
  have k3 := cell_regrown s3
  have k4 := cell_regrown s4
  have k5 := cell_regrown s5
  clear s0 s1 s2 s3 s4 s5
  refine wp_region_quiet_below (by kernel_rfl) (by kernel_rfl) ?_
  repeat (go_big_quiet_step (fail))
  refine wpQuiet_nil ?_
  intro w9 hw'
  have q3 : Below w2.heap.size w2 w9 := by obtain ⟨⟨dq, osq⟩, hw''⟩ := hw'; rw [hw'']; exact below_regrown _ dq osq
  clear hw' k0 k1 k2 k3 k4 k5
  replace H := hide (H.out.below q3)
  replace BL := hide (BL.out.trans (q3.mono BL.out.size))
  clear q3
  have s0 : w9.cell? ⟨w.heap.size, 0, none⟩ = some (.int .i64 a) := H.out.s 0 (by omega)
  have s1 : w9.cell? ⟨w.heap.size, 1, none⟩ = some (.int .i64 b) := H.out.s 1 (by omega)
  have s2 : w9.cell? ⟨w.heap.size, 2, none⟩ = some (.int .i64 s) := H.out.s 2 (by omega)
  have s3 : w9.cell? ⟨w.heap.size, 3, none⟩ = some (.int .i64 e) := H.out.s 3 (by omega)
  have s4 : w9.cell? ⟨w.heap.size, 4, none⟩ = some (.int .i64 t) := H.out.s 4 (by omega)
  have s5 : w9.cell? ⟨w.heap.size, 5, none⟩ = some (.int .i64 k) := H.out.s 5 (by omega)
  go_wp2_with fail
  have k0 := cell_regrown s0
  have k1 := cell_regrown s1
  have k2 := cell_regrown s2
  have k3 := cell_regrown s3
  have k4 := cell_regrown s4
  have k5 := cell_regrown s5
  clear s0 s1 s2 s3 s4 s5
  refine Qt.region_tail_below 7 (by kernel_rfl) (by kernel_rfl) ?_
  simp only [List.take_succ_cons, List.take_zero, List.drop_succ_cons, List.drop_zero]
  repeat (go_big_quiet_step (fail))
  refine wpQuiet_nil ?_
  intro w10 hw'
  have q3 : Below w9.heap.size w9 w10 := by obtain ⟨⟨dq, osq⟩, hw''⟩ := hw'; rw [hw'']; exact below_regrown _ dq osq
  clear hw' k0 k1 k2 k3 k4 k5
  replace H := hide (H.out.below q3)
  replace BL := hide (BL.out.trans (q3.mono BL.out.size))
  clear q3
  obtain ⟨Y1, hY1⟩ : ∃ Y1, w10.setCell ⟨w.heap.size, 3, none⟩ (.int .i64 E) = Y1 := ⟨_, rfl⟩
  have e3 : w10.cell? ⟨w.heap.size, 3, none⟩ = some _ := H.out.s 3 (by omega)
  have f3 : w10.frozen? ⟨w.heap.size, 3, none⟩ = false := H.out.fs 3
  have HY1 := hide (show D2 6 Y1 w.heap.size _ _ from hY1 ▸ H.out.setS 3 (.int .i64 E) (by omega))
  have BY1 := hide (show Below w.heap.size w Y1 from hY1 ▸ BL.out.setCell (Nat.le_refl _) _)
  have s0 : Y1.cell? ⟨w.heap.size, 0, none⟩ = some (.int .i64 a) := HY1.out.s 0 (by omega)
  have s1 : Y1.cell? ⟨w.heap.size, 1, none⟩ = some (.int .i64 b) := HY1.out.s 1 (by omega)
  have s2 : Y1.cell? ⟨w.heap.size, 2, none⟩ = some (.int .i64 s) := HY1.out.s 2 (by omega)
  have s3 : Y1.cell? ⟨w.heap.size, 3, none⟩ = some (.int .i64 E) := HY1.out.s 3 (by omega)
  have s4 : Y1.cell? ⟨w.heap.size, 4, none⟩ = some (.int .i64 t) := HY1.out.s 4 (by omega)
  have s5 : Y1.cell? ⟨w.heap.size, 5, none⟩ = some (.int .i64 k) := HY1.out.s 5 (by omega)
  go_wp2_with fail
  have k0 := cell_regrown s0
  have k1 := cell_regrown s1
  have k2 := cell_regrown s2
  have k3 := cell_regrown s3
  have k4 := cell_regrown s4
  have k5 := cell_regrown s5
  clear s0 s1 s2 s3 s4 s5 e3 f3 hY1
  refine Qt.region_tail_below 7 (by kernel_rfl) (by kernel_rfl) ?_
  simp only [List.take_succ_cons, List.take_zero, List.drop_succ_cons, List.drop_zero]
  repeat (go_big_quiet_step (fail))
  refine wpQuiet_nil ?_
  intro w11 hw'
  have q3 : Below Y1.heap.size Y1 w11 := by obtain ⟨⟨dq, osq⟩, hw''⟩ := hw'; rw [hw'']; exact below_regrown _ dq osq
  clear hw' k0 k1 k2 k3 k4 k5
  replace H := hide (HY1.out.below q3)
  replace BL := hide (BY1.out.trans (q3.mono BY1.out.size))
  clear q3
  obtain ⟨Y2, hY2⟩ : ∃ Y2, w11.setCell ⟨w.heap.size, 4, none⟩ (.int .i64 U) = Y2 := ⟨_, rfl⟩
  have e4 : w11.cell? ⟨w.heap.size, 4, none⟩ = some _ := H.out.s 4 (by omega)
  have f4 : w11.frozen? ⟨w.heap.size, 4, none⟩ = false := H.out.fs 4
  have HY2 := hide (show D2 6 Y2 w.heap.size _ _ from hY2 ▸ H.out.setS 4 (.int .i64 U) (by omega))
  have BY2 := hide (show Below w.heap.size w Y2 from hY2 ▸ BL.out.setCell (Nat.le_refl _) _)
  have s0 : Y2.cell? ⟨w.heap.size, 0, none⟩ = some (.int .i64 a) := HY2.out.s 0 (by omega)
  have s1 : Y2.cell? ⟨w.heap.size, 1, none⟩ = some (.int .i64 b) := HY2.out.s 1 (by omega)
  have s2 : Y2.cell? ⟨w.heap.size, 2, none⟩ = some (.int .i64 s) := HY2.out.s 2 (by omega)
  have s3 : Y2.cell? ⟨w.heap.size, 3, none⟩ = some (.int .i64 E) := HY2.out.s 3 (by omega)
  have s4 : Y2.cell? ⟨w.heap.size, 4, none⟩ = some (.int .i64 U) := HY2.out.s 4 (by omega)
  have s5 : Y2.cell? ⟨w.heap.size, 5, none⟩ = some (.int .i64 k) := HY2.out.s 5 (by omega)
  obtain ⟨X0, hX0⟩ : ∃ X0, Y2.setCell ⟨w.heap.size + 1, 0, none⟩ (.int .i64 0) = X0 := ⟨_, rfl⟩
  have HX0 := hide (show D2 6 X0 w.heap.size _ _ from hX0 ▸ HY2.out.setR 0 (.int .i64 0) (by omega))
  have cX0 : Y2.cell? ⟨w.heap.size + 1, 0, none⟩ = some _ := HY2.out.r 0 (by omega)
  have gX0 : Y2.frozen? ⟨w.heap.size + 1, 0, none⟩ = false := HY2.out.fr 0
  have BX0 := hide (show Below w.heap.size w X0 from hX0 ▸ BY2.out.setCell (by show w.heap.size ≤ w.heap.size + 1; omega) _)
  obtain ⟨X1, hX1⟩ : ∃ X1, X0.setCell ⟨w.heap.size + 1, 1, none⟩ (.int .i64 0) = X1 := ⟨_, rfl⟩
  have HX1 := hide (show D2 6 X1 w.heap.size _ _ from hX1 ▸ HX0.out.setR 1 (.int .i64 0) (by omega))
  have cX1 : X0.cell? ⟨w.heap.size + 1, 1, none⟩ = some _ := HX0.out.r 1 (by omega)
  have gX1 : X0.frozen? ⟨w.heap.size + 1, 1, none⟩ = false := HX0.out.fr 1
  have BX1 := hide (show Below w.heap.size w X1 from hX1 ▸ BX0.out.setCell (by show w.heap.size ≤ w.heap.size + 1; omega) _)
  obtain ⟨X2, hX2⟩ : ∃ X2, X1.setCell ⟨w.heap.size + 1, 2, none⟩ (.int .i64 0) = X2 := ⟨_, rfl⟩
  have HX2 := hide (show D2 6 X2 w.heap.size _ _ from hX2 ▸ HX1.out.setR 2 (.int .i64 0) (by omega))
  have cX2 : X1.cell? ⟨w.heap.size + 1, 2, none⟩ = some _ := HX1.out.r 2 (by omega)
  have gX2 : X1.frozen? ⟨w.heap.size + 1, 2, none⟩ = false := HX1.out.fr 2
  have BX2 := hide (show Below w.heap.size w X2 from hX2 ▸ BX1.out.setCell (by show w.heap.size ≤ w.heap.size + 1; omega) _)
  obtain ⟨X3, hX3⟩ : ∃ X3, X2.setCell ⟨w.heap.size + 1, 3, none⟩ (.int .i64 0) = X3 := ⟨_, rfl⟩
  have HX3 := hide (show D2 6 X3 w.heap.size _ _ from hX3 ▸ HX2.out.setR 3 (.int .i64 0) (by omega))
  have cX3 : X2.cell? ⟨w.heap.size + 1, 3, none⟩ = some _ := HX2.out.r 3 (by omega)
  have gX3 : X2.frozen? ⟨w.heap.size + 1, 3, none⟩ = false := HX2.out.fr 3
  have BX3 := hide (show Below w.heap.size w X3 from hX3 ▸ BX2.out.setCell (by show w.heap.size ≤ w.heap.size + 1; omega) _)
  obtain ⟨X4, hX4⟩ : ∃ X4, X3.setCell ⟨w.heap.size + 1, 4, none⟩ (.int .i64 0) = X4 := ⟨_, rfl⟩
  have HX4 := hide (show D2 6 X4 w.heap.size _ _ from hX4 ▸ HX3.out.setR 4 (.int .i64 0) (by omega))
  have cX4 : X3.cell? ⟨w.heap.size + 1, 4, none⟩ = some _ := HX3.out.r 4 (by omega)
  have gX4 : X3.frozen? ⟨w.heap.size + 1, 4, none⟩ = false := HX3.out.fr 4
  have BX4 := hide (show Below w.heap.size w X4 from hX4 ▸ BX3.out.setCell (by show w.heap.size ≤ w.heap.size + 1; omega) _)
  obtain ⟨X5, hX5⟩ : ∃ X5, X4.setCell ⟨w.heap.size + 1, 5, none⟩ (.int .i64 0) = X5 := ⟨_, rfl⟩
  have HX5 := hide (show D2 6 X5 w.heap.size _ _ from hX5 ▸ HX4.out.setR 5 (.int .i64 0) (by omega))
  have cX5 : X4.cell? ⟨w.heap.size + 1, 5, none⟩ = some _ := HX4.out.r 5 (by omega)
  have gX5 : X4.frozen? ⟨w.heap.size + 1, 5, none⟩ = false := HX4.out.fr 5
  have BX5 := hide (show Below w.heap.size w X5 from hX5 ▸ BX4.out.setCell (by show w.heap.size ≤ w.heap.size + 1; omega) _)
  have r0 : X5.cell? ⟨w.heap.size + 1, 0, none⟩ = some (.int .i64 0) := HX5.out.r 0 (by omega)
  have r1 : X5.cell? ⟨w.heap.size + 1, 1, none⟩ = some (.int .i64 0) := HX5.out.r 1 (by omega)
  have r2 : X5.cell? ⟨w.heap.size + 1, 2, none⟩ = some (.int .i64 0) := HX5.out.r 2 (by omega)
  have r3 : X5.cell? ⟨w.heap.size + 1, 3, none⟩ = some (.int .i64 0) := HX5.out.r 3 (by omega)
  have r4 : X5.cell? ⟨w.heap.size + 1, 4, none⟩ = some (.int .i64 0) := HX5.out.r 4 (by omega)
  have r5 : X5.cell? ⟨w.heap.size + 1, 5, none⟩ = some (.int .i64 0) := HX5.out.r 5 (by omega)
  go_wp2_with fail
  exact bodyPost_ret (v := .tuple #[.agg #[.int .i64 0, .int .i64 0, .int .i64 0, .int .i64 0, .int .i64 0, .int .i64 0], .bool false]) (by simp [results, Try.results28, go_sem, r0, r1, r2, r3, r4, r5]) rfl ⟨rfl, BX5.out⟩
set_option maxHeartbeats 1000000 in
theorem iSki_yes (a b s e t k n : Int) (w : World) (ha : bd a) (hb : bd b) (hs : bd s) (he : bd e) (ht : bd t) (hk : bd k) (hn : bd n) (Q D M G E R U : Int) (a0 : 1 ≤ a) (a1 : a ≤ 4096) (b0 : 1 ≤ b) (b1 : b ≤ a) (t0 : 0 ≤ t) (t1 : t ≤ 4096) (n0 : 0 ≤ n) (n1 : n ≤ 1000000000000) (hQ : a / b = Q) (hD : t / b = D) (hM : D + n = M) (hG : M / Q = G) (hE : e + G = E) (hR : M % Q = R) (hU : R * b = U) (q0 : 1 ≤ Q) (d0 : 0 ≤ D) (d1 : D ≤ 4096) (m0 : 0 ≤ M) (g0 : 0 ≤ G) (e0 : 0 ≤ e) (e1' : e ≤ 1000000) (G1' : G ≤ 1000000004096) (u0 : 0 ≤ U) (u1 : U ≤ 16777216) (c : decide (1000000 < E) = false) (g1 : feOk a b s e t k = true) (g2 : decide (0 ≤ n ∧ n ≤ 1000000000000) = true) :
    Calls Try.prog 28 #[.agg #[.int .i64 a, .int .i64 b, .int .i64 s, .int .i64 e, .int .i64 t, .int .i64 k], .int .i64 n] w fun e w' => e = .returned (.tuple #[.agg #[.int .i64 a, .int .i64 b, .int .i64 s, .int .i64 E, .int .i64 U, .int .i64 k], .bool true]) ∧ Below w.heap.size w w' := by
  have Ha := hide ha
  have Hb := hide hb
  have Hs := hide hs
  have He := hide he
  have Ht := hide ht
  have Hk := hide hk
  clear ha hb hs he ht hk
  have Hn := hide hn
  clear hn
  have G1 := hide g1
  have G2 := hide g2
  clear g1 g2
  have k0 := D2.new w #[.int .i64 a, .int .i64 b, .int .i64 s, .int .i64 e, .int .i64 t, .int .i64 k] #[.int .i64 0, .int .i64 0, .int .i64 0, .int .i64 0, .int .i64 0, .int .i64 0] 34 34 6 rfl rfl
  obtain ⟨W0, hW0⟩ : ∃ W0, (w.alloc (.cells #[.int .i64 a, .int .i64 b, .int .i64 s, .int .i64 e, .int .i64 t, .int .i64 k] 34)).alloc (.cells #[.int .i64 0, .int .i64 0, .int .i64 0, .int .i64 0, .int .i64 0, .int .i64 0] 34) = W0 := ⟨_, rfl⟩
  rw [hW0] at k0
  have H := hide k0
  have BL := hide (show Below w.heap.size w W0 from hW0 ▸ ((Below.refl _ _).alloc (Nat.le_refl _) _).alloc (by simp) _)
  clear k0
  have s0 : W0.cell? ⟨w.heap.size, 0, none⟩ = some (.int .i64 a) := H.out.s 0 (by omega)
  have s1 : W0.cell? ⟨w.heap.size, 1, none⟩ = some (.int .i64 b) := H.out.s 1 (by omega)
  have s2 : W0.cell? ⟨w.heap.size, 2, none⟩ = some (.int .i64 s) := H.out.s 2 (by omega)
  have s3 : W0.cell? ⟨w.heap.size, 3, none⟩ = some (.int .i64 e) := H.out.s 3 (by omega)
  have s4 : W0.cell? ⟨w.heap.size, 4, none⟩ = some (.int .i64 t) := H.out.s 4 (by omega)
  have s5 : W0.cell? ⟨w.heap.size, 5, none⟩ = some (.int .i64 k) := H.out.s 5 (by omega)
  go_enter Try.func28, Try.ntmps28
  go_wp2_with fail
  clear s0 s1 s2 s3 s4 s5 hW0
  refine (gFeedI a b s e t k true Ha.out Hb.out Hs.out He.out Ht.out Hk.out G1.out _).mono ?_
  rintro e1 w1 ⟨rfl, q1⟩
  replace H := hide (H.out.below q1)
  replace BL := hide (BL.out.trans (q1.mono BL.out.size))
  clear q1
  go_wp2_with fail
  refine (inB_one 0 1000000000000 n true _ _ (by decide) Hn.out G2.out rfl).mono ?_
  rintro e1 w2 ⟨rfl, q2⟩
  replace H := hide (H.out.below q2)
  replace BL := hide (BL.out.trans (q2.mono BL.out.size))
  clear q2
  have zb : (b == 0) = false := beq_eq_false_iff_ne.2 (by omega)
  have zq : (Q == 0) = false := beq_eq_false_iff_ne.2 (by omega)
  have s0 : w2.cell? ⟨w.heap.size, 0, none⟩ = some (.int .i64 a) := H.out.s 0 (by omega)
  have s1 : w2.cell? ⟨w.heap.size, 1, none⟩ = some (.int .i64 b) := H.out.s 1 (by omega)
  have s2 : w2.cell? ⟨w.heap.size, 2, none⟩ = some (.int .i64 s) := H.out.s 2 (by omega)
  have s3 : w2.cell? ⟨w.heap.size, 3, none⟩ = some (.int .i64 e) := H.out.s 3 (by omega)
  have s4 : w2.cell? ⟨w.heap.size, 4, none⟩ = some (.int .i64 t) := H.out.s 4 (by omega)
  have s5 : w2.cell? ⟨w.heap.size, 5, none⟩ = some (.int .i64 k) := H.out.s 5 (by omega)
  go_wp2_with fail
  have k0 := cell_regrown s0
  have k1 := cell_regrown s1
  have k2 := cell_regrown s2
  have k3 := cell_regrown s3
  have k4 := cell_regrown s4
  have k5 := cell_regrown s5
  clear s0 s1 s2 s3 s4 s5
  refine wp_region_quiet_below (by kernel_rfl) (by kernel_rfl) ?_
  repeat (go_big_quiet_step (fail))
  refine wpQuiet_nil ?_
  intro w9 hw'
  have q3 : Below w2.heap.size w2 w9 := by obtain ⟨⟨dq, osq⟩, hw''⟩ := hw'; rw [hw'']; exact below_regrown _ dq osq
  clear hw' k0 k1 k2 k3 k4 k5
  replace H := hide (H.out.below q3)
  replace BL := hide (BL.out.trans (q3.mono BL.out.size))
  clear q3
  have s0 : w9.cell? ⟨w.heap.size, 0, none⟩ = some (.int .i64 a) := H.out.s 0 (by omega)
  have s1 : w9.cell? ⟨w.heap.size, 1, none⟩ = some (.int .i64 b) := H.out.s 1 (by omega)
  have s2 : w9.cell? ⟨w.heap.size, 2, none⟩ = some (.int .i64 s) := H.out.s 2 (by omega)
  have s3 : w9.cell? ⟨w.heap.size, 3, none⟩ = some (.int .i64 e) := H.out.s 3 (by omega)
  have s4 : w9.cell? ⟨w.heap.size, 4, none⟩ = some (.int .i64 t) := H.out.s 4 (by omega)
  have s5 : w9.cell? ⟨w.heap.size, 5, none⟩ = some (.int .i64 k) := H.out.s 5 (by omega)
  go_wp2_with fail
  have k0 := cell_regrown s0
  have k1 := cell_regrown s1
  have k2 := cell_regrown s2
  have k3 := cell_regrown s3
  have k4 := cell_regrown s4
  have k5 := cell_regrown s5
  clear s0 s1 s2 s3 s4 s5
  refine Qt.region_tail_below 7 (by kernel_rfl) (by kernel_rfl) ?_
  simp only [List.take_succ_cons, List.take_zero, List.drop_succ_cons, List.drop_zero]
  repeat (go_big_quiet_step (fail))
  refine wpQuiet_nil ?_
  intro w10 hw'
  have q3 : Below w9.heap.size w9 w10 := by obtain ⟨⟨dq, osq⟩, hw''⟩ := hw'; rw [hw'']; exact below_regrown _ dq osq
  clear hw' k0 k1 k2 k3 k4 k5
  replace H := hide (H.out.below q3)
  replace BL := hide (BL.out.trans (q3.mono BL.out.size))
  clear q3
  obtain ⟨Y1, hY1⟩ : ∃ Y1, w10.setCell ⟨w.heap.size, 3, none⟩ (.int .i64 E) = Y1 := ⟨_, rfl⟩
  have e3 : w10.cell? ⟨w.heap.size, 3, none⟩ = some _ := H.out.s 3 (by omega)
  have f3 : w10.frozen? ⟨w.heap.size, 3, none⟩ = false := H.out.fs 3
  have HY1 := hide (show D2 6 Y1 w.heap.size _ _ from hY1 ▸ H.out.setS 3 (.int .i64 E) (by omega))
  have BY1 := hide (show Below w.heap.size w Y1 from hY1 ▸ BL.out.setCell (Nat.le_refl _) _)
  have s0 : Y1.cell? ⟨w.heap.size, 0, none⟩ = some (.int .i64 a) := HY1.out.s 0 (by omega)
  have s1 : Y1.cell? ⟨w.heap.size, 1, none⟩ = some (.int .i64 b) := HY1.out.s 1 (by omega)
  have s2 : Y1.cell? ⟨w.heap.size, 2, none⟩ = some (.int .i64 s) := HY1.out.s 2 (by omega)
  have s3 : Y1.cell? ⟨w.heap.size, 3, none⟩ = some (.int .i64 E) := HY1.out.s 3 (by omega)
  have s4 : Y1.cell? ⟨w.heap.size, 4, none⟩ = some (.int .i64 t) := HY1.out.s 4 (by omega)
  have s5 : Y1.cell? ⟨w.heap.size, 5, none⟩ = some (.int .i64 k) := HY1.out.s 5 (by omega)
  go_wp2_with fail
  have k0 := cell_regrown s0
  have k1 := cell_regrown s1
  have k2 := cell_regrown s2
  have k3 := cell_regrown s3
  have k4 := cell_regrown s4
  have k5 := cell_regrown s5
  clear s0 s1 s2 s3 s4 s5 e3 f3 hY1
  refine Qt.region_tail_below 7 (by kernel_rfl) (by kernel_rfl) ?_
  simp only [List.take_succ_cons, List.take_zero, List.drop_succ_cons, List.drop_zero]
  repeat (go_big_quiet_step (fail))
  refine wpQuiet_nil ?_
  intro w11 hw'
  have q3 : Below Y1.heap.size Y1 w11 := by obtain ⟨⟨dq, osq⟩, hw''⟩ := hw'; rw [hw'']; exact below_regrown _ dq osq
  clear hw' k0 k1 k2 k3 k4 k5
  replace H := hide (HY1.out.below q3)
  replace BL := hide (BY1.out.trans (q3.mono BY1.out.size))
  clear q3
  obtain ⟨Y2, hY2⟩ : ∃ Y2, w11.setCell ⟨w.heap.size, 4, none⟩ (.int .i64 U) = Y2 := ⟨_, rfl⟩
  have e4 : w11.cell? ⟨w.heap.size, 4, none⟩ = some _ := H.out.s 4 (by omega)
  have f4 : w11.frozen? ⟨w.heap.size, 4, none⟩ = false := H.out.fs 4
  have HY2 := hide (show D2 6 Y2 w.heap.size _ _ from hY2 ▸ H.out.setS 4 (.int .i64 U) (by omega))
  have BY2 := hide (show Below w.heap.size w Y2 from hY2 ▸ BL.out.setCell (Nat.le_refl _) _)
  have s0 : Y2.cell? ⟨w.heap.size, 0, none⟩ = some (.int .i64 a) := HY2.out.s 0 (by omega)
  have s1 : Y2.cell? ⟨w.heap.size, 1, none⟩ = some (.int .i64 b) := HY2.out.s 1 (by omega)
  have s2 : Y2.cell? ⟨w.heap.size, 2, none⟩ = some (.int .i64 s) := HY2.out.s 2 (by omega)
  have s3 : Y2.cell? ⟨w.heap.size, 3, none⟩ = some (.int .i64 E) := HY2.out.s 3 (by omega)
  have s4 : Y2.cell? ⟨w.heap.size, 4, none⟩ = some (.int .i64 U) := HY2.out.s 4 (by omega)
  have s5 : Y2.cell? ⟨w.heap.size, 5, none⟩ = some (.int .i64 k) := HY2.out.s 5 (by omega)
  obtain ⟨X0, hX0⟩ : ∃ X0, Y2.setCell ⟨w.heap.size + 1, 0, none⟩ (.int .i64 a) = X0 := ⟨_, rfl⟩
  have HX0 := hide (show D2 6 X0 w.heap.size _ _ from hX0 ▸ HY2.out.setR 0 (.int .i64 a) (by omega))
  have cX0 : Y2.cell? ⟨w.heap.size + 1, 0, none⟩ = some _ := HY2.out.r 0 (by omega)
  have gX0 : Y2.frozen? ⟨w.heap.size + 1, 0, none⟩ = false := HY2.out.fr 0
  have BX0 := hide (show Below w.heap.size w X0 from hX0 ▸ BY2.out.setCell (by show w.heap.size ≤ w.heap.size + 1; omega) _)
  obtain ⟨X1, hX1⟩ : ∃ X1, X0.setCell ⟨w.heap.size + 1, 1, none⟩ (.int .i64 b) = X1 := ⟨_, rfl⟩
  have HX1 := hide (show D2 6 X1 w.heap.size _ _ from hX1 ▸ HX0.out.setR 1 (.int .i64 b) (by omega))
  have cX1 : X0.cell? ⟨w.heap.size + 1, 1, none⟩ = some _ := HX0.out.r 1 (by omega)
  have gX1 : X0.frozen? ⟨w.heap.size + 1, 1, none⟩ = false := HX0.out.fr 1
  have BX1 := hide (show Below w.heap.size w X1 from hX1 ▸ BX0.out.setCell (by show w.heap.size ≤ w.heap.size + 1; omega) _)
  obtain ⟨X2, hX2⟩ : ∃ X2, X1.setCell ⟨w.heap.size + 1, 2, none⟩ (.int .i64 s) = X2 := ⟨_, rfl⟩
  have HX2 := hide (show D2 6 X2 w.heap.size _ _ from hX2 ▸ HX1.out.setR 2 (.int .i64 s) (by omega))
  have cX2 : X1.cell? ⟨w.heap.size + 1, 2, none⟩ = some _ := HX1.out.r 2 (by omega)
  have gX2 : X1.frozen? ⟨w.heap.size + 1, 2, none⟩ = false := HX1.out.fr 2
  have BX2 := hide (show Below w.heap.size w X2 from hX2 ▸ BX1.out.setCell (by show w.heap.size ≤ w.heap.size + 1; omega) _)
  obtain ⟨X3, hX3⟩ : ∃ X3, X2.setCell ⟨w.heap.size + 1, 3, none⟩ (.int .i64 E) = X3 := ⟨_, rfl⟩
  have HX3 := hide (show D2 6 X3 w.heap.size _ _ from hX3 ▸ HX2.out.setR 3 (.int .i64 E) (by omega))
  have cX3 : X2.cell? ⟨w.heap.size + 1, 3, none⟩ = some _ := HX2.out.r 3 (by omega)
  have gX3 : X2.frozen? ⟨w.heap.size + 1, 3, none⟩ = false := HX2.out.fr 3
  have BX3 := hide (show Below w.heap.size w X3 from hX3 ▸ BX2.out.setCell (by show w.heap.size ≤ w.heap.size + 1; omega) _)
  obtain ⟨X4, hX4⟩ : ∃ X4, X3.setCell ⟨w.heap.size + 1, 4, none⟩ (.int .i64 U) = X4 := ⟨_, rfl⟩
  have HX4 := hide (show D2 6 X4 w.heap.size _ _ from hX4 ▸ HX3.out.setR 4 (.int .i64 U) (by omega))
  have cX4 : X3.cell? ⟨w.heap.size + 1, 4, none⟩ = some _ := HX3.out.r 4 (by omega)
  have gX4 : X3.frozen? ⟨w.heap.size + 1, 4, none⟩ = false := HX3.out.fr 4
  have BX4 := hide (show Below w.heap.size w X4 from hX4 ▸ BX3.out.setCell (by show w.heap.size ≤ w.heap.size + 1; omega) _)
  obtain ⟨X5, hX5⟩ : ∃ X5, X4.setCell ⟨w.heap.size + 1, 5, none⟩ (.int .i64 k) = X5 := ⟨_, rfl⟩
  have HX5 := hide (show D2 6 X5 w.heap.size _ _ from hX5 ▸ HX4.out.setR 5 (.int .i64 k) (by omega))
  have cX5 : X4.cell? ⟨w.heap.size + 1, 5, none⟩ = some _ := HX4.out.r 5 (by omega)
  have gX5 : X4.frozen? ⟨w.heap.size + 1, 5, none⟩ = false := HX4.out.fr 5
  have BX5 := hide (show Below w.heap.size w X5 from hX5 ▸ BX4.out.setCell (by show w.heap.size ≤ w.heap.size + 1; omega) _)
  have r0 : X5.cell? ⟨w.heap.size + 1, 0, none⟩ = some (.int .i64 a) := HX5.out.r 0 (by omega)
  have r1 : X5.cell? ⟨w.heap.size + 1, 1, none⟩ = some (.int .i64 b) := HX5.out.r 1 (by omega)
  have r2 : X5.cell? ⟨w.heap.size + 1, 2, none⟩ = some (.int .i64 s) := HX5.out.r 2 (by omega)
  have r3 : X5.cell? ⟨w.heap.size + 1, 3, none⟩ = some (.int .i64 E) := HX5.out.r 3 (by omega)
  have r4 : X5.cell? ⟨w.heap.size + 1, 4, none⟩ = some (.int .i64 U) := HX5.out.r 4 (by omega)
  have r5 : X5.cell? ⟨w.heap.size + 1, 5, none⟩ = some (.int .i64 k) := HX5.out.r 5 (by omega)
  go_wp2_with fail
  exact bodyPost_ret (v := .tuple #[.agg #[.int .i64 a, .int .i64 b, .int .i64 s, .int .i64 E, .int .i64 U, .int .i64 k], .bool true]) (by simp [results, Try.results28, go_sem, r0, r1, r2, r3, r4, r5]) rfl ⟨rfl, BX5.out⟩
set_option maxHeartbeats 1000000 in
theorem sSki_no1 (a b s e t k n : Int) (w : World) (ha : bd a) (hb : bd b) (hs : bd s) (he : bd e) (ht : bd t) (hk : bd k) (hn : bd n) (g1 : feOk a b s e t k = false) :
    Calls Try.prog 27 #[.agg #[.int .i64 a, .int .i64 b, .int .i64 s, .int .i64 e, .int .i64 t, .int .i64 k], .int .i64 n] w fun e w' => e = .returned (.tuple #[.agg #[.int .i64 0, .int .i64 0, .int .i64 0, .int .i64 0, .int .i64 0, .int .i64 0], .bool false]) ∧ Below w.heap.size w w' := by
  have Ha := hide ha
  have Hb := hide hb
  have Hs := hide hs
  have He := hide he
  have Ht := hide ht
  have Hk := hide hk
  clear ha hb hs he ht hk
  have Hn := hide hn
  clear hn
  have G1 := hide g1
  clear g1
  have k0 := D2.new w #[.int .i64 a, .int .i64 b, .int .i64 s, .int .i64 e, .int .i64 t, .int .i64 k] #[.int .i64 0, .int .i64 0, .int .i64 0, .int .i64 0, .int .i64 0, .int .i64 0] 34 34 6 rfl rfl
  obtain ⟨W0, hW0⟩ : ∃ W0, (w.alloc (.cells #[.int .i64 a, .int .i64 b, .int .i64 s, .int .i64 e, .int .i64 t, .int .i64 k] 34)).alloc (.cells #[.int .i64 0, .int .i64 0, .int .i64 0, .int .i64 0, .int .i64 0, .int .i64 0] 34) = W0 := ⟨_, rfl⟩
  rw [hW0] at k0
  have H := hide k0
  have BL := hide (show Below w.heap.size w W0 from hW0 ▸ ((Below.refl _ _).alloc (Nat.le_refl _) _).alloc (by simp) _)
  clear k0
  have s0 : W0.cell? ⟨w.heap.size, 0, none⟩ = some (.int .i64 a) := H.out.s 0 (by omega)
  have s1 : W0.cell? ⟨w.heap.size, 1, none⟩ = some (.int .i64 b) := H.out.s 1 (by omega)
  have s2 : W0.cell? ⟨w.heap.size, 2, none⟩ = some (.int .i64 s) := H.out.s 2 (by omega)
  have s3 : W0.cell? ⟨w.heap.size, 3, none⟩ = some (.int .i64 e) := H.out.s 3 (by omega)
  have s4 : W0.cell? ⟨w.heap.size, 4, none⟩ = some (.int .i64 t) := H.out.s 4 (by omega)
  have s5 : W0.cell? ⟨w.heap.size, 5, none⟩ = some (.int .i64 k) := H.out.s 5 (by omega)
  go_enter Try.func27, Try.ntmps27
  go_wp2_with fail
  clear s0 s1 s2 s3 s4 s5 hW0
  refine (gFeedS a b s e t k false Ha.out Hb.out Hs.out He.out Ht.out Hk.out G1.out _).mono ?_
  rintro e1 w1 ⟨rfl, q1⟩
  replace H := hide (H.out.below q1)
  replace BL := hide (BL.out.trans (q1.mono BL.out.size))
  clear q1
  obtain ⟨X0, hX0⟩ : ∃ X0, w1.setCell ⟨w.heap.size + 1, 0, none⟩ (.int .i64 0) = X0 := ⟨_, rfl⟩
  have HX0 := hide (show D2 6 X0 w.heap.size _ _ from hX0 ▸ H.out.setR 0 (.int .i64 0) (by omega))
  have cX0 : w1.cell? ⟨w.heap.size + 1, 0, none⟩ = some _ := H.out.r 0 (by omega)
  have gX0 : w1.frozen? ⟨w.heap.size + 1, 0, none⟩ = false := H.out.fr 0
  have BX0 := hide (show Below w.heap.size w X0 from hX0 ▸ BL.out.setCell (by show w.heap.size ≤ w.heap.size + 1; omega) _)
  obtain ⟨X1, hX1⟩ : ∃ X1, X0.setCell ⟨w.heap.size + 1, 1, none⟩ (.int .i64 0) = X1 := ⟨_, rfl⟩
  have HX1 := hide (show D2 6 X1 w.heap.size _ _ from hX1 ▸ HX0.out.setR 1 (.int .i64 0) (by omega))
  have cX1 : X0.cell? ⟨w.heap.size + 1, 1, none⟩ = some _ := HX0.out.r 1 (by omega)
  have gX1 : X0.frozen? ⟨w.heap.size + 1, 1, none⟩ = false := HX0.out.fr 1
  have BX1 := hide (show Below w.heap.size w X1 from hX1 ▸ BX0.out.setCell (by show w.heap.size ≤ w.heap.size + 1; omega) _)
  obtain ⟨X2, hX2⟩ : ∃ X2, X1.setCell ⟨w.heap.size + 1, 2, none⟩ (.int .i64 0) = X2 := ⟨_, rfl⟩
  have HX2 := hide (show D2 6 X2 w.heap.size _ _ from hX2 ▸ HX1.out.setR 2 (.int .i64 0) (by omega))
  have cX2 : X1.cell? ⟨w.heap.size + 1, 2, none⟩ = some _ := HX1.out.r 2 (by omega)
  have gX2 : X1.frozen? ⟨w.heap.size + 1, 2, none⟩ = false := HX1.out.fr 2
  have BX2 := hide (show Below w.heap.size w X2 from hX2 ▸ BX1.out.setCell (by show w.heap.size ≤ w.heap.size + 1; omega) _)
  obtain ⟨X3, hX3⟩ : ∃ X3, X2.setCell ⟨w.heap.size + 1, 3, none⟩ (.int .i64 0) = X3 := ⟨_, rfl⟩
  have HX3 := hide (show D2 6 X3 w.heap.size _ _ from hX3 ▸ HX2.out.setR 3 (.int .i64 0) (by omega))
  have cX3 : X2.cell? ⟨w.heap.size + 1, 3, none⟩ = some _ := HX2.out.r 3 (by omega)
  have gX3 : X2.frozen? ⟨w.heap.size + 1, 3, none⟩ = false := HX2.out.fr 3
  have BX3 := hide (show Below w.heap.size w X3 from hX3 ▸ BX2.out.setCell (by show w.heap.size ≤ w.heap.size + 1; omega) _)
  obtain ⟨X4, hX4⟩ : ∃ X4, X3.setCell ⟨w.heap.size + 1, 4, none⟩ (.int .i64 0) = X4 := ⟨_, rfl⟩
  have HX4 := hide (show D2 6 X4 w.heap.size _ _ from hX4 ▸ HX3.out.setR 4 (.int .i64 0) (by omega))
  have cX4 : X3.cell? ⟨w.heap.size + 1, 4, none⟩ = some _ := HX3.out.r 4 (by omega)
  have gX4 : X3.frozen? ⟨w.heap.size + 1, 4, none⟩ = false := HX3.out.fr 4
  have BX4 := hide (show Below w.heap.size w X4 from hX4 ▸ BX3.out.setCell (by show w.heap.size ≤ w.heap.size + 1; omega) _)
  obtain ⟨X5, hX5⟩ : ∃ X5, X4.setCell ⟨w.heap.size + 1, 5, none⟩ (.int .i64 0) = X5 := ⟨_, rfl⟩
  have HX5 := hide (show D2 6 X5 w.heap.size _ _ from hX5 ▸ HX4.out.setR 5 (.int .i64 0) (by omega))
  have cX5 : X4.cell? ⟨w.heap.size + 1, 5, none⟩ = some _ := HX4.out.r 5 (by omega)
  have gX5 : X4.frozen? ⟨w.heap.size + 1, 5, none⟩ = false := HX4.out.fr 5
  have BX5 := hide (show Below w.heap.size w X5 from hX5 ▸ BX4.out.setCell (by show w.heap.size ≤ w.heap.size + 1; omega) _)
  have r0 : X5.cell? ⟨w.heap.size + 1, 0, none⟩ = some (.int .i64 0) := HX5.out.r 0 (by omega)
  have r1 : X5.cell? ⟨w.heap.size + 1, 1, none⟩ = some (.int .i64 0) := HX5.out.r 1 (by omega)
  have r2 : X5.cell? ⟨w.heap.size + 1, 2, none⟩ = some (.int .i64 0) := HX5.out.r 2 (by omega)
  have r3 : X5.cell? ⟨w.heap.size + 1, 3, none⟩ = some (.int .i64 0) := HX5.out.r 3 (by omega)
  have r4 : X5.cell? ⟨w.heap.size + 1, 4, none⟩ = some (.int .i64 0) := HX5.out.r 4 (by omega)
  have r5 : X5.cell? ⟨w.heap.size + 1, 5, none⟩ = some (.int .i64 0) := HX5.out.r 5 (by omega)
  go_wp2_with fail
  exact bodyPost_ret (v := .tuple #[.agg #[.int .i64 0, .int .i64 0, .int .i64 0, .int .i64 0, .int .i64 0, .int .i64 0], .bool false]) (by simp [results, Try.results27, go_sem, r0, r1, r2, r3, r4, r5]) rfl ⟨rfl, BX5.out⟩
set_option maxHeartbeats 1000000 in
theorem sSki_no2 (a b s e t k n : Int) (w : World) (ha : bd a) (hb : bd b) (hs : bd s) (he : bd e) (ht : bd t) (hk : bd k) (hn : bd n) (g1 : feOk a b s e t k = true) (g2 : decide (0 ≤ n ∧ n ≤ 1000000000000) = false) :
    Calls Try.prog 27 #[.agg #[.int .i64 a, .int .i64 b, .int .i64 s, .int .i64 e, .int .i64 t, .int .i64 k], .int .i64 n] w fun e w' => e = .returned (.tuple #[.agg #[.int .i64 0, .int .i64 0, .int .i64 0, .int .i64 0, .int .i64 0, .int .i64 0], .bool false]) ∧ Below w.heap.size w w' := by
  have Ha := hide ha
  have Hb := hide hb
  have Hs := hide hs
  have He := hide he
  have Ht := hide ht
  have Hk := hide hk
  clear ha hb hs he ht hk
  have Hn := hide hn
  clear hn
  have G1 := hide g1
  have G2 := hide g2
  clear g1 g2
  have k0 := D2.new w #[.int .i64 a, .int .i64 b, .int .i64 s, .int .i64 e, .int .i64 t, .int .i64 k] #[.int .i64 0, .int .i64 0, .int .i64 0, .int .i64 0, .int .i64 0, .int .i64 0] 34 34 6 rfl rfl
  obtain ⟨W0, hW0⟩ : ∃ W0, (w.alloc (.cells #[.int .i64 a, .int .i64 b, .int .i64 s, .int .i64 e, .int .i64 t, .int .i64 k] 34)).alloc (.cells #[.int .i64 0, .int .i64 0, .int .i64 0, .int .i64 0, .int .i64 0, .int .i64 0] 34) = W0 := ⟨_, rfl⟩
  rw [hW0] at k0
  have H := hide k0
  have BL := hide (show Below w.heap.size w W0 from hW0 ▸ ((Below.refl _ _).alloc (Nat.le_refl _) _).alloc (by simp) _)
  clear k0
  have s0 : W0.cell? ⟨w.heap.size, 0, none⟩ = some (.int .i64 a) := H.out.s 0 (by omega)
  have s1 : W0.cell? ⟨w.heap.size, 1, none⟩ = some (.int .i64 b) := H.out.s 1 (by omega)
  have s2 : W0.cell? ⟨w.heap.size, 2, none⟩ = some (.int .i64 s) := H.out.s 2 (by omega)
  have s3 : W0.cell? ⟨w.heap.size, 3, none⟩ = some (.int .i64 e) := H.out.s 3 (by omega)
  have s4 : W0.cell? ⟨w.heap.size, 4, none⟩ = some (.int .i64 t) := H.out.s 4 (by omega)
  have s5 : W0.cell? ⟨w.heap.size, 5, none⟩ = some (.int .i64 k) := H.out.s 5 (by omega)
  go_enter Try.func27, Try.ntmps27
  go_wp2_with fail
  clear s0 s1 s2 s3 s4 s5 hW0
  refine (gFeedS a b s e t k true Ha.out Hb.out Hs.out He.out Ht.out Hk.out G1.out _).mono ?_
  rintro e1 w1 ⟨rfl, q1⟩
  replace H := hide (H.out.below q1)
  replace BL := hide (BL.out.trans (q1.mono BL.out.size))
  clear q1
  go_wp2_with fail
  refine (gInS n 0 1000000000000 false G2.out _).mono ?_
  rintro e1 w2 ⟨rfl, q2⟩
  replace H := hide (H.out.below q2)
  replace BL := hide (BL.out.trans (q2.mono BL.out.size))
  clear q2
  obtain ⟨X0, hX0⟩ : ∃ X0, w2.setCell ⟨w.heap.size + 1, 0, none⟩ (.int .i64 0) = X0 := ⟨_, rfl⟩
  have HX0 := hide (show D2 6 X0 w.heap.size _ _ from hX0 ▸ H.out.setR 0 (.int .i64 0) (by omega))
  have cX0 : w2.cell? ⟨w.heap.size + 1, 0, none⟩ = some _ := H.out.r 0 (by omega)
  have gX0 : w2.frozen? ⟨w.heap.size + 1, 0, none⟩ = false := H.out.fr 0
  have BX0 := hide (show Below w.heap.size w X0 from hX0 ▸ BL.out.setCell (by show w.heap.size ≤ w.heap.size + 1; omega) _)
  obtain ⟨X1, hX1⟩ : ∃ X1, X0.setCell ⟨w.heap.size + 1, 1, none⟩ (.int .i64 0) = X1 := ⟨_, rfl⟩
  have HX1 := hide (show D2 6 X1 w.heap.size _ _ from hX1 ▸ HX0.out.setR 1 (.int .i64 0) (by omega))
  have cX1 : X0.cell? ⟨w.heap.size + 1, 1, none⟩ = some _ := HX0.out.r 1 (by omega)
  have gX1 : X0.frozen? ⟨w.heap.size + 1, 1, none⟩ = false := HX0.out.fr 1
  have BX1 := hide (show Below w.heap.size w X1 from hX1 ▸ BX0.out.setCell (by show w.heap.size ≤ w.heap.size + 1; omega) _)
  obtain ⟨X2, hX2⟩ : ∃ X2, X1.setCell ⟨w.heap.size + 1, 2, none⟩ (.int .i64 0) = X2 := ⟨_, rfl⟩
  have HX2 := hide (show D2 6 X2 w.heap.size _ _ from hX2 ▸ HX1.out.setR 2 (.int .i64 0) (by omega))
  have cX2 : X1.cell? ⟨w.heap.size + 1, 2, none⟩ = some _ := HX1.out.r 2 (by omega)
  have gX2 : X1.frozen? ⟨w.heap.size + 1, 2, none⟩ = false := HX1.out.fr 2
  have BX2 := hide (show Below w.heap.size w X2 from hX2 ▸ BX1.out.setCell (by show w.heap.size ≤ w.heap.size + 1; omega) _)
  obtain ⟨X3, hX3⟩ : ∃ X3, X2.setCell ⟨w.heap.size + 1, 3, none⟩ (.int .i64 0) = X3 := ⟨_, rfl⟩
  have HX3 := hide (show D2 6 X3 w.heap.size _ _ from hX3 ▸ HX2.out.setR 3 (.int .i64 0) (by omega))
  have cX3 : X2.cell? ⟨w.heap.size + 1, 3, none⟩ = some _ := HX2.out.r 3 (by omega)
  have gX3 : X2.frozen? ⟨w.heap.size + 1, 3, none⟩ = false := HX2.out.fr 3
  have BX3 := hide (show Below w.heap.size w X3 from hX3 ▸ BX2.out.setCell (by show w.heap.size ≤ w.heap.size + 1; omega) _)
  obtain ⟨X4, hX4⟩ : ∃ X4, X3.setCell ⟨w.heap.size + 1, 4, none⟩ (.int .i64 0) = X4 := ⟨_, rfl⟩
  have HX4 := hide (show D2 6 X4 w.heap.size _ _ from hX4 ▸ HX3.out.setR 4 (.int .i64 0) (by omega))
  have cX4 : X3.cell? ⟨w.heap.size + 1, 4, none⟩ = some _ := HX3.out.r 4 (by omega)
  have gX4 : X3.frozen? ⟨w.heap.size + 1, 4, none⟩ = false := HX3.out.fr 4
  have BX4 := hide (show Below w.heap.size w X4 from hX4 ▸ BX3.out.setCell (by show w.heap.size ≤ w.heap.size + 1; omega) _)
  obtain ⟨X5, hX5⟩ : ∃ X5, X4.setCell ⟨w.heap.size + 1, 5, none⟩ (.int .i64 0) = X5 := ⟨_, rfl⟩
  have HX5 := hide (show D2 6 X5 w.heap.size _ _ from hX5 ▸ HX4.out.setR 5 (.int .i64 0) (by omega))
  have cX5 : X4.cell? ⟨w.heap.size + 1, 5, none⟩ = some _ := HX4.out.r 5 (by omega)
  have gX5 : X4.frozen? ⟨w.heap.size + 1, 5, none⟩ = false := HX4.out.fr 5
  have BX5 := hide (show Below w.heap.size w X5 from hX5 ▸ BX4.out.setCell (by show w.heap.size ≤ w.heap.size + 1; omega) _)
  have r0 : X5.cell? ⟨w.heap.size + 1, 0, none⟩ = some (.int .i64 0) := HX5.out.r 0 (by omega)
  have r1 : X5.cell? ⟨w.heap.size + 1, 1, none⟩ = some (.int .i64 0) := HX5.out.r 1 (by omega)
  have r2 : X5.cell? ⟨w.heap.size + 1, 2, none⟩ = some (.int .i64 0) := HX5.out.r 2 (by omega)
  have r3 : X5.cell? ⟨w.heap.size + 1, 3, none⟩ = some (.int .i64 0) := HX5.out.r 3 (by omega)
  have r4 : X5.cell? ⟨w.heap.size + 1, 4, none⟩ = some (.int .i64 0) := HX5.out.r 4 (by omega)
  have r5 : X5.cell? ⟨w.heap.size + 1, 5, none⟩ = some (.int .i64 0) := HX5.out.r 5 (by omega)
  go_wp2_with fail
  exact bodyPost_ret (v := .tuple #[.agg #[.int .i64 0, .int .i64 0, .int .i64 0, .int .i64 0, .int .i64 0, .int .i64 0], .bool false]) (by simp [results, Try.results27, go_sem, r0, r1, r2, r3, r4, r5]) rfl ⟨rfl, BX5.out⟩
set_option maxHeartbeats 1000000 in
theorem sSki_no3 (a b s e t k n : Int) (w : World) (ha : bd a) (hb : bd b) (hs : bd s) (he : bd e) (ht : bd t) (hk : bd k) (hn : bd n) (Q X D Y Z E R U : Int) (a0 : 1 ≤ a) (a1 : a ≤ 4096) (b0 : 1 ≤ b) (b1 : b ≤ a) (t0 : 0 ≤ t) (t1 : t ≤ 4096) (n0 : 0 ≤ n) (n1 : n ≤ 1000000000000) (hQ : a / b = Q) (hX : e * Q = X) (hD : t / b = D) (hY : X + D = Y) (hZ : Y + n = Z) (hE : Z / Q = E) (hR : Z % Q = R) (hU : R * b = U) (q0 : 1 ≤ Q) (x0 : 0 ≤ X) (x1 : X ≤ 4096000000) (d0 : 0 ≤ D) (d1 : D ≤ 4096) (z0 : 0 ≤ Z) (u0 : 0 ≤ U) (u1 : U ≤ 16777216) (c : 1000000 < E) (g1 : feOk a b s e t k = true) (g2 : decide (0 ≤ n ∧ n ≤ 1000000000000) = true) :
    Calls Try.prog 27 #[.agg #[.int .i64 a, .int .i64 b, .int .i64 s, .int .i64 e, .int .i64 t, .int .i64 k], .int .i64 n] w fun e w' => e = .returned (.tuple #[.agg #[.int .i64 0, .int .i64 0, .int .i64 0, .int .i64 0, .int .i64 0, .int .i64 0], .bool false]) ∧ Below w.heap.size w w' := by
  have Ha := hide ha
  have Hb := hide hb
  have Hs := hide hs
  have He := hide he
  have Ht := hide ht
  have Hk := hide hk
  clear ha hb hs he ht hk
  have Hn := hide hn
  clear hn
  have G1 := hide g1
  have G2 := hide g2
  clear g1 g2
  have k0 := D2.new w #[.int .i64 a, .int .i64 b, .int .i64 s, .int .i64 e, .int .i64 t, .int .i64 k] #[.int .i64 0, .int .i64 0, .int .i64 0, .int .i64 0, .int .i64 0, .int .i64 0] 34 34 6 rfl rfl
  obtain ⟨W0, hW0⟩ : ∃ W0, (w.alloc (.cells #[.int .i64 a, .int .i64 b, .int .i64 s, .int .i64 e, .int .i64 t, .int .i64 k] 34)).alloc (.cells #[.int .i64 0, .int .i64 0, .int .i64 0, .int .i64 0, .int .i64 0, .int .i64 0] 34) = W0 := ⟨_, rfl⟩
  rw [hW0] at k0
  have H := hide k0
  have BL := hide (show Below w.heap.size w W0 from hW0 ▸ ((Below.refl _ _).alloc (Nat.le_refl _) _).alloc (by simp) _)
  clear k0
  have s0 : W0.cell? ⟨w.heap.size, 0, none⟩ = some (.int .i64 a) := H.out.s 0 (by omega)
  have s1 : W0.cell? ⟨w.heap.size, 1, none⟩ = some (.int .i64 b) := H.out.s 1 (by omega)
  have s2 : W0.cell? ⟨w.heap.size, 2, none⟩ = some (.int .i64 s) := H.out.s 2 (by omega)
  have s3 : W0.cell? ⟨w.heap.size, 3, none⟩ = some (.int .i64 e) := H.out.s 3 (by omega)
  have s4 : W0.cell? ⟨w.heap.size, 4, none⟩ = some (.int .i64 t) := H.out.s 4 (by omega)
  have s5 : W0.cell? ⟨w.heap.size, 5, none⟩ = some (.int .i64 k) := H.out.s 5 (by omega)
  go_enter Try.func27, Try.ntmps27
  go_wp2_with fail
  clear s0 s1 s2 s3 s4 s5 hW0
  refine (gFeedS a b s e t k true Ha.out Hb.out Hs.out He.out Ht.out Hk.out G1.out _).mono ?_
  rintro e1 w1 ⟨rfl, q1⟩
  replace H := hide (H.out.below q1)
  replace BL := hide (BL.out.trans (q1.mono BL.out.size))
  clear q1
  go_wp2_with fail
  refine (gInS n 0 1000000000000 true G2.out _).mono ?_
  rintro e1 w2 ⟨rfl, q2⟩
  replace H := hide (H.out.below q2)
  replace BL := hide (BL.out.trans (q2.mono BL.out.size))
  clear q2
  have zb : (b == 0) = false := beq_eq_false_iff_ne.2 (by omega)
  have zq : (Q == 0) = false := beq_eq_false_iff_ne.2 (by omega)
  have s0 : w2.cell? ⟨w.heap.size, 0, none⟩ = some (.int .i64 a) := H.out.s 0 (by omega)
  have s1 : w2.cell? ⟨w.heap.size, 1, none⟩ = some (.int .i64 b) := H.out.s 1 (by omega)
  have s2 : w2.cell? ⟨w.heap.size, 2, none⟩ = some (.int .i64 s) := H.out.s 2 (by omega)
  have s3 : w2.cell? ⟨w.heap.size, 3, none⟩ = some (.int .i64 e) := H.out.s 3 (by omega)
  have s4 : w2.cell? ⟨w.heap.size, 4, none⟩ = some (.int .i64 t) := H.out.s 4 (by omega)
  have s5 : w2.cell? ⟨w.heap.size, 5, none⟩ = some (.int .i64 k) := H.out.s 5 (by omega)
  go_wp2_with fail
  have k0 := cell_regrown s0
  have k1 := cell_regrown s1
  have k2 := cell_regrown s2
  have k3 := cell_regrown s3
  have k4 := cell_regrown s4
  have k5 := cell_regrown s5
  clear s0 s1 s2 s3 s4 s5
  refine wp_region_quiet_below (by kernel_rfl) (by kernel_rfl) ?_
  repeat (go_big_quiet_step (fail))
  refine wpQuiet_nil ?_
  intro w9 hw'
  have q3 : Below w2.heap.size w2 w9 := by obtain ⟨⟨dq, osq⟩, hw''⟩ := hw'; rw [hw'']; exact below_regrown _ dq osq
  clear hw' k0 k1 k2 k3 k4 k5
  replace H := hide (H.out.below q3)
  replace BL := hide (BL.out.trans (q3.mono BL.out.size))
  clear q3
  obtain ⟨Y1, hY1⟩ : ∃ Y1, w9.setCell ⟨w.heap.size, 3, none⟩ (.int .i64 E) = Y1 := ⟨_, rfl⟩
  have e3 : w9.cell? ⟨w.heap.size, 3, none⟩ = some _ := H.out.s 3 (by omega)
  have f3 : w9.frozen? ⟨w.heap.size, 3, none⟩ = false := H.out.fs 3
  have HY1 := hide (show D2 6 Y1 w.heap.size _ _ from hY1 ▸ H.out.setS 3 (.int .i64 E) (by omega))
  have BY1 := hide (show Below w.heap.size w Y1 from hY1 ▸ BL.out.setCell (Nat.le_refl _) _)
  have s0 : Y1.cell? ⟨w.heap.size, 0, none⟩ = some (.int .i64 a) := HY1.out.s 0 (by omega)
  have s1 : Y1.cell? ⟨w.heap.size, 1, none⟩ = some (.int .i64 b) := HY1.out.s 1 (by omega)
  have s2 : Y1.cell? ⟨w.heap.size, 2, none⟩ = some (.int .i64 s) := HY1.out.s 2 (by omega)
  have s3 : Y1.cell? ⟨w.heap.size, 3, none⟩ = some (.int .i64 E) := HY1.out.s 3 (by omega)
  have s4 : Y1.cell? ⟨w.heap.size, 4, none⟩ = some (.int .i64 t) := HY1.out.s 4 (by omega)
  have s5 : Y1.cell? ⟨w.heap.size, 5, none⟩ = some (.int .i64 k) := HY1.out.s 5 (by omega)
  go_wp2_with fail
  have k0 := cell_regrown s0
  have k1 := cell_regrown s1
  have k2 := cell_regrown s2
  have k3 := cell_regrown s3
  have k4 := cell_regrown s4
  have k5 := cell_regrown s5
  clear s0 s1 s2 s3 s4 s5 e3 f3 hY1
  refine Qt.region_tail_below 7 (by kernel_rfl) (by kernel_rfl) ?_
  simp only [List.take_succ_cons, List.take_zero, List.drop_succ_cons, List.drop_zero]
  repeat (go_big_quiet_step (fail))
  refine wpQuiet_nil ?_
  intro w11 hw'
  have q3 : Below Y1.heap.size Y1 w11 := by obtain ⟨⟨dq, osq⟩, hw''⟩ := hw'; rw [hw'']; exact below_regrown _ dq osq
  clear hw' k0 k1 k2 k3 k4 k5
  replace H := hide (HY1.out.below q3)
  replace BL := hide (BY1.out.trans (q3.mono BY1.out.size))
  clear q3
  obtain ⟨Y2, hY2⟩ : ∃ Y2, w11.setCell ⟨w.heap.size, 4, none⟩ (.int .i64 U) = Y2 := ⟨_, rfl⟩
  have e4 : w11.cell? ⟨w.heap.size, 4, none⟩ = some _ := H.out.s 4 (by omega)
  have f4 : w11.frozen? ⟨w.heap.size, 4, none⟩ = false := H.out.fs 4
  have HY2 := hide (show D2 6 Y2 w.heap.size _ _ from hY2 ▸ H.out.setS 4 (.int .i64 U) (by omega))
  have BY2 := hide (show Below w.heap.size w Y2 from hY2 ▸ BL.out.setCell (Nat.le_refl _) _)
  have s0 : Y2.cell? ⟨w.heap.size, 0, none⟩ = some (.int .i64 a) := HY2.out.s 0 (by omega)
  have s1 : Y2.cell? ⟨w.heap.size, 1, none⟩ = some (.int .i64 b) := HY2.out.s 1 (by omega)
  have s2 : Y2.cell? ⟨w.heap.size, 2, none⟩ = some (.int .i64 s) := HY2.out.s 2 (by omega)
  have s3 : Y2.cell? ⟨w.heap.size, 3, none⟩ = some (.int .i64 E) := HY2.out.s 3 (by omega)
  have s4 : Y2.cell? ⟨w.heap.size, 4, none⟩ = some (.int .i64 U) := HY2.out.s 4 (by omega)
  have s5 : Y2.cell? ⟨w.heap.size, 5, none⟩ = some (.int .i64 k) := HY2.out.s 5 (by omega)
  obtain ⟨X0, hX0⟩ : ∃ X0, Y2.setCell ⟨w.heap.size + 1, 0, none⟩ (.int .i64 0) = X0 := ⟨_, rfl⟩
  have HX0 := hide (show D2 6 X0 w.heap.size _ _ from hX0 ▸ HY2.out.setR 0 (.int .i64 0) (by omega))
  have cX0 : Y2.cell? ⟨w.heap.size + 1, 0, none⟩ = some _ := HY2.out.r 0 (by omega)
  have gX0 : Y2.frozen? ⟨w.heap.size + 1, 0, none⟩ = false := HY2.out.fr 0
  have BX0 := hide (show Below w.heap.size w X0 from hX0 ▸ BY2.out.setCell (by show w.heap.size ≤ w.heap.size + 1; omega) _)
  obtain ⟨X1, hX1⟩ : ∃ X1, X0.setCell ⟨w.heap.size + 1, 1, none⟩ (.int .i64 0) = X1 := ⟨_, rfl⟩
  have HX1 := hide (show D2 6 X1 w.heap.size _ _ from hX1 ▸ HX0.out.setR 1 (.int .i64 0) (by omega))
  have cX1 : X0.cell? ⟨w.heap.size + 1, 1, none⟩ = some _ := HX0.out.r 1 (by omega)
  have gX1 : X0.frozen? ⟨w.heap.size + 1, 1, none⟩ = false := HX0.out.fr 1
  have BX1 := hide (show Below w.heap.size w X1 from hX1 ▸ BX0.out.setCell (by show w.heap.size ≤ w.heap.size + 1; omega) _)
  obtain ⟨X2, hX2⟩ : ∃ X2, X1.setCell ⟨w.heap.size + 1, 2, none⟩ (.int .i64 0) = X2 := ⟨_, rfl⟩
  have HX2 := hide (show D2 6 X2 w.heap.size _ _ from hX2 ▸ HX1.out.setR 2 (.int .i64 0) (by omega))
  have cX2 : X1.cell? ⟨w.heap.size + 1, 2, none⟩ = some _ := HX1.out.r 2 (by omega)
  have gX2 : X1.frozen? ⟨w.heap.size + 1, 2, none⟩ = false := HX1.out.fr 2
  have BX2 := hide (show Below w.heap.size w X2 from hX2 ▸ BX1.out.setCell (by show w.heap.size ≤ w.heap.size + 1; omega) _)
  obtain ⟨X3, hX3⟩ : ∃ X3, X2.setCell ⟨w.heap.size + 1, 3, none⟩ (.int .i64 0) = X3 := ⟨_, rfl⟩
  have HX3 := hide (show D2 6 X3 w.heap.size _ _ from hX3 ▸ HX2.out.setR 3 (.int .i64 0) (by omega))
  have cX3 : X2.cell? ⟨w.heap.size + 1, 3, none⟩ = some _ := HX2.out.r 3 (by omega)
  have gX3 : X2.frozen? ⟨w.heap.size + 1, 3, none⟩ = false := HX2.out.fr 3
  have BX3 := hide (show Below w.heap.size w X3 from hX3 ▸ BX2.out.setCell (by show w.heap.size ≤ w.heap.size + 1; omega) _)
  obtain ⟨X4, hX4⟩ : ∃ X4, X3.setCell ⟨w.heap.size + 1, 4, none⟩ (.int .i64 0) = X4 := ⟨_, rfl⟩
  have HX4 := hide (show D2 6 X4 w.heap.size _ _ from hX4 ▸ HX3.out.setR 4 (.int .i64 0) (by omega))
  have cX4 : X3.cell? ⟨w.heap.size + 1, 4, none⟩ = some _ := HX3.out.r 4 (by omega)
  have gX4 : X3.frozen? ⟨w.heap.size + 1, 4, none⟩ = false := HX3.out.fr 4
  have BX4 := hide (show Below w.heap.size w X4 from hX4 ▸ BX3.out.setCell (by show w.heap.size ≤ w.heap.size + 1; omega) _)
  obtain ⟨X5, hX5⟩ : ∃ X5, X4.setCell ⟨w.heap.size + 1, 5, none⟩ (.int .i64 0) = X5 := ⟨_, rfl⟩
  have HX5 := hide (show D2 6 X5 w.heap.size _ _ from hX5 ▸ HX4.out.setR 5 (.int .i64 0) (by omega))
  have cX5 : X4.cell? ⟨w.heap.size + 1, 5, none⟩ = some _ := HX4.out.r 5 (by omega)
  have gX5 : X4.frozen? ⟨w.heap.size + 1, 5, none⟩ = false := HX4.out.fr 5
  have BX5 := hide (show Below w.heap.size w X5 from hX5 ▸ BX4.out.setCell (by show w.heap.size ≤ w.heap.size + 1; omega) _)
  have r0 : X5.cell? ⟨w.heap.size + 1, 0, none⟩ = some (.int .i64 0) := HX5.out.r 0 (by omega)
  have r1 : X5.cell? ⟨w.heap.size + 1, 1, none⟩ = some (.int .i64 0) := HX5.out.r 1 (by omega)
  have r2 : X5.cell? ⟨w.heap.size + 1, 2, none⟩ = some (.int .i64 0) := HX5.out.r 2 (by omega)
  have r3 : X5.cell? ⟨w.heap.size + 1, 3, none⟩ = some (.int .i64 0) := HX5.out.r 3 (by omega)
  have r4 : X5.cell? ⟨w.heap.size + 1, 4, none⟩ = some (.int .i64 0) := HX5.out.r 4 (by omega)
  have r5 : X5.cell? ⟨w.heap.size + 1, 5, none⟩ = some (.int .i64 0) := HX5.out.r 5 (by omega)
  go_wp2_with fail
  exact bodyPost_ret (v := .tuple #[.agg #[.int .i64 0, .int .i64 0, .int .i64 0, .int .i64 0, .int .i64 0, .int .i64 0], .bool false]) (by simp [results, Try.results27, go_sem, r0, r1, r2, r3, r4, r5]) rfl ⟨rfl, BX5.out⟩
set_option maxHeartbeats 1000000 in
theorem sSki_yes (a b s e t k n : Int) (w : World) (ha : bd a) (hb : bd b) (hs : bd s) (he : bd e) (ht : bd t) (hk : bd k) (hn : bd n) (Q X D Y Z E R U : Int) (a0 : 1 ≤ a) (a1 : a ≤ 4096) (b0 : 1 ≤ b) (b1 : b ≤ a) (t0 : 0 ≤ t) (t1 : t ≤ 4096) (n0 : 0 ≤ n) (n1 : n ≤ 1000000000000) (hQ : a / b = Q) (hX : e * Q = X) (hD : t / b = D) (hY : X + D = Y) (hZ : Y + n = Z) (hE : Z / Q = E) (hR : Z % Q = R) (hU : R * b = U) (q0 : 1 ≤ Q) (x0 : 0 ≤ X) (x1 : X ≤ 4096000000) (d0 : 0 ≤ D) (d1 : D ≤ 4096) (z0 : 0 ≤ Z) (u0 : 0 ≤ U) (u1 : U ≤ 16777216) (c : decide (1000000 < E) = false) (g1 : feOk a b s e t k = true) (g2 : decide (0 ≤ n ∧ n ≤ 1000000000000) = true) :
    Calls Try.prog 27 #[.agg #[.int .i64 a, .int .i64 b, .int .i64 s, .int .i64 e, .int .i64 t, .int .i64 k], .int .i64 n] w fun e w' => e = .returned (.tuple #[.agg #[.int .i64 a, .int .i64 b, .int .i64 s, .int .i64 E, .int .i64 U, .int .i64 k], .bool true]) ∧ Below w.heap.size w w' := by
  have Ha := hide ha
  have Hb := hide hb
  have Hs := hide hs
  have He := hide he
  have Ht := hide ht
  have Hk := hide hk
  clear ha hb hs he ht hk
  have Hn := hide hn
  clear hn
  have G1 := hide g1
  have G2 := hide g2
  clear g1 g2
  have k0 := D2.new w #[.int .i64 a, .int .i64 b, .int .i64 s, .int .i64 e, .int .i64 t, .int .i64 k] #[.int .i64 0, .int .i64 0, .int .i64 0, .int .i64 0, .int .i64 0, .int .i64 0] 34 34 6 rfl rfl
  obtain ⟨W0, hW0⟩ : ∃ W0, (w.alloc (.cells #[.int .i64 a, .int .i64 b, .int .i64 s, .int .i64 e, .int .i64 t, .int .i64 k] 34)).alloc (.cells #[.int .i64 0, .int .i64 0, .int .i64 0, .int .i64 0, .int .i64 0, .int .i64 0] 34) = W0 := ⟨_, rfl⟩
  rw [hW0] at k0
  have H := hide k0
  have BL := hide (show Below w.heap.size w W0 from hW0 ▸ ((Below.refl _ _).alloc (Nat.le_refl _) _).alloc (by simp) _)
  clear k0
  have s0 : W0.cell? ⟨w.heap.size, 0, none⟩ = some (.int .i64 a) := H.out.s 0 (by omega)
  have s1 : W0.cell? ⟨w.heap.size, 1, none⟩ = some (.int .i64 b) := H.out.s 1 (by omega)
  have s2 : W0.cell? ⟨w.heap.size, 2, none⟩ = some (.int .i64 s) := H.out.s 2 (by omega)
  have s3 : W0.cell? ⟨w.heap.size, 3, none⟩ = some (.int .i64 e) := H.out.s 3 (by omega)
  have s4 : W0.cell? ⟨w.heap.size, 4, none⟩ = some (.int .i64 t) := H.out.s 4 (by omega)
  have s5 : W0.cell? ⟨w.heap.size, 5, none⟩ = some (.int .i64 k) := H.out.s 5 (by omega)
  go_enter Try.func27, Try.ntmps27
  go_wp2_with fail
  clear s0 s1 s2 s3 s4 s5 hW0
  refine (gFeedS a b s e t k true Ha.out Hb.out Hs.out He.out Ht.out Hk.out G1.out _).mono ?_
  rintro e1 w1 ⟨rfl, q1⟩
  replace H := hide (H.out.below q1)
  replace BL := hide (BL.out.trans (q1.mono BL.out.size))
  clear q1
  go_wp2_with fail
  refine (gInS n 0 1000000000000 true G2.out _).mono ?_
  rintro e1 w2 ⟨rfl, q2⟩
  replace H := hide (H.out.below q2)
  replace BL := hide (BL.out.trans (q2.mono BL.out.size))
  clear q2
  have zb : (b == 0) = false := beq_eq_false_iff_ne.2 (by omega)
  have zq : (Q == 0) = false := beq_eq_false_iff_ne.2 (by omega)
  have s0 : w2.cell? ⟨w.heap.size, 0, none⟩ = some (.int .i64 a) := H.out.s 0 (by omega)
  have s1 : w2.cell? ⟨w.heap.size, 1, none⟩ = some (.int .i64 b) := H.out.s 1 (by omega)
  have s2 : w2.cell? ⟨w.heap.size, 2, none⟩ = some (.int .i64 s) := H.out.s 2 (by omega)
  have s3 : w2.cell? ⟨w.heap.size, 3, none⟩ = some (.int .i64 e) := H.out.s 3 (by omega)
  have s4 : w2.cell? ⟨w.heap.size, 4, none⟩ = some (.int .i64 t) := H.out.s 4 (by omega)
  have s5 : w2.cell? ⟨w.heap.size, 5, none⟩ = some (.int .i64 k) := H.out.s 5 (by omega)
  go_wp2_with fail
  have k0 := cell_regrown s0
  have k1 := cell_regrown s1
  have k2 := cell_regrown s2
  have k3 := cell_regrown s3
  have k4 := cell_regrown s4
  have k5 := cell_regrown s5
  clear s0 s1 s2 s3 s4 s5
  refine wp_region_quiet_below (by kernel_rfl) (by kernel_rfl) ?_
  repeat (go_big_quiet_step (fail))
  refine wpQuiet_nil ?_
  intro w9 hw'
  have q3 : Below w2.heap.size w2 w9 := by obtain ⟨⟨dq, osq⟩, hw''⟩ := hw'; rw [hw'']; exact below_regrown _ dq osq
  clear hw' k0 k1 k2 k3 k4 k5
  replace H := hide (H.out.below q3)
  replace BL := hide (BL.out.trans (q3.mono BL.out.size))
  clear q3
  obtain ⟨Y1, hY1⟩ : ∃ Y1, w9.setCell ⟨w.heap.size, 3, none⟩ (.int .i64 E) = Y1 := ⟨_, rfl⟩
  have e3 : w9.cell? ⟨w.heap.size, 3, none⟩ = some _ := H.out.s 3 (by omega)
  have f3 : w9.frozen? ⟨w.heap.size, 3, none⟩ = false := H.out.fs 3
  have HY1 := hide (show D2 6 Y1 w.heap.size _ _ from hY1 ▸ H.out.setS 3 (.int .i64 E) (by omega))
  have BY1 := hide (show Below w.heap.size w Y1 from hY1 ▸ BL.out.setCell (Nat.le_refl _) _)
  have s0 : Y1.cell? ⟨w.heap.size, 0, none⟩ = some (.int .i64 a) := HY1.out.s 0 (by omega)
  have s1 : Y1.cell? ⟨w.heap.size, 1, none⟩ = some (.int .i64 b) := HY1.out.s 1 (by omega)
  have s2 : Y1.cell? ⟨w.heap.size, 2, none⟩ = some (.int .i64 s) := HY1.out.s 2 (by omega)
  have s3 : Y1.cell? ⟨w.heap.size, 3, none⟩ = some (.int .i64 E) := HY1.out.s 3 (by omega)
  have s4 : Y1.cell? ⟨w.heap.size, 4, none⟩ = some (.int .i64 t) := HY1.out.s 4 (by omega)
  have s5 : Y1.cell? ⟨w.heap.size, 5, none⟩ = some (.int .i64 k) := HY1.out.s 5 (by omega)
  go_wp2_with fail
  have k0 := cell_regrown s0
  have k1 := cell_regrown s1
  have k2 := cell_regrown s2
  have k3 := cell_regrown s3
  have k4 := cell_regrown s4
  have k5 := cell_regrown s5
  clear s0 s1 s2 s3 s4 s5 e3 f3 hY1
  refine Qt.region_tail_below 7 (by kernel_rfl) (by kernel_rfl) ?_
  simp only [List.take_succ_cons, List.take_zero, List.drop_succ_cons, List.drop_zero]
  repeat (go_big_quiet_step (fail))
  refine wpQuiet_nil ?_
  intro w11 hw'
  have q3 : Below Y1.heap.size Y1 w11 := by obtain ⟨⟨dq, osq⟩, hw''⟩ := hw'; rw [hw'']; exact below_regrown _ dq osq
  clear hw' k0 k1 k2 k3 k4 k5
  replace H := hide (HY1.out.below q3)
  replace BL := hide (BY1.out.trans (q3.mono BY1.out.size))
  clear q3
  obtain ⟨Y2, hY2⟩ : ∃ Y2, w11.setCell ⟨w.heap.size, 4, none⟩ (.int .i64 U) = Y2 := ⟨_, rfl⟩
  have e4 : w11.cell? ⟨w.heap.size, 4, none⟩ = some _ := H.out.s 4 (by omega)
  have f4 : w11.frozen? ⟨w.heap.size, 4, none⟩ = false := H.out.fs 4
  have HY2 := hide (show D2 6 Y2 w.heap.size _ _ from hY2 ▸ H.out.setS 4 (.int .i64 U) (by omega))
  have BY2 := hide (show Below w.heap.size w Y2 from hY2 ▸ BL.out.setCell (Nat.le_refl _) _)
  have s0 : Y2.cell? ⟨w.heap.size, 0, none⟩ = some (.int .i64 a) := HY2.out.s 0 (by omega)
  have s1 : Y2.cell? ⟨w.heap.size, 1, none⟩ = some (.int .i64 b) := HY2.out.s 1 (by omega)
  have s2 : Y2.cell? ⟨w.heap.size, 2, none⟩ = some (.int .i64 s) := HY2.out.s 2 (by omega)
  have s3 : Y2.cell? ⟨w.heap.size, 3, none⟩ = some (.int .i64 E) := HY2.out.s 3 (by omega)
  have s4 : Y2.cell? ⟨w.heap.size, 4, none⟩ = some (.int .i64 U) := HY2.out.s 4 (by omega)
  have s5 : Y2.cell? ⟨w.heap.size, 5, none⟩ = some (.int .i64 k) := HY2.out.s 5 (by omega)
  obtain ⟨X0, hX0⟩ : ∃ X0, Y2.setCell ⟨w.heap.size + 1, 0, none⟩ (.int .i64 a) = X0 := ⟨_, rfl⟩
  have HX0 := hide (show D2 6 X0 w.heap.size _ _ from hX0 ▸ HY2.out.setR 0 (.int .i64 a) (by omega))
  have cX0 : Y2.cell? ⟨w.heap.size + 1, 0, none⟩ = some _ := HY2.out.r 0 (by omega)
  have gX0 : Y2.frozen? ⟨w.heap.size + 1, 0, none⟩ = false := HY2.out.fr 0
  have BX0 := hide (show Below w.heap.size w X0 from hX0 ▸ BY2.out.setCell (by show w.heap.size ≤ w.heap.size + 1; omega) _)
  obtain ⟨X1, hX1⟩ : ∃ X1, X0.setCell ⟨w.heap.size + 1, 1, none⟩ (.int .i64 b) = X1 := ⟨_, rfl⟩
  have HX1 := hide (show D2 6 X1 w.heap.size _ _ from hX1 ▸ HX0.out.setR 1 (.int .i64 b) (by omega))
  have cX1 : X0.cell? ⟨w.heap.size + 1, 1, none⟩ = some _ := HX0.out.r 1 (by omega)
  have gX1 : X0.frozen? ⟨w.heap.size + 1, 1, none⟩ = false := HX0.out.fr 1
  have BX1 := hide (show Below w.heap.size w X1 from hX1 ▸ BX0.out.setCell (by show w.heap.size ≤ w.heap.size + 1; omega) _)
  obtain ⟨X2, hX2⟩ : ∃ X2, X1.setCell ⟨w.heap.size + 1, 2, none⟩ (.int .i64 s) = X2 := ⟨_, rfl⟩
  have HX2 := hide (show D2 6 X2 w.heap.size _ _ from hX2 ▸ HX1.out.setR 2 (.int .i64 s) (by omega))
  have cX2 : X1.cell? ⟨w.heap.size + 1, 2, none⟩ = some _ := HX1.out.r 2 (by omega)
  have gX2 : X1.frozen? ⟨w.heap.size + 1, 2, none⟩ = false := HX1.out.fr 2
  have BX2 := hide (show Below w.heap.size w X2 from hX2 ▸ BX1.out.setCell (by show w.heap.size ≤ w.heap.size + 1; omega) _)
  obtain ⟨X3, hX3⟩ : ∃ X3, X2.setCell ⟨w.heap.size + 1, 3, none⟩ (.int .i64 E) = X3 := ⟨_, rfl⟩
  have HX3 := hide (show D2 6 X3 w.heap.size _ _ from hX3 ▸ HX2.out.setR 3 (.int .i64 E) (by omega))
  have cX3 : X2.cell? ⟨w.heap.size + 1, 3, none⟩ = some _ := HX2.out.r 3 (by omega)
  have gX3 : X2.frozen? ⟨w.heap.size + 1, 3, none⟩ = false := HX2.out.fr 3
  have BX3 := hide (show Below w.heap.size w X3 from hX3 ▸ BX2.out.setCell (by show w.heap.size ≤ w.heap.size + 1; omega) _)
  obtain ⟨X4, hX4⟩ : ∃ X4, X3.setCell ⟨w.heap.size + 1, 4, none⟩ (.int .i64 U) = X4 := ⟨_, rfl⟩
  have HX4 := hide (show D2 6 X4 w.heap.size _ _ from hX4 ▸ HX3.out.setR 4 (.int .i64 U) (by omega))
  have cX4 : X3.cell? ⟨w.heap.size + 1, 4, none⟩ = some _ := HX3.out.r 4 (by omega)
  have gX4 : X3.frozen? ⟨w.heap.size + 1, 4, none⟩ = false := HX3.out.fr 4
  have BX4 := hide (show Below w.heap.size w X4 from hX4 ▸ BX3.out.setCell (by show w.heap.size ≤ w.heap.size + 1; omega) _)
  obtain ⟨X5, hX5⟩ : ∃ X5, X4.setCell ⟨w.heap.size + 1, 5, none⟩ (.int .i64 k) = X5 := ⟨_, rfl⟩
  have HX5 := hide (show D2 6 X5 w.heap.size _ _ from hX5 ▸ HX4.out.setR 5 (.int .i64 k) (by omega))
  have cX5 : X4.cell? ⟨w.heap.size + 1, 5, none⟩ = some _ := HX4.out.r 5 (by omega)
  have gX5 : X4.frozen? ⟨w.heap.size + 1, 5, none⟩ = false := HX4.out.fr 5
  have BX5 := hide (show Below w.heap.size w X5 from hX5 ▸ BX4.out.setCell (by show w.heap.size ≤ w.heap.size + 1; omega) _)
  have r0 : X5.cell? ⟨w.heap.size + 1, 0, none⟩ = some (.int .i64 a) := HX5.out.r 0 (by omega)
  have r1 : X5.cell? ⟨w.heap.size + 1, 1, none⟩ = some (.int .i64 b) := HX5.out.r 1 (by omega)
  have r2 : X5.cell? ⟨w.heap.size + 1, 2, none⟩ = some (.int .i64 s) := HX5.out.r 2 (by omega)
  have r3 : X5.cell? ⟨w.heap.size + 1, 3, none⟩ = some (.int .i64 E) := HX5.out.r 3 (by omega)
  have r4 : X5.cell? ⟨w.heap.size + 1, 4, none⟩ = some (.int .i64 U) := HX5.out.r 4 (by omega)
  have r5 : X5.cell? ⟨w.heap.size + 1, 5, none⟩ = some (.int .i64 k) := HX5.out.r 5 (by omega)
  go_wp2_with fail
  exact bodyPost_ret (v := .tuple #[.agg #[.int .i64 a, .int .i64 b, .int .i64 s, .int .i64 E, .int .i64 U, .int .i64 k], .bool true]) (by simp [results, Try.results27, go_sem, r0, r1, r2, r3, r4, r5]) rfl ⟨rfl, BX5.out⟩
/-- a feed behind n batches: both sides -/
theorem skipBoth (a b s e t k n : Int) (ha : bd a) (hb : bd b) (hs : bd s) (he : bd e) (ht : bd t) (hk : bd k) (hn : bd n) : ∃ (a' b' s' e' t' k' : Int) (o : Bool),
    (∀ w, Calls Try.prog 27 #[.agg #[.int .i64 a, .int .i64 b, .int .i64 s, .int .i64 e, .int .i64 t, .int .i64 k], .int .i64 n] w fun e w' => e = .returned (.tuple #[.agg #[.int .i64 a', .int .i64 b', .int .i64 s', .int .i64 e', .int .i64 t', .int .i64 k'], .bool o]) ∧ Below w.heap.size w w') ∧
    (∀ w, Calls Try.prog 28 #[.agg #[.int .i64 a, .int .i64 b, .int .i64 s, .int .i64 e, .int .i64 t, .int .i64 k], .int .i64 n] w fun e w' => e = .returned (.tuple #[.agg #[.int .i64 a', .int .i64 b', .int .i64 s', .int .i64 e', .int .i64 t', .int .i64 k'], .bool o]) ∧ Below w.heap.size w w') := by
  cases g1 : feOk a b s e t k
  · exact ⟨0, 0, 0, 0, 0, 0, false, fun w => sSki_no1 a b s e t k n w ha hb hs he ht hk hn g1, fun w => iSki_no1 a b s e t k n w ha hb hs he ht hk hn g1⟩
  cases g2 : decide (0 ≤ n ∧ n ≤ 1000000000000)
  · exact ⟨0, 0, 0, 0, 0, 0, false, fun w => sSki_no2 a b s e t k n w ha hb hs he ht hk hn g1 g2, fun w => iSki_no2 a b s e t k n w ha hb hs he ht hk hn g1 g2⟩
  obtain ⟨⟨a0, a1⟩, ⟨b0, b1⟩, -, ⟨e0, e1⟩, -, ⟨t0, t1⟩, tb⟩ := fe_of g1
  obtain ⟨n0, n1⟩ := of_decide_eq_true g2
  obtain ⟨Q, hQ⟩ : ∃ Q, a / b = Q := ⟨_, rfl⟩
  obtain ⟨D, hD⟩ : ∃ D, t / b = D := ⟨_, rfl⟩
  have q0 : 1 ≤ Q := by rw [← hQ]; exact Int.le_ediv_of_mul_le (by omega) (by omega)
  have q1 : Q ≤ 4096 := by rw [← hQ]; exact Int.le_trans (Int.ediv_le_self _ (by omega)) (by omega)
  have d0 : 0 ≤ D := by rw [← hD]; exact Int.ediv_nonneg t0 (by omega)
  have d1 : D ≤ 4096 := by rw [← hD]; exact Int.le_trans (Int.ediv_le_self _ (by omega)) (by omega)
  obtain ⟨X, hX⟩ : ∃ X, e * Q = X := ⟨_, rfl⟩
  have x0 : 0 ≤ X := by rw [← hX]; exact Int.mul_nonneg e0 (by omega)
  have x1 : X ≤ 4096000000 := by
    rw [← hX]
    calc e * Q ≤ 1000000 * Q := Int.mul_le_mul_of_nonneg_right e1 (by omega)
      _ ≤ 4096000000 := by omega
  obtain ⟨G, hG⟩ : ∃ G, (D + n) / Q = G := ⟨_, rfl⟩
  obtain ⟨R, hR⟩ : ∃ R, (D + n) % Q = R := ⟨_, rfl⟩
  have g0 : 0 ≤ G := by rw [← hG]; exact Int.ediv_nonneg (by omega) (by omega)
  have g3 : G ≤ 1000000004096 := by rw [← hG]; exact Int.le_trans (Int.ediv_le_self _ (by omega)) (by omega)
  have r0 : 0 ≤ R := by rw [← hR]; exact Int.emod_nonneg _ (by omega)
  have r1 : R < Q := by rw [← hR]; exact Int.emod_lt_of_pos _ (by omega)
  obtain ⟨U, hU⟩ : ∃ U, R * b = U := ⟨_, rfl⟩
  have u0 : 0 ≤ U := by rw [← hU]; exact Int.mul_nonneg r0 (by omega)
  have u1 : U ≤ 16777216 := by
    rw [← hU]
    calc R * b ≤ 4096 * b := Int.mul_le_mul_of_nonneg_right (by omega) (by omega)
      _ ≤ 16777216 := by omega
  have hZ : X + D + n = e * Q + (D + n) := by rw [hX]; omega
  have hE' : (X + D + n) / Q = e + G := by rw [hZ, Int.add_comm, Int.add_mul_ediv_right _ _ (by omega), hG]; omega
  have hR' : (X + D + n) % Q = R := by rw [hZ, Int.add_comm, Int.add_mul_emod_self_right, hR]
  by_cases c : 1000000 < e + G
  · exact ⟨0, 0, 0, 0, 0, 0, false, fun w => sSki_no3 a b s e t k n w ha hb hs he ht hk hn Q X D _ _ _ R U a0 a1 b0 b1 t0 (by omega) n0 n1 hQ hX hD rfl rfl hE' hR' hU q0 x0 x1 d0 d1 (by omega) u0 u1 c g1 g2, fun w => iSki_no3 a b s e t k n w ha hb hs he ht hk hn Q D _ G _ R U a0 a1 b0 b1 t0 (by omega) n0 n1 hQ hD rfl hG rfl hR hU q0 d0 d1 (by omega) g0 e0 e1 g3 u0 u1 c g1 g2⟩
  · exact ⟨a, b, s, e + G, U, k, true, fun w => sSki_yes a b s e t k n w ha hb hs he ht hk hn Q X D _ _ _ R U a0 a1 b0 b1 t0 (by omega) n0 n1 hQ hX hD rfl rfl hE' hR' hU q0 x0 x1 d0 d1 (by omega) u0 u1 (decide_eq_false c) g1 g2, fun w => iSki_yes a b s e t k n w ha hb hs he ht hk hn Q D _ G _ R U a0 a1 b0 b1 t0 (by omega) n0 n1 hQ hD rfl hG rfl hR hU q0 d0 d1 (by omega) g0 e0 e1 g3 u0 u1 (decide_eq_false c) g1 g2⟩
end Vo
end Go.Proofs.Ytcnopdonnjemmaa
