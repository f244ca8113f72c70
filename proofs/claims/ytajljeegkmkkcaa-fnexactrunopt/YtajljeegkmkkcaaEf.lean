/- Arguments: schedules and rules (written by tools/gen15.py). -/
import Derived.Test.YtajljeegkmkkcaaEc
import Derived.Test.YtajljeegkmkkcaaAr
namespace Go.Proofs.Ytajljeegkmkkcaa
namespace Vo
open Go.ChangeShapes Go.WideShapes Go.ChangeAt Go.RowKit Go.Joins Go.Sort
open Vl
set_option linter.unusedVariables false
set_option linter.unusedSimpArgs false
/-- a variable that came in, one that goes out and the answer's: blocks p, p + 2, p + 1 of n cells -/
structure R3 (n : Nat) (w : World) (p : Nat) (S O R : Nat → Value) : Prop where
  s : ∀ i, i < n → w.cell? ⟨p, i, none⟩ = some (S i)
  o : ∀ i, i < n → w.cell? ⟨p + 1 + 1, i, none⟩ = some (O i)
  r : ∀ i, i < n → w.cell? ⟨p + 1, i, none⟩ = some (R i)
  fo : ∀ i, w.frozen? ⟨p + 1 + 1, i, none⟩ = false
  fr : ∀ i, w.frozen? ⟨p + 1, i, none⟩ = false
  z : p + 1 + 1 < w.heap.size
def upv (f : Nat → Value) (k : Nat) (x : Value) (i : Nat) : Value := if i = k then x else f i
theorem cell_oth {w : World} {b i c j : Nat} {v : Value} (n : ¬ (c = b ∧ j = i)) : (w.setCell ⟨b, i, none⟩ v).cell? ⟨c, j, none⟩ = w.cell? ⟨c, j, none⟩ :=
  World.cell?_setCell_other _ _ _ _ (fun q => by cases q; exact n ⟨rfl, rfl⟩)
theorem R3.setO {n p : Nat} {w : World} {S O R : Nat → Value} (h : R3 n w p S O R) (k : Nat) (x : Value) (hk : k < n) : R3 n (w.setCell ⟨p + 1 + 1, k, none⟩ x) p S (upv O k x) R where
  s i hi := by rw [cell_oth (by omega)]; exact h.s i hi
  o i hi := by
    unfold upv
    by_cases c : i = k
    · subst c; rw [if_pos rfl]; exact World.cell?_setCell_same _ _ _ (h.o i hi)
    · rw [if_neg c, cell_oth (by omega)]; exact h.o i hi
  r i hi := by rw [cell_oth (by omega)]; exact h.r i hi
  fo i := by rw [World.frozen?_setCell]; exact h.fo i
  fr i := by rw [World.frozen?_setCell]; exact h.fr i
  z := by simpa [World.setCell] using h.z
theorem R3.setR {n p : Nat} {w : World} {S O R : Nat → Value} (h : R3 n w p S O R) (k : Nat) (x : Value) (hk : k < n) : R3 n (w.setCell ⟨p + 1, k, none⟩ x) p S O (upv R k x) where
  s i hi := by rw [cell_oth (by omega)]; exact h.s i hi
  r i hi := by
    unfold upv
    by_cases c : i = k
    · subst c; rw [if_pos rfl]; exact World.cell?_setCell_same _ _ _ (h.r i hi)
    · rw [if_neg c, cell_oth (by omega)]; exact h.r i hi
  o i hi := by rw [cell_oth (by omega)]; exact h.o i hi
  fo i := by rw [World.frozen?_setCell]; exact h.fo i
  fr i := by rw [World.frozen?_setCell]; exact h.fr i
  z := by simpa [World.setCell] using h.z
theorem R3.below {n p : Nat} {w w' : World} {S O R : Nat → Value} (h : R3 n w p S O R) (b : Below w.heap.size w w') : R3 n w' p S O R where
  s i hi := by have := h.z; rw [b.cell (p := ⟨p, i, none⟩) (by show p < _; omega)]; exact h.s i hi
  o i hi := by have := h.z; rw [b.cell (p := ⟨p + 1 + 1, i, none⟩) (by show p + 1 + 1 < _; omega)]; exact h.o i hi
  r i hi := by have := h.z; rw [b.cell (p := ⟨p + 1, i, none⟩) (by show p + 1 < _; omega)]; exact h.r i hi
  fo i := (b.frozen (p := ⟨p + 1 + 1, i, none⟩) h.z).trans (h.fo i)
  fr i := (b.frozen (p := ⟨p + 1, i, none⟩) (by have := h.z; show p + 1 < _; omega)).trans (h.fr i)
  z := Nat.lt_of_lt_of_le h.z b.size
theorem R3.new (w : World) (S O R : Array Value) (t u v : TypeId) (n : Nat) (hS : S.size = n) (hO : O.size = n) (hR : R.size = n) : R3 n (((w.alloc (.cells S t)).alloc (.cells R u)).alloc (.cells O v)) w.heap.size (fun i => S.getD i undef) (fun i => O.getD i undef) (fun i => R.getD i undef) where
  s i hi := by simp [go_sem, Array.getD, hS, hi]
  o i hi := by simp [go_sem, Array.getD, hO, hi]
  r i hi := by simp [go_sem, Array.getD, hR, hi]
  fo i := by simp [go_sem]
  fr i := by simp [go_sem]
  z := by simp
set_option maxHeartbeats 1000000 in
theorem toRule (d p l m n k z o y s g : Int) (w : World) :
    Calls Try.prog 7 #[.agg #[.int .i64 d, .int .i64 p, .int .i64 l, .int .i64 m, .int .i64 n, .int .i64 k, .int .i64 z, .int .i64 o, .int .i64 y, .int .i64 s, .int .i64 g]] w fun e w' => e = .returned (.agg #[.int .i64 d, .int .i64 p, .int .i64 l, .int .i64 m, .int .i64 n, .int .i64 k, .int .i64 z, .int .i64 o, .int .i64 y, .int .i64 s, .int .i64 g]) ∧ Below w.heap.size w w' := by
  have k0 := R3.new w #[.int .i64 d, .int .i64 p, .int .i64 l, .int .i64 m, .int .i64 n, .int .i64 k, .int .i64 z, .int .i64 o, .int .i64 y, .int .i64 s, .int .i64 g] #[.int .i64 d, .int .i64 0, .int .i64 0, .int .i64 0, .int .i64 0, .int .i64 0, .int .i64 0, .int .i64 0, .int .i64 0, .int .i64 0, .int .i64 0] #[.int .i64 0, .int .i64 0, .int .i64 0, .int .i64 0, .int .i64 0, .int .i64 0, .int .i64 0, .int .i64 0, .int .i64 0, .int .i64 0, .int .i64 0] 25 35 35 11 rfl rfl rfl
  obtain ⟨W0, hW0⟩ : ∃ W0, ((w.alloc (.cells #[.int .i64 d, .int .i64 p, .int .i64 l, .int .i64 m, .int .i64 n, .int .i64 k, .int .i64 z, .int .i64 o, .int .i64 y, .int .i64 s, .int .i64 g] 25)).alloc (.cells #[.int .i64 0, .int .i64 0, .int .i64 0, .int .i64 0, .int .i64 0, .int .i64 0, .int .i64 0, .int .i64 0, .int .i64 0, .int .i64 0, .int .i64 0] 35)).alloc (.cells #[.int .i64 d, .int .i64 0, .int .i64 0, .int .i64 0, .int .i64 0, .int .i64 0, .int .i64 0, .int .i64 0, .int .i64 0, .int .i64 0, .int .i64 0] 35) = W0 := ⟨_, rfl⟩
  rw [hW0] at k0
  have K0 := hide k0
  have BL := hide (show Below w.heap.size w W0 from hW0 ▸ (((Below.refl _ _).alloc (Nat.le_refl _) _).alloc (by simp) _).alloc (by simp; omega) _)
  clear k0
  have p0 : W0.cell? ⟨w.heap.size, 0, none⟩ = some (.int .i64 d) := K0.out.s 0 (by omega)
  have p1 : W0.cell? ⟨w.heap.size, 1, none⟩ = some (.int .i64 p) := K0.out.s 1 (by omega)
  have p2 : W0.cell? ⟨w.heap.size, 2, none⟩ = some (.int .i64 l) := K0.out.s 2 (by omega)
  have p3 : W0.cell? ⟨w.heap.size, 3, none⟩ = some (.int .i64 m) := K0.out.s 3 (by omega)
  have p4 : W0.cell? ⟨w.heap.size, 4, none⟩ = some (.int .i64 n) := K0.out.s 4 (by omega)
  have p5 : W0.cell? ⟨w.heap.size, 5, none⟩ = some (.int .i64 k) := K0.out.s 5 (by omega)
  have p6 : W0.cell? ⟨w.heap.size, 6, none⟩ = some (.int .i64 z) := K0.out.s 6 (by omega)
  have p7 : W0.cell? ⟨w.heap.size, 7, none⟩ = some (.int .i64 o) := K0.out.s 7 (by omega)
  have p8 : W0.cell? ⟨w.heap.size, 8, none⟩ = some (.int .i64 y) := K0.out.s 8 (by omega)
  have p9 : W0.cell? ⟨w.heap.size, 9, none⟩ = some (.int .i64 s) := K0.out.s 9 (by omega)
  have p10 : W0.cell? ⟨w.heap.size, 10, none⟩ = some (.int .i64 g) := K0.out.s 10 (by omega)
  go_enter Try.func7, Try.ntmps7
  go_wp2_with fail
  clear p0 p1 p2 p3 p4 p5 p6 p7 p8 p9 p10
  refine (toSched p l m n _).mono ?_
  rintro e1 w1 ⟨rfl, q1⟩
  have H0 := hide (K0.out.below q1)
  replace BL := hide (BL.out.trans (q1.mono BL.out.size))
  clear q1 hW0 K0
  obtain ⟨X1, hX1⟩ : ∃ X1, w1.setCell ⟨w.heap.size + 1 + 1, 1, none⟩ (.int .i64 p) = X1 := ⟨_, rfl⟩
  have HX1 := hide (show R3 11 X1 _ _ _ _ from hX1 ▸ H0.out.setO 1 (.int .i64 p) (by omega))
  have eX1 : ∃ u, w1.cell? ⟨w.heap.size + 1 + 1, 1, none⟩ = some u := ⟨_, H0.out.o 1 (by omega)⟩
  have gX1 : w1.frozen? ⟨w.heap.size + 1 + 1, 1, none⟩ = false := H0.out.fo 1
  obtain ⟨X2, hX2⟩ : ∃ X2, X1.setCell ⟨w.heap.size + 1 + 1, 2, none⟩ (.int .i64 l) = X2 := ⟨_, rfl⟩
  have HX2 := hide (show R3 11 X2 _ _ _ _ from hX2 ▸ HX1.out.setO 2 (.int .i64 l) (by omega))
  have eX2 : ∃ u, X1.cell? ⟨w.heap.size + 1 + 1, 2, none⟩ = some u := ⟨_, HX1.out.o 2 (by omega)⟩
  have gX2 : X1.frozen? ⟨w.heap.size + 1 + 1, 2, none⟩ = false := HX1.out.fo 2
  obtain ⟨X3, hX3⟩ : ∃ X3, X2.setCell ⟨w.heap.size + 1 + 1, 3, none⟩ (.int .i64 m) = X3 := ⟨_, rfl⟩
  have HX3 := hide (show R3 11 X3 _ _ _ _ from hX3 ▸ HX2.out.setO 3 (.int .i64 m) (by omega))
  have eX3 : ∃ u, X2.cell? ⟨w.heap.size + 1 + 1, 3, none⟩ = some u := ⟨_, HX2.out.o 3 (by omega)⟩
  have gX3 : X2.frozen? ⟨w.heap.size + 1 + 1, 3, none⟩ = false := HX2.out.fo 3
  obtain ⟨X4, hX4⟩ : ∃ X4, X3.setCell ⟨w.heap.size + 1 + 1, 4, none⟩ (.int .i64 n) = X4 := ⟨_, rfl⟩
  have HX4 := hide (show R3 11 X4 _ _ _ _ from hX4 ▸ HX3.out.setO 4 (.int .i64 n) (by omega))
  have eX4 : ∃ u, X3.cell? ⟨w.heap.size + 1 + 1, 4, none⟩ = some u := ⟨_, HX3.out.o 4 (by omega)⟩
  have gX4 : X3.frozen? ⟨w.heap.size + 1 + 1, 4, none⟩ = false := HX3.out.fo 4
  obtain ⟨X5, hX5⟩ : ∃ X5, X4.setCell ⟨w.heap.size + 1 + 1, 5, none⟩ (.int .i64 k) = X5 := ⟨_, rfl⟩
  have HX5 := hide (show R3 11 X5 _ _ _ _ from hX5 ▸ HX4.out.setO 5 (.int .i64 k) (by omega))
  have eX5 : ∃ u, X4.cell? ⟨w.heap.size + 1 + 1, 5, none⟩ = some u := ⟨_, HX4.out.o 5 (by omega)⟩
  have gX5 : X4.frozen? ⟨w.heap.size + 1 + 1, 5, none⟩ = false := HX4.out.fo 5
  obtain ⟨X6, hX6⟩ : ∃ X6, X5.setCell ⟨w.heap.size + 1 + 1, 6, none⟩ (.int .i64 z) = X6 := ⟨_, rfl⟩
  have HX6 := hide (show R3 11 X6 _ _ _ _ from hX6 ▸ HX5.out.setO 6 (.int .i64 z) (by omega))
  have eX6 : ∃ u, X5.cell? ⟨w.heap.size + 1 + 1, 6, none⟩ = some u := ⟨_, HX5.out.o 6 (by omega)⟩
  have gX6 : X5.frozen? ⟨w.heap.size + 1 + 1, 6, none⟩ = false := HX5.out.fo 6
  obtain ⟨X7, hX7⟩ : ∃ X7, X6.setCell ⟨w.heap.size + 1 + 1, 7, none⟩ (.int .i64 o) = X7 := ⟨_, rfl⟩
  have HX7 := hide (show R3 11 X7 _ _ _ _ from hX7 ▸ HX6.out.setO 7 (.int .i64 o) (by omega))
  have eX7 : ∃ u, X6.cell? ⟨w.heap.size + 1 + 1, 7, none⟩ = some u := ⟨_, HX6.out.o 7 (by omega)⟩
  have gX7 : X6.frozen? ⟨w.heap.size + 1 + 1, 7, none⟩ = false := HX6.out.fo 7
  obtain ⟨X8, hX8⟩ : ∃ X8, X7.setCell ⟨w.heap.size + 1 + 1, 8, none⟩ (.int .i64 y) = X8 := ⟨_, rfl⟩
  have HX8 := hide (show R3 11 X8 _ _ _ _ from hX8 ▸ HX7.out.setO 8 (.int .i64 y) (by omega))
  have eX8 : ∃ u, X7.cell? ⟨w.heap.size + 1 + 1, 8, none⟩ = some u := ⟨_, HX7.out.o 8 (by omega)⟩
  have gX8 : X7.frozen? ⟨w.heap.size + 1 + 1, 8, none⟩ = false := HX7.out.fo 8
  obtain ⟨X9, hX9⟩ : ∃ X9, X8.setCell ⟨w.heap.size + 1 + 1, 9, none⟩ (.int .i64 s) = X9 := ⟨_, rfl⟩
  have HX9 := hide (show R3 11 X9 _ _ _ _ from hX9 ▸ HX8.out.setO 9 (.int .i64 s) (by omega))
  have eX9 : ∃ u, X8.cell? ⟨w.heap.size + 1 + 1, 9, none⟩ = some u := ⟨_, HX8.out.o 9 (by omega)⟩
  have gX9 : X8.frozen? ⟨w.heap.size + 1 + 1, 9, none⟩ = false := HX8.out.fo 9
  obtain ⟨X10, hX10⟩ : ∃ X10, X9.setCell ⟨w.heap.size + 1 + 1, 10, none⟩ (.int .i64 g) = X10 := ⟨_, rfl⟩
  have HX10 := hide (show R3 11 X10 _ _ _ _ from hX10 ▸ HX9.out.setO 10 (.int .i64 g) (by omega))
  have eX10 : ∃ u, X9.cell? ⟨w.heap.size + 1 + 1, 10, none⟩ = some u := ⟨_, HX9.out.o 10 (by omega)⟩
  have gX10 : X9.frozen? ⟨w.heap.size + 1 + 1, 10, none⟩ = false := HX9.out.fo 10
  have s5 : X4.cell? ⟨w.heap.size, 5, none⟩ = some (.int .i64 k) := HX4.out.s 5 (by omega)
  have s6 : X5.cell? ⟨w.heap.size, 6, none⟩ = some (.int .i64 z) := HX5.out.s 6 (by omega)
  have s7 : X6.cell? ⟨w.heap.size, 7, none⟩ = some (.int .i64 o) := HX6.out.s 7 (by omega)
  have s8 : X7.cell? ⟨w.heap.size, 8, none⟩ = some (.int .i64 y) := HX7.out.s 8 (by omega)
  have s9 : X8.cell? ⟨w.heap.size, 9, none⟩ = some (.int .i64 s) := HX8.out.s 9 (by omega)
  have s10 : X9.cell? ⟨w.heap.size, 10, none⟩ = some (.int .i64 g) := HX9.out.s 10 (by omega)
  have o0 : X10.cell? ⟨w.heap.size + 1 + 1, 0, none⟩ = some (.int .i64 d) := HX10.out.o 0 (by omega)
  have o1 : X10.cell? ⟨w.heap.size + 1 + 1, 1, none⟩ = some (.int .i64 p) := HX10.out.o 1 (by omega)
  have o2 : X10.cell? ⟨w.heap.size + 1 + 1, 2, none⟩ = some (.int .i64 l) := HX10.out.o 2 (by omega)
  have o3 : X10.cell? ⟨w.heap.size + 1 + 1, 3, none⟩ = some (.int .i64 m) := HX10.out.o 3 (by omega)
  have o4 : X10.cell? ⟨w.heap.size + 1 + 1, 4, none⟩ = some (.int .i64 n) := HX10.out.o 4 (by omega)
  have o5 : X10.cell? ⟨w.heap.size + 1 + 1, 5, none⟩ = some (.int .i64 k) := HX10.out.o 5 (by omega)
  have o6 : X10.cell? ⟨w.heap.size + 1 + 1, 6, none⟩ = some (.int .i64 z) := HX10.out.o 6 (by omega)
  have o7 : X10.cell? ⟨w.heap.size + 1 + 1, 7, none⟩ = some (.int .i64 o) := HX10.out.o 7 (by omega)
  have o8 : X10.cell? ⟨w.heap.size + 1 + 1, 8, none⟩ = some (.int .i64 y) := HX10.out.o 8 (by omega)
  have o9 : X10.cell? ⟨w.heap.size + 1 + 1, 9, none⟩ = some (.int .i64 s) := HX10.out.o 9 (by omega)
  have o10 : X10.cell? ⟨w.heap.size + 1 + 1, 10, none⟩ = some (.int .i64 g) := HX10.out.o 10 (by omega)
  obtain ⟨Y0, hY0⟩ : ∃ Y0, X10.setCell ⟨w.heap.size + 1, 0, none⟩ (.int .i64 d) = Y0 := ⟨_, rfl⟩
  have HY0 := hide (show R3 11 Y0 _ _ _ _ from hY0 ▸ HX10.out.setR 0 (.int .i64 d) (by omega))
  have eY0 : ∃ u, X10.cell? ⟨w.heap.size + 1, 0, none⟩ = some u := ⟨_, HX10.out.r 0 (by omega)⟩
  have gY0 : X10.frozen? ⟨w.heap.size + 1, 0, none⟩ = false := HX10.out.fr 0
  obtain ⟨Y1, hY1⟩ : ∃ Y1, Y0.setCell ⟨w.heap.size + 1, 1, none⟩ (.int .i64 p) = Y1 := ⟨_, rfl⟩
  have HY1 := hide (show R3 11 Y1 _ _ _ _ from hY1 ▸ HY0.out.setR 1 (.int .i64 p) (by omega))
  have eY1 : ∃ u, Y0.cell? ⟨w.heap.size + 1, 1, none⟩ = some u := ⟨_, HY0.out.r 1 (by omega)⟩
  have gY1 : Y0.frozen? ⟨w.heap.size + 1, 1, none⟩ = false := HY0.out.fr 1
  obtain ⟨Y2, hY2⟩ : ∃ Y2, Y1.setCell ⟨w.heap.size + 1, 2, none⟩ (.int .i64 l) = Y2 := ⟨_, rfl⟩
  have HY2 := hide (show R3 11 Y2 _ _ _ _ from hY2 ▸ HY1.out.setR 2 (.int .i64 l) (by omega))
  have eY2 : ∃ u, Y1.cell? ⟨w.heap.size + 1, 2, none⟩ = some u := ⟨_, HY1.out.r 2 (by omega)⟩
  have gY2 : Y1.frozen? ⟨w.heap.size + 1, 2, none⟩ = false := HY1.out.fr 2
  obtain ⟨Y3, hY3⟩ : ∃ Y3, Y2.setCell ⟨w.heap.size + 1, 3, none⟩ (.int .i64 m) = Y3 := ⟨_, rfl⟩
  have HY3 := hide (show R3 11 Y3 _ _ _ _ from hY3 ▸ HY2.out.setR 3 (.int .i64 m) (by omega))
  have eY3 : ∃ u, Y2.cell? ⟨w.heap.size + 1, 3, none⟩ = some u := ⟨_, HY2.out.r 3 (by omega)⟩
  have gY3 : Y2.frozen? ⟨w.heap.size + 1, 3, none⟩ = false := HY2.out.fr 3
  obtain ⟨Y4, hY4⟩ : ∃ Y4, Y3.setCell ⟨w.heap.size + 1, 4, none⟩ (.int .i64 n) = Y4 := ⟨_, rfl⟩
  have HY4 := hide (show R3 11 Y4 _ _ _ _ from hY4 ▸ HY3.out.setR 4 (.int .i64 n) (by omega))
  have eY4 : ∃ u, Y3.cell? ⟨w.heap.size + 1, 4, none⟩ = some u := ⟨_, HY3.out.r 4 (by omega)⟩
  have gY4 : Y3.frozen? ⟨w.heap.size + 1, 4, none⟩ = false := HY3.out.fr 4
  obtain ⟨Y5, hY5⟩ : ∃ Y5, Y4.setCell ⟨w.heap.size + 1, 5, none⟩ (.int .i64 k) = Y5 := ⟨_, rfl⟩
  have HY5 := hide (show R3 11 Y5 _ _ _ _ from hY5 ▸ HY4.out.setR 5 (.int .i64 k) (by omega))
  have eY5 : ∃ u, Y4.cell? ⟨w.heap.size + 1, 5, none⟩ = some u := ⟨_, HY4.out.r 5 (by omega)⟩
  have gY5 : Y4.frozen? ⟨w.heap.size + 1, 5, none⟩ = false := HY4.out.fr 5
  obtain ⟨Y6, hY6⟩ : ∃ Y6, Y5.setCell ⟨w.heap.size + 1, 6, none⟩ (.int .i64 z) = Y6 := ⟨_, rfl⟩
  have HY6 := hide (show R3 11 Y6 _ _ _ _ from hY6 ▸ HY5.out.setR 6 (.int .i64 z) (by omega))
  have eY6 : ∃ u, Y5.cell? ⟨w.heap.size + 1, 6, none⟩ = some u := ⟨_, HY5.out.r 6 (by omega)⟩
  have gY6 : Y5.frozen? ⟨w.heap.size + 1, 6, none⟩ = false := HY5.out.fr 6
  obtain ⟨Y7, hY7⟩ : ∃ Y7, Y6.setCell ⟨w.heap.size + 1, 7, none⟩ (.int .i64 o) = Y7 := ⟨_, rfl⟩
  have HY7 := hide (show R3 11 Y7 _ _ _ _ from hY7 ▸ HY6.out.setR 7 (.int .i64 o) (by omega))
  have eY7 : ∃ u, Y6.cell? ⟨w.heap.size + 1, 7, none⟩ = some u := ⟨_, HY6.out.r 7 (by omega)⟩
  have gY7 : Y6.frozen? ⟨w.heap.size + 1, 7, none⟩ = false := HY6.out.fr 7
  obtain ⟨Y8, hY8⟩ : ∃ Y8, Y7.setCell ⟨w.heap.size + 1, 8, none⟩ (.int .i64 y) = Y8 := ⟨_, rfl⟩
  have HY8 := hide (show R3 11 Y8 _ _ _ _ from hY8 ▸ HY7.out.setR 8 (.int .i64 y) (by omega))
  have eY8 : ∃ u, Y7.cell? ⟨w.heap.size + 1, 8, none⟩ = some u := ⟨_, HY7.out.r 8 (by omega)⟩
  have gY8 : Y7.frozen? ⟨w.heap.size + 1, 8, none⟩ = false := HY7.out.fr 8
  obtain ⟨Y9, hY9⟩ : ∃ Y9, Y8.setCell ⟨w.heap.size + 1, 9, none⟩ (.int .i64 s) = Y9 := ⟨_, rfl⟩
  have HY9 := hide (show R3 11 Y9 _ _ _ _ from hY9 ▸ HY8.out.setR 9 (.int .i64 s) (by omega))
  have eY9 : ∃ u, Y8.cell? ⟨w.heap.size + 1, 9, none⟩ = some u := ⟨_, HY8.out.r 9 (by omega)⟩
  have gY9 : Y8.frozen? ⟨w.heap.size + 1, 9, none⟩ = false := HY8.out.fr 9
  obtain ⟨Y10, hY10⟩ : ∃ Y10, Y9.setCell ⟨w.heap.size + 1, 10, none⟩ (.int .i64 g) = Y10 := ⟨_, rfl⟩
  have HY10 := hide (show R3 11 Y10 _ _ _ _ from hY10 ▸ HY9.out.setR 10 (.int .i64 g) (by omega))
  have eY10 : ∃ u, Y9.cell? ⟨w.heap.size + 1, 10, none⟩ = some u := ⟨_, HY9.out.r 10 (by omega)⟩
  have gY10 : Y9.frozen? ⟨w.heap.size + 1, 10, none⟩ = false := HY9.out.fr 10
  have r0 : Y10.cell? ⟨w.heap.size + 1, 0, none⟩ = some (.int .i64 d) := HY10.out.r 0 (by omega)
  have r1 : Y10.cell? ⟨w.heap.size + 1, 1, none⟩ = some (.int .i64 p) := HY10.out.r 1 (by omega)
  have r2 : Y10.cell? ⟨w.heap.size + 1, 2, none⟩ = some (.int .i64 l) := HY10.out.r 2 (by omega)
  have r3 : Y10.cell? ⟨w.heap.size + 1, 3, none⟩ = some (.int .i64 m) := HY10.out.r 3 (by omega)
  have r4 : Y10.cell? ⟨w.heap.size + 1, 4, none⟩ = some (.int .i64 n) := HY10.out.r 4 (by omega)
  have r5 : Y10.cell? ⟨w.heap.size + 1, 5, none⟩ = some (.int .i64 k) := HY10.out.r 5 (by omega)
  have r6 : Y10.cell? ⟨w.heap.size + 1, 6, none⟩ = some (.int .i64 z) := HY10.out.r 6 (by omega)
  have r7 : Y10.cell? ⟨w.heap.size + 1, 7, none⟩ = some (.int .i64 o) := HY10.out.r 7 (by omega)
  have r8 : Y10.cell? ⟨w.heap.size + 1, 8, none⟩ = some (.int .i64 y) := HY10.out.r 8 (by omega)
  have r9 : Y10.cell? ⟨w.heap.size + 1, 9, none⟩ = some (.int .i64 s) := HY10.out.r 9 (by omega)
  have r10 : Y10.cell? ⟨w.heap.size + 1, 10, none⟩ = some (.int .i64 g) := HY10.out.r 10 (by omega)
  have BX1 := hide (show Below w.heap.size w X1 from hX1 ▸ BL.out.setCell (by show w.heap.size ≤ w.heap.size + 1 + 1; omega) _)
  have BX2 := hide (show Below w.heap.size w X2 from hX2 ▸ BX1.out.setCell (by show w.heap.size ≤ w.heap.size + 1 + 1; omega) _)
  have BX3 := hide (show Below w.heap.size w X3 from hX3 ▸ BX2.out.setCell (by show w.heap.size ≤ w.heap.size + 1 + 1; omega) _)
  have BX4 := hide (show Below w.heap.size w X4 from hX4 ▸ BX3.out.setCell (by show w.heap.size ≤ w.heap.size + 1 + 1; omega) _)
  have BX5 := hide (show Below w.heap.size w X5 from hX5 ▸ BX4.out.setCell (by show w.heap.size ≤ w.heap.size + 1 + 1; omega) _)
  have BX6 := hide (show Below w.heap.size w X6 from hX6 ▸ BX5.out.setCell (by show w.heap.size ≤ w.heap.size + 1 + 1; omega) _)
  have BX7 := hide (show Below w.heap.size w X7 from hX7 ▸ BX6.out.setCell (by show w.heap.size ≤ w.heap.size + 1 + 1; omega) _)
  have BX8 := hide (show Below w.heap.size w X8 from hX8 ▸ BX7.out.setCell (by show w.heap.size ≤ w.heap.size + 1 + 1; omega) _)
  have BX9 := hide (show Below w.heap.size w X9 from hX9 ▸ BX8.out.setCell (by show w.heap.size ≤ w.heap.size + 1 + 1; omega) _)
  have BX10 := hide (show Below w.heap.size w X10 from hX10 ▸ BX9.out.setCell (by show w.heap.size ≤ w.heap.size + 1 + 1; omega) _)
  have BY0 := hide (show Below w.heap.size w Y0 from hY0 ▸ BX10.out.setCell (by show w.heap.size ≤ w.heap.size + 1; omega) _)
  have BY1 := hide (show Below w.heap.size w Y1 from hY1 ▸ BY0.out.setCell (by show w.heap.size ≤ w.heap.size + 1; omega) _)
  have BY2 := hide (show Below w.heap.size w Y2 from hY2 ▸ BY1.out.setCell (by show w.heap.size ≤ w.heap.size + 1; omega) _)
  have BY3 := hide (show Below w.heap.size w Y3 from hY3 ▸ BY2.out.setCell (by show w.heap.size ≤ w.heap.size + 1; omega) _)
  have BY4 := hide (show Below w.heap.size w Y4 from hY4 ▸ BY3.out.setCell (by show w.heap.size ≤ w.heap.size + 1; omega) _)
  have BY5 := hide (show Below w.heap.size w Y5 from hY5 ▸ BY4.out.setCell (by show w.heap.size ≤ w.heap.size + 1; omega) _)
  have BY6 := hide (show Below w.heap.size w Y6 from hY6 ▸ BY5.out.setCell (by show w.heap.size ≤ w.heap.size + 1; omega) _)
  have BY7 := hide (show Below w.heap.size w Y7 from hY7 ▸ BY6.out.setCell (by show w.heap.size ≤ w.heap.size + 1; omega) _)
  have BY8 := hide (show Below w.heap.size w Y8 from hY8 ▸ BY7.out.setCell (by show w.heap.size ≤ w.heap.size + 1; omega) _)
  have BY9 := hide (show Below w.heap.size w Y9 from hY9 ▸ BY8.out.setCell (by show w.heap.size ≤ w.heap.size + 1; omega) _)
  have BY10 := hide (show Below w.heap.size w Y10 from hY10 ▸ BY9.out.setCell (by show w.heap.size ≤ w.heap.size + 1; omega) _)
  obtain ⟨uX1, eX1⟩ := eX1
  obtain ⟨uX2, eX2⟩ := eX2
  obtain ⟨uX3, eX3⟩ := eX3
  obtain ⟨uX4, eX4⟩ := eX4
  obtain ⟨uX5, eX5⟩ := eX5
  obtain ⟨uX6, eX6⟩ := eX6
  obtain ⟨uX7, eX7⟩ := eX7
  obtain ⟨uX8, eX8⟩ := eX8
  obtain ⟨uX9, eX9⟩ := eX9
  obtain ⟨uX10, eX10⟩ := eX10
  obtain ⟨uY0, eY0⟩ := eY0
  obtain ⟨uY1, eY1⟩ := eY1
  obtain ⟨uY2, eY2⟩ := eY2
  obtain ⟨uY3, eY3⟩ := eY3
  obtain ⟨uY4, eY4⟩ := eY4
  obtain ⟨uY5, eY5⟩ := eY5
  obtain ⟨uY6, eY6⟩ := eY6
  obtain ⟨uY7, eY7⟩ := eY7
  obtain ⟨uY8, eY8⟩ := eY8
  obtain ⟨uY9, eY9⟩ := eY9
  obtain ⟨uY10, eY10⟩ := eY10
  go_wp2_with fail
  exact bodyPost_ret (v := .agg #[.int .i64 d, .int .i64 p, .int .i64 l, .int .i64 m, .int .i64 n, .int .i64 k, .int .i64 z, .int .i64 o, .int .i64 y, .int .i64 s, .int .i64 g]) (by simp [results, Try.results7, go_sem, r0, r1, r2, r3, r4, r5, r6, r7, r8, r9, r10]) rfl ⟨rfl, BY10.out⟩
theorem sched_of {H : Type} {enc : TypeId × Value → H} {w : World} {base : Nat} {spare : Nat → Bool} {held : Bool} {fuel : Nat} {c0 c1 c2 c3 : Value} {x : DataW H × List MemPlace} (h : DataW.trod enc Try.prog w base spare held fuel 23 [c0, c1, c2, c3] = some x) :
    ∃ p l m n : Int, (c0 = .int .i64 p ∧ c1 = .int .i64 l ∧ c2 = .int .i64 m ∧ c3 = .int .i64 n) ∧ bd p ∧ bd l ∧ bd m ∧ bd n := by
  obtain ⟨y0, n0, q0⟩ := field_of Try.underlying23 h 0 _ rfl 1 (by kernel_rfl)
  have q0 : DataW.trod enc Try.prog w base spare held n0 3 [c0] = some y0 := q0
  obtain ⟨u0, rfl, hu0⟩ := int_of q0
  obtain ⟨y1, n1, q1⟩ := field_of Try.underlying23 h 1 _ rfl 1 (by kernel_rfl)
  have q1 : DataW.trod enc Try.prog w base spare held n1 3 [c1] = some y1 := q1
  obtain ⟨u1, rfl, hu1⟩ := int_of q1
  obtain ⟨y2, n2, q2⟩ := field_of Try.underlying23 h 2 _ rfl 1 (by kernel_rfl)
  have q2 : DataW.trod enc Try.prog w base spare held n2 3 [c2] = some y2 := q2
  obtain ⟨u2, rfl, hu2⟩ := int_of q2
  obtain ⟨y3, n3, q3⟩ := field_of Try.underlying23 h 3 _ rfl 1 (by kernel_rfl)
  have q3 : DataW.trod enc Try.prog w base spare held n3 3 [c3] = some y3 := q3
  obtain ⟨u3, rfl, hu3⟩ := int_of q3
  exact ⟨u0, u1, u2, u3, ⟨rfl, rfl, rfl, rfl⟩, hu0, hu1, hu2, hu3⟩
theorem sched_at {H : Type} {enc : TypeId × Value → H} {w : World} {base : Nat} {spare : Nat → Bool} {held : Bool} {b0 : Nat} {v : Value} {d : DataW H} {q : List MemPlace} (hv : Value.okWide Try.prog w .any b0 23 v) (h : DataW.Trod enc Try.prog w base spare held 23 v d q) :
    ∃ u0 u1 u2 u3 : Int, v = .agg #[.int .i64 u0, .int .i64 u1, .int .i64 u2, .int .i64 u3] ∧ bd u0 ∧ bd u1 ∧ bd u2 ∧ bd u3 := by
  obtain ⟨cs, rfl, hsz⟩ := okWide_struct Try.underlying23 hv
  have hC : Try.prog.cellsOf 23 = 4 := by kernel_rfl
  obtain ⟨l⟩ := cs
  match l, hsz.trans hC with
  | [c0, c1, c2, c3], _ =>
    obtain ⟨fuel, hf⟩ := h
    obtain ⟨u0, u1, u2, u3, ⟨rfl, rfl, rfl, rfl⟩, hu0, hu1, hu2, hu3⟩ := sched_of (by simpa [Value.cells] using hf)
    exact ⟨u0, u1, u2, u3, rfl, hu0, hu1, hu2, hu3⟩
theorem rule_of {H : Type} {enc : TypeId × Value → H} {w : World} {base : Nat} {spare : Nat → Bool} {held : Bool} {fuel : Nat} {c0 c1 c2 c3 c4 c5 c6 c7 c8 c9 c10 : Value} {x : DataW H × List MemPlace} (h : DataW.trod enc Try.prog w base spare held fuel 25 [c0, c1, c2, c3, c4, c5, c6, c7, c8, c9, c10] = some x) :
    ∃ d p l m n k z o y s g : Int, (c0 = .int .i64 d ∧ c1 = .int .i64 p ∧ c2 = .int .i64 l ∧ c3 = .int .i64 m ∧ c4 = .int .i64 n ∧ c5 = .int .i64 k ∧ c6 = .int .i64 z ∧ c7 = .int .i64 o ∧ c8 = .int .i64 y ∧ c9 = .int .i64 s ∧ c10 = .int .i64 g) ∧ bd d ∧ bd p ∧ bd l ∧ bd m ∧ bd n ∧ bd k ∧ bd z ∧ bd o ∧ bd y ∧ bd s ∧ bd g := by
  obtain ⟨y0, n0, q0⟩ := field_of Try.underlying25 h 0 _ rfl 1 (by kernel_rfl)
  have q0 : DataW.trod enc Try.prog w base spare held n0 3 [c0] = some y0 := q0
  obtain ⟨u0, rfl, hu0⟩ := int_of q0
  obtain ⟨y1, n1, q1⟩ := field_of Try.underlying25 h 1 _ rfl 4 (by kernel_rfl)
  have q1 : DataW.trod enc Try.prog w base spare held n1 23 [c1, c2, c3, c4] = some y1 := q1
  obtain ⟨u1, u2, u3, u4, ⟨rfl, rfl, rfl, rfl⟩, hu1, hu2, hu3, hu4⟩ := sched_of q1
  obtain ⟨y2, n2, q2⟩ := field_of Try.underlying25 h 2 _ rfl 1 (by kernel_rfl)
  have q2 : DataW.trod enc Try.prog w base spare held n2 3 [c5] = some y2 := q2
  obtain ⟨u5, rfl, hu5⟩ := int_of q2
  obtain ⟨y3, n3, q3⟩ := field_of Try.underlying25 h 3 _ rfl 1 (by kernel_rfl)
  have q3 : DataW.trod enc Try.prog w base spare held n3 3 [c6] = some y3 := q3
  obtain ⟨u6, rfl, hu6⟩ := int_of q3
  obtain ⟨y4, n4, q4⟩ := field_of Try.underlying25 h 4 _ rfl 1 (by kernel_rfl)
  have q4 : DataW.trod enc Try.prog w base spare held n4 3 [c7] = some y4 := q4
  obtain ⟨u7, rfl, hu7⟩ := int_of q4
  obtain ⟨y5, n5, q5⟩ := field_of Try.underlying25 h 5 _ rfl 1 (by kernel_rfl)
  have q5 : DataW.trod enc Try.prog w base spare held n5 3 [c8] = some y5 := q5
  obtain ⟨u8, rfl, hu8⟩ := int_of q5
  obtain ⟨y6, n6, q6⟩ := field_of Try.underlying25 h 6 _ rfl 1 (by kernel_rfl)
  have q6 : DataW.trod enc Try.prog w base spare held n6 3 [c9] = some y6 := q6
  obtain ⟨u9, rfl, hu9⟩ := int_of q6
  obtain ⟨y7, n7, q7⟩ := field_of Try.underlying25 h 7 _ rfl 1 (by kernel_rfl)
  have q7 : DataW.trod enc Try.prog w base spare held n7 3 [c10] = some y7 := q7
  obtain ⟨u10, rfl, hu10⟩ := int_of q7
  exact ⟨u0, u1, u2, u3, u4, u5, u6, u7, u8, u9, u10, ⟨rfl, rfl, rfl, rfl, rfl, rfl, rfl, rfl, rfl, rfl, rfl⟩, hu0, hu1, hu2, hu3, hu4, hu5, hu6, hu7, hu8, hu9, hu10⟩
theorem rule_at {H : Type} {enc : TypeId × Value → H} {w : World} {base : Nat} {spare : Nat → Bool} {held : Bool} {b0 : Nat} {v : Value} {d : DataW H} {q : List MemPlace} (hv : Value.okWide Try.prog w .any b0 25 v) (h : DataW.Trod enc Try.prog w base spare held 25 v d q) :
    ∃ u0 u1 u2 u3 u4 u5 u6 u7 u8 u9 u10 : Int, v = .agg #[.int .i64 u0, .int .i64 u1, .int .i64 u2, .int .i64 u3, .int .i64 u4, .int .i64 u5, .int .i64 u6, .int .i64 u7, .int .i64 u8, .int .i64 u9, .int .i64 u10] ∧ bd u0 ∧ bd u1 ∧ bd u2 ∧ bd u3 ∧ bd u4 ∧ bd u5 ∧ bd u6 ∧ bd u7 ∧ bd u8 ∧ bd u9 ∧ bd u10 := by
  obtain ⟨cs, rfl, hsz⟩ := okWide_struct Try.underlying25 hv
  have hC : Try.prog.cellsOf 25 = 11 := by kernel_rfl
  obtain ⟨l⟩ := cs
  match l, hsz.trans hC with
  | [c0, c1, c2, c3, c4, c5, c6, c7, c8, c9, c10], _ =>
    obtain ⟨fuel, hf⟩ := h
    obtain ⟨u0, u1, u2, u3, u4, u5, u6, u7, u8, u9, u10, ⟨rfl, rfl, rfl, rfl, rfl, rfl, rfl, rfl, rfl, rfl, rfl⟩, hu0, hu1, hu2, hu3, hu4, hu5, hu6, hu7, hu8, hu9, hu10⟩ := rule_of (by simpa [Value.cells] using hf)
    exact ⟨u0, u1, u2, u3, u4, u5, u6, u7, u8, u9, u10, rfl, hu0, hu1, hu2, hu3, hu4, hu5, hu6, hu7, hu8, hu9, hu10⟩
end Vo
end Go.Proofs.Ytajljeegkmkkcaa
