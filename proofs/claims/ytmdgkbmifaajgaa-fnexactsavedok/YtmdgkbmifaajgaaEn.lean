/- A rule's state in a law: measured, copied, compared (written by tools/gen15d.py). -/
import Derived.Test.YtmdgkbmifaajgaaEj
import Derived.Test.YtmdgkbmifaajgaaEf
import Derived.Test.YtmdgkbmifaajgaaVl
namespace Go.Proofs.Ytmdgkbmifaajgaa
namespace Vo
open Go.ChangeShapes Go.WideShapes Go.ChangeAt Go.RowKit Go.Joins Go.Sort
open Vl
set_option linter.unusedVariables false
set_option linter.unusedSimpArgs false
/-- a state of a rule in three lists and three numbers -/
def OVal (a b c : Option Addr) (r q s cap dap eap : Nat) (n f o : Int) : Value := .agg #[.slice a r cap, .slice b q dap, .slice c s eap, .int .i64 n, .int .i64 f, .int .i64 o]
/-- what comes of copying a state -/
def OCopy (r q s : Nat) (P Q S : Nat → Int) (n f o : Int) (w : World) (e : Ending) (w' : World) : Prop :=
  ∃ g1 g2 g3 : Nat, e = .returned (OVal (some ⟨g1, 0, none⟩) (some ⟨g2, 0, none⟩) (some ⟨g3, 0, none⟩) r q s r q s n f o) ∧ (w.heap.size ≤ g1 ∧ g1 < g2 ∧ g2 < g3 ∧ g3 < w'.heap.size) ∧ Rw w' g1 r P ∧ Rw w' g2 q Q ∧ Rw w' g3 s S ∧ Below w.heap.size w w'
set_option maxHeartbeats 1000000 in
theorem szOpt (a b c : Option Addr) (r q s cap dap eap : Nat) (n f o : Int) (w : World) (hr : (r : Int) ≤ 9223372036854775807) (hq : (q : Int) ≤ 9223372036854775807) (hs : (s : Int) ≤ 9223372036854775807) :
    Calls Try.prog 9 #[OVal a b c r q s cap dap eap n f o, .int .i64 1048576] w fun e w' => ∃ x : Int, e = .returned (.int .i64 x) ∧ (0 ≤ x → x ≤ 1048576 ∧ (r : Int) ≤ 1048576 ∧ (q : Int) ≤ 1048576 ∧ (s : Int) ≤ 1048576) ∧ Below w.heap.size w w' := by
  unfold OVal
  have bl := hide (show Below w.heap.size w (w.alloc (.cells #[.slice a r cap, .slice b q dap, .slice c s eap, .int .i64 n, .int .i64 f, .int .i64 o] 24)) from (Below.refl _ _).alloc (Nat.le_refl _) _)
  go_enter Try.func9, Try.ntmps9
  go_wp2_with fail
  refine (szIntS a r cap 1048576 _ (by decide) (by decide) hr).mono ?_; rintro e w1 ⟨x, rfl, hx, rfl⟩
  have HX := hide hx
  clear hx
  by_cases hx0 : x < 0
  · go_wp2_with fail
    go_ret
    exact ⟨_, rfl, fun h => by omega, bl.out⟩
  · have hx0' : decide (x < 0) = false := by rw [decide_eq_false_iff_not]; exact hx0
    have hxl : x ≤ 1048576 := by have := HX.out; unfold Sz at this; omega
    have hx1 : 0 ≤ x := by omega
    clear hx0
    go_wp2_with fail
    refine (szIntS b q dap x _ hx1 hxl hq).mono ?_; rintro e w1 ⟨y, rfl, hy, rfl⟩
    have HY := hide hy
    clear hy
    by_cases hy0 : y < 0
    · go_wp2_with fail
      go_ret
      exact ⟨_, rfl, fun h => by omega, bl.out⟩
    · have hy0' : decide (y < 0) = false := by rw [decide_eq_false_iff_not]; exact hy0
      have hyl : y ≤ 1048576 := by have := HX.out; have := HY.out; unfold Sz at *; omega
      have hy1 : 0 ≤ y := by omega
      clear hy0
      go_wp2_with fail
      refine (szIntS c s eap y _ hy1 hyl hs).mono ?_; rintro e w1 ⟨z, rfl, hz, rfl⟩
      have HZ := hide hz
      clear hz
      by_cases hz0 : z < 0
      · go_wp2_with fail
        go_ret
        exact ⟨_, rfl, fun h => by omega, bl.out⟩
      · have hz0' : decide (z < 0) = false := by rw [decide_eq_false_iff_not]; exact hz0
        have hf := hide (show z ≤ 1048576 ∧ (r : Int) ≤ 1048576 ∧ (q : Int) ≤ 1048576 ∧ (s : Int) ≤ 1048576 by have := HX.out; have := HY.out; have := HZ.out; unfold Sz at *; omega)
        clear hz0
        go_wp2_with fail
        go_ret
        exact ⟨_, rfl, fun _ => hf.out, bl.out⟩
set_option maxHeartbeats 2000000 in
theorem toOpt (B : Nat) (a b c : Option Addr) (r q s cap dap eap : Nat) (P Q S : Nat → Int) (n f o : Int) (w : World) (hB : B ≤ w.heap.size) (h1 : Ints B w a r P) (h2 : Ints B w b q Q) (h3 : Ints B w c s S) (hr : (r : Int) ≤ 1048576) (hq : (q : Int) ≤ 1048576) (hs : (s : Int) ≤ 1048576) :
    Calls Try.prog 12 #[OVal a b c r q s cap dap eap n f o] w (OCopy r q s P Q S n f o w) := by
  unfold OVal
  have H1 := hide h1
  have H2 := hide h2
  have H3 := hide h3
  clear h1 h2 h3
  have k0 := R3.new w #[.slice a r cap, .slice b q dap, .slice c s eap, .int .i64 n, .int .i64 f, .int .i64 o] #[.slice none 0 0, .slice none 0 0, .slice none 0 0, .int .i64 0, .int .i64 0, .int .i64 0] #[.slice none 0 0, .slice none 0 0, .slice none 0 0, .int .i64 0, .int .i64 0, .int .i64 0] 24 31 31 6 rfl rfl rfl
  obtain ⟨W0, hW0⟩ : ∃ W0, ((w.alloc (.cells #[.slice a r cap, .slice b q dap, .slice c s eap, .int .i64 n, .int .i64 f, .int .i64 o] 24)).alloc (.cells #[.slice none 0 0, .slice none 0 0, .slice none 0 0, .int .i64 0, .int .i64 0, .int .i64 0] 31)).alloc (.cells #[.slice none 0 0, .slice none 0 0, .slice none 0 0, .int .i64 0, .int .i64 0, .int .i64 0] 31) = W0 := ⟨_, rfl⟩
  rw [hW0] at k0
  have K0 := hide k0
  have BW0 := hide (show Below w.heap.size w W0 from hW0 ▸ (((Below.refl _ _).alloc (Nat.le_refl _) _).alloc (by simp) _).alloc (by simp; omega) _)
  clear k0
  have p0 : W0.cell? ⟨w.heap.size, 0, none⟩ = some (.slice a r cap) := K0.out.s 0 (by omega)
  go_enter Try.func12, Try.ntmps12
  go_wp2_with fail
  clear p0 hW0
  refine (toIntS B a r cap P _ (H1.out.below (BW0.out.mono hB)) (Nat.le_trans hB BW0.out.size) hr).mono ?_
  rintro e w1 ⟨rfl, q1, s1, b1⟩
  have Hw1 := hide (K0.out.below b1)
  have Bw1 := hide (BW0.out.trans (b1.mono BW0.out.size))
  have Q1 := hide q1
  have L1 := hide s1
  have M1 := hide (show w.heap.size + 1 + 1 < W0.heap.size from K0.out.z)
  clear q1 s1 b1
  obtain ⟨X1, hX1⟩ : ∃ X1, w1.setCell ⟨w.heap.size + 1 + 1, 0, none⟩ (.slice (some ⟨W0.heap.size, 0, none⟩) r r) = X1 := ⟨_, rfl⟩
  have HX1 := hide (show R3 6 X1 _ _ _ _ from hX1 ▸ Hw1.out.setO 0 (.slice (some ⟨W0.heap.size, 0, none⟩) r r) (by omega))
  obtain ⟨uX1, eX1⟩ : ∃ u, w1.cell? ⟨w.heap.size + 1 + 1, 0, none⟩ = some u := ⟨_, Hw1.out.o 0 (by omega)⟩
  have gX1 : w1.frozen? ⟨w.heap.size + 1 + 1, 0, none⟩ = false := Hw1.out.fo 0
  have BX1 := hide (show Below w.heap.size w X1 from hX1 ▸ Bw1.out.setCell (by show w.heap.size ≤ w.heap.size + 1 + 1; omega) _)
  have zX1 : X1.heap.size = w1.heap.size := by rw [← hX1]; simp [World.setCell]
  have ZX1 := hide zX1
  clear zX1
  replace Q1 := hide (hX1 ▸ Q1.out.kept (Kept.setCell w1 ⟨w.heap.size + 1 + 1, 0, none⟩ (.slice (some ⟨W0.heap.size, 0, none⟩) r r)) (by show ¬ W0.heap.size = w.heap.size + 1 + 1; have := M1.out; omega) : Rw X1 W0.heap.size r P)
  replace L1 := hide (show W0.heap.size < X1.heap.size by rw [ZX1.out]; exact L1.out)
  have O12 := L1
  have p1 : X1.cell? ⟨w.heap.size, 1, none⟩ = some (.slice b q dap) := HX1.out.s 1 (by omega)
  go_wp2_with fail
  clear p1 hX1 eX1 gX1
  refine (toIntS B b q dap Q _ (H2.out.below (BX1.out.mono hB)) (Nat.le_trans hB BX1.out.size) hq).mono ?_
  rintro e w2 ⟨rfl, q2, s2, b2⟩
  have Hw2 := hide (HX1.out.below b2)
  have Bw2 := hide (BX1.out.trans (b2.mono BX1.out.size))
  replace Q1 := hide (Q1.out.below b2 (Nat.lt_of_lt_of_le L1.out (Nat.le_refl _)))
  replace L1 := hide (Nat.lt_of_lt_of_le L1.out b2.size)
  have Q2 := hide q2
  have L2 := hide s2
  have M2 := hide (show w.heap.size + 1 + 1 < X1.heap.size from HX1.out.z)
  clear q2 s2 b2
  obtain ⟨X2, hX2⟩ : ∃ X2, w2.setCell ⟨w.heap.size + 1 + 1, 1, none⟩ (.slice (some ⟨X1.heap.size, 0, none⟩) q q) = X2 := ⟨_, rfl⟩
  have HX2 := hide (show R3 6 X2 _ _ _ _ from hX2 ▸ Hw2.out.setO 1 (.slice (some ⟨X1.heap.size, 0, none⟩) q q) (by omega))
  obtain ⟨uX2, eX2⟩ : ∃ u, w2.cell? ⟨w.heap.size + 1 + 1, 1, none⟩ = some u := ⟨_, Hw2.out.o 1 (by omega)⟩
  have gX2 : w2.frozen? ⟨w.heap.size + 1 + 1, 1, none⟩ = false := Hw2.out.fo 1
  have BX2 := hide (show Below w.heap.size w X2 from hX2 ▸ Bw2.out.setCell (by show w.heap.size ≤ w.heap.size + 1 + 1; omega) _)
  have zX2 : X2.heap.size = w2.heap.size := by rw [← hX2]; simp [World.setCell]
  have ZX2 := hide zX2
  clear zX2
  replace Q1 := hide (hX2 ▸ Q1.out.kept (Kept.setCell w2 ⟨w.heap.size + 1 + 1, 1, none⟩ (.slice (some ⟨X1.heap.size, 0, none⟩) q q)) (by show ¬ W0.heap.size = w.heap.size + 1 + 1; have := M1.out; omega) : Rw X2 W0.heap.size r P)
  replace L1 := hide (show W0.heap.size < X2.heap.size by rw [ZX2.out]; exact L1.out)
  replace Q2 := hide (hX2 ▸ Q2.out.kept (Kept.setCell w2 ⟨w.heap.size + 1 + 1, 1, none⟩ (.slice (some ⟨X1.heap.size, 0, none⟩) q q)) (by show ¬ X1.heap.size = w.heap.size + 1 + 1; have := M2.out; omega) : Rw X2 X1.heap.size q Q)
  replace L2 := hide (show X1.heap.size < X2.heap.size by rw [ZX2.out]; exact L2.out)
  have O23 := L2
  have p2 : X2.cell? ⟨w.heap.size, 2, none⟩ = some (.slice c s eap) := HX2.out.s 2 (by omega)
  go_wp2_with fail
  clear p2 hX2 eX2 gX2
  refine (toIntS B c s eap S _ (H3.out.below (BX2.out.mono hB)) (Nat.le_trans hB BX2.out.size) hs).mono ?_
  rintro e w3 ⟨rfl, q3, s3, b3⟩
  have Hw3 := hide (HX2.out.below b3)
  have Bw3 := hide (BX2.out.trans (b3.mono BX2.out.size))
  replace Q1 := hide (Q1.out.below b3 (Nat.lt_of_lt_of_le L1.out (Nat.le_refl _)))
  replace Q2 := hide (Q2.out.below b3 (Nat.lt_of_lt_of_le L2.out (Nat.le_refl _)))
  replace L1 := hide (Nat.lt_of_lt_of_le L1.out b3.size)
  replace L2 := hide (Nat.lt_of_lt_of_le L2.out b3.size)
  have Q3 := hide q3
  have L3 := hide s3
  have M3 := hide (show w.heap.size + 1 + 1 < X2.heap.size from HX2.out.z)
  clear q3 s3 b3
  obtain ⟨X3, hX3⟩ : ∃ X3, w3.setCell ⟨w.heap.size + 1 + 1, 2, none⟩ (.slice (some ⟨X2.heap.size, 0, none⟩) s s) = X3 := ⟨_, rfl⟩
  have HX3 := hide (show R3 6 X3 _ _ _ _ from hX3 ▸ Hw3.out.setO 2 (.slice (some ⟨X2.heap.size, 0, none⟩) s s) (by omega))
  obtain ⟨uX3, eX3⟩ : ∃ u, w3.cell? ⟨w.heap.size + 1 + 1, 2, none⟩ = some u := ⟨_, Hw3.out.o 2 (by omega)⟩
  have gX3 : w3.frozen? ⟨w.heap.size + 1 + 1, 2, none⟩ = false := Hw3.out.fo 2
  have BX3 := hide (show Below w.heap.size w X3 from hX3 ▸ Bw3.out.setCell (by show w.heap.size ≤ w.heap.size + 1 + 1; omega) _)
  have zX3 : X3.heap.size = w3.heap.size := by rw [← hX3]; simp [World.setCell]
  have ZX3 := hide zX3
  clear zX3
  replace Q1 := hide (hX3 ▸ Q1.out.kept (Kept.setCell w3 ⟨w.heap.size + 1 + 1, 2, none⟩ (.slice (some ⟨X2.heap.size, 0, none⟩) s s)) (by show ¬ W0.heap.size = w.heap.size + 1 + 1; have := M1.out; omega) : Rw X3 W0.heap.size r P)
  replace L1 := hide (show W0.heap.size < X3.heap.size by rw [ZX3.out]; exact L1.out)
  replace Q2 := hide (hX3 ▸ Q2.out.kept (Kept.setCell w3 ⟨w.heap.size + 1 + 1, 2, none⟩ (.slice (some ⟨X2.heap.size, 0, none⟩) s s)) (by show ¬ X1.heap.size = w.heap.size + 1 + 1; have := M2.out; omega) : Rw X3 X1.heap.size q Q)
  replace L2 := hide (show X1.heap.size < X3.heap.size by rw [ZX3.out]; exact L2.out)
  replace Q3 := hide (hX3 ▸ Q3.out.kept (Kept.setCell w3 ⟨w.heap.size + 1 + 1, 2, none⟩ (.slice (some ⟨X2.heap.size, 0, none⟩) s s)) (by show ¬ X2.heap.size = w.heap.size + 1 + 1; have := M3.out; omega) : Rw X3 X2.heap.size s S)
  replace L3 := hide (show X2.heap.size < X3.heap.size by rw [ZX3.out]; exact L3.out)
  obtain ⟨X4, hX4⟩ : ∃ X4, X3.setCell ⟨w.heap.size + 1 + 1, 3, none⟩ (.int .i64 n) = X4 := ⟨_, rfl⟩
  have HX4 := hide (show R3 6 X4 _ _ _ _ from hX4 ▸ HX3.out.setO 3 (.int .i64 n) (by omega))
  obtain ⟨uX4, eX4⟩ : ∃ u, X3.cell? ⟨w.heap.size + 1 + 1, 3, none⟩ = some u := ⟨_, HX3.out.o 3 (by omega)⟩
  have gX4 : X3.frozen? ⟨w.heap.size + 1 + 1, 3, none⟩ = false := HX3.out.fo 3
  have BX4 := hide (show Below w.heap.size w X4 from hX4 ▸ BX3.out.setCell (by show w.heap.size ≤ w.heap.size + 1 + 1; omega) _)
  have zX4 : X4.heap.size = X3.heap.size := by rw [← hX4]; simp [World.setCell]
  have ZX4 := hide zX4
  clear zX4
  obtain ⟨X5, hX5⟩ : ∃ X5, X4.setCell ⟨w.heap.size + 1 + 1, 4, none⟩ (.int .i64 f) = X5 := ⟨_, rfl⟩
  have HX5 := hide (show R3 6 X5 _ _ _ _ from hX5 ▸ HX4.out.setO 4 (.int .i64 f) (by omega))
  obtain ⟨uX5, eX5⟩ : ∃ u, X4.cell? ⟨w.heap.size + 1 + 1, 4, none⟩ = some u := ⟨_, HX4.out.o 4 (by omega)⟩
  have gX5 : X4.frozen? ⟨w.heap.size + 1 + 1, 4, none⟩ = false := HX4.out.fo 4
  have BX5 := hide (show Below w.heap.size w X5 from hX5 ▸ BX4.out.setCell (by show w.heap.size ≤ w.heap.size + 1 + 1; omega) _)
  have zX5 : X5.heap.size = X4.heap.size := by rw [← hX5]; simp [World.setCell]
  have ZX5 := hide zX5
  clear zX5
  obtain ⟨X6, hX6⟩ : ∃ X6, X5.setCell ⟨w.heap.size + 1 + 1, 5, none⟩ (.int .i64 o) = X6 := ⟨_, rfl⟩
  have HX6 := hide (show R3 6 X6 _ _ _ _ from hX6 ▸ HX5.out.setO 5 (.int .i64 o) (by omega))
  obtain ⟨uX6, eX6⟩ : ∃ u, X5.cell? ⟨w.heap.size + 1 + 1, 5, none⟩ = some u := ⟨_, HX5.out.o 5 (by omega)⟩
  have gX6 : X5.frozen? ⟨w.heap.size + 1 + 1, 5, none⟩ = false := HX5.out.fo 5
  have BX6 := hide (show Below w.heap.size w X6 from hX6 ▸ BX5.out.setCell (by show w.heap.size ≤ w.heap.size + 1 + 1; omega) _)
  have zX6 : X6.heap.size = X5.heap.size := by rw [← hX6]; simp [World.setCell]
  have ZX6 := hide zX6
  clear zX6
  have p3 : X3.cell? ⟨w.heap.size, 3, none⟩ = some (.int .i64 n) := HX3.out.s 3 (by omega)
  have p4 : X4.cell? ⟨w.heap.size, 4, none⟩ = some (.int .i64 f) := HX4.out.s 4 (by omega)
  have p5 : X5.cell? ⟨w.heap.size, 5, none⟩ = some (.int .i64 o) := HX5.out.s 5 (by omega)
  have o0 : X6.cell? ⟨w.heap.size + 1 + 1, 0, none⟩ = some (.slice (some ⟨W0.heap.size, 0, none⟩) r r) := HX6.out.o 0 (by omega)
  have o1 : X6.cell? ⟨w.heap.size + 1 + 1, 1, none⟩ = some (.slice (some ⟨X1.heap.size, 0, none⟩) q q) := HX6.out.o 1 (by omega)
  have o2 : X6.cell? ⟨w.heap.size + 1 + 1, 2, none⟩ = some (.slice (some ⟨X2.heap.size, 0, none⟩) s s) := HX6.out.o 2 (by omega)
  have o3 : X6.cell? ⟨w.heap.size + 1 + 1, 3, none⟩ = some (.int .i64 n) := HX6.out.o 3 (by omega)
  have o4 : X6.cell? ⟨w.heap.size + 1 + 1, 4, none⟩ = some (.int .i64 f) := HX6.out.o 4 (by omega)
  have o5 : X6.cell? ⟨w.heap.size + 1 + 1, 5, none⟩ = some (.int .i64 o) := HX6.out.o 5 (by omega)
  obtain ⟨Y0, hY0⟩ : ∃ Y0, X6.setCell ⟨w.heap.size + 1, 0, none⟩ (.slice (some ⟨W0.heap.size, 0, none⟩) r r) = Y0 := ⟨_, rfl⟩
  have HY0 := hide (show R3 6 Y0 _ _ _ _ from hY0 ▸ HX6.out.setR 0 (.slice (some ⟨W0.heap.size, 0, none⟩) r r) (by omega))
  obtain ⟨uY0, eY0⟩ : ∃ u, X6.cell? ⟨w.heap.size + 1, 0, none⟩ = some u := ⟨_, HX6.out.r 0 (by omega)⟩
  have gY0 : X6.frozen? ⟨w.heap.size + 1, 0, none⟩ = false := HX6.out.fr 0
  have BY0 := hide (show Below w.heap.size w Y0 from hY0 ▸ BX6.out.setCell (by show w.heap.size ≤ w.heap.size + 1; omega) _)
  have zY0 : Y0.heap.size = X6.heap.size := by rw [← hY0]; simp [World.setCell]
  have ZY0 := hide zY0
  clear zY0
  obtain ⟨Y1, hY1⟩ : ∃ Y1, Y0.setCell ⟨w.heap.size + 1, 1, none⟩ (.slice (some ⟨X1.heap.size, 0, none⟩) q q) = Y1 := ⟨_, rfl⟩
  have HY1 := hide (show R3 6 Y1 _ _ _ _ from hY1 ▸ HY0.out.setR 1 (.slice (some ⟨X1.heap.size, 0, none⟩) q q) (by omega))
  obtain ⟨uY1, eY1⟩ : ∃ u, Y0.cell? ⟨w.heap.size + 1, 1, none⟩ = some u := ⟨_, HY0.out.r 1 (by omega)⟩
  have gY1 : Y0.frozen? ⟨w.heap.size + 1, 1, none⟩ = false := HY0.out.fr 1
  have BY1 := hide (show Below w.heap.size w Y1 from hY1 ▸ BY0.out.setCell (by show w.heap.size ≤ w.heap.size + 1; omega) _)
  have zY1 : Y1.heap.size = Y0.heap.size := by rw [← hY1]; simp [World.setCell]
  have ZY1 := hide zY1
  clear zY1
  obtain ⟨Y2, hY2⟩ : ∃ Y2, Y1.setCell ⟨w.heap.size + 1, 2, none⟩ (.slice (some ⟨X2.heap.size, 0, none⟩) s s) = Y2 := ⟨_, rfl⟩
  have HY2 := hide (show R3 6 Y2 _ _ _ _ from hY2 ▸ HY1.out.setR 2 (.slice (some ⟨X2.heap.size, 0, none⟩) s s) (by omega))
  obtain ⟨uY2, eY2⟩ : ∃ u, Y1.cell? ⟨w.heap.size + 1, 2, none⟩ = some u := ⟨_, HY1.out.r 2 (by omega)⟩
  have gY2 : Y1.frozen? ⟨w.heap.size + 1, 2, none⟩ = false := HY1.out.fr 2
  have BY2 := hide (show Below w.heap.size w Y2 from hY2 ▸ BY1.out.setCell (by show w.heap.size ≤ w.heap.size + 1; omega) _)
  have zY2 : Y2.heap.size = Y1.heap.size := by rw [← hY2]; simp [World.setCell]
  have ZY2 := hide zY2
  clear zY2
  obtain ⟨Y3, hY3⟩ : ∃ Y3, Y2.setCell ⟨w.heap.size + 1, 3, none⟩ (.int .i64 n) = Y3 := ⟨_, rfl⟩
  have HY3 := hide (show R3 6 Y3 _ _ _ _ from hY3 ▸ HY2.out.setR 3 (.int .i64 n) (by omega))
  obtain ⟨uY3, eY3⟩ : ∃ u, Y2.cell? ⟨w.heap.size + 1, 3, none⟩ = some u := ⟨_, HY2.out.r 3 (by omega)⟩
  have gY3 : Y2.frozen? ⟨w.heap.size + 1, 3, none⟩ = false := HY2.out.fr 3
  have BY3 := hide (show Below w.heap.size w Y3 from hY3 ▸ BY2.out.setCell (by show w.heap.size ≤ w.heap.size + 1; omega) _)
  have zY3 : Y3.heap.size = Y2.heap.size := by rw [← hY3]; simp [World.setCell]
  have ZY3 := hide zY3
  clear zY3
  obtain ⟨Y4, hY4⟩ : ∃ Y4, Y3.setCell ⟨w.heap.size + 1, 4, none⟩ (.int .i64 f) = Y4 := ⟨_, rfl⟩
  have HY4 := hide (show R3 6 Y4 _ _ _ _ from hY4 ▸ HY3.out.setR 4 (.int .i64 f) (by omega))
  obtain ⟨uY4, eY4⟩ : ∃ u, Y3.cell? ⟨w.heap.size + 1, 4, none⟩ = some u := ⟨_, HY3.out.r 4 (by omega)⟩
  have gY4 : Y3.frozen? ⟨w.heap.size + 1, 4, none⟩ = false := HY3.out.fr 4
  have BY4 := hide (show Below w.heap.size w Y4 from hY4 ▸ BY3.out.setCell (by show w.heap.size ≤ w.heap.size + 1; omega) _)
  have zY4 : Y4.heap.size = Y3.heap.size := by rw [← hY4]; simp [World.setCell]
  have ZY4 := hide zY4
  clear zY4
  obtain ⟨Y5, hY5⟩ : ∃ Y5, Y4.setCell ⟨w.heap.size + 1, 5, none⟩ (.int .i64 o) = Y5 := ⟨_, rfl⟩
  have HY5 := hide (show R3 6 Y5 _ _ _ _ from hY5 ▸ HY4.out.setR 5 (.int .i64 o) (by omega))
  obtain ⟨uY5, eY5⟩ : ∃ u, Y4.cell? ⟨w.heap.size + 1, 5, none⟩ = some u := ⟨_, HY4.out.r 5 (by omega)⟩
  have gY5 : Y4.frozen? ⟨w.heap.size + 1, 5, none⟩ = false := HY4.out.fr 5
  have BY5 := hide (show Below w.heap.size w Y5 from hY5 ▸ BY4.out.setCell (by show w.heap.size ≤ w.heap.size + 1; omega) _)
  have zY5 : Y5.heap.size = Y4.heap.size := by rw [← hY5]; simp [World.setCell]
  have ZY5 := hide zY5
  clear zY5
  have r0 : Y5.cell? ⟨w.heap.size + 1, 0, none⟩ = some (.slice (some ⟨W0.heap.size, 0, none⟩) r r) := HY5.out.r 0 (by omega)
  have r1 : Y5.cell? ⟨w.heap.size + 1, 1, none⟩ = some (.slice (some ⟨X1.heap.size, 0, none⟩) q q) := HY5.out.r 1 (by omega)
  have r2 : Y5.cell? ⟨w.heap.size + 1, 2, none⟩ = some (.slice (some ⟨X2.heap.size, 0, none⟩) s s) := HY5.out.r 2 (by omega)
  have r3 : Y5.cell? ⟨w.heap.size + 1, 3, none⟩ = some (.int .i64 n) := HY5.out.r 3 (by omega)
  have r4 : Y5.cell? ⟨w.heap.size + 1, 4, none⟩ = some (.int .i64 f) := HY5.out.r 4 (by omega)
  have r5 : Y5.cell? ⟨w.heap.size + 1, 5, none⟩ = some (.int .i64 o) := HY5.out.r 5 (by omega)
  replace Q1 := hide (hX4 ▸ Q1.out.kept (Kept.setCell X3 ⟨w.heap.size + 1 + 1, 3, none⟩ (.int .i64 n)) (by show ¬ W0.heap.size = w.heap.size + 1 + 1; have := M1.out; omega) : Rw X4 W0.heap.size r P)
  replace Q2 := hide (hX4 ▸ Q2.out.kept (Kept.setCell X3 ⟨w.heap.size + 1 + 1, 3, none⟩ (.int .i64 n)) (by show ¬ X1.heap.size = w.heap.size + 1 + 1; have := M2.out; omega) : Rw X4 X1.heap.size q Q)
  replace Q3 := hide (hX4 ▸ Q3.out.kept (Kept.setCell X3 ⟨w.heap.size + 1 + 1, 3, none⟩ (.int .i64 n)) (by show ¬ X2.heap.size = w.heap.size + 1 + 1; have := M3.out; omega) : Rw X4 X2.heap.size s S)
  replace L3 := hide (show X2.heap.size < X4.heap.size by rw [ZX4.out]; exact L3.out)
  replace Q1 := hide (hX5 ▸ Q1.out.kept (Kept.setCell X4 ⟨w.heap.size + 1 + 1, 4, none⟩ (.int .i64 f)) (by show ¬ W0.heap.size = w.heap.size + 1 + 1; have := M1.out; omega) : Rw X5 W0.heap.size r P)
  replace Q2 := hide (hX5 ▸ Q2.out.kept (Kept.setCell X4 ⟨w.heap.size + 1 + 1, 4, none⟩ (.int .i64 f)) (by show ¬ X1.heap.size = w.heap.size + 1 + 1; have := M2.out; omega) : Rw X5 X1.heap.size q Q)
  replace Q3 := hide (hX5 ▸ Q3.out.kept (Kept.setCell X4 ⟨w.heap.size + 1 + 1, 4, none⟩ (.int .i64 f)) (by show ¬ X2.heap.size = w.heap.size + 1 + 1; have := M3.out; omega) : Rw X5 X2.heap.size s S)
  replace L3 := hide (show X2.heap.size < X5.heap.size by rw [ZX5.out]; exact L3.out)
  replace Q1 := hide (hX6 ▸ Q1.out.kept (Kept.setCell X5 ⟨w.heap.size + 1 + 1, 5, none⟩ (.int .i64 o)) (by show ¬ W0.heap.size = w.heap.size + 1 + 1; have := M1.out; omega) : Rw X6 W0.heap.size r P)
  replace Q2 := hide (hX6 ▸ Q2.out.kept (Kept.setCell X5 ⟨w.heap.size + 1 + 1, 5, none⟩ (.int .i64 o)) (by show ¬ X1.heap.size = w.heap.size + 1 + 1; have := M2.out; omega) : Rw X6 X1.heap.size q Q)
  replace Q3 := hide (hX6 ▸ Q3.out.kept (Kept.setCell X5 ⟨w.heap.size + 1 + 1, 5, none⟩ (.int .i64 o)) (by show ¬ X2.heap.size = w.heap.size + 1 + 1; have := M3.out; omega) : Rw X6 X2.heap.size s S)
  replace L3 := hide (show X2.heap.size < X6.heap.size by rw [ZX6.out]; exact L3.out)
  replace Q1 := hide (hY0 ▸ Q1.out.kept (Kept.setCell X6 ⟨w.heap.size + 1, 0, none⟩ (.slice (some ⟨W0.heap.size, 0, none⟩) r r)) (by show ¬ W0.heap.size = w.heap.size + 1; have := M1.out; omega) : Rw Y0 W0.heap.size r P)
  replace Q2 := hide (hY0 ▸ Q2.out.kept (Kept.setCell X6 ⟨w.heap.size + 1, 0, none⟩ (.slice (some ⟨W0.heap.size, 0, none⟩) r r)) (by show ¬ X1.heap.size = w.heap.size + 1; have := M2.out; omega) : Rw Y0 X1.heap.size q Q)
  replace Q3 := hide (hY0 ▸ Q3.out.kept (Kept.setCell X6 ⟨w.heap.size + 1, 0, none⟩ (.slice (some ⟨W0.heap.size, 0, none⟩) r r)) (by show ¬ X2.heap.size = w.heap.size + 1; have := M3.out; omega) : Rw Y0 X2.heap.size s S)
  replace L3 := hide (show X2.heap.size < Y0.heap.size by rw [ZY0.out]; exact L3.out)
  replace Q1 := hide (hY1 ▸ Q1.out.kept (Kept.setCell Y0 ⟨w.heap.size + 1, 1, none⟩ (.slice (some ⟨X1.heap.size, 0, none⟩) q q)) (by show ¬ W0.heap.size = w.heap.size + 1; have := M1.out; omega) : Rw Y1 W0.heap.size r P)
  replace Q2 := hide (hY1 ▸ Q2.out.kept (Kept.setCell Y0 ⟨w.heap.size + 1, 1, none⟩ (.slice (some ⟨X1.heap.size, 0, none⟩) q q)) (by show ¬ X1.heap.size = w.heap.size + 1; have := M2.out; omega) : Rw Y1 X1.heap.size q Q)
  replace Q3 := hide (hY1 ▸ Q3.out.kept (Kept.setCell Y0 ⟨w.heap.size + 1, 1, none⟩ (.slice (some ⟨X1.heap.size, 0, none⟩) q q)) (by show ¬ X2.heap.size = w.heap.size + 1; have := M3.out; omega) : Rw Y1 X2.heap.size s S)
  replace L3 := hide (show X2.heap.size < Y1.heap.size by rw [ZY1.out]; exact L3.out)
  replace Q1 := hide (hY2 ▸ Q1.out.kept (Kept.setCell Y1 ⟨w.heap.size + 1, 2, none⟩ (.slice (some ⟨X2.heap.size, 0, none⟩) s s)) (by show ¬ W0.heap.size = w.heap.size + 1; have := M1.out; omega) : Rw Y2 W0.heap.size r P)
  replace Q2 := hide (hY2 ▸ Q2.out.kept (Kept.setCell Y1 ⟨w.heap.size + 1, 2, none⟩ (.slice (some ⟨X2.heap.size, 0, none⟩) s s)) (by show ¬ X1.heap.size = w.heap.size + 1; have := M2.out; omega) : Rw Y2 X1.heap.size q Q)
  replace Q3 := hide (hY2 ▸ Q3.out.kept (Kept.setCell Y1 ⟨w.heap.size + 1, 2, none⟩ (.slice (some ⟨X2.heap.size, 0, none⟩) s s)) (by show ¬ X2.heap.size = w.heap.size + 1; have := M3.out; omega) : Rw Y2 X2.heap.size s S)
  replace L3 := hide (show X2.heap.size < Y2.heap.size by rw [ZY2.out]; exact L3.out)
  replace Q1 := hide (hY3 ▸ Q1.out.kept (Kept.setCell Y2 ⟨w.heap.size + 1, 3, none⟩ (.int .i64 n)) (by show ¬ W0.heap.size = w.heap.size + 1; have := M1.out; omega) : Rw Y3 W0.heap.size r P)
  replace Q2 := hide (hY3 ▸ Q2.out.kept (Kept.setCell Y2 ⟨w.heap.size + 1, 3, none⟩ (.int .i64 n)) (by show ¬ X1.heap.size = w.heap.size + 1; have := M2.out; omega) : Rw Y3 X1.heap.size q Q)
  replace Q3 := hide (hY3 ▸ Q3.out.kept (Kept.setCell Y2 ⟨w.heap.size + 1, 3, none⟩ (.int .i64 n)) (by show ¬ X2.heap.size = w.heap.size + 1; have := M3.out; omega) : Rw Y3 X2.heap.size s S)
  replace L3 := hide (show X2.heap.size < Y3.heap.size by rw [ZY3.out]; exact L3.out)
  replace Q1 := hide (hY4 ▸ Q1.out.kept (Kept.setCell Y3 ⟨w.heap.size + 1, 4, none⟩ (.int .i64 f)) (by show ¬ W0.heap.size = w.heap.size + 1; have := M1.out; omega) : Rw Y4 W0.heap.size r P)
  replace Q2 := hide (hY4 ▸ Q2.out.kept (Kept.setCell Y3 ⟨w.heap.size + 1, 4, none⟩ (.int .i64 f)) (by show ¬ X1.heap.size = w.heap.size + 1; have := M2.out; omega) : Rw Y4 X1.heap.size q Q)
  replace Q3 := hide (hY4 ▸ Q3.out.kept (Kept.setCell Y3 ⟨w.heap.size + 1, 4, none⟩ (.int .i64 f)) (by show ¬ X2.heap.size = w.heap.size + 1; have := M3.out; omega) : Rw Y4 X2.heap.size s S)
  replace L3 := hide (show X2.heap.size < Y4.heap.size by rw [ZY4.out]; exact L3.out)
  replace Q1 := hide (hY5 ▸ Q1.out.kept (Kept.setCell Y4 ⟨w.heap.size + 1, 5, none⟩ (.int .i64 o)) (by show ¬ W0.heap.size = w.heap.size + 1; have := M1.out; omega) : Rw Y5 W0.heap.size r P)
  replace Q2 := hide (hY5 ▸ Q2.out.kept (Kept.setCell Y4 ⟨w.heap.size + 1, 5, none⟩ (.int .i64 o)) (by show ¬ X1.heap.size = w.heap.size + 1; have := M2.out; omega) : Rw Y5 X1.heap.size q Q)
  replace Q3 := hide (hY5 ▸ Q3.out.kept (Kept.setCell Y4 ⟨w.heap.size + 1, 5, none⟩ (.int .i64 o)) (by show ¬ X2.heap.size = w.heap.size + 1; have := M3.out; omega) : Rw Y5 X2.heap.size s S)
  replace L3 := hide (show X2.heap.size < Y5.heap.size by rw [ZY5.out]; exact L3.out)
  have ORD := hide (show w.heap.size ≤ W0.heap.size ∧ W0.heap.size < X1.heap.size ∧ X1.heap.size < X2.heap.size by have := BW0.out.size; have := O12.out; have := O23.out; omega)
  go_wp2_with fail
  exact bodyPost_ret (v := .agg #[.slice (some ⟨W0.heap.size, 0, none⟩) r r, .slice (some ⟨X1.heap.size, 0, none⟩) q q, .slice (some ⟨X2.heap.size, 0, none⟩) s s, .int .i64 n, .int .i64 f, .int .i64 o]) (by simp [results, Try.results12, go_sem, r0, r1, r2, r3, r4, r5]) rfl ⟨W0.heap.size, X1.heap.size, X2.heap.size, rfl, ⟨ORD.out.1, ORD.out.2.1, ORD.out.2.2, L3.out⟩, Q1.out, Q2.out, Q3.out, BY5.out⟩
set_option maxHeartbeats 1000000 in
theorem eqOpt (B : Nat) (a b c a' b' c' : Option Addr) (r q s cap dap eap cap' dap' eap' : Nat) (P Q S P' Q' S' : Nat → Int) (n f o : Int) (w : World) (hB : B ≤ w.heap.size) (h1 : Ints B w a r P) (h2 : Ints B w b q Q) (h3 : Ints B w c s S) (k1 : Ints B w a' r P') (k2 : Ints B w b' q Q') (k3 : Ints B w c' s S')
    (e1 : ∀ j, j < r → P j = P' j) (e2 : ∀ j, j < q → Q j = Q' j) (e3 : ∀ j, j < s → S j = S' j) (hr : (r : Int) ≤ 1048576) (hq : (q : Int) ≤ 1048576) (hs : (s : Int) ≤ 1048576) :
    Calls Try.prog 16 #[OVal a b c r q s cap dap eap n f o, OVal a' b' c' r q s cap' dap' eap' n f o] w fun e w' => e = .returned (.bool true) ∧ Below w.heap.size w w' := by
  unfold OVal
  obtain ⟨W1, hW1⟩ : ∃ W1, w.alloc (.cells #[.slice a r cap, .slice b q dap, .slice c s eap, .int .i64 n, .int .i64 f, .int .i64 o] 31) = W1 := ⟨_, rfl⟩
  have m1 : Below w.heap.size w W1 := hW1 ▸ (Below.refl _ _).alloc (Nat.le_refl _) _
  have x1 : BoxV6 W1 w.heap.size (.slice a r cap) (.slice b q dap) (.slice c s eap) (.int .i64 n) (.int .i64 f) (.int .i64 o) := hW1 ▸ boxV6_new _ _ _ _ _ _ _ _
  obtain ⟨W2, hW2⟩ : ∃ W2, W1.alloc (.cells #[.slice a' r cap', .slice b' q dap', .slice c' s eap', .int .i64 n, .int .i64 f, .int .i64 o] 31) = W2 := ⟨_, rfl⟩
  have m2 : Below W1.heap.size W1 W2 := hW2 ▸ (Below.refl _ _).alloc (Nat.le_refl _) _
  have KB := hide (show BoxV6 W2 W1.heap.size (.slice a' r cap') (.slice b' q dap') (.slice c' s eap') (.int .i64 n) (.int .i64 f) (.int .i64 o) from hW2 ▸ boxV6_new _ _ _ _ _ _ _ _)
  have KA := hide (x1.below m2)
  have BL := hide (m1.trans (m2.mono m1.size))
  have H1 := hide h1
  have H2 := hide h2
  have H3 := hide h3
  have K1 := hide k1
  have K2 := hide k2
  have K3 := hide k3
  have E1 := hide e1
  have E2 := hide e2
  have E3 := hide e3
  clear h1 h2 h3 k1 k2 k3 e1 e2 e3 m1 m2 x1
  obtain ⟨-, cA0, cA1, cA2, cA3, cA4, cA5⟩ := KA.out
  obtain ⟨-, cB0, cB1, cB2, cB3, cB4, cB5⟩ := KB.out
  go_enter Try.func16, Try.ntmps16
  go_wp2_with fail
  refine (eqIntS B a a' r cap cap' P P' _ (H1.out.below (BL.out.mono hB)) (K1.out.below (BL.out.mono hB)) E1.out hr).mono ?_
  rintro e w1 ⟨rfl, q1⟩
  replace KA := hide (KA.out.below q1)
  replace KB := hide (KB.out.below q1)
  replace BL := hide (BL.out.trans (q1.mono BL.out.size))
  clear q1 cA0 cA1 cA2 cA3 cA4 cA5 cB0 cB1 cB2 cB3 cB4 cB5 hW1 hW2
  obtain ⟨-, cA0, cA1, cA2, cA3, cA4, cA5⟩ := KA.out
  obtain ⟨-, cB0, cB1, cB2, cB3, cB4, cB5⟩ := KB.out
  go_wp2_with fail
  refine (eqIntS B b b' q dap dap' Q Q' _ (H2.out.below (BL.out.mono hB)) (K2.out.below (BL.out.mono hB)) E2.out hq).mono ?_
  rintro e w2 ⟨rfl, q2⟩
  replace KA := hide (KA.out.below q2)
  replace KB := hide (KB.out.below q2)
  replace BL := hide (BL.out.trans (q2.mono BL.out.size))
  clear q2 cA0 cA1 cA2 cA3 cA4 cA5 cB0 cB1 cB2 cB3 cB4 cB5
  obtain ⟨-, cA0, cA1, cA2, cA3, cA4, cA5⟩ := KA.out
  obtain ⟨-, cB0, cB1, cB2, cB3, cB4, cB5⟩ := KB.out
  go_wp2_with fail
  refine (eqIntS B c c' s eap eap' S S' _ (H3.out.below (BL.out.mono hB)) (K3.out.below (BL.out.mono hB)) E3.out hs).mono ?_
  rintro e w3 ⟨rfl, q3⟩
  replace KA := hide (KA.out.below q3)
  replace KB := hide (KB.out.below q3)
  replace BL := hide (BL.out.trans (q3.mono BL.out.size))
  clear q3 cA0 cA1 cA2 cA3 cA4 cA5 cB0 cB1 cB2 cB3 cB4 cB5
  obtain ⟨-, cA0, cA1, cA2, cA3, cA4, cA5⟩ := KA.out
  obtain ⟨-, cB0, cB1, cB2, cB3, cB4, cB5⟩ := KB.out
  go_wp2_with fail
  go_ret
  exact ⟨rfl, BL.out⟩
end Vo
end Go.Proofs.Ytmdgkbmifaajgaa
