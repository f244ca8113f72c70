/- Lemmas for the proof of the law. -/
import Derived.Test.YtajljeegkmkkcaaEj
import Derived.Test.YtajljeegkmkkcaaEf
import Derived.Test.YtajljeegkmkkcaaVl
import Derived.Test.YtajljeegkmkkcaaOm
import Derived.Test.YtajljeegkmkkcaaRhc
import Derived.Test.YtajljeegkmkkcaaVn
import Derived.Test.YtajljeegkmkkcaaAr
import Derived.Test.YtajljeegkmkkcaaQf
/- A rule's state in a law: measured, copied, compared (written by tools/gen15d.py). -/
namespace Go.Proofs.Ytajljeegkmkkcaa
namespace Vo
open Go.ChangeShapes Go.WideShapes Go.ChangeAt Go.RowKit Go.Joins Go.Sort
open Vl
set_option linter.unusedVariables false
set_option linter.unusedSimpArgs false
/-- a state of a rule in three lists and three numbers -/
def OVal (a b c : Option Addr) (r q s cap dap eap : Nat) (n f o : Int) : Value := .agg #[.slice a r cap, .slice b q dap, .slice c s eap, .int .i64 n, .int .i64 f, .int .i64 o]
/-- what comes of copying a state -/
def OCopy (r q s : Nat) (P Q S : Nat → Int) (n f o : Int) (w : World) (e : Ending) (w' : World) : Prop :=
  ∃ g1 g2 g3 : Nat, e = .returned (OVal (some ⟨g1, 0, none⟩) (some ⟨g2, 0, none⟩) (some ⟨g3, 0, none⟩) r q s r q s n f o) ∧ (w.heap.size ≤ g1 ∧ g1 < g2 ∧ g2 < g3 ∧ g3 < w'.heap.size) ∧ Rw w' g1 r P ∧ Rw w' g2 q Q ∧ Rw w' g3 s S ∧ Below w.heap.size w w'
set_option maxHeartbeats 1000000 in
theorem szOpt (a b c : Option Addr) (r q s cap dap eap : Nat) (n f o : Int) (w : World) (hr : (r : Int) ≤ 9223372036854775807) (hq : (q : Int) ≤ 9223372036854775807) (hs : (s : Int) ≤ 9223372036854775807) :
    Calls Try.prog 5 #[OVal a b c r q s cap dap eap n f o, .int .i64 1048576] w fun e w' => ∃ x : Int, e = .returned (.int .i64 x) ∧ (0 ≤ x → x ≤ 1048576 ∧ (r : Int) ≤ 1048576 ∧ (q : Int) ≤ 1048576 ∧ (s : Int) ≤ 1048576) ∧ Below w.heap.size w w' := by
  unfold OVal
  have bl := hide (show Below w.heap.size w (w.alloc (.cells #[.slice a r cap, .slice b q dap, .slice c s eap, .int .i64 n, .int .i64 f, .int .i64 o] 28)) from (Below.refl _ _).alloc (Nat.le_refl _) _)
  go_enter Try.func5, Try.ntmps5
  go_wp2_with fail
  refine (szIntS a r cap 1048576 _ (by decide) (by decide) hr).mono ?_; rintro e w1 ⟨x, rfl, hx, rfl⟩
  have HX := hide hx
  clear hx
  by_cases hx0 : x < 0
  · go_wp2_with fail
    go_ret
    exact ⟨_, rfl, fun h => by omega, bl.out⟩
  · have hx0' : decide (x < 0) = false := by rw [decide_eq_false_iff_not]; exact hx0
    have hxl : x ≤ 1048576 := by have := HX.out; unfold Sz at this; omega
    have hx1 : 0 ≤ x := by omega
    clear hx0
    go_wp2_with fail
    refine (szIntS b q dap x _ hx1 hxl hq).mono ?_; rintro e w1 ⟨y, rfl, hy, rfl⟩
    have HY := hide hy
    clear hy
    by_cases hy0 : y < 0
    · go_wp2_with fail
      go_ret
      exact ⟨_, rfl, fun h => by omega, bl.out⟩
    · have hy0' : decide (y < 0) = false := by rw [decide_eq_false_iff_not]; exact hy0
      have hyl : y ≤ 1048576 := by have := HX.out; have := HY.out; unfold Sz at *; omega
      have hy1 : 0 ≤ y := by omega
      clear hy0
      go_wp2_with fail
      refine (szIntS c s eap y _ hy1 hyl hs).mono ?_; rintro e w1 ⟨z, rfl, hz, rfl⟩
      have HZ := hide hz
      clear hz
      by_cases hz0 : z < 0
      · go_wp2_with fail
        go_ret
        exact ⟨_, rfl, fun h => by omega, bl.out⟩
      · have hz0' : decide (z < 0) = false := by rw [decide_eq_false_iff_not]; exact hz0
        have hf := hide (show z ≤ 1048576 ∧ (r : Int) ≤ 1048576 ∧ (q : Int) ≤ 1048576 ∧ (s : Int) ≤ 1048576 by have := HX.out; have := HY.out; have := HZ.out; unfold Sz at *; omega)
        clear hz0
        go_wp2_with fail
        go_ret
        exact ⟨_, rfl, fun _ => hf.out, bl.out⟩
set_option maxHeartbeats 2000000 in
theorem toOpt (B : Nat) (a b c : Option Addr) (r q s cap dap eap : Nat) (P Q S : Nat → Int) (n f o : Int) (w : World) (hB : B ≤ w.heap.size) (h1 : Ints B w a r P) (h2 : Ints B w b q Q) (h3 : Ints B w c s S) (hr : (r : Int) ≤ 1048576) (hq : (q : Int) ≤ 1048576) (hs : (s : Int) ≤ 1048576) :
    Calls Try.prog 8 #[OVal a b c r q s cap dap eap n f o] w (OCopy r q s P Q S n f o w) := by
  unfold OVal
  have H1 := hide h1
  have H2 := hide h2
  have H3 := hide h3
  clear h1 h2 h3
  have k0 := R3.new w #[.slice a r cap, .slice b q dap, .slice c s eap, .int .i64 n, .int .i64 f, .int .i64 o] #[.slice none 0 0, .slice none 0 0, .slice none 0 0, .int .i64 0, .int .i64 0, .int .i64 0] #[.slice none 0 0, .slice none 0 0, .slice none 0 0, .int .i64 0, .int .i64 0, .int .i64 0] 28 30 30 6 rfl rfl rfl
  obtain ⟨W0, hW0⟩ : ∃ W0, ((w.alloc (.cells #[.slice a r cap, .slice b q dap, .slice c s eap, .int .i64 n, .int .i64 f, .int .i64 o] 28)).alloc (.cells #[.slice none 0 0, .slice none 0 0, .slice none 0 0, .int .i64 0, .int .i64 0, .int .i64 0] 30)).alloc (.cells #[.slice none 0 0, .slice none 0 0, .slice none 0 0, .int .i64 0, .int .i64 0, .int .i64 0] 30) = W0 := ⟨_, rfl⟩
  rw [hW0] at k0
  have K0 := hide k0
  have BW0 := hide (show Below w.heap.size w W0 from hW0 ▸ (((Below.refl _ _).alloc (Nat.le_refl _) _).alloc (by simp) _).alloc (by simp; omega) _)
  clear k0
  have p0 : W0.cell? ⟨w.heap.size, 0, none⟩ = some (.slice a r cap) := K0.out.s 0 (by omega)
  go_enter Try.func8, Try.ntmps8
  go_wp2_with fail
  clear p0 hW0
  refine (toIntS B a r cap P _ (H1.out.below (BW0.out.mono hB)) (Nat.le_trans hB BW0.out.size) hr).mono ?_
  rintro e w1 ⟨rfl, q1, s1, b1⟩
  have Hw1 := hide (K0.out.below b1)
  have Bw1 := hide (BW0.out.trans (b1.mono BW0.out.size))
  have Q1 := hide q1
  have L1 := hide s1
  have M1 := hide (show w.heap.size + 1 + 1 < W0.heap.size from K0.out.z)
  clear q1 s1 b1
  obtain ⟨X1, hX1⟩ : ∃ X1, w1.setCell ⟨w.heap.size + 1 + 1, 0, none⟩ (.slice (some ⟨W0.heap.size, 0, none⟩) r r) = X1 := ⟨_, rfl⟩
  have HX1 := hide (show R3 6 X1 _ _ _ _ from hX1 ▸ Hw1.out.setO 0 (.slice (some ⟨W0.heap.size, 0, none⟩) r r) (by omega))
  obtain ⟨uX1, eX1⟩ : ∃ u, w1.cell? ⟨w.heap.size + 1 + 1, 0, none⟩ = some u := ⟨_, Hw1.out.o 0 (by omega)⟩
  have gX1 : w1.frozen? ⟨w.heap.size + 1 + 1, 0, none⟩ = false := Hw1.out.fo 0
  have BX1 := hide (show Below w.heap.size w X1 from hX1 ▸ Bw1.out.setCell (by show w.heap.size ≤ w.heap.size + 1 + 1; omega) _)
  have zX1 : X1.heap.size = w1.heap.size := by rw [← hX1]; simp [World.setCell]
  have ZX1 := hide zX1
  clear zX1
  replace Q1 := hide (hX1 ▸ Q1.out.kept (Kept.setCell w1 ⟨w.heap.size + 1 + 1, 0, none⟩ (.slice (some ⟨W0.heap.size, 0, none⟩) r r)) (by show ¬ W0.heap.size = w.heap.size + 1 + 1; have := M1.out; omega) : Rw X1 W0.heap.size r P)
  replace L1 := hide (show W0.heap.size < X1.heap.size by rw [ZX1.out]; exact L1.out)
  have O12 := L1
  have p1 : X1.cell? ⟨w.heap.size, 1, none⟩ = some (.slice b q dap) := HX1.out.s 1 (by omega)
  go_wp2_with fail
  clear p1 hX1 eX1 gX1
  refine (toIntS B b q dap Q _ (H2.out.below (BX1.out.mono hB)) (Nat.le_trans hB BX1.out.size) hq).mono ?_
  rintro e w2 ⟨rfl, q2, s2, b2⟩
  have Hw2 := hide (HX1.out.below b2)
  have Bw2 := hide (BX1.out.trans (b2.mono BX1.out.size))
  replace Q1 := hide (Q1.out.below b2 (Nat.lt_of_lt_of_le L1.out (Nat.le_refl _)))
  replace L1 := hide (Nat.lt_of_lt_of_le L1.out b2.size)
  have Q2 := hide q2
  have L2 := hide s2
  have M2 := hide (show w.heap.size + 1 + 1 < X1.heap.size from HX1.out.z)
  clear q2 s2 b2
  obtain ⟨X2, hX2⟩ : ∃ X2, w2.setCell ⟨w.heap.size + 1 + 1, 1, none⟩ (.slice (some ⟨X1.heap.size, 0, none⟩) q q) = X2 := ⟨_, rfl⟩
  have HX2 := hide (show R3 6 X2 _ _ _ _ from hX2 ▸ Hw2.out.setO 1 (.slice (some ⟨X1.heap.size, 0, none⟩) q q) (by omega))
  obtain ⟨uX2, eX2⟩ : ∃ u, w2.cell? ⟨w.heap.size + 1 + 1, 1, none⟩ = some u := ⟨_, Hw2.out.o 1 (by omega)⟩
  have gX2 : w2.frozen? ⟨w.heap.size + 1 + 1, 1, none⟩ = false := Hw2.out.fo 1
  have BX2 := hide (show Below w.heap.size w X2 from hX2 ▸ Bw2.out.setCell (by show w.heap.size ≤ w.heap.size + 1 + 1; omega) _)
  have zX2 : X2.heap.size = w2.heap.size := by rw [← hX2]; simp [World.setCell]
  have ZX2 := hide zX2
  clear zX2
  replace Q1 := hide (hX2 ▸ Q1.out.kept (Kept.setCell w2 ⟨w.heap.size + 1 + 1, 1, none⟩ (.slice (some ⟨X1.heap.size, 0, none⟩) q q)) (by show ¬ W0.heap.size = w.heap.size + 1 + 1; have := M1.out; omega) : Rw X2 W0.heap.size r P)
  replace L1 := hide (show W0.heap.size < X2.heap.size by rw [ZX2.out]; exact L1.out)
  replace Q2 := hide (hX2 ▸ Q2.out.kept (Kept.setCell w2 ⟨w.heap.size + 1 + 1, 1, none⟩ (.slice (some ⟨X1.heap.size, 0, none⟩) q q)) (by show ¬ X1.heap.size = w.heap.size + 1 + 1; have := M2.out; omega) : Rw X2 X1.heap.size q Q)
  replace L2 := hide (show X1.heap.size < X2.heap.size by rw [ZX2.out]; exact L2.out)
  have O23 := L2
  have p2 : X2.cell? ⟨w.heap.size, 2, none⟩ = some (.slice c s eap) := HX2.out.s 2 (by omega)
  go_wp2_with fail
  clear p2 hX2 eX2 gX2
  refine (toIntS B c s eap S _ (H3.out.below (BX2.out.mono hB)) (Nat.le_trans hB BX2.out.size) hs).mono ?_
  rintro e w3 ⟨rfl, q3, s3, b3⟩
  have Hw3 := hide (HX2.out.below b3)
  have Bw3 := hide (BX2.out.trans (b3.mono BX2.out.size))
  replace Q1 := hide (Q1.out.below b3 (Nat.lt_of_lt_of_le L1.out (Nat.le_refl _)))
  replace Q2 := hide (Q2.out.below b3 (Nat.lt_of_lt_of_le L2.out (Nat.le_refl _)))
  replace L1 := hide (Nat.lt_of_lt_of_le L1.out b3.size)
  replace L2 := hide (Nat.lt_of_lt_of_le L2.out b3.size)
  have Q3 := hide q3
  have L3 := hide s3
  have M3 := hide (show w.heap.size + 1 + 1 < X2.heap.size from HX2.out.z)
  clear q3 s3 b3
  obtain ⟨X3, hX3⟩ : ∃ X3, w3.setCell ⟨w.heap.size + 1 + 1, 2, none⟩ (.slice (some ⟨X2.heap.size, 0, none⟩) s s) = X3 := ⟨_, rfl⟩
  have HX3 := hide (show R3 6 X3 _ _ _ _ from hX3 ▸ Hw3.out.setO 2 (.slice (some ⟨X2.heap.size, 0, none⟩) s s) (by omega))
  obtain ⟨uX3, eX3⟩ : ∃ u, w3.cell? ⟨w.heap.size + 1 + 1, 2, none⟩ = some u := ⟨_, Hw3.out.o 2 (by omega)⟩
  have gX3 : w3.frozen? ⟨w.heap.size + 1 + 1, 2, none⟩ = false := Hw3.out.fo 2
  have BX3 := hide (show Below w.heap.size w X3 from hX3 ▸ Bw3.out.setCell (by show w.heap.size ≤ w.heap.size + 1 + 1; omega) _)
  have zX3 : X3.heap.size = w3.heap.size := by rw [← hX3]; simp [World.setCell]
  have ZX3 := hide zX3
  clear zX3
  replace Q1 := hide (hX3 ▸ Q1.out.kept (Kept.setCell w3 ⟨w.heap.size + 1 + 1, 2, none⟩ (.slice (some ⟨X2.heap.size, 0, none⟩) s s)) (by show ¬ W0.heap.size = w.heap.size + 1 + 1; have := M1.out; omega) : Rw X3 W0.heap.size r P)
  replace L1 := hide (show W0.heap.size < X3.heap.size by rw [ZX3.out]; exact L1.out)
  replace Q2 := hide (hX3 ▸ Q2.out.kept (Kept.setCell w3 ⟨w.heap.size + 1 + 1, 2, none⟩ (.slice (some ⟨X2.heap.size, 0, none⟩) s s)) (by show ¬ X1.heap.size = w.heap.size + 1 + 1; have := M2.out; omega) : Rw X3 X1.heap.size q Q)
  replace L2 := hide (show X1.heap.size < X3.heap.size by rw [ZX3.out]; exact L2.out)
  replace Q3 := hide (hX3 ▸ Q3.out.kept (Kept.setCell w3 ⟨w.heap.size + 1 + 1, 2, none⟩ (.slice (some ⟨X2.heap.size, 0, none⟩) s s)) (by show ¬ X2.heap.size = w.heap.size + 1 + 1; have := M3.out; omega) : Rw X3 X2.heap.size s S)
  replace L3 := hide (show X2.heap.size < X3.heap.size by rw [ZX3.out]; exact L3.out)
  obtain ⟨X4, hX4⟩ : ∃ X4, X3.setCell ⟨w.heap.size + 1 + 1, 3, none⟩ (.int .i64 n) = X4 := ⟨_, rfl⟩
  have HX4 := hide (show R3 6 X4 _ _ _ _ from hX4 ▸ HX3.out.setO 3 (.int .i64 n) (by omega))
  obtain ⟨uX4, eX4⟩ : ∃ u, X3.cell? ⟨w.heap.size + 1 + 1, 3, none⟩ = some u := ⟨_, HX3.out.o 3 (by omega)⟩
  have gX4 : X3.frozen? ⟨w.heap.size + 1 + 1, 3, none⟩ = false := HX3.out.fo 3
  have BX4 := hide (show Below w.heap.size w X4 from hX4 ▸ BX3.out.setCell (by show w.heap.size ≤ w.heap.size + 1 + 1; omega) _)
  have zX4 : X4.heap.size = X3.heap.size := by rw [← hX4]; simp [World.setCell]
  have ZX4 := hide zX4
  clear zX4
  obtain ⟨X5, hX5⟩ : ∃ X5, X4.setCell ⟨w.heap.size + 1 + 1, 4, none⟩ (.int .i64 f) = X5 := ⟨_, rfl⟩
  have HX5 := hide (show R3 6 X5 _ _ _ _ from hX5 ▸ HX4.out.setO 4 (.int .i64 f) (by omega))
  obtain ⟨uX5, eX5⟩ : ∃ u, X4.cell? ⟨w.heap.size + 1 + 1, 4, none⟩ = some u := ⟨_, HX4.out.o 4 (by omega)⟩
  have gX5 : X4.frozen? ⟨w.heap.size + 1 + 1, 4, none⟩ = false := HX4.out.fo 4
  have BX5 := hide (show Below w.heap.size w X5 from hX5 ▸ BX4.out.setCell (by show w.heap.size ≤ w.heap.size + 1 + 1; omega) _)
  have zX5 : X5.heap.size = X4.heap.size := by rw [← hX5]; simp [World.setCell]
  have ZX5 := hide zX5
  clear zX5
  obtain ⟨X6, hX6⟩ : ∃ X6, X5.setCell ⟨w.heap.size + 1 + 1, 5, none⟩ (.int .i64 o) = X6 := ⟨_, rfl⟩
  have HX6 := hide (show R3 6 X6 _ _ _ _ from hX6 ▸ HX5.out.setO 5 (.int .i64 o) (by omega))
  obtain ⟨uX6, eX6⟩ : ∃ u, X5.cell? ⟨w.heap.size + 1 + 1, 5, none⟩ = some u := ⟨_, HX5.out.o 5 (by omega)⟩
  have gX6 : X5.frozen? ⟨w.heap.size + 1 + 1, 5, none⟩ = false := HX5.out.fo 5
  have BX6 := hide (show Below w.heap.size w X6 from hX6 ▸ BX5.out.setCell (by show w.heap.size ≤ w.heap.size + 1 + 1; omega) _)
  have zX6 : X6.heap.size = X5.heap.size := by rw [← hX6]; simp [World.setCell]
  have ZX6 := hide zX6
  clear zX6
  have p3 : X3.cell? ⟨w.heap.size, 3, none⟩ = some (.int .i64 n) := HX3.out.s 3 (by omega)
  have p4 : X4.cell? ⟨w.heap.size, 4, none⟩ = some (.int .i64 f) := HX4.out.s 4 (by omega)
  have p5 : X5.cell? ⟨w.heap.size, 5, none⟩ = some (.int .i64 o) := HX5.out.s 5 (by omega)
  have o0 : X6.cell? ⟨w.heap.size + 1 + 1, 0, none⟩ = some (.slice (some ⟨W0.heap.size, 0, none⟩) r r) := HX6.out.o 0 (by omega)
  have o1 : X6.cell? ⟨w.heap.size + 1 + 1, 1, none⟩ = some (.slice (some ⟨X1.heap.size, 0, none⟩) q q) := HX6.out.o 1 (by omega)
  have o2 : X6.cell? ⟨w.heap.size + 1 + 1, 2, none⟩ = some (.slice (some ⟨X2.heap.size, 0, none⟩) s s) := HX6.out.o 2 (by omega)
  have o3 : X6.cell? ⟨w.heap.size + 1 + 1, 3, none⟩ = some (.int .i64 n) := HX6.out.o 3 (by omega)
  have o4 : X6.cell? ⟨w.heap.size + 1 + 1, 4, none⟩ = some (.int .i64 f) := HX6.out.o 4 (by omega)
  have o5 : X6.cell? ⟨w.heap.size + 1 + 1, 5, none⟩ = some (.int .i64 o) := HX6.out.o 5 (by omega)
  obtain ⟨Y0, hY0⟩ : ∃ Y0, X6.setCell ⟨w.heap.size + 1, 0, none⟩ (.slice (some ⟨W0.heap.size, 0, none⟩) r r) = Y0 := ⟨_, rfl⟩
  have HY0 := hide (show R3 6 Y0 _ _ _ _ from hY0 ▸ HX6.out.setR 0 (.slice (some ⟨W0.heap.size, 0, none⟩) r r) (by omega))
  obtain ⟨uY0, eY0⟩ : ∃ u, X6.cell? ⟨w.heap.size + 1, 0, none⟩ = some u := ⟨_, HX6.out.r 0 (by omega)⟩
  have gY0 : X6.frozen? ⟨w.heap.size + 1, 0, none⟩ = false := HX6.out.fr 0
  have BY0 := hide (show Below w.heap.size w Y0 from hY0 ▸ BX6.out.setCell (by show w.heap.size ≤ w.heap.size + 1; omega) _)
  have zY0 : Y0.heap.size = X6.heap.size := by rw [← hY0]; simp [World.setCell]
  have ZY0 := hide zY0
  clear zY0
  obtain ⟨Y1, hY1⟩ : ∃ Y1, Y0.setCell ⟨w.heap.size + 1, 1, none⟩ (.slice (some ⟨X1.heap.size, 0, none⟩) q q) = Y1 := ⟨_, rfl⟩
  have HY1 := hide (show R3 6 Y1 _ _ _ _ from hY1 ▸ HY0.out.setR 1 (.slice (some ⟨X1.heap.size, 0, none⟩) q q) (by omega))
  obtain ⟨uY1, eY1⟩ : ∃ u, Y0.cell? ⟨w.heap.size + 1, 1, none⟩ = some u := ⟨_, HY0.out.r 1 (by omega)⟩
  have gY1 : Y0.frozen? ⟨w.heap.size + 1, 1, none⟩ = false := HY0.out.fr 1
  have BY1 := hide (show Below w.heap.size w Y1 from hY1 ▸ BY0.out.setCell (by show w.heap.size ≤ w.heap.size + 1; omega) _)
  have zY1 : Y1.heap.size = Y0.heap.size := by rw [← hY1]; simp [World.setCell]
  have ZY1 := hide zY1
  clear zY1
  obtain ⟨Y2, hY2⟩ : ∃ Y2, Y1.setCell ⟨w.heap.size + 1, 2, none⟩ (.slice (some ⟨X2.heap.size, 0, none⟩) s s) = Y2 := ⟨_, rfl⟩
  have HY2 := hide (show R3 6 Y2 _ _ _ _ from hY2 ▸ HY1.out.setR 2 (.slice (some ⟨X2.heap.size, 0, none⟩) s s) (by omega))
  obtain ⟨uY2, eY2⟩ : ∃ u, Y1.cell? ⟨w.heap.size + 1, 2, none⟩ = some u := ⟨_, HY1.out.r 2 (by omega)⟩
  have gY2 : Y1.frozen? ⟨w.heap.size + 1, 2, none⟩ = false := HY1.out.fr 2
  have BY2 := hide (show Below w.heap.size w Y2 from hY2 ▸ BY1.out.setCell (by show w.heap.size ≤ w.heap.size + 1; omega) _)
  have zY2 : Y2.heap.size = Y1.heap.size := by rw [← hY2]; simp [World.setCell]
  have ZY2 := hide zY2
  clear zY2
  obtain ⟨Y3, hY3⟩ : ∃ Y3, Y2.setCell ⟨w.heap.size + 1, 3, none⟩ (.int .i64 n) = Y3 := ⟨_, rfl⟩
  have HY3 := hide (show R3 6 Y3 _ _ _ _ from hY3 ▸ HY2.out.setR 3 (.int .i64 n) (by omega))
  obtain ⟨uY3, eY3⟩ : ∃ u, Y2.cell? ⟨w.heap.size + 1, 3, none⟩ = some u := ⟨_, HY2.out.r 3 (by omega)⟩
  have gY3 : Y2.frozen? ⟨w.heap.size + 1, 3, none⟩ = false := HY2.out.fr 3
  have BY3 := hide (show Below w.heap.size w Y3 from hY3 ▸ BY2.out.setCell (by show w.heap.size ≤ w.heap.size + 1; omega) _)
  have zY3 : Y3.heap.size = Y2.heap.size := by rw [← hY3]; simp [World.setCell]
  have ZY3 := hide zY3
  clear zY3
  obtain ⟨Y4, hY4⟩ : ∃ Y4, Y3.setCell ⟨w.heap.size + 1, 4, none⟩ (.int .i64 f) = Y4 := ⟨_, rfl⟩
  have HY4 := hide (show R3 6 Y4 _ _ _ _ from hY4 ▸ HY3.out.setR 4 (.int .i64 f) (by omega))
  obtain ⟨uY4, eY4⟩ : ∃ u, Y3.cell? ⟨w.heap.size + 1, 4, none⟩ = some u := ⟨_, HY3.out.r 4 (by omega)⟩
  have gY4 : Y3.frozen? ⟨w.heap.size + 1, 4, none⟩ = false := HY3.out.fr 4
  have BY4 := hide (show Below w.heap.size w Y4 from hY4 ▸ BY3.out.setCell (by show w.heap.size ≤ w.heap.size + 1; omega) _)
  have zY4 : Y4.heap.size = Y3.heap.size := by rw [← hY4]; simp [World.setCell]
  have ZY4 := hide zY4
  clear zY4
  obtain ⟨Y5, hY5⟩ : ∃ Y5, Y4.setCell ⟨w.heap.size + 1, 5, none⟩ (.int .i64 o) = Y5 := ⟨_, rfl⟩
  have HY5 := hide (show R3 6 Y5 _ _ _ _ from hY5 ▸ HY4.out.setR 5 (.int .i64 o) (by omega))
  obtain ⟨uY5, eY5⟩ : ∃ u, Y4.cell? ⟨w.heap.size + 1, 5, none⟩ = some u := ⟨_, HY4.out.r 5 (by omega)⟩
  have gY5 : Y4.frozen? ⟨w.heap.size + 1, 5, none⟩ = false := HY4.out.fr 5
  have BY5 := hide (show Below w.heap.size w Y5 from hY5 ▸ BY4.out.setCell (by show w.heap.size ≤ w.heap.size + 1; omega) _)
  have zY5 : Y5.heap.size = Y4.heap.size := by rw [← hY5]; simp [World.setCell]
  have ZY5 := hide zY5
  clear zY5
  have r0 : Y5.cell? ⟨w.heap.size + 1, 0, none⟩ = some (.slice (some ⟨W0.heap.size, 0, none⟩) r r) := HY5.out.r 0 (by omega)
  have r1 : Y5.cell? ⟨w.heap.size + 1, 1, none⟩ = some (.slice (some ⟨X1.heap.size, 0, none⟩) q q) := HY5.out.r 1 (by omega)
  have r2 : Y5.cell? ⟨w.heap.size + 1, 2, none⟩ = some (.slice (some ⟨X2.heap.size, 0, none⟩) s s) := HY5.out.r 2 (by omega)
  have r3 : Y5.cell? ⟨w.heap.size + 1, 3, none⟩ = some (.int .i64 n) := HY5.out.r 3 (by omega)
  have r4 : Y5.cell? ⟨w.heap.size + 1, 4, none⟩ = some (.int .i64 f) := HY5.out.r 4 (by omega)
  have r5 : Y5.cell? ⟨w.heap.size + 1, 5, none⟩ = some (.int .i64 o) := HY5.out.r 5 (by omega)
  replace Q1 := hide (hX4 ▸ Q1.out.kept (Kept.setCell X3 ⟨w.heap.size + 1 + 1, 3, none⟩ (.int .i64 n)) (by show ¬ W0.heap.size = w.heap.size + 1 + 1; have := M1.out; omega) : Rw X4 W0.heap.size r P)
  replace Q2 := hide (hX4 ▸ Q2.out.kept (Kept.setCell X3 ⟨w.heap.size + 1 + 1, 3, none⟩ (.int .i64 n)) (by show ¬ X1.heap.size = w.heap.size + 1 + 1; have := M2.out; omega) : Rw X4 X1.heap.size q Q)
  replace Q3 := hide (hX4 ▸ Q3.out.kept (Kept.setCell X3 ⟨w.heap.size + 1 + 1, 3, none⟩ (.int .i64 n)) (by show ¬ X2.heap.size = w.heap.size + 1 + 1; have := M3.out; omega) : Rw X4 X2.heap.size s S)
  replace L3 := hide (show X2.heap.size < X4.heap.size by rw [ZX4.out]; exact L3.out)
  replace Q1 := hide (hX5 ▸ Q1.out.kept (Kept.setCell X4 ⟨w.heap.size + 1 + 1, 4, none⟩ (.int .i64 f)) (by show ¬ W0.heap.size = w.heap.size + 1 + 1; have := M1.out; omega) : Rw X5 W0.heap.size r P)
  replace Q2 := hide (hX5 ▸ Q2.out.kept (Kept.setCell X4 ⟨w.heap.size + 1 + 1, 4, none⟩ (.int .i64 f)) (by show ¬ X1.heap.size = w.heap.size + 1 + 1; have := M2.out; omega) : Rw X5 X1.heap.size q Q)
  replace Q3 := hide (hX5 ▸ Q3.out.kept (Kept.setCell X4 ⟨w.heap.size + 1 + 1, 4, none⟩ (.int .i64 f)) (by show ¬ X2.heap.size = w.heap.size + 1 + 1; have := M3.out; omega) : Rw X5 X2.heap.size s S)
  replace L3 := hide (show X2.heap.size < X5.heap.size by rw [ZX5.out]; exact L3.out)
  replace Q1 := hide (hX6 ▸ Q1.out.kept (Kept.setCell X5 ⟨w.heap.size + 1 + 1, 5, none⟩ (.int .i64 o)) (by show ¬ W0.heap.size = w.heap.size + 1 + 1; have := M1.out; omega) : Rw X6 W0.heap.size r P)
  replace Q2 := hide (hX6 ▸ Q2.out.kept (Kept.setCell X5 ⟨w.heap.size + 1 + 1, 5, none⟩ (.int .i64 o)) (by show ¬ X1.heap.size = w.heap.size + 1 + 1; have := M2.out; omega) : Rw X6 X1.heap.size q Q)
  replace Q3 := hide (hX6 ▸ Q3.out.kept (Kept.setCell X5 ⟨w.heap.size + 1 + 1, 5, none⟩ (.int .i64 o)) (by show ¬ X2.heap.size = w.heap.size + 1 + 1; have := M3.out; omega) : Rw X6 X2.heap.size s S)
  replace L3 := hide (show X2.heap.size < X6.heap.size by rw [ZX6.out]; exact L3.out)
  replace Q1 := hide (hY0 ▸ Q1.out.kept (Kept.setCell X6 ⟨w.heap.size + 1, 0, none⟩ (.slice (some ⟨W0.heap.size, 0, none⟩) r r)) (by show ¬ W0.heap.size = w.heap.size + 1; have := M1.out; omega) : Rw Y0 W0.heap.size r P)
  replace Q2 := hide (hY0 ▸ Q2.out.kept (Kept.setCell X6 ⟨w.heap.size + 1, 0, none⟩ (.slice (some ⟨W0.heap.size, 0, none⟩) r r)) (by show ¬ X1.heap.size = w.heap.size + 1; have := M2.out; omega) : Rw Y0 X1.heap.size q Q)
  replace Q3 := hide (hY0 ▸ Q3.out.kept (Kept.setCell X6 ⟨w.heap.size + 1, 0, none⟩ (.slice (some ⟨W0.heap.size, 0, none⟩) r r)) (by show ¬ X2.heap.size = w.heap.size + 1; have := M3.out; omega) : Rw Y0 X2.heap.size s S)
  replace L3 := hide (show X2.heap.size < Y0.heap.size by rw [ZY0.out]; exact L3.out)
  replace Q1 := hide (hY1 ▸ Q1.out.kept (Kept.setCell Y0 ⟨w.heap.size + 1, 1, none⟩ (.slice (some ⟨X1.heap.size, 0, none⟩) q q)) (by show ¬ W0.heap.size = w.heap.size + 1; have := M1.out; omega) : Rw Y1 W0.heap.size r P)
  replace Q2 := hide (hY1 ▸ Q2.out.kept (Kept.setCell Y0 ⟨w.heap.size + 1, 1, none⟩ (.slice (some ⟨X1.heap.size, 0, none⟩) q q)) (by show ¬ X1.heap.size = w.heap.size + 1; have := M2.out; omega) : Rw Y1 X1.heap.size q Q)
  replace Q3 := hide (hY1 ▸ Q3.out.kept (Kept.setCell Y0 ⟨w.heap.size + 1, 1, none⟩ (.slice (some ⟨X1.heap.size, 0, none⟩) q q)) (by show ¬ X2.heap.size = w.heap.size + 1; have := M3.out; omega) : Rw Y1 X2.heap.size s S)
  replace L3 := hide (show X2.heap.size < Y1.heap.size by rw [ZY1.out]; exact L3.out)
  replace Q1 := hide (hY2 ▸ Q1.out.kept (Kept.setCell Y1 ⟨w.heap.size + 1, 2, none⟩ (.slice (some ⟨X2.heap.size, 0, none⟩) s s)) (by show ¬ W0.heap.size = w.heap.size + 1; have := M1.out; omega) : Rw Y2 W0.heap.size r P)
  replace Q2 := hide (hY2 ▸ Q2.out.kept (Kept.setCell Y1 ⟨w.heap.size + 1, 2, none⟩ (.slice (some ⟨X2.heap.size, 0, none⟩) s s)) (by show ¬ X1.heap.size = w.heap.size + 1; have := M2.out; omega) : Rw Y2 X1.heap.size q Q)
  replace Q3 := hide (hY2 ▸ Q3.out.kept (Kept.setCell Y1 ⟨w.heap.size + 1, 2, none⟩ (.slice (some ⟨X2.heap.size, 0, none⟩) s s)) (by show ¬ X2.heap.size = w.heap.size + 1; have := M3.out; omega) : Rw Y2 X2.heap.size s S)
  replace L3 := hide (show X2.heap.size < Y2.heap.size by rw [ZY2.out]; exact L3.out)
  replace Q1 := hide (hY3 ▸ Q1.out.kept (Kept.setCell Y2 ⟨w.heap.size + 1, 3, none⟩ (.int .i64 n)) (by show ¬ W0.heap.size = w.heap.size + 1; have := M1.out; omega) : Rw Y3 W0.heap.size r P)
  replace Q2 := hide (hY3 ▸ Q2.out.kept (Kept.setCell Y2 ⟨w.heap.size + 1, 3, none⟩ (.int .i64 n)) (by show ¬ X1.heap.size = w.heap.size + 1; have := M2.out; omega) : Rw Y3 X1.heap.size q Q)
  replace Q3 := hide (hY3 ▸ Q3.out.kept (Kept.setCell Y2 ⟨w.heap.size + 1, 3, none⟩ (.int .i64 n)) (by show ¬ X2.heap.size = w.heap.size + 1; have := M3.out; omega) : Rw Y3 X2.heap.size s S)
  replace L3 := hide (show X2.heap.size < Y3.heap.size by rw [ZY3.out]; exact L3.out)
  replace Q1 := hide (hY4 ▸ Q1.out.kept (Kept.setCell Y3 ⟨w.heap.size + 1, 4, none⟩ (.int .i64 f)) (by show ¬ W0.heap.size = w.heap.size + 1; have := M1.out; omega) : Rw Y4 W0.heap.size r P)
  replace Q2 := hide (hY4 ▸ Q2.out.kept (Kept.setCell Y3 ⟨w.heap.size + 1, 4, none⟩ (.int .i64 f)) (by show ¬ X1.heap.size = w.heap.size + 1; have := M2.out; omega) : Rw Y4 X1.heap.size q Q)
  replace Q3 := hide (hY4 ▸ Q3.out.kept (Kept.setCell Y3 ⟨w.heap.size + 1, 4, none⟩ (.int .i64 f)) (by show ¬ X2.heap.size = w.heap.size + 1; have := M3.out; omega) : Rw Y4 X2.heap.size s S)
  replace L3 := hide (show X2.heap.size < Y4.heap.size by rw [ZY4.out]; exact L3.out)
  replace Q1 := hide (hY5 ▸ Q1.out.kept (Kept.setCell Y4 ⟨w.heap.size + 1, 5, none⟩ (.int .i64 o)) (by show ¬ W0.heap.size = w.heap.size + 1; have := M1.out; omega) : Rw Y5 W0.heap.size r P)
  replace Q2 := hide (hY5 ▸ Q2.out.kept (Kept.setCell Y4 ⟨w.heap.size + 1, 5, none⟩ (.int .i64 o)) (by show ¬ X1.heap.size = w.heap.size + 1; have := M2.out; omega) : Rw Y5 X1.heap.size q Q)
  replace Q3 := hide (hY5 ▸ Q3.out.kept (Kept.setCell Y4 ⟨w.heap.size + 1, 5, none⟩ (.int .i64 o)) (by show ¬ X2.heap.size = w.heap.size + 1; have := M3.out; omega) : Rw Y5 X2.heap.size s S)
  replace L3 := hide (show X2.heap.size < Y5.heap.size by rw [ZY5.out]; exact L3.out)
  have ORD := hide (show w.heap.size ≤ W0.heap.size ∧ W0.heap.size < X1.heap.size ∧ X1.heap.size < X2.heap.size by have := BW0.out.size; have := O12.out; have := O23.out; omega)
  go_wp2_with fail
  exact bodyPost_ret (v := .agg #[.slice (some ⟨W0.heap.size, 0, none⟩) r r, .slice (some ⟨X1.heap.size, 0, none⟩) q q, .slice (some ⟨X2.heap.size, 0, none⟩) s s, .int .i64 n, .int .i64 f, .int .i64 o]) (by simp [results, Try.results8, go_sem, r0, r1, r2, r3, r4, r5]) rfl ⟨W0.heap.size, X1.heap.size, X2.heap.size, rfl, ⟨ORD.out.1, ORD.out.2.1, ORD.out.2.2, L3.out⟩, Q1.out, Q2.out, Q3.out, BY5.out⟩
set_option maxHeartbeats 1000000 in
theorem eqOpt (B : Nat) (a b c a' b' c' : Option Addr) (r q s cap dap eap cap' dap' eap' : Nat) (P Q S P' Q' S' : Nat → Int) (n f o : Int) (w : World) (hB : B ≤ w.heap.size) (h1 : Ints B w a r P) (h2 : Ints B w b q Q) (h3 : Ints B w c s S) (k1 : Ints B w a' r P') (k2 : Ints B w b' q Q') (k3 : Ints B w c' s S')
    (e1 : ∀ j, j < r → P j = P' j) (e2 : ∀ j, j < q → Q j = Q' j) (e3 : ∀ j, j < s → S j = S' j) (hr : (r : Int) ≤ 1048576) (hq : (q : Int) ≤ 1048576) (hs : (s : Int) ≤ 1048576) :
    Calls Try.prog 11 #[OVal a b c r q s cap dap eap n f o, OVal a' b' c' r q s cap' dap' eap' n f o] w fun e w' => e = .returned (.bool true) ∧ Below w.heap.size w w' := by
  unfold OVal
  obtain ⟨W1, hW1⟩ : ∃ W1, w.alloc (.cells #[.slice a r cap, .slice b q dap, .slice c s eap, .int .i64 n, .int .i64 f, .int .i64 o] 30) = W1 := ⟨_, rfl⟩
  have m1 : Below w.heap.size w W1 := hW1 ▸ (Below.refl _ _).alloc (Nat.le_refl _) _
  have x1 : BoxV6 W1 w.heap.size (.slice a r cap) (.slice b q dap) (.slice c s eap) (.int .i64 n) (.int .i64 f) (.int .i64 o) := hW1 ▸ boxV6_new _ _ _ _ _ _ _ _
  obtain ⟨W2, hW2⟩ : ∃ W2, W1.alloc (.cells #[.slice a' r cap', .slice b' q dap', .slice c' s eap', .int .i64 n, .int .i64 f, .int .i64 o] 30) = W2 := ⟨_, rfl⟩
  have m2 : Below W1.heap.size W1 W2 := hW2 ▸ (Below.refl _ _).alloc (Nat.le_refl _) _
  have KB := hide (show BoxV6 W2 W1.heap.size (.slice a' r cap') (.slice b' q dap') (.slice c' s eap') (.int .i64 n) (.int .i64 f) (.int .i64 o) from hW2 ▸ boxV6_new _ _ _ _ _ _ _ _)
  have KA := hide (x1.below m2)
  have BL := hide (m1.trans (m2.mono m1.size))
  have H1 := hide h1
  have H2 := hide h2
  have H3 := hide h3
  have K1 := hide k1
  have K2 := hide k2
  have K3 := hide k3
  have E1 := hide e1
  have E2 := hide e2
  have E3 := hide e3
  clear h1 h2 h3 k1 k2 k3 e1 e2 e3 m1 m2 x1
  obtain ⟨-, cA0, cA1, cA2, cA3, cA4, cA5⟩ := KA.out
  obtain ⟨-, cB0, cB1, cB2, cB3, cB4, cB5⟩ := KB.out
  go_enter Try.func11, Try.ntmps11
  go_wp2_with fail
  refine (eqIntS B a a' r cap cap' P P' _ (H1.out.below (BL.out.mono hB)) (K1.out.below (BL.out.mono hB)) E1.out hr).mono ?_
  rintro e w1 ⟨rfl, q1⟩
  replace KA := hide (KA.out.below q1)
  replace KB := hide (KB.out.below q1)
  replace BL := hide (BL.out.trans (q1.mono BL.out.size))
  clear q1 cA0 cA1 cA2 cA3 cA4 cA5 cB0 cB1 cB2 cB3 cB4 cB5 hW1 hW2
  obtain ⟨-, cA0, cA1, cA2, cA3, cA4, cA5⟩ := KA.out
  obtain ⟨-, cB0, cB1, cB2, cB3, cB4, cB5⟩ := KB.out
  go_wp2_with fail
  refine (eqIntS B b b' q dap dap' Q Q' _ (H2.out.below (BL.out.mono hB)) (K2.out.below (BL.out.mono hB)) E2.out hq).mono ?_
  rintro e w2 ⟨rfl, q2⟩
  replace KA := hide (KA.out.below q2)
  replace KB := hide (KB.out.below q2)
  replace BL := hide (BL.out.trans (q2.mono BL.out.size))
  clear q2 cA0 cA1 cA2 cA3 cA4 cA5 cB0 cB1 cB2 cB3 cB4 cB5
  obtain ⟨-, cA0, cA1, cA2, cA3, cA4, cA5⟩ := KA.out
  obtain ⟨-, cB0, cB1, cB2, cB3, cB4, cB5⟩ := KB.out
  go_wp2_with fail
  refine (eqIntS B c c' s eap eap' S S' _ (H3.out.below (BL.out.mono hB)) (K3.out.below (BL.out.mono hB)) E3.out hs).mono ?_
  rintro e w3 ⟨rfl, q3⟩
  replace KA := hide (KA.out.below q3)
  replace KB := hide (KB.out.below q3)
  replace BL := hide (BL.out.trans (q3.mono BL.out.size))
  clear q3 cA0 cA1 cA2 cA3 cA4 cA5 cB0 cB1 cB2 cB3 cB4 cB5
  obtain ⟨-, cA0, cA1, cA2, cA3, cA4, cA5⟩ := KA.out
  obtain ⟨-, cB0, cB1, cB2, cB3, cB4, cB5⟩ := KB.out
  go_wp2_with fail
  go_ret
  exact ⟨rfl, BL.out⟩
end Vo
end Go.Proofs.Ytajljeegkmkkcaa

/- States are marked, held. -/
namespace Go.Proofs.Ytajljeegkmkkcaa
namespace Vo
open Go.ChangeShapes Go.WideShapes Go.ChangeAt Go.RowKit Go.Joins Go.Sort
open Vl
set_option linter.unusedVariables false
def OV3 (a b c : Option Addr) (r q s cap dap eap : Nat) (n f o : Int) (i : Nat) : Value := #[Value.slice a r cap, .slice b q dap, .slice c s eap, .int .i64 n, .int .i64 f, .int .i64 o].getD i undef
theorem c6_new (w : World) (a b c : Option Addr) (r q s cap dap eap : Nat) (n f o : Int) (ty : TypeId) : C6 (w.alloc (.cells #[.slice a r cap, .slice b q dap, .slice c s eap, .int .i64 n, .int .i64 f, .int .i64 o] ty)) w.heap.size (OV3 a b c r q s cap dap eap n f o) :=
  ⟨fun i hi => by rcases (by omega : i = 0 ∨ i = 1 ∨ i = 2 ∨ i = 3 ∨ i = 4 ∨ i = 5) with rfl | rfl | rfl | rfl | rfl | rfl <;> simp [go_sem, OV3], fun i => by simp [go_sem], by simp⟩
set_option maxHeartbeats 2000000 in
theorem markOpt (B : Nat) (a b c : Option Addr) (r q s cap dap eap : Nat) (P Q S : Nat → Int) (n f o k : Int) (w : World) (h1 : OwnL B w a r P) (h2 : OwnL B w b q Q) (h3 : OwnL B w c s S) (d12 : ∀ i, Blk a r i → ¬ Blk b q i) (d13 : ∀ i, Blk a r i → ¬ Blk c s i) (d23 : ∀ i, Blk b q i → ¬ Blk c s i)
    (hr : (r : Int) ≤ 1048576) (hq : (q : Int) ≤ 1048576) (hs : (s : Int) ≤ 1048576) (k0 : 0 ≤ k) (k1 : k ≤ 33554432) :
    Calls Try.prog 13 #[OVal a b c r q s cap dap eap n f o, .int .i64 k] w fun e w' => e = .returned (.int .i64 (k + r + q + s)) ∧ OwnL B w' a r (fun j => k + j) ∧ OwnL B w' b q (fun j => k + r + j) ∧ OwnL B w' c s (fun j => k + r + q + j) ∧ Kept (fun i => Blk a r i ∨ Blk b q i ∨ Blk c s i) w w' := by
  unfold OVal
  obtain ⟨W1, hW1⟩ : ∃ W1, w.alloc (.cells #[.slice a r cap, .slice b q dap, .slice c s eap, .int .i64 n, .int .i64 f, .int .i64 o] 30) = W1 := ⟨_, rfl⟩
  have b1 : Below w.heap.size w W1 := hW1 ▸ (Below.refl _ _).alloc (Nat.le_refl _) _
  have C := hide (show C6 W1 w.heap.size (OV3 a b c r q s cap dap eap n f o) from hW1 ▸ c6_new w a b c r q s cap dap eap n f o _)
  have U1 := hide (fun i (hi : Blk a r i) => (h1.blk hi).2)
  have U2 := hide (fun i (hi : Blk b q i) => (h2.blk hi).2)
  have U3 := hide (fun i (hi : Blk c s i) => (h3.blk hi).2)
  have H1 := hide (h1.below b1)
  have H2 := hide (h2.below b1)
  have H3 := hide (h3.below b1)
  have D12 := hide d12
  have D13 := hide d13
  have D23 := hide d23
  have K := hide (show Kept (fun i => Blk a r i ∨ Blk b q i ∨ Blk c s i) w W1 from Kept.of_below b1)
  clear h1 h2 h3 d12 d13 d23 b1
  obtain ⟨A, hA⟩ : ∃ A : Int, k + r = A := ⟨_, rfl⟩
  obtain ⟨E, hE⟩ : ∃ E : Int, A + q = E := ⟨_, rfl⟩
  obtain ⟨T, hT⟩ : ∃ T : Int, E + s = T := ⟨_, rfl⟩
  rw [hA, hE, hT]
  have AB := hide (show 0 ≤ A ∧ A ≤ 34603008 by omega)
  have EB := hide (show 0 ≤ E ∧ E ≤ 35651584 by omega)
  have C1 := hide (fun W (o : OwnL B W a r P) => markIntS B a r cap P k W o hr k0 (by omega))
  have C2 := hide (fun W (o : OwnL B W b q Q) => markIntS B b q dap Q A W o hq AB.out.1 (by have := AB.out; omega))
  have C3 := hide (fun W (o : OwnL B W c s S) => markIntS B c s eap S E W o hs EB.out.1 (by have := EB.out; omega))
  rw [hA] at C1
  rw [hE] at C2
  rw [hT] at C3
  clear hA hE hT
  have c0 := C.out.c 0 (by omega)
  replace c0 : W1.cell? ⟨w.heap.size, 0, none⟩ = some (.slice a r cap) := c0
  go_enter Try.func13, Try.ntmps13
  go_wp2_with fail
  clear hW1 c0
  refine (C1.out _ H1.out).mono ?_
  rintro e w2 ⟨rfl, o1, kk⟩
  have N1 := hide o1
  replace H2 := hide (H2.out.kept kk (fun i hi h => D12.out i h hi))
  replace H3 := hide (H3.out.kept kk (fun i hi h => D13.out i h hi))
  replace C := hide (C.out.kept kk (fun h => by have := U1.out _ h; omega))
  replace K := hide (K.out.trans (kk.mono fun _ _ h => .inl h))
  clear o1 kk H1
  have c1 := C.out.c 1 (by omega)
  replace c1 : w2.cell? ⟨w.heap.size, 1, none⟩ = some (.slice b q dap) := c1
  go_wp2_with fail
  clear c1
  refine (C2.out _ H2.out).mono ?_
  rintro e w3 ⟨rfl, o2, kk⟩
  have N2 := hide o2
  replace N1 := hide (N1.out.kept kk (fun i hi h => D12.out i hi h))
  replace H3 := hide (H3.out.kept kk (fun i hi h => D23.out i h hi))
  replace C := hide (C.out.kept kk (fun h => by have := U2.out _ h; omega))
  replace K := hide (K.out.trans (kk.mono fun _ _ h => .inr (.inl h)))
  clear o2 kk H2
  have c2 := C.out.c 2 (by omega)
  replace c2 : w3.cell? ⟨w.heap.size, 2, none⟩ = some (.slice c s eap) := c2
  go_wp2_with fail
  clear c2
  refine (C3.out _ H3.out).mono ?_
  rintro e w4 ⟨rfl, o3, kk⟩
  have N3 := hide o3
  replace N1 := hide (N1.out.kept kk (fun i hi h => D13.out i hi h))
  replace N2 := hide (N2.out.kept kk (fun i hi h => D23.out i hi h))
  replace K := hide (K.out.trans (kk.mono fun _ _ h => .inr (.inr h)))
  clear o3 kk H3
  go_wp2_with fail
  go_ret
  exact ⟨rfl, N1.out, N2.out, N3.out, K.out⟩
set_option maxHeartbeats 2000000 in
theorem heldOpt (B : Nat) (a b c : Option Addr) (r q s cap dap eap : Nat) (n f o k : Int) (w : World) (hB : B ≤ w.heap.size) (h1 : Ints B w a r (fun j => k + j)) (h2 : Ints B w b q (fun j => k + r + j)) (h3 : Ints B w c s (fun j => k + r + q + j))
    (hr : (r : Int) ≤ 1048576) (hq : (q : Int) ≤ 1048576) (hs : (s : Int) ≤ 1048576) (k0 : 0 ≤ k) (k1 : k ≤ 1048576) :
    Calls Try.prog 15 #[OVal a b c r q s cap dap eap n f o, .int .i64 k] w fun e w' => e = .returned (.int .i64 (k + r + q + s)) ∧ Below w.heap.size w w' := by
  unfold OVal
  obtain ⟨W1, hW1⟩ : ∃ W1, w.alloc (.cells #[.slice a r cap, .slice b q dap, .slice c s eap, .int .i64 n, .int .i64 f, .int .i64 o] 30) = W1 := ⟨_, rfl⟩
  have b1 := hide (show Below w.heap.size w W1 from hW1 ▸ (Below.refl _ _).alloc (Nat.le_refl _) _)
  have C := hide (show C6 W1 w.heap.size (OV3 a b c r q s cap dap eap n f o) from hW1 ▸ c6_new w a b c r q s cap dap eap n f o _)
  obtain ⟨A, hA⟩ : ∃ A : Int, k + r = A := ⟨_, rfl⟩
  obtain ⟨E, hE⟩ : ∃ E : Int, A + q = E := ⟨_, rfl⟩
  obtain ⟨T, hT⟩ : ∃ T : Int, E + s = T := ⟨_, rfl⟩
  rw [hA] at h2
  rw [hA, hE] at h3
  rw [hA, hE, hT]
  have AB := hide (show 0 ≤ A ∧ A ≤ 2097152 by omega)
  have EB := hide (show 0 ≤ E ∧ E ≤ 3145728 by omega)
  have TB := hide (show 0 ≤ T by omega)
  have C1 := hide (heldIntS B a r cap k W1 (h1.below (b1.out.mono hB)) hr k0 (by omega))
  have C2 := hide (heldIntS B b q dap A W1 (h2.below (b1.out.mono hB)) hq AB.out.1 (by have := AB.out; omega))
  have C3 := hide (heldIntS B c s eap E W1 (h3.below (b1.out.mono hB)) hs EB.out.1 (by have := EB.out; omega))
  rw [hA] at C1
  rw [hE] at C2
  rw [hT] at C3
  clear hA hE hT h1 h2 h3
  have nA : decide (A < 0) = false := decide_eq_false (by have := AB.out; omega)
  have nE : decide (E < 0) = false := decide_eq_false (by have := EB.out; omega)
  have nT : decide (T < 0) = false := decide_eq_false (by have := TB.out; omega)
  have c0 := C.out.c 0 (by omega)
  replace c0 : W1.cell? ⟨w.heap.size, 0, none⟩ = some (.slice a r cap) := c0
  have c1 := C.out.c 1 (by omega)
  replace c1 : W1.cell? ⟨w.heap.size, 1, none⟩ = some (.slice b q dap) := c1
  have c2 := C.out.c 2 (by omega)
  replace c2 : W1.cell? ⟨w.heap.size, 2, none⟩ = some (.slice c s eap) := c2
  go_enter Try.func15, Try.ntmps15
  go_wp2_with fail
  clear hW1
  refine C1.out.mono ?_
  rintro e w2 ⟨rfl, h⟩; have h := h.symm; subst h
  go_wp2_with fail
  refine C2.out.mono ?_
  rintro e w2 ⟨rfl, h⟩; have h := h.symm; subst h
  go_wp2_with fail
  refine C3.out.mono ?_
  rintro e w2 ⟨rfl, h⟩; have h := h.symm; subst h
  go_wp2_with fail
  go_ret
  exact ⟨rfl, b1.out⟩
end Vo
end Go.Proofs.Ytajljeegkmkkcaa

/- StepOpt: one form of the answer, whether yes or no. -/
namespace Go.Proofs.Ytajljeegkmkkcaa
namespace Vo
open Go.ChangeShapes Go.WideShapes Go.ChangeAt Go.RowKit Go.Joins Go.Sort
open Vl
set_option linter.unusedVariables false
/-- a state of m parameters that is one's own is handed back, and b -/
def StepU (m : Nat) (N : St) (b : Bool) (w : World) (e : Ending) (w' : World) : Prop :=
  ∃ (p f q : Option Addr) (c d g : Nat), e = .returned (.tuple #[.agg #[.slice p m c, .slice f m d, .slice q m g, .int .i64 N.c, .int .i64 N.f, .int .i64 N.g], .bool b]) ∧ (OwnL w.heap.size w' p m N.P ∧ OwnL w.heap.size w' f m N.F ∧ OwnL w.heap.size w' q m N.S) ∧ ((∀ k k', Blk p m k → Blk f m k' → k < k') ∧ (∀ k k', Blk f m k → Blk q m k' → k < k')) ∧ Below w.heap.size w w'
theorem StepR.uni {n : Nat} {no : Prop} {S : St} {w w' : World} {e : Ending} (h : StepR n no S w e w') (m : Nat) (N : St) (b : Bool) (h1 : no → m = 0 ∧ b = false ∧ N.c = 0 ∧ N.f = 0 ∧ N.g = 0) (h2 : ¬ no → m = n ∧ b = true ∧ N = S) : StepU m N b w e w' := by
  rcases h with ⟨q, e1, b1⟩ | ⟨q, p, f, r, c, d, g, e1, o, ⟨k1, k2⟩, b1⟩
  · obtain ⟨rfl, rfl, c1, c2, c3⟩ := h1 q
    refine ⟨none, none, none, 0, 0, 0, ?_, ⟨.inl rfl, .inl rfl, .inl rfl⟩, ⟨fun k k' h => absurd rfl h.1, fun k k' h => absurd rfl h.1⟩, b1⟩
    rw [c1, c2, c3]
    exact e1
  · obtain ⟨rfl, rfl, rfl⟩ := h2 q
    exact ⟨p, f, r, c, d, g, e1, o, ⟨bhd_lt k1, bhd_lt k2⟩, b1⟩
set_option maxHeartbeats 1000000 in
theorem stepUni (R : Rl) (n n2 n3 r : Nat) (s : St) (Gr : Nat → Int) (hRb : R.bds) (hb : bd s.c ∧ bd s.f ∧ bd s.g) (hr1 : (n : Int) ≤ 1048576) (hr2 : (n2 : Int) ≤ 1048576) (hr3 : (n3 : Int) ≤ 1048576) (hra : (r : Int) ≤ 1048576) : ∃ (m : Nat) (N : St) (b : Bool), (m : Int) ≤ 1048576 ∧
    (∀ (cP cF cS cl : Nat) (aP aF aS a : Option Addr) (w : World), Ints w.heap.size w aP n s.P → Ints w.heap.size w aF n2 s.F → Ints w.heap.size w aS n3 s.S → (aP = none → n = 0 ∧ cP = 0) → (aF = none → n2 = 0 ∧ cF = 0) → (aS = none → n3 = 0 ∧ cS = 0) → Ints w.heap.size w a r Gr →
      Calls Try.prog 6 #[.agg #[.int .i64 R.d, .int .i64 R.r1, .int .i64 R.r2, .int .i64 R.r3, .int .i64 R.r4, .int .i64 R.k, .int .i64 R.z, .int .i64 R.o, .int .i64 R.y, .int .i64 R.mo, .int .i64 R.gr], .agg #[.slice aP n cP, .slice aF n2 cF, .slice aS n3 cS, .int .i64 s.c, .int .i64 s.f, .int .i64 s.g], .slice a r cl] w (StepU m N b w)) ∧
    (∀ (cP cF cS cl : Nat) (aP aF aS a : Option Addr) (w : World), Ints w.heap.size w aP n s.P → Ints w.heap.size w aF n2 s.F → Ints w.heap.size w aS n3 s.S → (aP = none → n = 0 ∧ cP = 0) → (aF = none → n2 = 0 ∧ cF = 0) → (aS = none → n3 = 0 ∧ cS = 0) → Ints w.heap.size w a r Gr →
      Calls Try.prog 10 #[.agg #[.int .i64 R.d, .int .i64 R.r1, .int .i64 R.r2, .int .i64 R.r3, .int .i64 R.r4, .int .i64 R.k, .int .i64 R.z, .int .i64 R.o, .int .i64 R.y, .int .i64 R.mo, .int .i64 R.gr], .agg #[.slice aP n cP, .slice aF n2 cF, .slice aS n3 cS, .int .i64 s.c, .int .i64 s.f, .int .i64 s.g], .slice a r cl] w (StepU m N b w)) := by
  obtain ⟨no, N, -, hS, hI⟩ := stepBoth R n n2 n3 r s Gr hRb hb hr1 hr2 hr3 hra
  by_cases c : no
  · have k1 : no → 0 = 0 ∧ false = false ∧ (⟨fun _ => 0, fun _ => 0, fun _ => 0, 0, 0, 0⟩ : St).c = 0 ∧ (⟨fun _ => 0, fun _ => 0, fun _ => 0, 0, 0, 0⟩ : St).f = 0 ∧ (⟨fun _ => 0, fun _ => 0, fun _ => 0, 0, 0, 0⟩ : St).g = 0 := fun _ => ⟨rfl, rfl, rfl, rfl, rfl⟩
    exact ⟨0, ⟨fun _ => 0, fun _ => 0, fun _ => 0, 0, 0, 0⟩, false, by decide, fun cP cF cS cl aP aF aS a w h1 h2 h3 h4 h5 h6 h7 => (hS cP cF cS cl aP aF aS a w h1 h2 h3 h4 h5 h6 h7).mono fun e w' q => q.uni _ _ _ k1 (fun z => absurd c z),
      fun cP cF cS cl aP aF aS a w h1 h2 h3 h4 h5 h6 h7 => (hI cP cF cS cl aP aF aS a w h1 h2 h3 h4 h5 h6 h7).mono fun e w' q => q.uni _ _ _ k1 (fun z => absurd c z)⟩
  · exact ⟨n, N, true, hr1, fun cP cF cS cl aP aF aS a w h1 h2 h3 h4 h5 h6 h7 => (hS cP cF cS cl aP aF aS a w h1 h2 h3 h4 h5 h6 h7).mono fun e w' q => q.uni _ _ _ (fun z => absurd z c) (fun _ => ⟨rfl, rfl, rfl⟩),
      fun cP cF cS cl aP aF aS a w h1 h2 h3 h4 h5 h6 h7 => (hI cP cF cS cl aP aF aS a w h1 h2 h3 h4 h5 h6 h7).mono fun e w' q => q.uni _ _ _ (fun z => absurd z c) (fun _ => ⟨rfl, rfl, rfl⟩)⟩
end Vo
end Go.Proofs.Ytajljeegkmkkcaa

/- An argument that is a rule's state. -/
namespace Go.Proofs.Ytajljeegkmkkcaa
namespace Vo
open Go.ChangeShapes Go.WideShapes Go.ChangeAt Go.RowKit Go.Joins Go.Sort
open Vl
set_option linter.unusedVariables false
theorem opt_of {H : Type} {enc : TypeId × Value → H} {w : World} {base : Nat} {spare : Nat → Bool} {held : Bool} {fuel : Nat} {c0 c1 c2 c3 c4 c5 : Value} {x : DataW H × List MemPlace} (h : DataW.trod enc Try.prog w base spare held fuel 28 [c0, c1, c2, c3, c4, c5] = some x) :
    ∃ (a b c : Option Addr) (r q s cap dap eap : Nat) (n f o : Int), (c0 = .slice a r cap ∧ c1 = .slice b q dap ∧ c2 = .slice c s eap ∧ c3 = .int .i64 n ∧ c4 = .int .i64 f ∧ c5 = .int .i64 o) ∧ Arg w a r ∧ Arg w b q ∧ Arg w c s ∧ bd n ∧ bd f ∧ bd o := by
  obtain ⟨y0, n0, q0⟩ := field_of Try.underlying28 h 0 _ rfl 1 (by kernel_rfl)
  obtain ⟨y1, n1, q1⟩ := field_of Try.underlying28 h 1 _ rfl 1 (by kernel_rfl)
  obtain ⟨y2, n2, q2⟩ := field_of Try.underlying28 h 2 _ rfl 1 (by kernel_rfl)
  obtain ⟨y3, n3, q3⟩ := field_of Try.underlying28 h 3 _ rfl 1 (by kernel_rfl)
  obtain ⟨y4, n4, q4⟩ := field_of Try.underlying28 h 4 _ rfl 1 (by kernel_rfl)
  obtain ⟨y5, n5, q5⟩ := field_of Try.underlying28 h 5 _ rfl 1 (by kernel_rfl)
  have q0 : DataW.trod enc Try.prog w base spare held n0 26 [c0] = some y0 := q0
  have q1 : DataW.trod enc Try.prog w base spare held n1 26 [c1] = some y1 := q1
  have q2 : DataW.trod enc Try.prog w base spare held n2 26 [c2] = some y2 := q2
  have q3 : DataW.trod enc Try.prog w base spare held n3 3 [c3] = some y3 := q3
  have q4 : DataW.trod enc Try.prog w base spare held n4 3 [c4] = some y4 := q4
  have q5 : DataW.trod enc Try.prog w base spare held n5 3 [c5] = some y5 := q5
  obtain ⟨a, r, cap, rfl, ha⟩ := arg_of q0
  obtain ⟨b, q, dap, rfl, hb⟩ := arg_of q1
  obtain ⟨c, s, eap, rfl, hc⟩ := arg_of q2
  obtain ⟨n, rfl, hn⟩ := int_of q3
  obtain ⟨f, rfl, hf⟩ := int_of q4
  obtain ⟨o, rfl, ho⟩ := int_of q5
  exact ⟨a, b, c, r, q, s, cap, dap, eap, n, f, o, ⟨rfl, rfl, rfl, rfl, rfl, rfl⟩, ha, hb, hc, hn, hf, ho⟩
theorem opt_at {H : Type} {enc : TypeId × Value → H} {w : World} {base : Nat} {spare : Nat → Bool} {held : Bool} {b0 : Nat} {v : Value} {d : DataW H} {p : List MemPlace} (hv : Value.okWide Try.prog w .any b0 28 v) (h : DataW.Trod enc Try.prog w base spare held 28 v d p) :
    ∃ (a b c : Option Addr) (r q s cap dap eap : Nat) (n f o : Int), v = .agg #[.slice a r cap, .slice b q dap, .slice c s eap, .int .i64 n, .int .i64 f, .int .i64 o] ∧ Arg w a r ∧ Arg w b q ∧ Arg w c s ∧ bd n ∧ bd f ∧ bd o := by
  obtain ⟨cs, rfl, hsz⟩ := okWide_struct Try.underlying28 hv
  have hC : Try.prog.cellsOf 28 = 6 := by kernel_rfl
  obtain ⟨l⟩ := cs
  match l, hsz.trans hC with
  | [c0, c1, c2, c3, c4, c5], _ =>
    obtain ⟨fuel, hf⟩ := h
    obtain ⟨a, b, c, r, q, s, cap, dap, eap, n, f, o, ⟨rfl, rfl, rfl, rfl, rfl, rfl⟩, ha, hb, hc, hn, hf, ho⟩ := opt_of (by simpa [Value.cells] using hf)
    exact ⟨a, b, c, r, q, s, cap, dap, eap, n, f, o, rfl, ha, hb, hc, hn, hf, ho⟩
theorem ook_same {r q s : Nat} {P Q S P' Q' S' : Nat → Int} {n f o : Int} (h1 : ∀ j, j < r → P j = P' j) (h2 : ∀ j, j < q → Q j = Q' j) (h3 : ∀ j, j < s → S j = S' j) : ook r q s P Q S n f o = ook r q s P' Q' S' n f o := by
  unfold ook
  rw [decide_eq_decide]
  unfold OOk OIn
  constructor
  · rintro ⟨a, rfl, rfl, b, c, d, e⟩
    exact ⟨a, rfl, rfl, b, c, fun j hj => by rw [← h1 j hj, ← h2 j hj, ← h3 j hj]; exact d j hj, e⟩
  · rintro ⟨a, rfl, rfl, b, c, d, e⟩
    exact ⟨a, rfl, rfl, b, c, fun j hj => by rw [h1 j hj, h2 j hj, h3 j hj]; exact d j hj, e⟩
end Vo
end Go.Proofs.Ytajljeegkmkkcaa

/- For the law on StepOpt: its operations. -/
namespace Go.Proofs.Ytajljeegkmkkcaa
namespace Vo
open Go.ChangeShapes Go.WideShapes Go.ChangeAt Go.RowKit Go.Joins Go.Sort
open Vl
set_option linter.unusedVariables false
section
variable {o : Oper} {A : Act} {w : World} {x : Operand} {b : Nat}
theorem runLoadRl {y0 y1 y2 y3 y4 y5 y6 y7 y8 y9 ya : Int} (ho : o.op = .load 25 x) (hx : A.eval x = .pointer (some ⟨b, 0, none⟩)) (h : Box11 w b y0 y1 y2 y3 y4 y5 y6 y7 y8 y9 ya) :
    (execOp A.eval o).run Try.prog w = .ok (.value (.agg #[.int .i64 y0, .int .i64 y1, .int .i64 y2, .int .i64 y3, .int .i64 y4, .int .i64 y5, .int .i64 y6, .int .i64 y7, .int .i64 y8, .int .i64 y9, .int .i64 ya])) w := by
  obtain ⟨-, c0, c1, c2, c3, c4, c5, c6, c7, c8, c9, ca⟩ := h
  unfold execOp
  rw [ho]
  simp only [hx]
  go_simp
theorem runLoadOL {v0 v1 v2 v3 v4 v5 : Value} (ho : o.op = .load 28 x) (hx : A.eval x = .pointer (some ⟨b, 0, none⟩)) (h : BoxV6 w b v0 v1 v2 v3 v4 v5) : (execOp A.eval o).run Try.prog w = .ok (.value (.agg #[v0, v1, v2, v3, v4, v5])) w := by
  obtain ⟨-, c0, c1, c2, c3, c4, c5⟩ := h
  unfold execOp
  rw [ho]
  simp only [hx]
  go_simp
theorem runLoadOI {v0 v1 v2 v3 v4 v5 : Value} (ho : o.op = .load 30 x) (hx : A.eval x = .pointer (some ⟨b, 0, none⟩)) (h : BoxV6 w b v0 v1 v2 v3 v4 v5) : (execOp A.eval o).run Try.prog w = .ok (.value (.agg #[v0, v1, v2, v3, v4, v5])) w := by
  obtain ⟨-, c0, c1, c2, c3, c4, c5⟩ := h
  unfold execOp
  rw [ho]
  simp only [hx]
  go_simp
theorem runExt0 {u v : Value} (ho : o.op = .extract x 0) (hx : A.eval x = .tuple #[u, v]) : (execOp A.eval o).run Try.prog w = .ok (.value u) w := by
  unfold execOp
  rw [ho]
  simp only [hx]
  go_simp
theorem runExt1 {u v : Value} (ho : o.op = .extract x 1) (hx : A.eval x = .tuple #[u, v]) : (execOp A.eval o).run Try.prog w = .ok (.value v) w := by
  unfold execOp
  rw [ho]
  simp only [hx]
  go_simp
end
end Vo
end Go.Proofs.Ytajljeegkmkkcaa

/- As Qf, where operations of the head may be guarded: one that is cut off leaves nothing in its slot. -/
namespace Go.Proofs.Ytajljeegkmkkcaa
namespace Qg
open Go.RowKit Qf
set_option linter.unusedVariables false
variable {P : Program}
theorem yielded_eval (ops : Array Oper) (a : Act) (j : Nat) : yielded ops a.tmps j = match (ops[j]?).bind (·.dst) with
    | some d => (match a.eval (.tmp d) with | .bool b => some b | _ => none)
    | none => none := by
  unfold yielded
  cases (ops[j]?).bind (·.dst) with
  | none => rfl
  | some d =>
    simp only [Option.bind_some, Act.eval, Array.getD_eq_getD_getElem?]
    cases a.tmps[d]? with
    | none => rfl
    | some x => cases x <;> rfl
/-- one operation, guarded or not -/
def landsG (P : Program) (ops : Array Oper) (o : Oper) (A : Act) (w : World) (K : Value → World → Prop) : Prop :=
  if Region.wanted o (yielded ops A.tmps) = true then lands P o A w K else K undef w
theorem landsG_free {ops : Array Oper} {o : Oper} {A : Act} {w : World} {K : Value → World → Prop} (hg : o.guard = none) (h : lands P o A w K) : landsG P ops o A w K := by
  unfold landsG Region.wanted
  rw [hg, if_pos rfl]
  exact h
theorem landsG_on {ops : Array Oper} {o : Oper} {A : Act} {w : World} {K : Value → World → Prop} (g : Nat) (b : Bool) (d : Tmp) (hg : o.guard = some (g, b)) (hd : (ops[g]?).bind (·.dst) = some d) (hv : A.eval (.tmp d) = .bool b) (h : lands P o A w K) : landsG P ops o A w K := by
  have : Region.wanted o (yielded ops A.tmps) = true := by
    unfold Region.wanted
    rw [hg]
    dsimp only
    rw [yielded_eval, hd]
    dsimp only
    rw [hv]
    simp
  unfold landsG
  rw [if_pos this]
  exact h
theorem landsG_off {ops : Array Oper} {o : Oper} {A : Act} {w : World} {K : Value → World → Prop} (g : Nat) (b : Bool) (d : Tmp) (hg : o.guard = some (g, b)) (hd : (ops[g]?).bind (·.dst) = some d) (v : Value) (hv : A.eval (.tmp d) = v) (hne : v ≠ .bool b) (h : K undef w) : landsG P ops o A w K := by
  have : Region.wanted o (yielded ops A.tmps) = false := by
    unfold Region.wanted
    rw [hg]
    dsimp only
    rw [yielded_eval, hd]
    dsimp only
    rw [hv]
    cases v with
    | bool c =>
      have hne' : c ≠ b := fun e => hne (by rw [e])
      cases c <;> cases b <;> first | rfl | exact absurd rfl hne'
    | _ => rfl
  unfold landsG
  rw [if_neg (by rw [this]; exact Bool.false_ne_true)]
  exact h
/-- what is asked of the region's text -/
def factB (ops : Array Oper) (n : Nat) : Bool :=
  (List.range n).all (fun i => match ops[i]? with
    | some oi => oi.after.all (fun e => !Region.binds .any e || decide (e.on < i)) && (List.range n).all (fun k => match ops[k]? with
      | some ok => (match ok.dst with
        | some d => (!(oi.looksAt ops).contains d || Region.waitsFor .any ops i k) && (i == k || oi.dst != some d)
        | none => true)
      | none => false)
    | none => false) && Region.seqB .any ops (ops.size - n) n (Array.replicate n true ++ Array.replicate (ops.size - n) false) && (Region.noSelect ops && decide (n < ops.size) && Region.sinkB .any ops n && Region.chainB .any ops n)
structure FactS (ops : Array Oper) (n : Nat) : Prop where
  at' : ∀ i, i < n → ∃ oi, ops[i]? = some oi ∧ (∀ e ∈ oi.after, Region.binds .any e = true → e.on < i) ∧
    ∀ k ok d, k < n → ops[k]? = some ok → ok.dst = some d → (d ∈ oi.looksAt ops → Region.waitsFor .any ops i k = true) ∧ (i ≠ k → oi.dst ≠ some d)
  text : Region.noSelect ops = true ∧ n < ops.size ∧ Region.sinkB .any ops n = true ∧ Region.chainB .any ops n = true
  seq : Region.seqB .any ops (ops.size - n) n (Array.replicate n true ++ Array.replicate (ops.size - n) false) = true
theorem factS {ops : Array Oper} {n : Nat} (h : factB ops n = true) : FactS ops n := by
  unfold factB at h
  rw [Bool.and_eq_true, Bool.and_eq_true] at h
  obtain ⟨⟨h, hq⟩, ht⟩ := h
  simp only [Bool.and_eq_true, decide_eq_true_eq] at ht
  refine ⟨fun i hi => ?_, ⟨ht.1.1.1, ht.1.1.2, ht.1.2, ht.2⟩, hq⟩
  have h1 := List.all_eq_true.1 h i (List.mem_range.2 hi)
  cases ho : ops[i]? with
  | none => rw [ho] at h1; cases h1
  | some oi =>
    rw [ho] at h1
    simp only [Bool.and_eq_true] at h1
    refine ⟨oi, rfl, fun e he hb => ?_, fun k ok d hk hok hd => ?_⟩
    · have := Array.all_eq_true'.1 h1.1 e he
      rw [hb] at this
      simpa using this
    · have h2 := List.all_eq_true.1 h1.2 k (List.mem_range.2 hk)
      simp only [hok, hd, Bool.and_eq_true] at h2
      refine ⟨fun hm => ?_, fun hne => ?_⟩
      · have := h2.1
        rw [List.contains_iff_mem.2 hm] at this
        simpa using this
      · have := h2.2
        rw [show (i == k) = false from beq_eq_false_iff_ne.2 hne] at this
        simpa using this
theorem facts {id : Nat} {Q : Exit → Act → World → Prop} {a : Act} {w : World} {l : List Oper} (n : Nat) (hm : P.follows .mixedOrders = true) (hfb : factB l.toArray n = true)
    (F : Nat → Value → World → Prop) (hF : ∀ i v w1 w2, F i v w1 → Below w1.heap.size w1 w2 → F i v w2)
    (hS : ∀ i o, i < n → l[i]? = some o → ∀ s w1, Below w.heap.size w w1 → (∀ k, Region.waitsFor .any l.toArray i k = true → F k (s k) w1) → landsG P l.toArray o (lay all1 s (l.take n) 0 a) w1 (fun v w2 => Below w1.heap.size w1 w2 ∧ F i v w2))
    (hQ : ∀ s w1, Below w.heap.size w w1 → (∀ k, k < n → F k (s k) w1) → wpList P l.toArray Q (l.drop n) (lay all1 s (l.take n) 0 a) w1) : (Code.region id l.toArray true).wp P Q a w := by
  have fs := factS hfb
  obtain ⟨hsel, hn, hs, hc⟩ := fs.text
  have hn' : n < l.length := by simpa using hn
  have hdl : (l.drop n).length = l.toArray.size - n := by simp
  have tk : ∀ i, i < n → (l.take n)[i]? = l[i]? := fun i hi => by rw [List.getElem?_take, if_pos hi]
  have hdist : ∀ (x y : Nat) (ox oy : Oper), (l.take n)[x]? = some ox → (l.take n)[y]? = some oy → x ≠ y → ∀ t, ox.dst = some t → oy.dst ≠ some t := by
    intro x y ox oy hx hy hne t ht
    have hx' : x < n := by have := (List.getElem?_eq_some_iff.1 hx).1; simp at this; omega
    have hy' : y < n := by have := (List.getElem?_eq_some_iff.1 hy).1; simp at this; omega
    obtain ⟨o2, e2, _, h2⟩ := fs.at' y hy'
    rw [tk y hy'] at hy
    rw [tk x hx'] at hx
    have : o2 = oy := by have e3 : l.toArray[y]? = some oy := by simpa using hy
                         rw [e2] at e3; exact Option.some.inj e3
    subst this
    exact (h2 x ox t hx' (by simpa using hx) ht).2 (Ne.symm hne)
  have key : ∀ (f : Nat) (li : Array Bool) (s : Nat → Value) (w1 : World), HeadInv .any l.toArray n li → ((List.range n).filter (fun i => !li.getD i false)).length = f → Below w.heap.size w w1 →
      (∀ k, li.getD k false = true → F k (s k) w1) → wpAny P .any l.toArray Q (f + (l.toArray.size - n)) li (lay (fun j => li.getD j false) s (l.take n) 0 a) w1 := by
    intro f
    induction f with
    | zero =>
      intro li s w1 inv hf hb hfa
      have hli : ∀ k, k < n → li.getD k false = true := fun k hk => by
        have := List.filter_eq_nil_iff.1 (List.length_eq_zero_iff.1 hf) k (List.mem_range.2 hk)
        simpa using this
      have el : li = Array.replicate n true ++ Array.replicate (l.toArray.size - n) false := by
        apply Array.ext
        · rw [inv.size]; simp; omega
        · intro k h1 h2
          by_cases hk : k < n
          · have := hli k hk
            rw [Array.getElem_append_left (by simpa using hk)]
            simp [h1] at this
            simp [this]
          · have hk2 : k < l.toArray.size := by rw [← inv.size]; exact h1
            have := inv.tail k (by omega) hk2
            rw [Array.getElem_append_right (by simp; omega)]
            simp [h1] at this
            simp [this]
      rw [Nat.zero_add, ← hdl]
      have e1 : lay (fun j => li.getD j false) s (l.take n) 0 a = lay all1 s (l.take n) 0 a := by
        have : ∀ (l' : List Oper) (k : Nat) (a' : Act), k + l'.length ≤ n → lay (fun j => li.getD j false) s l' k a' = lay all1 s l' k a' := by
          intro l'
          induction l' with
          | nil => intro k a' _; rfl
          | cons o l' ih =>
            intro k a' hk
            simp only [List.length_cons] at hk
            unfold lay
            rw [hli k (by omega), ih (k + 1) _ (by omega)]
            rfl
        exact this _ _ _ (by simp; omega)
      rw [e1]
      refine wpAny_of_seq (l.drop n) n li _ w1 (fun j => by simp [List.getElem?_drop]) ?_ (hQ s w1 hb (fun k hk => hfa k (hli k hk)))
      rw [hdl, el]; exact fs.seq
    | succ f ih =>
      intro li s w1 inv hf hb hfa
      have hex : ∃ i, i < n ∧ li.getD i false = false := by
        have hne : (List.range n).filter (fun i => !li.getD i false) ≠ [] := fun e => by rw [e] at hf; simp at hf
        obtain ⟨x, hx⟩ := List.exists_mem_of_ne_nil _ hne
        obtain ⟨h1, h2⟩ := List.mem_filter.1 hx
        exact ⟨x, List.mem_range.1 h1, by simpa using h2⟩
      obtain ⟨i0, hi0, hu0⟩ := hex
      have sz : ∀ i, i < n → i < li.size := fun i hi => by rw [inv.size]; simp; omega
      have hall : ∀ j ∈ Region.ready .any l.toArray li, j < n := fun j hj => Nat.lt_of_not_le fun h => absurd hj (tail_waits hs hc hn inv _ i0 rfl hi0 (getD_in (sz i0 hi0) hu0) j h)
      have hsome : Region.ready .any l.toArray li ≠ [] := by
        have : ∀ d i, i ≤ d → i < n → li.getD i false = false → ∃ j, j ∈ Region.ready .any l.toArray li := by
          intro d
          induction d with
          | zero =>
            intro i hi hin hu
            obtain rfl : i = 0 := by omega
            obtain ⟨oi, ho, hbf, _⟩ := fs.at' 0 hin
            exact ⟨0, mem_ready.2 ⟨getD_in (sz 0 hin) hu, oi, ho, fun e he hbd => absurd (hbf e he hbd) (by omega)⟩⟩
          | succ d ihd =>
            intro i hi hin hu
            obtain ⟨oi, ho, hbf, _⟩ := fs.at' i hin
            by_cases hz : ∃ e ∈ oi.after, Region.binds .any e = true ∧ li.getD e.on false = false
            · obtain ⟨e, he, hbd, hue⟩ := hz
              have := hbf e he hbd
              exact ihd e.on (by omega) (by omega) hue
            · refine ⟨i, mem_ready.2 ⟨getD_in (sz i hin) hu, oi, ho, fun e he hbd => ?_⟩⟩
              cases hx : li.getD e.on false with
              | true => rfl
              | false => exact absurd ⟨e, he, hbd, hx⟩ hz
        obtain ⟨j, hj⟩ := this i0 i0 (Nat.le_refl _) hi0 hu0
        exact List.ne_nil_of_mem hj
      rw [show f + 1 + (l.toArray.size - n) = f + (l.toArray.size - n) + 1 by omega]
      refine ⟨fun e => absurd e hsome, fun i hi => ?_⟩
      have hin := hall i hi
      obtain ⟨hun, o, ho, hdep⟩ := mem_ready.1 hi
      obtain ⟨o2, ho2, hbf, hrd⟩ := fs.at' i hin
      obtain rfl : o2 = o := by rw [ho] at ho2; exact (Option.some.inj ho2).symm
      have hlo : l[i]? = some o2 := by simpa using ho
      have hstep := hS i o2 hin hlo s w1 hb (fun k hk => by
        obtain ⟨oj, hoj, e, he, hbd, hon⟩ := Region.waitsFor_spec hk
        obtain rfl : oj = o2 := by rw [ho] at hoj; exact (Option.some.inj hoj).symm
        exact hfa k (by rw [← hon]; exact hdep e he hbd))
      have hexec : execOp (lay (fun j => li.getD j false) s (l.take n) 0 a).eval o2 = execOp (lay all1 s (l.take n) 0 a).eval o2 := by
        refine execOp_congr o2 (fun cs b => Region.noSelect_spec hsel i o2 cs b ho) (fun x hx => lay_eval _ _ _ _ rfl rfl (fun j oj hj d hd hxd => ?_))
        have hj' : j < n := by have := (List.getElem?_eq_some_iff.1 hj).1; simp at this; omega
        rw [tk j hj'] at hj
        have hlook : d ∈ o2.looksAt l.toArray := by
          subst hxd
          exact List.mem_append_left _ (List.mem_filterMap.2 ⟨.tmp d, by simpa using hx, rfl⟩)
        have hw := (hrd j oj d hj' (by simpa using hj) hd).1 hlook
        obtain ⟨oj2, hoj2, e, he, hbd, hon⟩ := Region.waitsFor_spec hw
        obtain rfl : oj2 = o2 := by rw [ho] at hoj2; exact (Option.some.inj hoj2).symm
        rw [Nat.zero_add, ← hon]
        exact hdep e he hbd
      have hnext : ∀ v w2, Below w1.heap.size w1 w2 ∧ F i v w2 → wpAny P .any l.toArray Q (f + (l.toArray.size - n)) (li.setIfInBounds i true) ((lay (fun j => li.getD j false) s (l.take n) 0 a).put o2.dst v) w2 := by
        intro v w2 ⟨hb2, hfi⟩
        rw [lay_more (getD_both hun) (l.take n) 0 a (Nat.zero_le _) (by rw [Nat.sub_zero, tk i hin]; exact hlo) hdist]
        have e2 : upd (fun j => li.getD j false) i true = fun j => (li.setIfInBounds i true).getD j false := funext fun k => (getD_upd (sz i hin)).symm
        rw [e2]
        refine ih _ _ w2 (inv.set hi hin) ?_ (hb.trans (hb2.mono hb.size)) (fun k hk => ?_)
        · have e3 : (List.range n).filter (fun j => !(li.setIfInBounds i true).getD j false) = ((List.range n).filter (fun j => !li.getD j false)).erase i := by
            have nd : ((List.range n).filter (fun j => !li.getD j false)).Nodup := List.Pairwise.filter _ List.nodup_range
            rw [nd.erase_eq_filter, List.filter_filter]
            refine List.filter_congr (fun j hj => ?_)
            rw [getD_upd (sz i hin)]
            unfold upd
            by_cases e : j = i
            · subst e; simp
            · simp [e]
          rw [e3, List.length_erase_of_mem (List.mem_filter.2 ⟨List.mem_range.2 hin, by rw [getD_both hun]; rfl⟩), hf]
          rfl
        · rw [getD_upd (sz i hin)] at hk
          unfold upd at hk ⊢
          by_cases e : k = i
          · subst e; simpa using hfi
          · rw [if_neg e] at hk ⊢
            exact hF k _ w1 w2 (hfa k hk) hb2
      have hwant : Region.wanted o2 (yielded l.toArray (lay (fun j => li.getD j false) s (l.take n) 0 a).tmps) = Region.wanted o2 (yielded l.toArray (lay all1 s (l.take n) 0 a).tmps) := by
        unfold Region.wanted
        cases hgd : o2.guard with
        | none => rfl
        | some g =>
          obtain ⟨g, b⟩ := g
          dsimp only
          rw [yielded_eval, yielded_eval]
          cases hd : (l.toArray[g]?).bind (·.dst) with
          | none => rfl
          | some d =>
            dsimp only
            have hlook : d ∈ o2.looksAt l.toArray := by
              unfold Oper.looksAt
              refine List.mem_append_right _ ?_
              rw [hgd]
              dsimp only
              rw [hd]
              simp
            have := lay_eval (li := fun j => li.getD j false) (s := s) (x := .tmp d) (l.take n) 0 a a rfl rfl (fun j oj hj d' hd' hxd => by
              injection hxd with hxd
              subst hxd
              have hj' : j < n := by have := (List.getElem?_eq_some_iff.1 hj).1; simp at this; omega
              rw [tk j hj'] at hj
              have hw := (hrd j oj d hj' (by simpa using hj) hd').1 hlook
              obtain ⟨oj2, hoj2, e, he, hbd, hon⟩ := Region.waitsFor_spec hw
              obtain rfl : oj2 = o2 := by rw [ho] at hoj2; exact (Option.some.inj hoj2).symm
              rw [Nat.zero_add, ← hon]
              exact hdep e he hbd)
            rw [this]
      unfold wpOp
      rw [ho]
      dsimp only
      unfold landsG at hstep
      rw [← hwant] at hstep
      by_cases hwd : Region.wanted o2 (yielded l.toArray (lay (fun j => li.getD j false) s (l.take n) 0 a).tmps) = true
      case neg =>
        rw [if_neg hwd] at hstep
        rw [if_neg hwd]
        exact hnext undef w1 hstep
      rw [if_pos hwd] at hstep
      rw [if_pos hwd]
      refine .inl ?_
      unfold Oper.wp
      unfold lands at hstep
      rw [hexec]
      generalize (execOp (lay all1 s (l.take n) 0 a).eval o2).run P w1 = r at hstep
      cases r with
      | ok nx w' =>
        cases nx <;> simp only at hstep <;> simp only [Oper.upon]
        case value v => exact hnext v w' hstep
        case skip => exact hnext undef w' hstep
        case enter f' args =>
          exact hstep.mono (fun e w'' ⟨v, he, hk⟩ => by subst he; exact hnext v w'' hk)
      | halt x w' => cases x <;> simp only at hstep
  refine wp_region_any hm ?_
  have inv0 : HeadInv .any l.toArray n (Array.replicate l.toArray.size false) := ⟨by simp, fun j oj _ hl => (by rw [getD_replicate_false] at hl; cases hl), fun t _ ht => getD_in (by simpa using ht) (getD_replicate_false _ _)⟩
  have := key n (Array.replicate l.toArray.size false) (fun _ => undef) { w with drawn := w.drawn + 1 } inv0 (by
    rw [List.filter_eq_self.2 (fun x _ => by rw [getD_replicate_false]; rfl)]; simp) (Below.refl w.heap.size w).drew (fun k hk => by rw [getD_replicate_false] at hk; cases hk)
  have e0 : lay (fun j => (Array.replicate l.toArray.size false).getD j false) (fun _ => undef) (l.take n) 0 a = a := by
    have : ∀ (l' : List Oper) (k : Nat) (a' : Act), lay (fun j => (Array.replicate l.toArray.size false).getD j false) (fun _ => undef) l' k a' = a' := by
      intro l'
      induction l' with
      | nil => intro k a'; rfl
      | cons o l' ih => intro k a'; unfold lay; rw [getD_replicate_false, if_neg (by simp)]; exact ih _ _
    exact this _ _ _
  rw [e0, show n + (l.toArray.size - n) = l.toArray.size by omega] at this
  exact this
/-- the same, each operation in a frame of which only what it needs is known -/
theorem facts2 {id : Nat} {Q : Exit → Act → World → Prop} {a : Act} {w : World} {l : List Oper} (n : Nat) (hm : P.follows .mixedOrders = true) (hfb : factB l.toArray n = true)
    (F : Nat → Value → World → Prop) (hF : ∀ i v w1 w2, F i v w1 → Below w1.heap.size w1 w2 → F i v w2)
    (hS : ∀ i o, i < n → l[i]? = some o → ∀ (s : Nat → Value) (A : Act) (w1 : World), Below w.heap.size w w1 → (∀ k, Region.waitsFor .any l.toArray i k = true → F k (s k) w1) →
      (∀ k ok t, k < n → l[k]? = some ok → ok.dst = some t → t < a.tmps.size → A.eval (.tmp t) = s k) → (∀ t, (l.take n).all (fun ok => ok.dst != some t) = true → A.eval (.tmp t) = a.eval (.tmp t)) →
      landsG P l.toArray o A w1 (fun v w2 => Below w1.heap.size w1 w2 ∧ F i v w2))
    (hQ : ∀ s w1, Below w.heap.size w w1 → (∀ k, k < n → F k (s k) w1) → wpList P l.toArray Q (l.drop n) (lay all1 s (l.take n) 0 a) w1) : (Code.region id l.toArray true).wp P Q a w := by
  have fs := factS hfb
  have tk : ∀ i, i < n → (l.take n)[i]? = l[i]? := fun i hi => by rw [List.getElem?_take, if_pos hi]
  have hdist : ∀ (x y : Nat) (ox oy : Oper), (l.take n)[x]? = some ox → (l.take n)[y]? = some oy → x ≠ y → ∀ t, ox.dst = some t → oy.dst ≠ some t := by
    intro x y ox oy hx hy hne t ht
    have hx' : x < n := by have := (List.getElem?_eq_some_iff.1 hx).1; simp at this; omega
    have hy' : y < n := by have := (List.getElem?_eq_some_iff.1 hy).1; simp at this; omega
    obtain ⟨o2, e2, _, h2⟩ := fs.at' y hy'
    rw [tk y hy'] at hy
    rw [tk x hx'] at hx
    have e3 : l.toArray[y]? = some oy := by simpa using hy
    obtain rfl : o2 = oy := by rw [e2] at e3; exact Option.some.inj e3
    exact (h2 x ox t hx' (by simpa using hx) ht).2 (Ne.symm hne)
  refine facts n hm hfb F hF (fun i o hi ho s w1 hb hk => hS i o hi ho s _ w1 hb hk (fun k ok t hk' hok ht hz => ?_) (fun t ht => lay_old _ _ _ (fun ok hok => by simpa using List.all_eq_true.1 ht ok hok))) hQ
  have := lay_at (s := s) (l.take n) 0 a k ok (by rw [tk k hk']; exact hok) ht hdist hz
  rwa [Nat.zero_add] at this
end Qg
end Go.Proofs.Ytajljeegkmkkcaa

/- As Qg, where what stays from operation to operation is told by a relation of one's own. -/
namespace Go.Proofs.Ytajljeegkmkkcaa
namespace Qh
open Go.RowKit Qf Qg
set_option linter.unusedVariables false
variable {P : Program}
theorem facts {id : Nat} {Q : Exit → Act → World → Prop} {a : Act} {w : World} {l : List Oper} (R : World → World → Prop) (hT : ∀ a b c, R a b → R b c → R a c) (n : Nat) (h0 : R w { w with drawn := w.drawn + 1 }) (hm : P.follows .mixedOrders = true) (hfb : Qg.factB l.toArray n = true)
    (F : Nat → Value → World → Prop) (hF : ∀ i v w1 w2, F i v w1 → R w1 w2 → F i v w2)
    (hS : ∀ i o, i < n → l[i]? = some o → ∀ s w1, R w w1 → (∀ k, Region.waitsFor .any l.toArray i k = true → F k (s k) w1) → landsG P l.toArray o (lay all1 s (l.take n) 0 a) w1 (fun v w2 => R w1 w2 ∧ F i v w2))
    (hQ : ∀ s w1, R w w1 → (∀ k, k < n → F k (s k) w1) → wpList P l.toArray Q (l.drop n) (lay all1 s (l.take n) 0 a) w1) : (Code.region id l.toArray true).wp P Q a w := by
  have fs := Qg.factS hfb
  obtain ⟨hsel, hn, hs, hc⟩ := fs.text
  have hn' : n < l.length := by simpa using hn
  have hdl : (l.drop n).length = l.toArray.size - n := by simp
  have tk : ∀ i, i < n → (l.take n)[i]? = l[i]? := fun i hi => by rw [List.getElem?_take, if_pos hi]
  have hdist : ∀ (x y : Nat) (ox oy : Oper), (l.take n)[x]? = some ox → (l.take n)[y]? = some oy → x ≠ y → ∀ t, ox.dst = some t → oy.dst ≠ some t := by
    intro x y ox oy hx hy hne t ht
    have hx' : x < n := by have := (List.getElem?_eq_some_iff.1 hx).1; simp at this; omega
    have hy' : y < n := by have := (List.getElem?_eq_some_iff.1 hy).1; simp at this; omega
    obtain ⟨o2, e2, _, h2⟩ := fs.at' y hy'
    rw [tk y hy'] at hy
    rw [tk x hx'] at hx
    have : o2 = oy := by have e3 : l.toArray[y]? = some oy := by simpa using hy
                         rw [e2] at e3; exact Option.some.inj e3
    subst this
    exact (h2 x ox t hx' (by simpa using hx) ht).2 (Ne.symm hne)
  have key : ∀ (f : Nat) (li : Array Bool) (s : Nat → Value) (w1 : World), HeadInv .any l.toArray n li → ((List.range n).filter (fun i => !li.getD i false)).length = f → R w w1 →
      (∀ k, li.getD k false = true → F k (s k) w1) → wpAny P .any l.toArray Q (f + (l.toArray.size - n)) li (lay (fun j => li.getD j false) s (l.take n) 0 a) w1 := by
    intro f
    induction f with
    | zero =>
      intro li s w1 inv hf hb hfa
      have hli : ∀ k, k < n → li.getD k false = true := fun k hk => by
        have := List.filter_eq_nil_iff.1 (List.length_eq_zero_iff.1 hf) k (List.mem_range.2 hk)
        simpa using this
      have el : li = Array.replicate n true ++ Array.replicate (l.toArray.size - n) false := by
        apply Array.ext
        · rw [inv.size]; simp; omega
        · intro k h1 h2
          by_cases hk : k < n
          · have := hli k hk
            rw [Array.getElem_append_left (by simpa using hk)]
            simp [h1] at this
            simp [this]
          · have hk2 : k < l.toArray.size := by rw [← inv.size]; exact h1
            have := inv.tail k (by omega) hk2
            rw [Array.getElem_append_right (by simp; omega)]
            simp [h1] at this
            simp [this]
      rw [Nat.zero_add, ← hdl]
      have e1 : lay (fun j => li.getD j false) s (l.take n) 0 a = lay all1 s (l.take n) 0 a := by
        have : ∀ (l' : List Oper) (k : Nat) (a' : Act), k + l'.length ≤ n → lay (fun j => li.getD j false) s l' k a' = lay all1 s l' k a' := by
          intro l'
          induction l' with
          | nil => intro k a' _; rfl
          | cons o l' ih =>
            intro k a' hk
            simp only [List.length_cons] at hk
            unfold lay
            rw [hli k (by omega), ih (k + 1) _ (by omega)]
            rfl
        exact this _ _ _ (by simp; omega)
      rw [e1]
      refine wpAny_of_seq (l.drop n) n li _ w1 (fun j => by simp [List.getElem?_drop]) ?_ (hQ s w1 hb (fun k hk => hfa k (hli k hk)))
      rw [hdl, el]; exact fs.seq
    | succ f ih =>
      intro li s w1 inv hf hb hfa
      have hex : ∃ i, i < n ∧ li.getD i false = false := by
        have hne : (List.range n).filter (fun i => !li.getD i false) ≠ [] := fun e => by rw [e] at hf; simp at hf
        obtain ⟨x, hx⟩ := List.exists_mem_of_ne_nil _ hne
        obtain ⟨h1, h2⟩ := List.mem_filter.1 hx
        exact ⟨x, List.mem_range.1 h1, by simpa using h2⟩
      obtain ⟨i0, hi0, hu0⟩ := hex
      have sz : ∀ i, i < n → i < li.size := fun i hi => by rw [inv.size]; simp; omega
      have hall : ∀ j ∈ Region.ready .any l.toArray li, j < n := fun j hj => Nat.lt_of_not_le fun h => absurd hj (tail_waits hs hc hn inv _ i0 rfl hi0 (getD_in (sz i0 hi0) hu0) j h)
      have hsome : Region.ready .any l.toArray li ≠ [] := by
        have : ∀ d i, i ≤ d → i < n → li.getD i false = false → ∃ j, j ∈ Region.ready .any l.toArray li := by
          intro d
          induction d with
          | zero =>
            intro i hi hin hu
            obtain rfl : i = 0 := by omega
            obtain ⟨oi, ho, hbf, _⟩ := fs.at' 0 hin
            exact ⟨0, mem_ready.2 ⟨getD_in (sz 0 hin) hu, oi, ho, fun e he hbd => absurd (hbf e he hbd) (by omega)⟩⟩
          | succ d ihd =>
            intro i hi hin hu
            obtain ⟨oi, ho, hbf, _⟩ := fs.at' i hin
            by_cases hz : ∃ e ∈ oi.after, Region.binds .any e = true ∧ li.getD e.on false = false
            · obtain ⟨e, he, hbd, hue⟩ := hz
              have := hbf e he hbd
              exact ihd e.on (by omega) (by omega) hue
            · refine ⟨i, mem_ready.2 ⟨getD_in (sz i hin) hu, oi, ho, fun e he hbd => ?_⟩⟩
              cases hx : li.getD e.on false with
              | true => rfl
              | false => exact absurd ⟨e, he, hbd, hx⟩ hz
        obtain ⟨j, hj⟩ := this i0 i0 (Nat.le_refl _) hi0 hu0
        exact List.ne_nil_of_mem hj
      rw [show f + 1 + (l.toArray.size - n) = f + (l.toArray.size - n) + 1 by omega]
      refine ⟨fun e => absurd e hsome, fun i hi => ?_⟩
      have hin := hall i hi
      obtain ⟨hun, o, ho, hdep⟩ := mem_ready.1 hi
      obtain ⟨o2, ho2, hbf, hrd⟩ := fs.at' i hin
      obtain rfl : o2 = o := by rw [ho] at ho2; exact (Option.some.inj ho2).symm
      have hlo : l[i]? = some o2 := by simpa using ho
      have hstep := hS i o2 hin hlo s w1 hb (fun k hk => by
        obtain ⟨oj, hoj, e, he, hbd, hon⟩ := Region.waitsFor_spec hk
        obtain rfl : oj = o2 := by rw [ho] at hoj; exact (Option.some.inj hoj).symm
        exact hfa k (by rw [← hon]; exact hdep e he hbd))
      have hexec : execOp (lay (fun j => li.getD j false) s (l.take n) 0 a).eval o2 = execOp (lay all1 s (l.take n) 0 a).eval o2 := by
        refine execOp_congr o2 (fun cs b => Region.noSelect_spec hsel i o2 cs b ho) (fun x hx => lay_eval _ _ _ _ rfl rfl (fun j oj hj d hd hxd => ?_))
        have hj' : j < n := by have := (List.getElem?_eq_some_iff.1 hj).1; simp at this; omega
        rw [tk j hj'] at hj
        have hlook : d ∈ o2.looksAt l.toArray := by
          subst hxd
          exact List.mem_append_left _ (List.mem_filterMap.2 ⟨.tmp d, by simpa using hx, rfl⟩)
        have hw := (hrd j oj d hj' (by simpa using hj) hd).1 hlook
        obtain ⟨oj2, hoj2, e, he, hbd, hon⟩ := Region.waitsFor_spec hw
        obtain rfl : oj2 = o2 := by rw [ho] at hoj2; exact (Option.some.inj hoj2).symm
        rw [Nat.zero_add, ← hon]
        exact hdep e he hbd
      have hnext : ∀ v w2, R w1 w2 ∧ F i v w2 → wpAny P .any l.toArray Q (f + (l.toArray.size - n)) (li.setIfInBounds i true) ((lay (fun j => li.getD j false) s (l.take n) 0 a).put o2.dst v) w2 := by
        intro v w2 ⟨hb2, hfi⟩
        rw [lay_more (getD_both hun) (l.take n) 0 a (Nat.zero_le _) (by rw [Nat.sub_zero, tk i hin]; exact hlo) hdist]
        have e2 : upd (fun j => li.getD j false) i true = fun j => (li.setIfInBounds i true).getD j false := funext fun k => (getD_upd (sz i hin)).symm
        rw [e2]
        refine ih _ _ w2 (inv.set hi hin) ?_ (hT _ _ _ hb hb2) (fun k hk => ?_)
        · have e3 : (List.range n).filter (fun j => !(li.setIfInBounds i true).getD j false) = ((List.range n).filter (fun j => !li.getD j false)).erase i := by
            have nd : ((List.range n).filter (fun j => !li.getD j false)).Nodup := List.Pairwise.filter _ List.nodup_range
            rw [nd.erase_eq_filter, List.filter_filter]
            refine List.filter_congr (fun j hj => ?_)
            rw [getD_upd (sz i hin)]
            unfold upd
            by_cases e : j = i
            · subst e; simp
            · simp [e]
          rw [e3, List.length_erase_of_mem (List.mem_filter.2 ⟨List.mem_range.2 hin, by rw [getD_both hun]; rfl⟩), hf]
          rfl
        · rw [getD_upd (sz i hin)] at hk
          unfold upd at hk ⊢
          by_cases e : k = i
          · subst e; simpa using hfi
          · rw [if_neg e] at hk ⊢
            exact hF k _ w1 w2 (hfa k hk) hb2
      have hwant : Region.wanted o2 (yielded l.toArray (lay (fun j => li.getD j false) s (l.take n) 0 a).tmps) = Region.wanted o2 (yielded l.toArray (lay all1 s (l.take n) 0 a).tmps) := by
        unfold Region.wanted
        cases hgd : o2.guard with
        | none => rfl
        | some g =>
          obtain ⟨g, b⟩ := g
          dsimp only
          rw [yielded_eval, yielded_eval]
          cases hd : (l.toArray[g]?).bind (·.dst) with
          | none => rfl
          | some d =>
            dsimp only
            have hlook : d ∈ o2.looksAt l.toArray := by
              unfold Oper.looksAt
              refine List.mem_append_right _ ?_
              rw [hgd]
              dsimp only
              rw [hd]
              simp
            have := lay_eval (li := fun j => li.getD j false) (s := s) (x := .tmp d) (l.take n) 0 a a rfl rfl (fun j oj hj d' hd' hxd => by
              injection hxd with hxd
              subst hxd
              have hj' : j < n := by have := (List.getElem?_eq_some_iff.1 hj).1; simp at this; omega
              rw [tk j hj'] at hj
              have hw := (hrd j oj d hj' (by simpa using hj) hd').1 hlook
              obtain ⟨oj2, hoj2, e, he, hbd, hon⟩ := Region.waitsFor_spec hw
              obtain rfl : oj2 = o2 := by rw [ho] at hoj2; exact (Option.some.inj hoj2).symm
              rw [Nat.zero_add, ← hon]
              exact hdep e he hbd)
            rw [this]
      unfold wpOp
      rw [ho]
      dsimp only
      unfold landsG at hstep
      rw [← hwant] at hstep
      by_cases hwd : Region.wanted o2 (yielded l.toArray (lay (fun j => li.getD j false) s (l.take n) 0 a).tmps) = true
      case neg =>
        rw [if_neg hwd] at hstep
        rw [if_neg hwd]
        exact hnext undef w1 hstep
      rw [if_pos hwd] at hstep
      rw [if_pos hwd]
      refine .inl ?_
      unfold Oper.wp
      unfold lands at hstep
      rw [hexec]
      generalize (execOp (lay all1 s (l.take n) 0 a).eval o2).run P w1 = r at hstep
      cases r with
      | ok nx w' =>
        cases nx <;> simp only at hstep <;> simp only [Oper.upon]
        case value v => exact hnext v w' hstep
        case skip => exact hnext undef w' hstep
        case enter f' args =>
          exact hstep.mono (fun e w'' ⟨v, he, hk⟩ => by subst he; exact hnext v w'' hk)
      | halt x w' => cases x <;> simp only at hstep
  refine wp_region_any hm ?_
  have inv0 : HeadInv .any l.toArray n (Array.replicate l.toArray.size false) := ⟨by simp, fun j oj _ hl => (by rw [getD_replicate_false] at hl; cases hl), fun t _ ht => getD_in (by simpa using ht) (getD_replicate_false _ _)⟩
  have := key n (Array.replicate l.toArray.size false) (fun _ => undef) { w with drawn := w.drawn + 1 } inv0 (by
    rw [List.filter_eq_self.2 (fun x _ => by rw [getD_replicate_false]; rfl)]; simp) h0 (fun k hk => by rw [getD_replicate_false] at hk; cases hk)
  have e0 : lay (fun j => (Array.replicate l.toArray.size false).getD j false) (fun _ => undef) (l.take n) 0 a = a := by
    have : ∀ (l' : List Oper) (k : Nat) (a' : Act), lay (fun j => (Array.replicate l.toArray.size false).getD j false) (fun _ => undef) l' k a' = a' := by
      intro l'
      induction l' with
      | nil => intro k a'; rfl
      | cons o l' ih => intro k a'; unfold lay; rw [getD_replicate_false, if_neg (by simp)]; exact ih _ _
    exact this _ _ _
  rw [e0, show n + (l.toArray.size - n) = l.toArray.size by omega] at this
  exact this
/-- the same, each operation in a frame of which only what it needs is known -/
theorem facts2 {id : Nat} {Q : Exit → Act → World → Prop} {a : Act} {w : World} {l : List Oper} (R : World → World → Prop) (hT : ∀ a b c, R a b → R b c → R a c) (n : Nat) (h0 : R w { w with drawn := w.drawn + 1 }) (hm : P.follows .mixedOrders = true) (hfb : Qg.factB l.toArray n = true)
    (F : Nat → Value → World → Prop) (hF : ∀ i v w1 w2, F i v w1 → R w1 w2 → F i v w2)
    (hS : ∀ i o, i < n → l[i]? = some o → ∀ (s : Nat → Value) (A : Act) (w1 : World), R w w1 → (∀ k, Region.waitsFor .any l.toArray i k = true → F k (s k) w1) →
      (∀ k ok t, k < n → l[k]? = some ok → ok.dst = some t → t < a.tmps.size → A.eval (.tmp t) = s k) → (∀ t, (l.take n).all (fun ok => ok.dst != some t) = true → A.eval (.tmp t) = a.eval (.tmp t)) →
      landsG P l.toArray o A w1 (fun v w2 => R w1 w2 ∧ F i v w2))
    (hQ : ∀ s w1, R w w1 → (∀ k, k < n → F k (s k) w1) → wpList P l.toArray Q (l.drop n) (lay all1 s (l.take n) 0 a) w1) : (Code.region id l.toArray true).wp P Q a w := by
  have fs := Qg.factS hfb
  have tk : ∀ i, i < n → (l.take n)[i]? = l[i]? := fun i hi => by rw [List.getElem?_take, if_pos hi]
  have hdist : ∀ (x y : Nat) (ox oy : Oper), (l.take n)[x]? = some ox → (l.take n)[y]? = some oy → x ≠ y → ∀ t, ox.dst = some t → oy.dst ≠ some t := by
    intro x y ox oy hx hy hne t ht
    have hx' : x < n := by have := (List.getElem?_eq_some_iff.1 hx).1; simp at this; omega
    have hy' : y < n := by have := (List.getElem?_eq_some_iff.1 hy).1; simp at this; omega
    obtain ⟨o2, e2, _, h2⟩ := fs.at' y hy'
    rw [tk y hy'] at hy
    rw [tk x hx'] at hx
    have e3 : l.toArray[y]? = some oy := by simpa using hy
    obtain rfl : o2 = oy := by rw [e2] at e3; exact Option.some.inj e3
    exact (h2 x ox t hx' (by simpa using hx) ht).2 (Ne.symm hne)
  refine Qh.facts R hT n h0 hm hfb F hF (fun i o hi ho s w1 hb hk => hS i o hi ho s _ w1 hb hk (fun k ok t hk' hok ht hz => ?_) (fun t ht => lay_old _ _ _ (fun ok hok => by simpa using List.all_eq_true.1 ht ok hok))) hQ
  have := lay_at (s := s) (l.take n) 0 a k ok (by rw [tk k hk']; exact hok) ht hdist hz
  rwa [Nat.zero_add] at this
end Qh
end Go.Proofs.Ytajljeegkmkkcaa

/- As Qh and Qj: a fact may speak of the operations that were waited for, and each operation has a relation of its own, under which the others' facts stay. -/
namespace Go.Proofs.Ytajljeegkmkkcaa
namespace Qk
open Go.RowKit Qf Qg Qh
set_option linter.unusedVariables false
variable {P : Program}
theorem factsG {id : Nat} {Q : Exit → Act → World → Prop} {a : Act} {w : World} {l : List Oper} (R : World → World → Prop) (hT : ∀ a b c, R a b → R b c → R a c) (n : Nat) (h0 : R w { w with drawn := w.drawn + 1 }) (hm : P.follows .mixedOrders = true) (hfb : Qg.factB l.toArray n = true)
    (G : Nat → World → World → Prop) (F : Nat → (Nat → Value) → World → Prop) (hL : ∀ i s s' w1, (∀ j, (j = i ∨ Region.waitsFor .any l.toArray i j = true) → s j = s' j) → F i s w1 → F i s' w1) (hF : ∀ i k s w1 w2, i ≠ k → k < n → F i s w1 → R w1 w2 → G k w1 w2 → F i s w2)
    (hS : ∀ i o, i < n → l[i]? = some o → ∀ s w1, R w w1 → (∀ k, Region.waitsFor .any l.toArray i k = true → F k s w1) → landsG P l.toArray o (lay all1 s (l.take n) 0 a) w1 (fun v w2 => R w1 w2 ∧ G i w1 w2 ∧ F i (upd s i v) w2))
    (hQ : ∀ s w1, R w w1 → (∀ k, k < n → F k s w1) → wpList P l.toArray Q (l.drop n) (lay all1 s (l.take n) 0 a) w1) : (Code.region id l.toArray true).wp P Q a w := by
  have fs := Qg.factS hfb
  obtain ⟨hsel, hn, hs, hc⟩ := fs.text
  have hn' : n < l.length := by simpa using hn
  have hdl : (l.drop n).length = l.toArray.size - n := by simp
  have tk : ∀ i, i < n → (l.take n)[i]? = l[i]? := fun i hi => by rw [List.getElem?_take, if_pos hi]
  have hdist : ∀ (x y : Nat) (ox oy : Oper), (l.take n)[x]? = some ox → (l.take n)[y]? = some oy → x ≠ y → ∀ t, ox.dst = some t → oy.dst ≠ some t := by
    intro x y ox oy hx hy hne t ht
    have hx' : x < n := by have := (List.getElem?_eq_some_iff.1 hx).1; simp at this; omega
    have hy' : y < n := by have := (List.getElem?_eq_some_iff.1 hy).1; simp at this; omega
    obtain ⟨o2, e2, _, h2⟩ := fs.at' y hy'
    rw [tk y hy'] at hy
    rw [tk x hx'] at hx
    have : o2 = oy := by have e3 : l.toArray[y]? = some oy := by simpa using hy
                         rw [e2] at e3; exact Option.some.inj e3
    subst this
    exact (h2 x ox t hx' (by simpa using hx) ht).2 (Ne.symm hne)
  have key : ∀ (f : Nat) (li : Array Bool) (s : Nat → Value) (w1 : World), HeadInv .any l.toArray n li → ((List.range n).filter (fun i => !li.getD i false)).length = f → R w w1 →
      (∀ k, li.getD k false = true → F k s w1) → wpAny P .any l.toArray Q (f + (l.toArray.size - n)) li (lay (fun j => li.getD j false) s (l.take n) 0 a) w1 := by
    intro f
    induction f with
    | zero =>
      intro li s w1 inv hf hb hfa
      have hli : ∀ k, k < n → li.getD k false = true := fun k hk => by
        have := List.filter_eq_nil_iff.1 (List.length_eq_zero_iff.1 hf) k (List.mem_range.2 hk)
        simpa using this
      have el : li = Array.replicate n true ++ Array.replicate (l.toArray.size - n) false := by
        apply Array.ext
        · rw [inv.size]; simp; omega
        · intro k h1 h2
          by_cases hk : k < n
          · have := hli k hk
            rw [Array.getElem_append_left (by simpa using hk)]
            simp [h1] at this
            simp [this]
          · have hk2 : k < l.toArray.size := by rw [← inv.size]; exact h1
            have := inv.tail k (by omega) hk2
            rw [Array.getElem_append_right (by simp; omega)]
            simp [h1] at this
            simp [this]
      rw [Nat.zero_add, ← hdl]
      have e1 : lay (fun j => li.getD j false) s (l.take n) 0 a = lay all1 s (l.take n) 0 a := by
        have : ∀ (l' : List Oper) (k : Nat) (a' : Act), k + l'.length ≤ n → lay (fun j => li.getD j false) s l' k a' = lay all1 s l' k a' := by
          intro l'
          induction l' with
          | nil => intro k a' _; rfl
          | cons o l' ih =>
            intro k a' hk
            simp only [List.length_cons] at hk
            unfold lay
            rw [hli k (by omega), ih (k + 1) _ (by omega)]
            rfl
        exact this _ _ _ (by simp; omega)
      rw [e1]
      refine wpAny_of_seq (l.drop n) n li _ w1 (fun j => by simp [List.getElem?_drop]) ?_ (hQ s w1 hb (fun k hk => hfa k (hli k hk)))
      rw [hdl, el]; exact fs.seq
    | succ f ih =>
      intro li s w1 inv hf hb hfa
      have hex : ∃ i, i < n ∧ li.getD i false = false := by
        have hne : (List.range n).filter (fun i => !li.getD i false) ≠ [] := fun e => by rw [e] at hf; simp at hf
        obtain ⟨x, hx⟩ := List.exists_mem_of_ne_nil _ hne
        obtain ⟨h1, h2⟩ := List.mem_filter.1 hx
        exact ⟨x, List.mem_range.1 h1, by simpa using h2⟩
      obtain ⟨i0, hi0, hu0⟩ := hex
      have sz : ∀ i, i < n → i < li.size := fun i hi => by rw [inv.size]; simp; omega
      have hall : ∀ j ∈ Region.ready .any l.toArray li, j < n := fun j hj => Nat.lt_of_not_le fun h => absurd hj (tail_waits hs hc hn inv _ i0 rfl hi0 (getD_in (sz i0 hi0) hu0) j h)
      have hsome : Region.ready .any l.toArray li ≠ [] := by
        have : ∀ d i, i ≤ d → i < n → li.getD i false = false → ∃ j, j ∈ Region.ready .any l.toArray li := by
          intro d
          induction d with
          | zero =>
            intro i hi hin hu
            obtain rfl : i = 0 := by omega
            obtain ⟨oi, ho, hbf, _⟩ := fs.at' 0 hin
            exact ⟨0, mem_ready.2 ⟨getD_in (sz 0 hin) hu, oi, ho, fun e he hbd => absurd (hbf e he hbd) (by omega)⟩⟩
          | succ d ihd =>
            intro i hi hin hu
            obtain ⟨oi, ho, hbf, _⟩ := fs.at' i hin
            by_cases hz : ∃ e ∈ oi.after, Region.binds .any e = true ∧ li.getD e.on false = false
            · obtain ⟨e, he, hbd, hue⟩ := hz
              have := hbf e he hbd
              exact ihd e.on (by omega) (by omega) hue
            · refine ⟨i, mem_ready.2 ⟨getD_in (sz i hin) hu, oi, ho, fun e he hbd => ?_⟩⟩
              cases hx : li.getD e.on false with
              | true => rfl
              | false => exact absurd ⟨e, he, hbd, hx⟩ hz
        obtain ⟨j, hj⟩ := this i0 i0 (Nat.le_refl _) hi0 hu0
        exact List.ne_nil_of_mem hj
      rw [show f + 1 + (l.toArray.size - n) = f + (l.toArray.size - n) + 1 by omega]
      refine ⟨fun e => absurd e hsome, fun i hi => ?_⟩
      have hin := hall i hi
      obtain ⟨hun, o, ho, hdep⟩ := mem_ready.1 hi
      obtain ⟨o2, ho2, hbf, hrd⟩ := fs.at' i hin
      obtain rfl : o2 = o := by rw [ho] at ho2; exact (Option.some.inj ho2).symm
      have hlo : l[i]? = some o2 := by simpa using ho
      have hstep := hS i o2 hin hlo s w1 hb (fun k hk => by
        obtain ⟨oj, hoj, e, he, hbd, hon⟩ := Region.waitsFor_spec hk
        obtain rfl : oj = o2 := by rw [ho] at hoj; exact (Option.some.inj hoj).symm
        exact hfa k (by rw [← hon]; exact hdep e he hbd))
      have hexec : execOp (lay (fun j => li.getD j false) s (l.take n) 0 a).eval o2 = execOp (lay all1 s (l.take n) 0 a).eval o2 := by
        refine execOp_congr o2 (fun cs b => Region.noSelect_spec hsel i o2 cs b ho) (fun x hx => lay_eval _ _ _ _ rfl rfl (fun j oj hj d hd hxd => ?_))
        have hj' : j < n := by have := (List.getElem?_eq_some_iff.1 hj).1; simp at this; omega
        rw [tk j hj'] at hj
        have hlook : d ∈ o2.looksAt l.toArray := by
          subst hxd
          exact List.mem_append_left _ (List.mem_filterMap.2 ⟨.tmp d, by simpa using hx, rfl⟩)
        have hw := (hrd j oj d hj' (by simpa using hj) hd).1 hlook
        obtain ⟨oj2, hoj2, e, he, hbd, hon⟩ := Region.waitsFor_spec hw
        obtain rfl : oj2 = o2 := by rw [ho] at hoj2; exact (Option.some.inj hoj2).symm
        rw [Nat.zero_add, ← hon]
        exact hdep e he hbd
      have hnext : ∀ v w2, R w1 w2 ∧ G i w1 w2 ∧ F i (upd s i v) w2 → wpAny P .any l.toArray Q (f + (l.toArray.size - n)) (li.setIfInBounds i true) ((lay (fun j => li.getD j false) s (l.take n) 0 a).put o2.dst v) w2 := by
        intro v w2 ⟨hb2, hg2, hfi⟩
        rw [lay_more (getD_both hun) (l.take n) 0 a (Nat.zero_le _) (by rw [Nat.sub_zero, tk i hin]; exact hlo) hdist]
        have e2 : upd (fun j => li.getD j false) i true = fun j => (li.setIfInBounds i true).getD j false := funext fun k => (getD_upd (sz i hin)).symm
        rw [e2]
        refine ih _ _ w2 (inv.set hi hin) ?_ (hT _ _ _ hb hb2) (fun k hk => ?_)
        · have e3 : (List.range n).filter (fun j => !(li.setIfInBounds i true).getD j false) = ((List.range n).filter (fun j => !li.getD j false)).erase i := by
            have nd : ((List.range n).filter (fun j => !li.getD j false)).Nodup := List.Pairwise.filter _ List.nodup_range
            rw [nd.erase_eq_filter, List.filter_filter]
            refine List.filter_congr (fun j hj => ?_)
            rw [getD_upd (sz i hin)]
            unfold upd
            by_cases e : j = i
            · subst e; simp
            · simp [e]
          rw [e3, List.length_erase_of_mem (List.mem_filter.2 ⟨List.mem_range.2 hin, by rw [getD_both hun]; rfl⟩), hf]
          rfl
        · rw [getD_upd (sz i hin)] at hk
          by_cases e : k = i
          · subst e; exact hfi
          · unfold upd at hk
            rw [if_neg e] at hk
            refine hF k i _ w1 w2 e hin (hL k s _ w1 (fun j hj => ?_) (hfa k hk)) hb2 hg2
            have hji : j ≠ i := by
              rcases hj with rfl | hw
              · exact e
              · rintro rfl
                obtain ⟨ok, hok, e', he', hbd, hon⟩ := Region.waitsFor_spec hw
                have := inv.closed k ok hok hk e' he' hbd
                rw [hon, getD_both hun] at this
                cases this
            unfold upd
            rw [if_neg hji]
      have hwant : Region.wanted o2 (yielded l.toArray (lay (fun j => li.getD j false) s (l.take n) 0 a).tmps) = Region.wanted o2 (yielded l.toArray (lay all1 s (l.take n) 0 a).tmps) := by
        unfold Region.wanted
        cases hgd : o2.guard with
        | none => rfl
        | some g =>
          obtain ⟨g, b⟩ := g
          dsimp only
          rw [yielded_eval, yielded_eval]
          cases hd : (l.toArray[g]?).bind (·.dst) with
          | none => rfl
          | some d =>
            dsimp only
            have hlook : d ∈ o2.looksAt l.toArray := by
              unfold Oper.looksAt
              refine List.mem_append_right _ ?_
              rw [hgd]
              dsimp only
              rw [hd]
              simp
            have := lay_eval (li := fun j => li.getD j false) (s := s) (x := .tmp d) (l.take n) 0 a a rfl rfl (fun j oj hj d' hd' hxd => by
              injection hxd with hxd
              subst hxd
              have hj' : j < n := by have := (List.getElem?_eq_some_iff.1 hj).1; simp at this; omega
              rw [tk j hj'] at hj
              have hw := (hrd j oj d hj' (by simpa using hj) hd').1 hlook
              obtain ⟨oj2, hoj2, e, he, hbd, hon⟩ := Region.waitsFor_spec hw
              obtain rfl : oj2 = o2 := by rw [ho] at hoj2; exact (Option.some.inj hoj2).symm
              rw [Nat.zero_add, ← hon]
              exact hdep e he hbd)
            rw [this]
      unfold wpOp
      rw [ho]
      dsimp only
      unfold landsG at hstep
      rw [← hwant] at hstep
      by_cases hwd : Region.wanted o2 (yielded l.toArray (lay (fun j => li.getD j false) s (l.take n) 0 a).tmps) = true
      case neg =>
        rw [if_neg hwd] at hstep
        rw [if_neg hwd]
        exact hnext undef w1 hstep
      rw [if_pos hwd] at hstep
      rw [if_pos hwd]
      refine .inl ?_
      unfold Oper.wp
      unfold lands at hstep
      rw [hexec]
      generalize (execOp (lay all1 s (l.take n) 0 a).eval o2).run P w1 = r at hstep
      cases r with
      | ok nx w' =>
        cases nx <;> simp only at hstep <;> simp only [Oper.upon]
        case value v => exact hnext v w' hstep
        case skip => exact hnext undef w' hstep
        case enter f' args =>
          exact hstep.mono (fun e w'' ⟨v, he, hk⟩ => by subst he; exact hnext v w'' hk)
      | halt x w' => cases x <;> simp only at hstep
  refine wp_region_any hm ?_
  have inv0 : HeadInv .any l.toArray n (Array.replicate l.toArray.size false) := ⟨by simp, fun j oj _ hl => (by rw [getD_replicate_false] at hl; cases hl), fun t _ ht => getD_in (by simpa using ht) (getD_replicate_false _ _)⟩
  have := key n (Array.replicate l.toArray.size false) (fun _ => undef) { w with drawn := w.drawn + 1 } inv0 (by
    rw [List.filter_eq_self.2 (fun x _ => by rw [getD_replicate_false]; rfl)]; simp) h0 (fun k hk => by rw [getD_replicate_false] at hk; cases hk)
  have e0 : lay (fun j => (Array.replicate l.toArray.size false).getD j false) (fun _ => undef) (l.take n) 0 a = a := by
    have : ∀ (l' : List Oper) (k : Nat) (a' : Act), lay (fun j => (Array.replicate l.toArray.size false).getD j false) (fun _ => undef) l' k a' = a' := by
      intro l'
      induction l' with
      | nil => intro k a'; rfl
      | cons o l' ih => intro k a'; unfold lay; rw [getD_replicate_false, if_neg (by simp)]; exact ih _ _
    exact this _ _ _
  rw [e0, show n + (l.toArray.size - n) = l.toArray.size by omega] at this
  exact this
/-- the same, each operation in a frame of which only what it needs is known -/
theorem factsG2 {id : Nat} {Q : Exit → Act → World → Prop} {a : Act} {w : World} {l : List Oper} (R : World → World → Prop) (hT : ∀ a b c, R a b → R b c → R a c) (n : Nat) (h0 : R w { w with drawn := w.drawn + 1 }) (hm : P.follows .mixedOrders = true) (hfb : Qg.factB l.toArray n = true)
    (G : Nat → World → World → Prop) (F : Nat → (Nat → Value) → World → Prop) (hL : ∀ i s s' w1, (∀ j, (j = i ∨ Region.waitsFor .any l.toArray i j = true) → s j = s' j) → F i s w1 → F i s' w1) (hF : ∀ i k s w1 w2, i ≠ k → k < n → F i s w1 → R w1 w2 → G k w1 w2 → F i s w2)
    (hS : ∀ i o, i < n → l[i]? = some o → ∀ (s : Nat → Value) (A : Act) (w1 : World), R w w1 → (∀ k, Region.waitsFor .any l.toArray i k = true → F k s w1) →
      (∀ k ok t, k < n → l[k]? = some ok → ok.dst = some t → t < a.tmps.size → A.eval (.tmp t) = s k) → (∀ t, (l.take n).all (fun ok => ok.dst != some t) = true → A.eval (.tmp t) = a.eval (.tmp t)) →
      landsG P l.toArray o A w1 (fun v w2 => R w1 w2 ∧ G i w1 w2 ∧ F i (upd s i v) w2))
    (hQ : ∀ s w1, R w w1 → (∀ k, k < n → F k s w1) → wpList P l.toArray Q (l.drop n) (lay all1 s (l.take n) 0 a) w1) : (Code.region id l.toArray true).wp P Q a w := by
  have fs := Qg.factS hfb
  have tk : ∀ i, i < n → (l.take n)[i]? = l[i]? := fun i hi => by rw [List.getElem?_take, if_pos hi]
  have hdist : ∀ (x y : Nat) (ox oy : Oper), (l.take n)[x]? = some ox → (l.take n)[y]? = some oy → x ≠ y → ∀ t, ox.dst = some t → oy.dst ≠ some t := by
    intro x y ox oy hx hy hne t ht
    have hx' : x < n := by have := (List.getElem?_eq_some_iff.1 hx).1; simp at this; omega
    have hy' : y < n := by have := (List.getElem?_eq_some_iff.1 hy).1; simp at this; omega
    obtain ⟨o2, e2, _, h2⟩ := fs.at' y hy'
    rw [tk y hy'] at hy
    rw [tk x hx'] at hx
    have e3 : l.toArray[y]? = some oy := by simpa using hy
    obtain rfl : o2 = oy := by rw [e2] at e3; exact Option.some.inj e3
    exact (h2 x ox t hx' (by simpa using hx) ht).2 (Ne.symm hne)
  refine factsG R hT n h0 hm hfb G F hL hF (fun i o hi ho s w1 hb hk => hS i o hi ho s _ w1 hb hk (fun k ok t hk' hok ht hz => ?_) (fun t ht => lay_old _ _ _ (fun ok hok => by simpa using List.all_eq_true.1 ht ok hok))) hQ
  have := lay_at (s := s) (l.take n) 0 a k ok (by rw [tk k hk']; exact hok) ht hdist hz
  rwa [Nat.zero_add] at this
end Qk
end Go.Proofs.Ytajljeegkmkkcaa

/- For the law on StepOpt: a store into a variable of six cells as an operation of a region whose order is open. -/
namespace Go.Proofs.Ytajljeegkmkkcaa
namespace Qf
open Go.RowKit
theorem lands_skip {P : Program} {o : Oper} {A : Act} {w : World} {K : Value → World → Prop} (w' : World) (he : (execOp A.eval o).run P w = .ok .skip w') (hk : K undef w') : lands P o A w K := by
  unfold lands; rw [he]; exact hk
end Qf
namespace Vo
open Go.ChangeShapes Go.WideShapes Go.ChangeAt Go.RowKit Go.Joins Go.Sort
open Vl
set_option linter.unusedVariables false
/-- of a state in a variable: its first cell is a list -/
def Ls (V : Nat → Value) : Prop := ∃ a n c, V 0 = .slice a n c
/-- some variable of six cells was written, all else lies as it lay -/
def Sto (w w' : World) : Prop := ∃ v V V', C6 w v V ∧ Ls V ∧ Kept (· = v) w w' ∧ C6 w' v V' ∧ Ls V'
theorem rw_ne {w : World} {g r v : Nat} {D : Nat → Int} {V : Nat → Value} (h : Rw w g r D) (c : C6 w v V) (l : Ls V) (hr : r ≠ 0) : g ≠ v := by
  rintro rfl
  obtain ⟨a, n, k, e⟩ := l
  have h1 := (h 0 (by omega)).1
  have h2 := c.c 0 (by omega)
  rw [e, h1] at h2
  cases h2
theorem own_na {B v n : Nat} {w : World} {p : Option Addr} {D : Nat → Int} {V : Nat → Value} (h : OwnL B w p n D) (c : C6 w v V) (l : Ls V) : ∀ k, Blk p n k → k ≠ v := by
  rintro k ⟨hn, ad, e1, e2⟩
  rcases h with h | ⟨g, hp, _, hr⟩
  · exact absurd h hn
  · rw [hp] at e1
    cases e1
    have e2 : g = k := e2
    subst e2
    exact rw_ne hr c l hn
theorem rw_sto {w w' : World} {g r : Nat} {D : Nat → Int} (h : Rw w g r D) (s : Sto w w') : Rw w' g r D := by
  obtain ⟨v, V, V', c, l, k, _⟩ := s
  by_cases hr : r = 0
  · subst hr; exact fun t ht => absurd ht (by omega)
  · exact h.kept k (rw_ne h c l hr)
theorem own_sto {B n : Nat} {w w' : World} {p : Option Addr} {D : Nat → Int} (h : OwnL B w p n D) (s : Sto w w') : OwnL B w' p n D := by
  obtain ⟨v, V, V', c, l, k, _⟩ := s
  exact h.kept k (own_na h c l)
theorem six_sto {w w' : World} {g : Nat} {V : Nat → Value} (h : C6 w g V) (l : Ls V) (s : Sto w w') : ∃ V', C6 w' g V' ∧ Ls V' := by
  obtain ⟨v, U, U', c, lu, k, c', lu'⟩ := s
  by_cases e : g = v
  · subst e; exact ⟨U', c', lu'⟩
  · exact ⟨V, h.kept k e, l⟩
theorem Sto.size {w w' : World} (s : Sto w w') : w.heap.size ≤ w'.heap.size := by
  obtain ⟨v, V, V', c, l, k, _⟩ := s
  exact k.size
theorem ls_OV (aP aF aS : Option Addr) (n cP cF cS : Nat) (cnt fac good : Int) : Ls (OV aP aF aS n cP cF cS cnt fac good) := ⟨aP, n, cP, rfl⟩
/-- what operation k does: the n-th writes a variable, the others write nothing that was there -/
def GG (n k : Nat) (w w' : World) : Prop := (k ≠ n → Below w.heap.size w w') ∧ (k = n → Sto w w')
theorem GG.rw {n k g r : Nat} {w w' : World} {D : Nat → Int} (h : GG n k w w') (q : Rw w g r D) (z : g < w.heap.size) : Rw w' g r D := by
  by_cases e : k = n
  · exact rw_sto q (h.2 e)
  · exact q.below (h.1 e) z
theorem GG.own {n k B r : Nat} {w w' : World} {p : Option Addr} {D : Nat → Int} (h : GG n k w w') (q : OwnL B w p r D) : OwnL B w' p r D := by
  by_cases e : k = n
  · exact own_sto q (h.2 e)
  · exact q.below (h.1 e)
theorem GG.six {n k g : Nat} {w w' : World} {V : Nat → Value} (h : GG n k w w') (c : C6 w g V) (l : Ls V) : ∃ V', C6 w' g V' ∧ Ls V' := by
  by_cases e : k = n
  · exact six_sto c l (h.2 e)
  · exact ⟨V, c.kept (Kept.of_below (S := fun _ => False) (h.1 e)) id, l⟩
theorem GG.six0 {n k g : Nat} {w w' : World} {V : Nat → Value} (h : GG n k w w') (e : n ≠ k) (c : C6 w g V) : C6 w' g V := c.kept (Kept.of_below (S := fun _ => False) (h.1 (Ne.symm e))) id
theorem gp {B n i : Nat} {w1 w2 : World} {Fp : Prop} (hi : i ≠ n) (hB : B ≤ w1.heap.size) (b : Below w1.heap.size w1 w2) (f : Fp) : Below B w1 w2 ∧ GG n i w1 w2 ∧ Fp := ⟨b.mono hB, ⟨fun _ => b, fun e => absurd e hi⟩, f⟩
theorem gs {B n : Nat} {w1 w2 : World} {Fp : Prop} (b : Below B w1 w2) (s : Sto w1 w2) (f : Fp) : Below B w1 w2 ∧ GG n n w1 w2 ∧ Fp := ⟨b, ⟨fun h => absurd rfl h, fun _ => s⟩, f⟩
/-- an answer in a variable: lists of one's own from block B on -/
structure Ans (B gg : Nat) (p f q : Option Addr) (m c d g : Nat) (A E C : Nat → Int) (n1 n2 n3 : Int) (Y : World) : Prop where
  k : C6 Y gg (OV p f q m c d g n1 n2 n3)
  hB : B ≤ gg
  P : OwnL B Y p m A
  F : OwnL B Y f m E
  S : OwnL B Y q m C
  pf : ∀ k k', Blk p m k → Blk f m k' → k < k'
  fs : ∀ k k', Blk f m k → Blk q m k' → k < k'
section
variable {B gg : Nat} {p f q : Option Addr} {m c d g : Nat} {A E C : Nat → Int} {n1 n2 n3 : Int} {Y Y' : World}
theorem Ans.below (h : Ans B gg p f q m c d g A E C n1 n2 n3 Y) (b : Below Y.heap.size Y Y') : Ans B gg p f q m c d g A E C n1 n2 n3 Y' :=
  ⟨h.k.kept (Kept.of_below (S := fun _ => False) b) id, h.hB, h.P.below b, h.F.below b, h.S.below b, h.pf, h.fs⟩
theorem Ans.kept {S : Nat → Prop} (h : Ans B gg p f q m c d g A E C n1 n2 n3 Y) (k : Kept S Y Y') (hs : ∀ b, S b → b < B) : Ans B gg p f q m c d g A E C n1 n2 n3 Y' :=
  ⟨h.k.kept k (fun e => by have := hs _ e; have := h.hB; omega), h.hB, h.P.kept k (fun b hb e => by have := hs _ e; have := (h.P.blk hb).1; omega), h.F.kept k (fun b hb e => by have := hs _ e; have := (h.F.blk hb).1; omega), h.S.kept k (fun b hb e => by have := hs _ e; have := (h.S.blk hb).1; omega), h.pf, h.fs⟩
theorem Ans.pq (h : Ans B gg p f q m c d g A E C n1 n2 n3 Y) : ∀ k k', Blk p m k → Blk q m k' → k < k' := by
  intro k k' h1 h2
  rcases h.F with h0 | ⟨g2, e2, _, _⟩
  · exact absurd h0 h1.1
  · have b2 : Blk f m g2 := ⟨h1.1, _, e2, rfl⟩
    exact Nat.lt_trans (h.pf k g2 h1 b2) (h.fs g2 k' b2 h2)
/-- its lists are marked -/
theorem Ans.mark (h : Ans B gg p f q m c d g A E C n1 n2 n3 Y) {A' E' C' : Nat → Int} (k : Kept (fun i => Blk p m i ∨ Blk f m i ∨ Blk q m i) Y Y') (hP : OwnL B Y' p m A') (hF : OwnL B Y' f m E') (hS : OwnL B Y' q m C') : Ans B gg p f q m c d g A' E' C' n1 n2 n3 Y' := by
  refine ⟨h.k.kept k (fun e => ?_), h.hB, hP, hF, hS, h.pf, h.fs⟩
  rcases e with e | e | e
  · exact own_na h.P h.k (ls_OV ..) _ e rfl
  · exact own_na h.F h.k (ls_OV ..) _ e rfl
  · exact own_na h.S h.k (ls_OV ..) _ e rfl
end
/-- what came in, and what the model answered: it lies below block B -/
structure Pre (w : World) (B pa pb gw : Nat) (x0 x1 x2 x3 x4 x5 x6 x7 x8 x9 xa : Int) (v0 v1 v2 v3 v4 v5 : Value) (p f q : Option Addr) (m c d g : Nat) (A E C : Nat → Int) (n1 n2 n3 : Int) (Y : World) : Prop where
  bw : Below w.heap.size w Y
  z : w.heap.size ≤ B ∧ pa < B ∧ pb < B ∧ gw < B ∧ B ≤ Y.heap.size
  ka : Box11 Y pa x0 x1 x2 x3 x4 x5 x6 x7 x8 x9 xa
  kb : BoxV6 Y pb v0 v1 v2 v3 v4 v5
  kw : BoxV6 Y gw (.slice p m c) (.slice f m d) (.slice q m g) (.int .i64 n1) (.int .i64 n2) (.int .i64 n3)
  P : Ints B Y p m A
  F : Ints B Y f m E
  S : Ints B Y q m C
theorem box11_at {B p : Nat} {w w' : World} {x0 x1 x2 x3 x4 x5 x6 x7 x8 x9 xa : Int} (h : Box11 w p x0 x1 x2 x3 x4 x5 x6 x7 x8 x9 xa) (b : Below B w w') (hp : p < B) : Box11 w' p x0 x1 x2 x3 x4 x5 x6 x7 x8 x9 xa := by
  obtain ⟨hz, h0, h1, h2, h3, h4, h5, h6, h7, h8, h9, h10⟩ := h
  refine ⟨Nat.lt_of_lt_of_le hz b.size, ?_, ?_, ?_, ?_, ?_, ?_, ?_, ?_, ?_, ?_, ?_⟩ <;> rw [b.cell hp] <;> assumption
theorem boxV6_at {B p : Nat} {w w' : World} {v0 v1 v2 v3 v4 v5 : Value} (h : BoxV6 w p v0 v1 v2 v3 v4 v5) (b : Below B w w') (hp : p < B) : BoxV6 w' p v0 v1 v2 v3 v4 v5 := by
  obtain ⟨hz, h0, h1, h2, h3, h4, h5⟩ := h
  refine ⟨Nat.lt_of_lt_of_le hz b.size, ?_, ?_, ?_, ?_, ?_, ?_⟩ <;> rw [b.cell hp] <;> assumption
theorem Pre.below {w : World} {B pa pb gw : Nat} {x0 x1 x2 x3 x4 x5 x6 x7 x8 x9 xa : Int} {v0 v1 v2 v3 v4 v5 : Value} {p f q : Option Addr} {m c d g : Nat} {A E C : Nat → Int} {n1 n2 n3 : Int} {Y Y' : World} (h : Pre w B pa pb gw x0 x1 x2 x3 x4 x5 x6 x7 x8 x9 xa v0 v1 v2 v3 v4 v5 p f q m c d g A E C n1 n2 n3 Y) (b : Below B Y Y') :
    Pre w B pa pb gw x0 x1 x2 x3 x4 x5 x6 x7 x8 x9 xa v0 v1 v2 v3 v4 v5 p f q m c d g A E C n1 n2 n3 Y' := by
  obtain ⟨bw, ⟨z1, z2, z3, z4, z5⟩, ka, kb, kw, hP, hF, hS⟩ := h
  exact ⟨bw.trans (b.mono z1), ⟨z1, z2, z3, z4, Nat.le_trans z5 b.size⟩, box11_at ka b z2, boxV6_at kb b z3, boxV6_at kw b z4, hP.below b, hF.below b, hS.below b⟩
theorem Ans.box {B gg : Nat} {p f q : Option Addr} {m c d g : Nat} {A E C : Nat → Int} {n1 n2 n3 : Int} {Y : World} (h : Ans B gg p f q m c d g A E C n1 n2 n3 Y) : BoxV6 Y gg (.slice p m c) (.slice f m d) (.slice q m g) (.int .i64 n1) (.int .i64 n2) (.int .i64 n3) :=
  ⟨h.k.z, h.k.c 0 (by omega), h.k.c 1 (by omega), h.k.c 2 (by omega), h.k.c 3 (by omega), h.k.c 4 (by omega), h.k.c 5 (by omega)⟩
/-- what the program is handed: a state in a variable, its three rows and one more, between blocks B and C -/
structure Mid (B C v1 g1 g2 g3 gx r q s t : Nat) (n f o : Int) (P Q S D : Nat → Int) (Y : World) : Prop where
  k : BoxV6 Y v1 (.slice (some ⟨g1, 0, none⟩) r r) (.slice (some ⟨g2, 0, none⟩) q q) (.slice (some ⟨g3, 0, none⟩) s s) (.int .i64 n) (.int .i64 f) (.int .i64 o)
  z : B ≤ g1 ∧ g1 < g2 ∧ g2 < g3 ∧ g3 < v1 ∧ v1 < gx ∧ gx < C ∧ C ≤ Y.heap.size
  P : Rw Y g1 r P
  Q : Rw Y g2 q Q
  S : Rw Y g3 s S
  X : Rw Y gx t D
theorem Mid.below {B C v1 g1 g2 g3 gx r q s t : Nat} {n f o : Int} {P Q S D : Nat → Int} {Y Y' : World} (h : Mid B C v1 g1 g2 g3 gx r q s t n f o P Q S D Y) (b : Below C Y Y') : Mid B C v1 g1 g2 g3 gx r q s t n f o P Q S D Y' := by
  obtain ⟨k, z, hP, hQ, hS, hX⟩ := h
  exact ⟨boxV6_at k b (by omega), by have := b.size; omega, hP.below b (by omega), hQ.below b (by omega), hS.below b (by omega), hX.below b (by omega)⟩
section
variable {o : Oper} {A : Act} {w : World} {x y : Operand} {b : Nat}
theorem runStoreO {V : Nat → Value} {p f q : Option Addr} {m c d g : Nat} {n fc gd : Int} (ho : o.op = .store 30 x y) (hx : A.eval x = .pointer (some ⟨b, 0, none⟩)) (hy : A.eval y = .agg #[.slice p m c, .slice f m d, .slice q m g, .int .i64 n, .int .i64 fc, .int .i64 gd]) (h : C6 w b V) :
    ∃ w', (execOp A.eval o).run Try.prog w = .ok .skip w' ∧ C6 w' b (OV p f q m c d g n fc gd) ∧ Kept (· = b) w w' := by
  have c0 := h.c 0 (by omega)
  have c1 := h.c 1 (by omega)
  have c2 := h.c 2 (by omega)
  have c3 := h.c 3 (by omega)
  have c4 := h.c 4 (by omega)
  have c5 := h.c 5 (by omega)
  have f0 := h.f 0
  have f1 := h.f 1
  have f2 := h.f 2
  have f3 := h.f 3
  have f4 := h.f 4
  have f5 := h.f 5
  refine ⟨(((((w.setCell ⟨b, 0, none⟩ (.slice p m c)).setCell ⟨b, 1, none⟩ (.slice f m d)).setCell ⟨b, 2, none⟩ (.slice q m g)).setCell ⟨b, 3, none⟩ (.int .i64 n)).setCell ⟨b, 4, none⟩ (.int .i64 fc)).setCell ⟨b, 5, none⟩ (.int .i64 gd), ?_, ?_, ?_⟩
  · unfold execOp
    rw [ho]
    simp only [hx, hy]
    go_simp
  · refine (((((((h.set 0 _ (by omega)).set 1 _ (by omega)).set 2 _ (by omega)).set 3 _ (by omega)).set 4 _ (by omega)).set 5 _ (by omega))).same (fun i hi => ?_)
    rcases (by omega : i = 0 ∨ i = 1 ∨ i = 2 ∨ i = 3 ∨ i = 4 ∨ i = 5) with rfl | rfl | rfl | rfl | rfl | rfl <;> rfl
  · exact ((((((Kept.setCell w ⟨b, 0, none⟩ _).trans (Kept.setCell _ ⟨b, 1, none⟩ _)).trans (Kept.setCell _ ⟨b, 2, none⟩ _)).trans (Kept.setCell _ ⟨b, 3, none⟩ _)).trans (Kept.setCell _ ⟨b, 4, none⟩ _)).trans (Kept.setCell _ ⟨b, 5, none⟩ _))
end
end Vo
end Go.Proofs.Ytajljeegkmkkcaa
