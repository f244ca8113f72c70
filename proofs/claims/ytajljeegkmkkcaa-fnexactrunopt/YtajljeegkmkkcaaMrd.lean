/- Lemmas for the proof of the law. -/
import Derived.Test.YtajljeegkmkkcaaEj
import Derived.Test.YtajljeegkmkkcaaEf
import Derived.Test.YtajljeegkmkkcaaVl
import Derived.Test.YtajljeegkmkkcaaOm
import Derived.Test.YtajljeegkmkkcaaRhc
import Derived.Test.YtajljeegkmkkcaaVn
import Derived.Test.YtajljeegkmkkcaaAr
import Derived.Test.YtajljeegkmkkcaaQf
import Derived.Test.YtajljeegkmkkcaaLza
import Derived.Test.YtajljeegkmkkcaaOy
/- A rule's state in a law: measured, copied, compared (written by tools/gen15d.py). -/
namespace Go.Proofs.Ytajljeegkmkkcaa
namespace Vo
open Go.ChangeShapes Go.WideShapes Go.ChangeAt Go.RowKit Go.Joins Go.Sort
open Vl
set_option linter.unusedVariables false
set_option linter.unusedSimpArgs false
/-- a state of a rule in three lists and three numbers -/
def OVal (a b c : Option Addr) (r q s cap dap eap : Nat) (n f o : Int) : Value := .agg #[.slice a r cap, .slice b q dap, .slice c s eap, .int .i64 n, .int .i64 f, .int .i64 o]
/-- what comes of copying a state -/
def OCopy (r q s : Nat) (P Q S : Nat → Int) (n f o : Int) (w : World) (e : Ending) (w' : World) : Prop :=
  ∃ g1 g2 g3 : Nat, e = .returned (OVal (some ⟨g1, 0, none⟩) (some ⟨g2, 0, none⟩) (some ⟨g3, 0, none⟩) r q s r q s n f o) ∧ (w.heap.size ≤ g1 ∧ g1 < g2 ∧ g2 < g3 ∧ g3 < w'.heap.size) ∧ Rw w' g1 r P ∧ Rw w' g2 q Q ∧ Rw w' g3 s S ∧ Below w.heap.size w w'
set_option maxHeartbeats 1000000 in
theorem szOpt (a b c : Option Addr) (r q s cap dap eap : Nat) (n f o : Int) (w : World) (hr : (r : Int) ≤ 9223372036854775807) (hq : (q : Int) ≤ 9223372036854775807) (hs : (s : Int) ≤ 9223372036854775807) :
    Calls Try.prog 5 #[OVal a b c r q s cap dap eap n f o, .int .i64 1048576] w fun e w' => ∃ x : Int, e = .returned (.int .i64 x) ∧ (0 ≤ x → x ≤ 1048576 ∧ (r : Int) ≤ 1048576 ∧ (q : Int) ≤ 1048576 ∧ (s : Int) ≤ 1048576) ∧ Below w.heap.size w w' := by
  unfold OVal
  have bl := hide (show Below w.heap.size w (w.alloc (.cells #[.slice a r cap, .slice b q dap, .slice c s eap, .int .i64 n, .int .i64 f, .int .i64 o] 28)) from (Below.refl _ _).alloc (Nat.le_refl _) _)
  go_enter Try.func5, Try.ntmps5
  go_wp2_with fail
  refine (szIntS a r cap 1048576 _ (by decide) (by decide) hr).mono ?_; rintro e w1 ⟨x, rfl, hx, rfl⟩
  have HX := hide hx
  clear hx
  by_cases hx0 : x < 0
  · go_wp2_with fail
    go_ret
    exact ⟨_, rfl, fun h => by omega, bl.out⟩
  · have hx0' : decide (x < 0) = false := by rw [decide_eq_false_iff_not]; exact hx0
    have hxl : x ≤ 1048576 := by have := HX.out; unfold Sz at this; omega
    have hx1 : 0 ≤ x := by omega
    clear hx0
    go_wp2_with fail
    refine (szIntS b q dap x _ hx1 hxl hq).mono ?_; rintro e w1 ⟨y, rfl, hy, rfl⟩
    have HY := hide hy
    clear hy
    by_cases hy0 : y < 0
    · go_wp2_with fail
      go_ret
      exact ⟨_, rfl, fun h => by omega, bl.out⟩
    · have hy0' : decide (y < 0) = false := by rw [decide_eq_false_iff_not]; exact hy0
      have hyl : y ≤ 1048576 := by have := HX.out; have := HY.out; unfold Sz at *; omega
      have hy1 : 0 ≤ y := by omega
      clear hy0
      go_wp2_with fail
      refine (szIntS c s eap y _ hy1 hyl hs).mono ?_; rintro e w1 ⟨z, rfl, hz, rfl⟩
      have HZ := hide hz
      clear hz
      by_cases hz0 : z < 0
      · go_wp2_with fail
        go_ret
        exact ⟨_, rfl, fun h => by omega, bl.out⟩
      · have hz0' : decide (z < 0) = false := by rw [decide_eq_false_iff_not]; exact hz0
        have hf := hide (show z ≤ 1048576 ∧ (r : Int) ≤ 1048576 ∧ (q : Int) ≤ 1048576 ∧ (s : Int) ≤ 1048576 by have := HX.out; have := HY.out; have := HZ.out; unfold Sz at *; omega)
        clear hz0
        go_wp2_with fail
        go_ret
        exact ⟨_, rfl, fun _ => hf.out, bl.out⟩
set_option maxHeartbeats 2000000 in
theorem toOpt (B : Nat) (a b c : Option Addr) (r q s cap dap eap : Nat) (P Q S : Nat → Int) (n f o : Int) (w : World) (hB : B ≤ w.heap.size) (h1 : Ints B w a r P) (h2 : Ints B w b q Q) (h3 : Ints B w c s S) (hr : (r : Int) ≤ 1048576) (hq : (q : Int) ≤ 1048576) (hs : (s : Int) ≤ 1048576) :
    Calls Try.prog 8 #[OVal a b c r q s cap dap eap n f o] w (OCopy r q s P Q S n f o w) := by
  unfold OVal
  have H1 := hide h1
  have H2 := hide h2
  have H3 := hide h3
  clear h1 h2 h3
  have k0 := R3.new w #[.slice a r cap, .slice b q dap, .slice c s eap, .int .i64 n, .int .i64 f, .int .i64 o] #[.slice none 0 0, .slice none 0 0, .slice none 0 0, .int .i64 0, .int .i64 0, .int .i64 0] #[.slice none 0 0, .slice none 0 0, .slice none 0 0, .int .i64 0, .int .i64 0, .int .i64 0] 28 30 30 6 rfl rfl rfl
  obtain ⟨W0, hW0⟩ : ∃ W0, ((w.alloc (.cells #[.slice a r cap, .slice b q dap, .slice c s eap, .int .i64 n, .int .i64 f, .int .i64 o] 28)).alloc (.cells #[.slice none 0 0, .slice none 0 0, .slice none 0 0, .int .i64 0, .int .i64 0, .int .i64 0] 30)).alloc (.cells #[.slice none 0 0, .slice none 0 0, .slice none 0 0, .int .i64 0, .int .i64 0, .int .i64 0] 30) = W0 := ⟨_, rfl⟩
  rw [hW0] at k0
  have K0 := hide k0
  have BW0 := hide (show Below w.heap.size w W0 from hW0 ▸ (((Below.refl _ _).alloc (Nat.le_refl _) _).alloc (by simp) _).alloc (by simp; omega) _)
  clear k0
  have p0 : W0.cell? ⟨w.heap.size, 0, none⟩ = some (.slice a r cap) := K0.out.s 0 (by omega)
  go_enter Try.func8, Try.ntmps8
  go_wp2_with fail
  clear p0 hW0
  refine (toIntS B a r cap P _ (H1.out.below (BW0.out.mono hB)) (Nat.le_trans hB BW0.out.size) hr).mono ?_
  rintro e w1 ⟨rfl, q1, s1, b1⟩
  have Hw1 := hide (K0.out.below b1)
  have Bw1 := hide (BW0.out.trans (b1.mono BW0.out.size))
  have Q1 := hide q1
  have L1 := hide s1
  have M1 := hide (show w.heap.size + 1 + 1 < W0.heap.size from K0.out.z)
  clear q1 s1 b1
  obtain ⟨X1, hX1⟩ : ∃ X1, w1.setCell ⟨w.heap.size + 1 + 1, 0, none⟩ (.slice (some ⟨W0.heap.size, 0, none⟩) r r) = X1 := ⟨_, rfl⟩
  have HX1 := hide (show R3 6 X1 _ _ _ _ from hX1 ▸ Hw1.out.setO 0 (.slice (some ⟨W0.heap.size, 0, none⟩) r r) (by omega))
  obtain ⟨uX1, eX1⟩ : ∃ u, w1.cell? ⟨w.heap.size + 1 + 1, 0, none⟩ = some u := ⟨_, Hw1.out.o 0 (by omega)⟩
  have gX1 : w1.frozen? ⟨w.heap.size + 1 + 1, 0, none⟩ = false := Hw1.out.fo 0
  have BX1 := hide (show Below w.heap.size w X1 from hX1 ▸ Bw1.out.setCell (by show w.heap.size ≤ w.heap.size + 1 + 1; omega) _)
  have zX1 : X1.heap.size = w1.heap.size := by rw [← hX1]; simp [World.setCell]
  have ZX1 := hide zX1
  clear zX1
  replace Q1 := hide (hX1 ▸ Q1.out.kept (Kept.setCell w1 ⟨w.heap.size + 1 + 1, 0, none⟩ (.slice (some ⟨W0.heap.size, 0, none⟩) r r)) (by show ¬ W0.heap.size = w.heap.size + 1 + 1; have := M1.out; omega) : Rw X1 W0.heap.size r P)
  replace L1 := hide (show W0.heap.size < X1.heap.size by rw [ZX1.out]; exact L1.out)
  have O12 := L1
  have p1 : X1.cell? ⟨w.heap.size, 1, none⟩ = some (.slice b q dap) := HX1.out.s 1 (by omega)
  go_wp2_with fail
  clear p1 hX1 eX1 gX1
  refine (toIntS B b q dap Q _ (H2.out.below (BX1.out.mono hB)) (Nat.le_trans hB BX1.out.size) hq).mono ?_
  rintro e w2 ⟨rfl, q2, s2, b2⟩
  have Hw2 := hide (HX1.out.below b2)
  have Bw2 := hide (BX1.out.trans (b2.mono BX1.out.size))
  replace Q1 := hide (Q1.out.below b2 (Nat.lt_of_lt_of_le L1.out (Nat.le_refl _)))
  replace L1 := hide (Nat.lt_of_lt_of_le L1.out b2.size)
  have Q2 := hide q2
  have L2 := hide s2
  have M2 := hide (show w.heap.size + 1 + 1 < X1.heap.size from HX1.out.z)
  clear q2 s2 b2
  obtain ⟨X2, hX2⟩ : ∃ X2, w2.setCell ⟨w.heap.size + 1 + 1, 1, none⟩ (.slice (some ⟨X1.heap.size, 0, none⟩) q q) = X2 := ⟨_, rfl⟩
  have HX2 := hide (show R3 6 X2 _ _ _ _ from hX2 ▸ Hw2.out.setO 1 (.slice (some ⟨X1.heap.size, 0, none⟩) q q) (by omega))
  obtain ⟨uX2, eX2⟩ : ∃ u, w2.cell? ⟨w.heap.size + 1 + 1, 1, none⟩ = some u := ⟨_, Hw2.out.o 1 (by omega)⟩
  have gX2 : w2.frozen? ⟨w.heap.size + 1 + 1, 1, none⟩ = false := Hw2.out.fo 1
  have BX2 := hide (show Below w.heap.size w X2 from hX2 ▸ Bw2.out.setCell (by show w.heap.size ≤ w.heap.size + 1 + 1; omega) _)
  have zX2 : X2.heap.size = w2.heap.size := by rw [← hX2]; simp [World.setCell]
  have ZX2 := hide zX2
  clear zX2
  replace Q1 := hide (hX2 ▸ Q1.out.kept (Kept.setCell w2 ⟨w.heap.size + 1 + 1, 1, none⟩ (.slice (some ⟨X1.heap.size, 0, none⟩) q q)) (by show ¬ W0.heap.size = w.heap.size + 1 + 1; have := M1.out; omega) : Rw X2 W0.heap.size r P)
  replace L1 := hide (show W0.heap.size < X2.heap.size by rw [ZX2.out]; exact L1.out)
  replace Q2 := hide (hX2 ▸ Q2.out.kept (Kept.setCell w2 ⟨w.heap.size + 1 + 1, 1, none⟩ (.slice (some ⟨X1.heap.size, 0, none⟩) q q)) (by show ¬ X1.heap.size = w.heap.size + 1 + 1; have := M2.out; omega) : Rw X2 X1.heap.size q Q)
  replace L2 := hide (show X1.heap.size < X2.heap.size by rw [ZX2.out]; exact L2.out)
  have O23 := L2
  have p2 : X2.cell? ⟨w.heap.size, 2, none⟩ = some (.slice c s eap) := HX2.out.s 2 (by omega)
  go_wp2_with fail
  clear p2 hX2 eX2 gX2
  refine (toIntS B c s eap S _ (H3.out.below (BX2.out.mono hB)) (Nat.le_trans hB BX2.out.size) hs).mono ?_
  rintro e w3 ⟨rfl, q3, s3, b3⟩
  have Hw3 := hide (HX2.out.below b3)
  have Bw3 := hide (BX2.out.trans (b3.mono BX2.out.size))
  replace Q1 := hide (Q1.out.below b3 (Nat.lt_of_lt_of_le L1.out (Nat.le_refl _)))
  replace Q2 := hide (Q2.out.below b3 (Nat.lt_of_lt_of_le L2.out (Nat.le_refl _)))
  replace L1 := hide (Nat.lt_of_lt_of_le L1.out b3.size)
  replace L2 := hide (Nat.lt_of_lt_of_le L2.out b3.size)
  have Q3 := hide q3
  have L3 := hide s3
  have M3 := hide (show w.heap.size + 1 + 1 < X2.heap.size from HX2.out.z)
  clear q3 s3 b3
  obtain ⟨X3, hX3⟩ : ∃ X3, w3.setCell ⟨w.heap.size + 1 + 1, 2, none⟩ (.slice (some ⟨X2.heap.size, 0, none⟩) s s) = X3 := ⟨_, rfl⟩
  have HX3 := hide (show R3 6 X3 _ _ _ _ from hX3 ▸ Hw3.out.setO 2 (.slice (some ⟨X2.heap.size, 0, none⟩) s s) (by omega))
  obtain ⟨uX3, eX3⟩ : ∃ u, w3.cell? ⟨w.heap.size + 1 + 1, 2, none⟩ = some u := ⟨_, Hw3.out.o 2 (by omega)⟩
  have gX3 : w3.frozen? ⟨w.heap.size + 1 + 1, 2, none⟩ = false := Hw3.out.fo 2
  have BX3 := hide (show Below w.heap.size w X3 from hX3 ▸ Bw3.out.setCell (by show w.heap.size ≤ w.heap.size + 1 + 1; omega) _)
  have zX3 : X3.heap.size = w3.heap.size := by rw [← hX3]; simp [World.setCell]
  have ZX3 := hide zX3
  clear zX3
  replace Q1 := hide (hX3 ▸ Q1.out.kept (Kept.setCell w3 ⟨w.heap.size + 1 + 1, 2, none⟩ (.slice (some ⟨X2.heap.size, 0, none⟩) s s)) (by show ¬ W0.heap.size = w.heap.size + 1 + 1; have := M1.out; omega) : Rw X3 W0.heap.size r P)
  replace L1 := hide (show W0.heap.size < X3.heap.size by rw [ZX3.out]; exact L1.out)
  replace Q2 := hide (hX3 ▸ Q2.out.kept (Kept.setCell w3 ⟨w.heap.size + 1 + 1, 2, none⟩ (.slice (some ⟨X2.heap.size, 0, none⟩) s s)) (by show ¬ X1.heap.size = w.heap.size + 1 + 1; have := M2.out; omega) : Rw X3 X1.heap.size q Q)
  replace L2 := hide (show X1.heap.size < X3.heap.size by rw [ZX3.out]; exact L2.out)
  replace Q3 := hide (hX3 ▸ Q3.out.kept (Kept.setCell w3 ⟨w.heap.size + 1 + 1, 2, none⟩ (.slice (some ⟨X2.heap.size, 0, none⟩) s s)) (by show ¬ X2.heap.size = w.heap.size + 1 + 1; have := M3.out; omega) : Rw X3 X2.heap.size s S)
  replace L3 := hide (show X2.heap.size < X3.heap.size by rw [ZX3.out]; exact L3.out)
  obtain ⟨X4, hX4⟩ : ∃ X4, X3.setCell ⟨w.heap.size + 1 + 1, 3, none⟩ (.int .i64 n) = X4 := ⟨_, rfl⟩
  have HX4 := hide (show R3 6 X4 _ _ _ _ from hX4 ▸ HX3.out.setO 3 (.int .i64 n) (by omega))
  obtain ⟨uX4, eX4⟩ : ∃ u, X3.cell? ⟨w.heap.size + 1 + 1, 3, none⟩ = some u := ⟨_, HX3.out.o 3 (by omega)⟩
  have gX4 : X3.frozen? ⟨w.heap.size + 1 + 1, 3, none⟩ = false := HX3.out.fo 3
  have BX4 := hide (show Below w.heap.size w X4 from hX4 ▸ BX3.out.setCell (by show w.heap.size ≤ w.heap.size + 1 + 1; omega) _)
  have zX4 : X4.heap.size = X3.heap.size := by rw [← hX4]; simp [World.setCell]
  have ZX4 := hide zX4
  clear zX4
  obtain ⟨X5, hX5⟩ : ∃ X5, X4.setCell ⟨w.heap.size + 1 + 1, 4, none⟩ (.int .i64 f) = X5 := ⟨_, rfl⟩
  have HX5 := hide (show R3 6 X5 _ _ _ _ from hX5 ▸ HX4.out.setO 4 (.int .i64 f) (by omega))
  obtain ⟨uX5, eX5⟩ : ∃ u, X4.cell? ⟨w.heap.size + 1 + 1, 4, none⟩ = some u := ⟨_, HX4.out.o 4 (by omega)⟩
  have gX5 : X4.frozen? ⟨w.heap.size + 1 + 1, 4, none⟩ = false := HX4.out.fo 4
  have BX5 := hide (show Below w.heap.size w X5 from hX5 ▸ BX4.out.setCell (by show w.heap.size ≤ w.heap.size + 1 + 1; omega) _)
  have zX5 : X5.heap.size = X4.heap.size := by rw [← hX5]; simp [World.setCell]
  have ZX5 := hide zX5
  clear zX5
  obtain ⟨X6, hX6⟩ : ∃ X6, X5.setCell ⟨w.heap.size + 1 + 1, 5, none⟩ (.int .i64 o) = X6 := ⟨_, rfl⟩
  have HX6 := hide (show R3 6 X6 _ _ _ _ from hX6 ▸ HX5.out.setO 5 (.int .i64 o) (by omega))
  obtain ⟨uX6, eX6⟩ : ∃ u, X5.cell? ⟨w.heap.size + 1 + 1, 5, none⟩ = some u := ⟨_, HX5.out.o 5 (by omega)⟩
  have gX6 : X5.frozen? ⟨w.heap.size + 1 + 1, 5, none⟩ = false := HX5.out.fo 5
  have BX6 := hide (show Below w.heap.size w X6 from hX6 ▸ BX5.out.setCell (by show w.heap.size ≤ w.heap.size + 1 + 1; omega) _)
  have zX6 : X6.heap.size = X5.heap.size := by rw [← hX6]; simp [World.setCell]
  have ZX6 := hide zX6
  clear zX6
  have p3 : X3.cell? ⟨w.heap.size, 3, none⟩ = some (.int .i64 n) := HX3.out.s 3 (by omega)
  have p4 : X4.cell? ⟨w.heap.size, 4, none⟩ = some (.int .i64 f) := HX4.out.s 4 (by omega)
  have p5 : X5.cell? ⟨w.heap.size, 5, none⟩ = some (.int .i64 o) := HX5.out.s 5 (by omega)
  have o0 : X6.cell? ⟨w.heap.size + 1 + 1, 0, none⟩ = some (.slice (some ⟨W0.heap.size, 0, none⟩) r r) := HX6.out.o 0 (by omega)
  have o1 : X6.cell? ⟨w.heap.size + 1 + 1, 1, none⟩ = some (.slice (some ⟨X1.heap.size, 0, none⟩) q q) := HX6.out.o 1 (by omega)
  have o2 : X6.cell? ⟨w.heap.size + 1 + 1, 2, none⟩ = some (.slice (some ⟨X2.heap.size, 0, none⟩) s s) := HX6.out.o 2 (by omega)
  have o3 : X6.cell? ⟨w.heap.size + 1 + 1, 3, none⟩ = some (.int .i64 n) := HX6.out.o 3 (by omega)
  have o4 : X6.cell? ⟨w.heap.size + 1 + 1, 4, none⟩ = some (.int .i64 f) := HX6.out.o 4 (by omega)
  have o5 : X6.cell? ⟨w.heap.size + 1 + 1, 5, none⟩ = some (.int .i64 o) := HX6.out.o 5 (by omega)
  obtain ⟨Y0, hY0⟩ : ∃ Y0, X6.setCell ⟨w.heap.size + 1, 0, none⟩ (.slice (some ⟨W0.heap.size, 0, none⟩) r r) = Y0 := ⟨_, rfl⟩
  have HY0 := hide (show R3 6 Y0 _ _ _ _ from hY0 ▸ HX6.out.setR 0 (.slice (some ⟨W0.heap.size, 0, none⟩) r r) (by omega))
  obtain ⟨uY0, eY0⟩ : ∃ u, X6.cell? ⟨w.heap.size + 1, 0, none⟩ = some u := ⟨_, HX6.out.r 0 (by omega)⟩
  have gY0 : X6.frozen? ⟨w.heap.size + 1, 0, none⟩ = false := HX6.out.fr 0
  have BY0 := hide (show Below w.heap.size w Y0 from hY0 ▸ BX6.out.setCell (by show w.heap.size ≤ w.heap.size + 1; omega) _)
  have zY0 : Y0.heap.size = X6.heap.size := by rw [← hY0]; simp [World.setCell]
  have ZY0 := hide zY0
  clear zY0
  obtain ⟨Y1, hY1⟩ : ∃ Y1, Y0.setCell ⟨w.heap.size + 1, 1, none⟩ (.slice (some ⟨X1.heap.size, 0, none⟩) q q) = Y1 := ⟨_, rfl⟩
  have HY1 := hide (show R3 6 Y1 _ _ _ _ from hY1 ▸ HY0.out.setR 1 (.slice (some ⟨X1.heap.size, 0, none⟩) q q) (by omega))
  obtain ⟨uY1, eY1⟩ : ∃ u, Y0.cell? ⟨w.heap.size + 1, 1, none⟩ = some u := ⟨_, HY0.out.r 1 (by omega)⟩
  have gY1 : Y0.frozen? ⟨w.heap.size + 1, 1, none⟩ = false := HY0.out.fr 1
  have BY1 := hide (show Below w.heap.size w Y1 from hY1 ▸ BY0.out.setCell (by show w.heap.size ≤ w.heap.size + 1; omega) _)
  have zY1 : Y1.heap.size = Y0.heap.size := by rw [← hY1]; simp [World.setCell]
  have ZY1 := hide zY1
  clear zY1
  obtain ⟨Y2, hY2⟩ : ∃ Y2, Y1.setCell ⟨w.heap.size + 1, 2, none⟩ (.slice (some ⟨X2.heap.size, 0, none⟩) s s) = Y2 := ⟨_, rfl⟩
  have HY2 := hide (show R3 6 Y2 _ _ _ _ from hY2 ▸ HY1.out.setR 2 (.slice (some ⟨X2.heap.size, 0, none⟩) s s) (by omega))
  obtain ⟨uY2, eY2⟩ : ∃ u, Y1.cell? ⟨w.heap.size + 1, 2, none⟩ = some u := ⟨_, HY1.out.r 2 (by omega)⟩
  have gY2 : Y1.frozen? ⟨w.heap.size + 1, 2, none⟩ = false := HY1.out.fr 2
  have BY2 := hide (show Below w.heap.size w Y2 from hY2 ▸ BY1.out.setCell (by show w.heap.size ≤ w.heap.size + 1; omega) _)
  have zY2 : Y2.heap.size = Y1.heap.size := by rw [← hY2]; simp [World.setCell]
  have ZY2 := hide zY2
  clear zY2
  obtain ⟨Y3, hY3⟩ : ∃ Y3, Y2.setCell ⟨w.heap.size + 1, 3, none⟩ (.int .i64 n) = Y3 := ⟨_, rfl⟩
  have HY3 := hide (show R3 6 Y3 _ _ _ _ from hY3 ▸ HY2.out.setR 3 (.int .i64 n) (by omega))
  obtain ⟨uY3, eY3⟩ : ∃ u, Y2.cell? ⟨w.heap.size + 1, 3, none⟩ = some u := ⟨_, HY2.out.r 3 (by omega)⟩
  have gY3 : Y2.frozen? ⟨w.heap.size + 1, 3, none⟩ = false := HY2.out.fr 3
  have BY3 := hide (show Below w.heap.size w Y3 from hY3 ▸ BY2.out.setCell (by show w.heap.size ≤ w.heap.size + 1; omega) _)
  have zY3 : Y3.heap.size = Y2.heap.size := by rw [← hY3]; simp [World.setCell]
  have ZY3 := hide zY3
  clear zY3
  obtain ⟨Y4, hY4⟩ : ∃ Y4, Y3.setCell ⟨w.heap.size + 1, 4, none⟩ (.int .i64 f) = Y4 := ⟨_, rfl⟩
  have HY4 := hide (show R3 6 Y4 _ _ _ _ from hY4 ▸ HY3.out.setR 4 (.int .i64 f) (by omega))
  obtain ⟨uY4, eY4⟩ : ∃ u, Y3.cell? ⟨w.heap.size + 1, 4, none⟩ = some u := ⟨_, HY3.out.r 4 (by omega)⟩
  have gY4 : Y3.frozen? ⟨w.heap.size + 1, 4, none⟩ = false := HY3.out.fr 4
  have BY4 := hide (show Below w.heap.size w Y4 from hY4 ▸ BY3.out.setCell (by show w.heap.size ≤ w.heap.size + 1; omega) _)
  have zY4 : Y4.heap.size = Y3.heap.size := by rw [← hY4]; simp [World.setCell]
  have ZY4 := hide zY4
  clear zY4
  obtain ⟨Y5, hY5⟩ : ∃ Y5, Y4.setCell ⟨w.heap.size + 1, 5, none⟩ (.int .i64 o) = Y5 := ⟨_, rfl⟩
  have HY5 := hide (show R3 6 Y5 _ _ _ _ from hY5 ▸ HY4.out.setR 5 (.int .i64 o) (by omega))
  obtain ⟨uY5, eY5⟩ : ∃ u, Y4.cell? ⟨w.heap.size + 1, 5, none⟩ = some u := ⟨_, HY4.out.r 5 (by omega)⟩
  have gY5 : Y4.frozen? ⟨w.heap.size + 1, 5, none⟩ = false := HY4.out.fr 5
  have BY5 := hide (show Below w.heap.size w Y5 from hY5 ▸ BY4.out.setCell (by show w.heap.size ≤ w.heap.size + 1; omega) _)
  have zY5 : Y5.heap.size = Y4.heap.size := by rw [← hY5]; simp [World.setCell]
  have ZY5 := hide zY5
  clear zY5
  have r0 : Y5.cell? ⟨w.heap.size + 1, 0, none⟩ = some (.slice (some ⟨W0.heap.size, 0, none⟩) r r) := HY5.out.r 0 (by omega)
  have r1 : Y5.cell? ⟨w.heap.size + 1, 1, none⟩ = some (.slice (some ⟨X1.heap.size, 0, none⟩) q q) := HY5.out.r 1 (by omega)
  have r2 : Y5.cell? ⟨w.heap.size + 1, 2, none⟩ = some (.slice (some ⟨X2.heap.size, 0, none⟩) s s) := HY5.out.r 2 (by omega)
  have r3 : Y5.cell? ⟨w.heap.size + 1, 3, none⟩ = some (.int .i64 n) := HY5.out.r 3 (by omega)
  have r4 : Y5.cell? ⟨w.heap.size + 1, 4, none⟩ = some (.int .i64 f) := HY5.out.r 4 (by omega)
  have r5 : Y5.cell? ⟨w.heap.size + 1, 5, none⟩ = some (.int .i64 o) := HY5.out.r 5 (by omega)
  replace Q1 := hide (hX4 ▸ Q1.out.kept (Kept.setCell X3 ⟨w.heap.size + 1 + 1, 3, none⟩ (.int .i64 n)) (by show ¬ W0.heap.size = w.heap.size + 1 + 1; have := M1.out; omega) : Rw X4 W0.heap.size r P)
  replace Q2 := hide (hX4 ▸ Q2.out.kept (Kept.setCell X3 ⟨w.heap.size + 1 + 1, 3, none⟩ (.int .i64 n)) (by show ¬ X1.heap.size = w.heap.size + 1 + 1; have := M2.out; omega) : Rw X4 X1.heap.size q Q)
  replace Q3 := hide (hX4 ▸ Q3.out.kept (Kept.setCell X3 ⟨w.heap.size + 1 + 1, 3, none⟩ (.int .i64 n)) (by show ¬ X2.heap.size = w.heap.size + 1 + 1; have := M3.out; omega) : Rw X4 X2.heap.size s S)
  replace L3 := hide (show X2.heap.size < X4.heap.size by rw [ZX4.out]; exact L3.out)
  replace Q1 := hide (hX5 ▸ Q1.out.kept (Kept.setCell X4 ⟨w.heap.size + 1 + 1, 4, none⟩ (.int .i64 f)) (by show ¬ W0.heap.size = w.heap.size + 1 + 1; have := M1.out; omega) : Rw X5 W0.heap.size r P)
  replace Q2 := hide (hX5 ▸ Q2.out.kept (Kept.setCell X4 ⟨w.heap.size + 1 + 1, 4, none⟩ (.int .i64 f)) (by show ¬ X1.heap.size = w.heap.size + 1 + 1; have := M2.out; omega) : Rw X5 X1.heap.size q Q)
  replace Q3 := hide (hX5 ▸ Q3.out.kept (Kept.setCell X4 ⟨w.heap.size + 1 + 1, 4, none⟩ (.int .i64 f)) (by show ¬ X2.heap.size = w.heap.size + 1 + 1; have := M3.out; omega) : Rw X5 X2.heap.size s S)
  replace L3 := hide (show X2.heap.size < X5.heap.size by rw [ZX5.out]; exact L3.out)
  replace Q1 := hide (hX6 ▸ Q1.out.kept (Kept.setCell X5 ⟨w.heap.size + 1 + 1, 5, none⟩ (.int .i64 o)) (by show ¬ W0.heap.size = w.heap.size + 1 + 1; have := M1.out; omega) : Rw X6 W0.heap.size r P)
  replace Q2 := hide (hX6 ▸ Q2.out.kept (Kept.setCell X5 ⟨w.heap.size + 1 + 1, 5, none⟩ (.int .i64 o)) (by show ¬ X1.heap.size = w.heap.size + 1 + 1; have := M2.out; omega) : Rw X6 X1.heap.size q Q)
  replace Q3 := hide (hX6 ▸ Q3.out.kept (Kept.setCell X5 ⟨w.heap.size + 1 + 1, 5, none⟩ (.int .i64 o)) (by show ¬ X2.heap.size = w.heap.size + 1 + 1; have := M3.out; omega) : Rw X6 X2.heap.size s S)
  replace L3 := hide (show X2.heap.size < X6.heap.size by rw [ZX6.out]; exact L3.out)
  replace Q1 := hide (hY0 ▸ Q1.out.kept (Kept.setCell X6 ⟨w.heap.size + 1, 0, none⟩ (.slice (some ⟨W0.heap.size, 0, none⟩) r r)) (by show ¬ W0.heap.size = w.heap.size + 1; have := M1.out; omega) : Rw Y0 W0.heap.size r P)
  replace Q2 := hide (hY0 ▸ Q2.out.kept (Kept.setCell X6 ⟨w.heap.size + 1, 0, none⟩ (.slice (some ⟨W0.heap.size, 0, none⟩) r r)) (by show ¬ X1.heap.size = w.heap.size + 1; have := M2.out; omega) : Rw Y0 X1.heap.size q Q)
  replace Q3 := hide (hY0 ▸ Q3.out.kept (Kept.setCell X6 ⟨w.heap.size + 1, 0, none⟩ (.slice (some ⟨W0.heap.size, 0, none⟩) r r)) (by show ¬ X2.heap.size = w.heap.size + 1; have := M3.out; omega) : Rw Y0 X2.heap.size s S)
  replace L3 := hide (show X2.heap.size < Y0.heap.size by rw [ZY0.out]; exact L3.out)
  replace Q1 := hide (hY1 ▸ Q1.out.kept (Kept.setCell Y0 ⟨w.heap.size + 1, 1, none⟩ (.slice (some ⟨X1.heap.size, 0, none⟩) q q)) (by show ¬ W0.heap.size = w.heap.size + 1; have := M1.out; omega) : Rw Y1 W0.heap.size r P)
  replace Q2 := hide (hY1 ▸ Q2.out.kept (Kept.setCell Y0 ⟨w.heap.size + 1, 1, none⟩ (.slice (some ⟨X1.heap.size, 0, none⟩) q q)) (by show ¬ X1.heap.size = w.heap.size + 1; have := M2.out; omega) : Rw Y1 X1.heap.size q Q)
  replace Q3 := hide (hY1 ▸ Q3.out.kept (Kept.setCell Y0 ⟨w.heap.size + 1, 1, none⟩ (.slice (some ⟨X1.heap.size, 0, none⟩) q q)) (by show ¬ X2.heap.size = w.heap.size + 1; have := M3.out; omega) : Rw Y1 X2.heap.size s S)
  replace L3 := hide (show X2.heap.size < Y1.heap.size by rw [ZY1.out]; exact L3.out)
  replace Q1 := hide (hY2 ▸ Q1.out.kept (Kept.setCell Y1 ⟨w.heap.size + 1, 2, none⟩ (.slice (some ⟨X2.heap.size, 0, none⟩) s s)) (by show ¬ W0.heap.size = w.heap.size + 1; have := M1.out; omega) : Rw Y2 W0.heap.size r P)
  replace Q2 := hide (hY2 ▸ Q2.out.kept (Kept.setCell Y1 ⟨w.heap.size + 1, 2, none⟩ (.slice (some ⟨X2.heap.size, 0, none⟩) s s)) (by show ¬ X1.heap.size = w.heap.size + 1; have := M2.out; omega) : Rw Y2 X1.heap.size q Q)
  replace Q3 := hide (hY2 ▸ Q3.out.kept (Kept.setCell Y1 ⟨w.heap.size + 1, 2, none⟩ (.slice (some ⟨X2.heap.size, 0, none⟩) s s)) (by show ¬ X2.heap.size = w.heap.size + 1; have := M3.out; omega) : Rw Y2 X2.heap.size s S)
  replace L3 := hide (show X2.heap.size < Y2.heap.size by rw [ZY2.out]; exact L3.out)
  replace Q1 := hide (hY3 ▸ Q1.out.kept (Kept.setCell Y2 ⟨w.heap.size + 1, 3, none⟩ (.int .i64 n)) (by show ¬ W0.heap.size = w.heap.size + 1; have := M1.out; omega) : Rw Y3 W0.heap.size r P)
  replace Q2 := hide (hY3 ▸ Q2.out.kept (Kept.setCell Y2 ⟨w.heap.size + 1, 3, none⟩ (.int .i64 n)) (by show ¬ X1.heap.size = w.heap.size + 1; have := M2.out; omega) : Rw Y3 X1.heap.size q Q)
  replace Q3 := hide (hY3 ▸ Q3.out.kept (Kept.setCell Y2 ⟨w.heap.size + 1, 3, none⟩ (.int .i64 n)) (by show ¬ X2.heap.size = w.heap.size + 1; have := M3.out; omega) : Rw Y3 X2.heap.size s S)
  replace L3 := hide (show X2.heap.size < Y3.heap.size by rw [ZY3.out]; exact L3.out)
  replace Q1 := hide (hY4 ▸ Q1.out.kept (Kept.setCell Y3 ⟨w.heap.size + 1, 4, none⟩ (.int .i64 f)) (by show ¬ W0.heap.size = w.heap.size + 1; have := M1.out; omega) : Rw Y4 W0.heap.size r P)
  replace Q2 := hide (hY4 ▸ Q2.out.kept (Kept.setCell Y3 ⟨w.heap.size + 1, 4, none⟩ (.int .i64 f)) (by show ¬ X1.heap.size = w.heap.size + 1; have := M2.out; omega) : Rw Y4 X1.heap.size q Q)
  replace Q3 := hide (hY4 ▸ Q3.out.kept (Kept.setCell Y3 ⟨w.heap.size + 1, 4, none⟩ (.int .i64 f)) (by show ¬ X2.heap.size = w.heap.size + 1; have := M3.out; omega) : Rw Y4 X2.heap.size s S)
  replace L3 := hide (show X2.heap.size < Y4.heap.size by rw [ZY4.out]; exact L3.out)
  replace Q1 := hide (hY5 ▸ Q1.out.kept (Kept.setCell Y4 ⟨w.heap.size + 1, 5, none⟩ (.int .i64 o)) (by show ¬ W0.heap.size = w.heap.size + 1; have := M1.out; omega) : Rw Y5 W0.heap.size r P)
  replace Q2 := hide (hY5 ▸ Q2.out.kept (Kept.setCell Y4 ⟨w.heap.size + 1, 5, none⟩ (.int .i64 o)) (by show ¬ X1.heap.size = w.heap.size + 1; have := M2.out; omega) : Rw Y5 X1.heap.size q Q)
  replace Q3 := hide (hY5 ▸ Q3.out.kept (Kept.setCell Y4 ⟨w.heap.size + 1, 5, none⟩ (.int .i64 o)) (by show ¬ X2.heap.size = w.heap.size + 1; have := M3.out; omega) : Rw Y5 X2.heap.size s S)
  replace L3 := hide (show X2.heap.size < Y5.heap.size by rw [ZY5.out]; exact L3.out)
  have ORD := hide (show w.heap.size ≤ W0.heap.size ∧ W0.heap.size < X1.heap.size ∧ X1.heap.size < X2.heap.size by have := BW0.out.size; have := O12.out; have := O23.out; omega)
  go_wp2_with fail
  exact bodyPost_ret (v := .agg #[.slice (some ⟨W0.heap.size, 0, none⟩) r r, .slice (some ⟨X1.heap.size, 0, none⟩) q q, .slice (some ⟨X2.heap.size, 0, none⟩) s s, .int .i64 n, .int .i64 f, .int .i64 o]) (by simp [results, Try.results8, go_sem, r0, r1, r2, r3, r4, r5]) rfl ⟨W0.heap.size, X1.heap.size, X2.heap.size, rfl, ⟨ORD.out.1, ORD.out.2.1, ORD.out.2.2, L3.out⟩, Q1.out, Q2.out, Q3.out, BY5.out⟩
set_option maxHeartbeats 1000000 in
theorem eqOpt (B : Nat) (a b c a' b' c' : Option Addr) (r q s cap dap eap cap' dap' eap' : Nat) (P Q S P' Q' S' : Nat → Int) (n f o : Int) (w : World) (hB : B ≤ w.heap.size) (h1 : Ints B w a r P) (h2 : Ints B w b q Q) (h3 : Ints B w c s S) (k1 : Ints B w a' r P') (k2 : Ints B w b' q Q') (k3 : Ints B w c' s S')
    (e1 : ∀ j, j < r → P j = P' j) (e2 : ∀ j, j < q → Q j = Q' j) (e3 : ∀ j, j < s → S j = S' j) (hr : (r : Int) ≤ 1048576) (hq : (q : Int) ≤ 1048576) (hs : (s : Int) ≤ 1048576) :
    Calls Try.prog 11 #[OVal a b c r q s cap dap eap n f o, OVal a' b' c' r q s cap' dap' eap' n f o] w fun e w' => e = .returned (.bool true) ∧ Below w.heap.size w w' := by
  unfold OVal
  obtain ⟨W1, hW1⟩ : ∃ W1, w.alloc (.cells #[.slice a r cap, .slice b q dap, .slice c s eap, .int .i64 n, .int .i64 f, .int .i64 o] 30) = W1 := ⟨_, rfl⟩
  have m1 : Below w.heap.size w W1 := hW1 ▸ (Below.refl _ _).alloc (Nat.le_refl _) _
  have x1 : BoxV6 W1 w.heap.size (.slice a r cap) (.slice b q dap) (.slice c s eap) (.int .i64 n) (.int .i64 f) (.int .i64 o) := hW1 ▸ boxV6_new _ _ _ _ _ _ _ _
  obtain ⟨W2, hW2⟩ : ∃ W2, W1.alloc (.cells #[.slice a' r cap', .slice b' q dap', .slice c' s eap', .int .i64 n, .int .i64 f, .int .i64 o] 30) = W2 := ⟨_, rfl⟩
  have m2 : Below W1.heap.size W1 W2 := hW2 ▸ (Below.refl _ _).alloc (Nat.le_refl _) _
  have KB := hide (show BoxV6 W2 W1.heap.size (.slice a' r cap') (.slice b' q dap') (.slice c' s eap') (.int .i64 n) (.int .i64 f) (.int .i64 o) from hW2 ▸ boxV6_new _ _ _ _ _ _ _ _)
  have KA := hide (x1.below m2)
  have BL := hide (m1.trans (m2.mono m1.size))
  have H1 := hide h1
  have H2 := hide h2
  have H3 := hide h3
  have K1 := hide k1
  have K2 := hide k2
  have K3 := hide k3
  have E1 := hide e1
  have E2 := hide e2
  have E3 := hide e3
  clear h1 h2 h3 k1 k2 k3 e1 e2 e3 m1 m2 x1
  obtain ⟨-, cA0, cA1, cA2, cA3, cA4, cA5⟩ := KA.out
  obtain ⟨-, cB0, cB1, cB2, cB3, cB4, cB5⟩ := KB.out
  go_enter Try.func11, Try.ntmps11
  go_wp2_with fail
  refine (eqIntS B a a' r cap cap' P P' _ (H1.out.below (BL.out.mono hB)) (K1.out.below (BL.out.mono hB)) E1.out hr).mono ?_
  rintro e w1 ⟨rfl, q1⟩
  replace KA := hide (KA.out.below q1)
  replace KB := hide (KB.out.below q1)
  replace BL := hide (BL.out.trans (q1.mono BL.out.size))
  clear q1 cA0 cA1 cA2 cA3 cA4 cA5 cB0 cB1 cB2 cB3 cB4 cB5 hW1 hW2
  obtain ⟨-, cA0, cA1, cA2, cA3, cA4, cA5⟩ := KA.out
  obtain ⟨-, cB0, cB1, cB2, cB3, cB4, cB5⟩ := KB.out
  go_wp2_with fail
  refine (eqIntS B b b' q dap dap' Q Q' _ (H2.out.below (BL.out.mono hB)) (K2.out.below (BL.out.mono hB)) E2.out hq).mono ?_
  rintro e w2 ⟨rfl, q2⟩
  replace KA := hide (KA.out.below q2)
  replace KB := hide (KB.out.below q2)
  replace BL := hide (BL.out.trans (q2.mono BL.out.size))
  clear q2 cA0 cA1 cA2 cA3 cA4 cA5 cB0 cB1 cB2 cB3 cB4 cB5
  obtain ⟨-, cA0, cA1, cA2, cA3, cA4, cA5⟩ := KA.out
  obtain ⟨-, cB0, cB1, cB2, cB3, cB4, cB5⟩ := KB.out
  go_wp2_with fail
  refine (eqIntS B c c' s eap eap' S S' _ (H3.out.below (BL.out.mono hB)) (K3.out.below (BL.out.mono hB)) E3.out hs).mono ?_
  rintro e w3 ⟨rfl, q3⟩
  replace KA := hide (KA.out.below q3)
  replace KB := hide (KB.out.below q3)
  replace BL := hide (BL.out.trans (q3.mono BL.out.size))
  clear q3 cA0 cA1 cA2 cA3 cA4 cA5 cB0 cB1 cB2 cB3 cB4 cB5
  obtain ⟨-, cA0, cA1, cA2, cA3, cA4, cA5⟩ := KA.out
  obtain ⟨-, cB0, cB1, cB2, cB3, cB4, cB5⟩ := KB.out
  go_wp2_with fail
  go_ret
  exact ⟨rfl, BL.out⟩
end Vo
end Go.Proofs.Ytajljeegkmkkcaa

/- States are marked, held. -/
namespace Go.Proofs.Ytajljeegkmkkcaa
namespace Vo
open Go.ChangeShapes Go.WideShapes Go.ChangeAt Go.RowKit Go.Joins Go.Sort
open Vl
set_option linter.unusedVariables false
def OV3 (a b c : Option Addr) (r q s cap dap eap : Nat) (n f o : Int) (i : Nat) : Value := #[Value.slice a r cap, .slice b q dap, .slice c s eap, .int .i64 n, .int .i64 f, .int .i64 o].getD i undef
theorem c6_new (w : World) (a b c : Option Addr) (r q s cap dap eap : Nat) (n f o : Int) (ty : TypeId) : C6 (w.alloc (.cells #[.slice a r cap, .slice b q dap, .slice c s eap, .int .i64 n, .int .i64 f, .int .i64 o] ty)) w.heap.size (OV3 a b c r q s cap dap eap n f o) :=
  ⟨fun i hi => by rcases (by omega : i = 0 ∨ i = 1 ∨ i = 2 ∨ i = 3 ∨ i = 4 ∨ i = 5) with rfl | rfl | rfl | rfl | rfl | rfl <;> simp [go_sem, OV3], fun i => by simp [go_sem], by simp⟩
set_option maxHeartbeats 2000000 in
theorem markOpt (B : Nat) (a b c : Option Addr) (r q s cap dap eap : Nat) (P Q S : Nat → Int) (n f o k : Int) (w : World) (h1 : OwnL B w a r P) (h2 : OwnL B w b q Q) (h3 : OwnL B w c s S) (d12 : ∀ i, Blk a r i → ¬ Blk b q i) (d13 : ∀ i, Blk a r i → ¬ Blk c s i) (d23 : ∀ i, Blk b q i → ¬ Blk c s i)
    (hr : (r : Int) ≤ 1048576) (hq : (q : Int) ≤ 1048576) (hs : (s : Int) ≤ 1048576) (k0 : 0 ≤ k) (k1 : k ≤ 33554432) :
    Calls Try.prog 13 #[OVal a b c r q s cap dap eap n f o, .int .i64 k] w fun e w' => e = .returned (.int .i64 (k + r + q + s)) ∧ OwnL B w' a r (fun j => k + j) ∧ OwnL B w' b q (fun j => k + r + j) ∧ OwnL B w' c s (fun j => k + r + q + j) ∧ Kept (fun i => Blk a r i ∨ Blk b q i ∨ Blk c s i) w w' := by
  unfold OVal
  obtain ⟨W1, hW1⟩ : ∃ W1, w.alloc (.cells #[.slice a r cap, .slice b q dap, .slice c s eap, .int .i64 n, .int .i64 f, .int .i64 o] 30) = W1 := ⟨_, rfl⟩
  have b1 : Below w.heap.size w W1 := hW1 ▸ (Below.refl _ _).alloc (Nat.le_refl _) _
  have C := hide (show C6 W1 w.heap.size (OV3 a b c r q s cap dap eap n f o) from hW1 ▸ c6_new w a b c r q s cap dap eap n f o _)
  have U1 := hide (fun i (hi : Blk a r i) => (h1.blk hi).2)
  have U2 := hide (fun i (hi : Blk b q i) => (h2.blk hi).2)
  have U3 := hide (fun i (hi : Blk c s i) => (h3.blk hi).2)
  have H1 := hide (h1.below b1)
  have H2 := hide (h2.below b1)
  have H3 := hide (h3.below b1)
  have D12 := hide d12
  have D13 := hide d13
  have D23 := hide d23
  have K := hide (show Kept (fun i => Blk a r i ∨ Blk b q i ∨ Blk c s i) w W1 from Kept.of_below b1)
  clear h1 h2 h3 d12 d13 d23 b1
  obtain ⟨A, hA⟩ : ∃ A : Int, k + r = A := ⟨_, rfl⟩
  obtain ⟨E, hE⟩ : ∃ E : Int, A + q = E := ⟨_, rfl⟩
  obtain ⟨T, hT⟩ : ∃ T : Int, E + s = T := ⟨_, rfl⟩
  rw [hA, hE, hT]
  have AB := hide (show 0 ≤ A ∧ A ≤ 34603008 by omega)
  have EB := hide (show 0 ≤ E ∧ E ≤ 35651584 by omega)
  have C1 := hide (fun W (o : OwnL B W a r P) => markIntS B a r cap P k W o hr k0 (by omega))
  have C2 := hide (fun W (o : OwnL B W b q Q) => markIntS B b q dap Q A W o hq AB.out.1 (by have := AB.out; omega))
  have C3 := hide (fun W (o : OwnL B W c s S) => markIntS B c s eap S E W o hs EB.out.1 (by have := EB.out; omega))
  rw [hA] at C1
  rw [hE] at C2
  rw [hT] at C3
  clear hA hE hT
  have c0 := C.out.c 0 (by omega)
  replace c0 : W1.cell? ⟨w.heap.size, 0, none⟩ = some (.slice a r cap) := c0
  go_enter Try.func13, Try.ntmps13
  go_wp2_with fail
  clear hW1 c0
  refine (C1.out _ H1.out).mono ?_
  rintro e w2 ⟨rfl, o1, kk⟩
  have N1 := hide o1
  replace H2 := hide (H2.out.kept kk (fun i hi h => D12.out i h hi))
  replace H3 := hide (H3.out.kept kk (fun i hi h => D13.out i h hi))
  replace C := hide (C.out.kept kk (fun h => by have := U1.out _ h; omega))
  replace K := hide (K.out.trans (kk.mono fun _ _ h => .inl h))
  clear o1 kk H1
  have c1 := C.out.c 1 (by omega)
  replace c1 : w2.cell? ⟨w.heap.size, 1, none⟩ = some (.slice b q dap) := c1
  go_wp2_with fail
  clear c1
  refine (C2.out _ H2.out).mono ?_
  rintro e w3 ⟨rfl, o2, kk⟩
  have N2 := hide o2
  replace N1 := hide (N1.out.kept kk (fun i hi h => D12.out i hi h))
  replace H3 := hide (H3.out.kept kk (fun i hi h => D23.out i h hi))
  replace C := hide (C.out.kept kk (fun h => by have := U2.out _ h; omega))
  replace K := hide (K.out.trans (kk.mono fun _ _ h => .inr (.inl h)))
  clear o2 kk H2
  have c2 := C.out.c 2 (by omega)
  replace c2 : w3.cell? ⟨w.heap.size, 2, none⟩ = some (.slice c s eap) := c2
  go_wp2_with fail
  clear c2
  refine (C3.out _ H3.out).mono ?_
  rintro e w4 ⟨rfl, o3, kk⟩
  have N3 := hide o3
  replace N1 := hide (N1.out.kept kk (fun i hi h => D13.out i hi h))
  replace N2 := hide (N2.out.kept kk (fun i hi h => D23.out i hi h))
  replace K := hide (K.out.trans (kk.mono fun _ _ h => .inr (.inr h)))
  clear o3 kk H3
  go_wp2_with fail
  go_ret
  exact ⟨rfl, N1.out, N2.out, N3.out, K.out⟩
set_option maxHeartbeats 2000000 in
theorem heldOpt (B : Nat) (a b c : Option Addr) (r q s cap dap eap : Nat) (n f o k : Int) (w : World) (hB : B ≤ w.heap.size) (h1 : Ints B w a r (fun j => k + j)) (h2 : Ints B w b q (fun j => k + r + j)) (h3 : Ints B w c s (fun j => k + r + q + j))
    (hr : (r : Int) ≤ 1048576) (hq : (q : Int) ≤ 1048576) (hs : (s : Int) ≤ 1048576) (k0 : 0 ≤ k) (k1 : k ≤ 1048576) :
    Calls Try.prog 15 #[OVal a b c r q s cap dap eap n f o, .int .i64 k] w fun e w' => e = .returned (.int .i64 (k + r + q + s)) ∧ Below w.heap.size w w' := by
  unfold OVal
  obtain ⟨W1, hW1⟩ : ∃ W1, w.alloc (.cells #[.slice a r cap, .slice b q dap, .slice c s eap, .int .i64 n, .int .i64 f, .int .i64 o] 30) = W1 := ⟨_, rfl⟩
  have b1 := hide (show Below w.heap.size w W1 from hW1 ▸ (Below.refl _ _).alloc (Nat.le_refl _) _)
  have C := hide (show C6 W1 w.heap.size (OV3 a b c r q s cap dap eap n f o) from hW1 ▸ c6_new w a b c r q s cap dap eap n f o _)
  obtain ⟨A, hA⟩ : ∃ A : Int, k + r = A := ⟨_, rfl⟩
  obtain ⟨E, hE⟩ : ∃ E : Int, A + q = E := ⟨_, rfl⟩
  obtain ⟨T, hT⟩ : ∃ T : Int, E + s = T := ⟨_, rfl⟩
  rw [hA] at h2
  rw [hA, hE] at h3
  rw [hA, hE, hT]
  have AB := hide (show 0 ≤ A ∧ A ≤ 2097152 by omega)
  have EB := hide (show 0 ≤ E ∧ E ≤ 3145728 by omega)
  have TB := hide (show 0 ≤ T by omega)
  have C1 := hide (heldIntS B a r cap k W1 (h1.below (b1.out.mono hB)) hr k0 (by omega))
  have C2 := hide (heldIntS B b q dap A W1 (h2.below (b1.out.mono hB)) hq AB.out.1 (by have := AB.out; omega))
  have C3 := hide (heldIntS B c s eap E W1 (h3.below (b1.out.mono hB)) hs EB.out.1 (by have := EB.out; omega))
  rw [hA] at C1
  rw [hE] at C2
  rw [hT] at C3
  clear hA hE hT h1 h2 h3
  have nA : decide (A < 0) = false := decide_eq_false (by have := AB.out; omega)
  have nE : decide (E < 0) = false := decide_eq_false (by have := EB.out; omega)
  have nT : decide (T < 0) = false := decide_eq_false (by have := TB.out; omega)
  have c0 := C.out.c 0 (by omega)
  replace c0 : W1.cell? ⟨w.heap.size, 0, none⟩ = some (.slice a r cap) := c0
  have c1 := C.out.c 1 (by omega)
  replace c1 : W1.cell? ⟨w.heap.size, 1, none⟩ = some (.slice b q dap) := c1
  have c2 := C.out.c 2 (by omega)
  replace c2 : W1.cell? ⟨w.heap.size, 2, none⟩ = some (.slice c s eap) := c2
  go_enter Try.func15, Try.ntmps15
  go_wp2_with fail
  clear hW1
  refine C1.out.mono ?_
  rintro e w2 ⟨rfl, h⟩; have h := h.symm; subst h
  go_wp2_with fail
  refine C2.out.mono ?_
  rintro e w2 ⟨rfl, h⟩; have h := h.symm; subst h
  go_wp2_with fail
  refine C3.out.mono ?_
  rintro e w2 ⟨rfl, h⟩; have h := h.symm; subst h
  go_wp2_with fail
  go_ret
  exact ⟨rfl, b1.out⟩
end Vo
end Go.Proofs.Ytajljeegkmkkcaa

/- StepOpt: one form of the answer, whether yes or no. -/
namespace Go.Proofs.Ytajljeegkmkkcaa
namespace Vo
open Go.ChangeShapes Go.WideShapes Go.ChangeAt Go.RowKit Go.Joins Go.Sort
open Vl
set_option linter.unusedVariables false
/-- a state of m parameters that is one's own is handed back, and b -/
def StepU (m : Nat) (N : St) (b : Bool) (w : World) (e : Ending) (w' : World) : Prop :=
  ∃ (p f q : Option Addr) (c d g : Nat), e = .returned (.tuple #[.agg #[.slice p m c, .slice f m d, .slice q m g, .int .i64 N.c, .int .i64 N.f, .int .i64 N.g], .bool b]) ∧ (OwnL w.heap.size w' p m N.P ∧ OwnL w.heap.size w' f m N.F ∧ OwnL w.heap.size w' q m N.S) ∧ ((∀ k k', Blk p m k → Blk f m k' → k < k') ∧ (∀ k k', Blk f m k → Blk q m k' → k < k')) ∧ Below w.heap.size w w'
theorem StepR.uni {n : Nat} {no : Prop} {S : St} {w w' : World} {e : Ending} (h : StepR n no S w e w') (m : Nat) (N : St) (b : Bool) (h1 : no → m = 0 ∧ b = false ∧ N.c = 0 ∧ N.f = 0 ∧ N.g = 0) (h2 : ¬ no → m = n ∧ b = true ∧ N = S) : StepU m N b w e w' := by
  rcases h with ⟨q, e1, b1⟩ | ⟨q, p, f, r, c, d, g, e1, o, ⟨k1, k2⟩, b1⟩
  · obtain ⟨rfl, rfl, c1, c2, c3⟩ := h1 q
    refine ⟨none, none, none, 0, 0, 0, ?_, ⟨.inl rfl, .inl rfl, .inl rfl⟩, ⟨fun k k' h => absurd rfl h.1, fun k k' h => absurd rfl h.1⟩, b1⟩
    rw [c1, c2, c3]
    exact e1
  · obtain ⟨rfl, rfl, rfl⟩ := h2 q
    exact ⟨p, f, r, c, d, g, e1, o, ⟨bhd_lt k1, bhd_lt k2⟩, b1⟩
set_option maxHeartbeats 1000000 in
theorem stepUni (R : Rl) (n n2 n3 r : Nat) (s : St) (Gr : Nat → Int) (hRb : R.bds) (hb : bd s.c ∧ bd s.f ∧ bd s.g) (hr1 : (n : Int) ≤ 1048576) (hr2 : (n2 : Int) ≤ 1048576) (hr3 : (n3 : Int) ≤ 1048576) (hra : (r : Int) ≤ 1048576) : ∃ (m : Nat) (N : St) (b : Bool), (m : Int) ≤ 1048576 ∧
    (∀ (cP cF cS cl : Nat) (aP aF aS a : Option Addr) (w : World), Ints w.heap.size w aP n s.P → Ints w.heap.size w aF n2 s.F → Ints w.heap.size w aS n3 s.S → (aP = none → n = 0 ∧ cP = 0) → (aF = none → n2 = 0 ∧ cF = 0) → (aS = none → n3 = 0 ∧ cS = 0) → Ints w.heap.size w a r Gr →
      Calls Try.prog 6 #[.agg #[.int .i64 R.d, .int .i64 R.r1, .int .i64 R.r2, .int .i64 R.r3, .int .i64 R.r4, .int .i64 R.k, .int .i64 R.z, .int .i64 R.o, .int .i64 R.y, .int .i64 R.mo, .int .i64 R.gr], .agg #[.slice aP n cP, .slice aF n2 cF, .slice aS n3 cS, .int .i64 s.c, .int .i64 s.f, .int .i64 s.g], .slice a r cl] w (StepU m N b w)) ∧
    (∀ (cP cF cS cl : Nat) (aP aF aS a : Option Addr) (w : World), Ints w.heap.size w aP n s.P → Ints w.heap.size w aF n2 s.F → Ints w.heap.size w aS n3 s.S → (aP = none → n = 0 ∧ cP = 0) → (aF = none → n2 = 0 ∧ cF = 0) → (aS = none → n3 = 0 ∧ cS = 0) → Ints w.heap.size w a r Gr →
      Calls Try.prog 10 #[.agg #[.int .i64 R.d, .int .i64 R.r1, .int .i64 R.r2, .int .i64 R.r3, .int .i64 R.r4, .int .i64 R.k, .int .i64 R.z, .int .i64 R.o, .int .i64 R.y, .int .i64 R.mo, .int .i64 R.gr], .agg #[.slice aP n cP, .slice aF n2 cF, .slice aS n3 cS, .int .i64 s.c, .int .i64 s.f, .int .i64 s.g], .slice a r cl] w (StepU m N b w)) := by
  obtain ⟨no, N, -, hS, hI⟩ := stepBoth R n n2 n3 r s Gr hRb hb hr1 hr2 hr3 hra
  by_cases c : no
  · have k1 : no → 0 = 0 ∧ false = false ∧ (⟨fun _ => 0, fun _ => 0, fun _ => 0, 0, 0, 0⟩ : St).c = 0 ∧ (⟨fun _ => 0, fun _ => 0, fun _ => 0, 0, 0, 0⟩ : St).f = 0 ∧ (⟨fun _ => 0, fun _ => 0, fun _ => 0, 0, 0, 0⟩ : St).g = 0 := fun _ => ⟨rfl, rfl, rfl, rfl, rfl⟩
    exact ⟨0, ⟨fun _ => 0, fun _ => 0, fun _ => 0, 0, 0, 0⟩, false, by decide, fun cP cF cS cl aP aF aS a w h1 h2 h3 h4 h5 h6 h7 => (hS cP cF cS cl aP aF aS a w h1 h2 h3 h4 h5 h6 h7).mono fun e w' q => q.uni _ _ _ k1 (fun z => absurd c z),
      fun cP cF cS cl aP aF aS a w h1 h2 h3 h4 h5 h6 h7 => (hI cP cF cS cl aP aF aS a w h1 h2 h3 h4 h5 h6 h7).mono fun e w' q => q.uni _ _ _ k1 (fun z => absurd c z)⟩
  · exact ⟨n, N, true, hr1, fun cP cF cS cl aP aF aS a w h1 h2 h3 h4 h5 h6 h7 => (hS cP cF cS cl aP aF aS a w h1 h2 h3 h4 h5 h6 h7).mono fun e w' q => q.uni _ _ _ (fun z => absurd z c) (fun _ => ⟨rfl, rfl, rfl⟩),
      fun cP cF cS cl aP aF aS a w h1 h2 h3 h4 h5 h6 h7 => (hI cP cF cS cl aP aF aS a w h1 h2 h3 h4 h5 h6 h7).mono fun e w' q => q.uni _ _ _ (fun z => absurd z c) (fun _ => ⟨rfl, rfl, rfl⟩)⟩
end Vo
end Go.Proofs.Ytajljeegkmkkcaa

/- An argument that is a rule's state. -/
namespace Go.Proofs.Ytajljeegkmkkcaa
namespace Vo
open Go.ChangeShapes Go.WideShapes Go.ChangeAt Go.RowKit Go.Joins Go.Sort
open Vl
set_option linter.unusedVariables false
theorem opt_of {H : Type} {enc : TypeId × Value → H} {w : World} {base : Nat} {spare : Nat → Bool} {held : Bool} {fuel : Nat} {c0 c1 c2 c3 c4 c5 : Value} {x : DataW H × List MemPlace} (h : DataW.trod enc Try.prog w base spare held fuel 28 [c0, c1, c2, c3, c4, c5] = some x) :
    ∃ (a b c : Option Addr) (r q s cap dap eap : Nat) (n f o : Int), (c0 = .slice a r cap ∧ c1 = .slice b q dap ∧ c2 = .slice c s eap ∧ c3 = .int .i64 n ∧ c4 = .int .i64 f ∧ c5 = .int .i64 o) ∧ Arg w a r ∧ Arg w b q ∧ Arg w c s ∧ bd n ∧ bd f ∧ bd o := by
  obtain ⟨y0, n0, q0⟩ := field_of Try.underlying28 h 0 _ rfl 1 (by kernel_rfl)
  obtain ⟨y1, n1, q1⟩ := field_of Try.underlying28 h 1 _ rfl 1 (by kernel_rfl)
  obtain ⟨y2, n2, q2⟩ := field_of Try.underlying28 h 2 _ rfl 1 (by kernel_rfl)
  obtain ⟨y3, n3, q3⟩ := field_of Try.underlying28 h 3 _ rfl 1 (by kernel_rfl)
  obtain ⟨y4, n4, q4⟩ := field_of Try.underlying28 h 4 _ rfl 1 (by kernel_rfl)
  obtain ⟨y5, n5, q5⟩ := field_of Try.underlying28 h 5 _ rfl 1 (by kernel_rfl)
  have q0 : DataW.trod enc Try.prog w base spare held n0 26 [c0] = some y0 := q0
  have q1 : DataW.trod enc Try.prog w base spare held n1 26 [c1] = some y1 := q1
  have q2 : DataW.trod enc Try.prog w base spare held n2 26 [c2] = some y2 := q2
  have q3 : DataW.trod enc Try.prog w base spare held n3 3 [c3] = some y3 := q3
  have q4 : DataW.trod enc Try.prog w base spare held n4 3 [c4] = some y4 := q4
  have q5 : DataW.trod enc Try.prog w base spare held n5 3 [c5] = some y5 := q5
  obtain ⟨a, r, cap, rfl, ha⟩ := arg_of q0
  obtain ⟨b, q, dap, rfl, hb⟩ := arg_of q1
  obtain ⟨c, s, eap, rfl, hc⟩ := arg_of q2
  obtain ⟨n, rfl, hn⟩ := int_of q3
  obtain ⟨f, rfl, hf⟩ := int_of q4
  obtain ⟨o, rfl, ho⟩ := int_of q5
  exact ⟨a, b, c, r, q, s, cap, dap, eap, n, f, o, ⟨rfl, rfl, rfl, rfl, rfl, rfl⟩, ha, hb, hc, hn, hf, ho⟩
theorem opt_at {H : Type} {enc : TypeId × Value → H} {w : World} {base : Nat} {spare : Nat → Bool} {held : Bool} {b0 : Nat} {v : Value} {d : DataW H} {p : List MemPlace} (hv : Value.okWide Try.prog w .any b0 28 v) (h : DataW.Trod enc Try.prog w base spare held 28 v d p) :
    ∃ (a b c : Option Addr) (r q s cap dap eap : Nat) (n f o : Int), v = .agg #[.slice a r cap, .slice b q dap, .slice c s eap, .int .i64 n, .int .i64 f, .int .i64 o] ∧ Arg w a r ∧ Arg w b q ∧ Arg w c s ∧ bd n ∧ bd f ∧ bd o := by
  obtain ⟨cs, rfl, hsz⟩ := okWide_struct Try.underlying28 hv
  have hC : Try.prog.cellsOf 28 = 6 := by kernel_rfl
  obtain ⟨l⟩ := cs
  match l, hsz.trans hC with
  | [c0, c1, c2, c3, c4, c5], _ =>
    obtain ⟨fuel, hf⟩ := h
    obtain ⟨a, b, c, r, q, s, cap, dap, eap, n, f, o, ⟨rfl, rfl, rfl, rfl, rfl, rfl⟩, ha, hb, hc, hn, hf, ho⟩ := opt_of (by simpa [Value.cells] using hf)
    exact ⟨a, b, c, r, q, s, cap, dap, eap, n, f, o, rfl, ha, hb, hc, hn, hf, ho⟩
theorem ook_same {r q s : Nat} {P Q S P' Q' S' : Nat → Int} {n f o : Int} (h1 : ∀ j, j < r → P j = P' j) (h2 : ∀ j, j < q → Q j = Q' j) (h3 : ∀ j, j < s → S j = S' j) : ook r q s P Q S n f o = ook r q s P' Q' S' n f o := by
  unfold ook
  rw [decide_eq_decide]
  unfold OOk OIn
  constructor
  · rintro ⟨a, rfl, rfl, b, c, d, e⟩
    exact ⟨a, rfl, rfl, b, c, fun j hj => by rw [← h1 j hj, ← h2 j hj, ← h3 j hj]; exact d j hj, e⟩
  · rintro ⟨a, rfl, rfl, b, c, d, e⟩
    exact ⟨a, rfl, rfl, b, c, fun j hj => by rw [h1 j hj, h2 j hj, h3 j hj]; exact d j hj, e⟩
end Vo
end Go.Proofs.Ytajljeegkmkkcaa

/- For the law on StepOpt: its operations. -/
namespace Go.Proofs.Ytajljeegkmkkcaa
namespace Vo
open Go.ChangeShapes Go.WideShapes Go.ChangeAt Go.RowKit Go.Joins Go.Sort
open Vl
set_option linter.unusedVariables false
section
variable {o : Oper} {A : Act} {w : World} {x : Operand} {b : Nat}
theorem runLoadRl {y0 y1 y2 y3 y4 y5 y6 y7 y8 y9 ya : Int} (ho : o.op = .load 25 x) (hx : A.eval x = .pointer (some ⟨b, 0, none⟩)) (h : Box11 w b y0 y1 y2 y3 y4 y5 y6 y7 y8 y9 ya) :
    (execOp A.eval o).run Try.prog w = .ok (.value (.agg #[.int .i64 y0, .int .i64 y1, .int .i64 y2, .int .i64 y3, .int .i64 y4, .int .i64 y5, .int .i64 y6, .int .i64 y7, .int .i64 y8, .int .i64 y9, .int .i64 ya])) w := by
  obtain ⟨-, c0, c1, c2, c3, c4, c5, c6, c7, c8, c9, ca⟩ := h
  unfold execOp
  rw [ho]
  simp only [hx]
  go_simp
theorem runLoadOL {v0 v1 v2 v3 v4 v5 : Value} (ho : o.op = .load 28 x) (hx : A.eval x = .pointer (some ⟨b, 0, none⟩)) (h : BoxV6 w b v0 v1 v2 v3 v4 v5) : (execOp A.eval o).run Try.prog w = .ok (.value (.agg #[v0, v1, v2, v3, v4, v5])) w := by
  obtain ⟨-, c0, c1, c2, c3, c4, c5⟩ := h
  unfold execOp
  rw [ho]
  simp only [hx]
  go_simp
theorem runLoadOI {v0 v1 v2 v3 v4 v5 : Value} (ho : o.op = .load 30 x) (hx : A.eval x = .pointer (some ⟨b, 0, none⟩)) (h : BoxV6 w b v0 v1 v2 v3 v4 v5) : (execOp A.eval o).run Try.prog w = .ok (.value (.agg #[v0, v1, v2, v3, v4, v5])) w := by
  obtain ⟨-, c0, c1, c2, c3, c4, c5⟩ := h
  unfold execOp
  rw [ho]
  simp only [hx]
  go_simp
theorem runExt0 {u v : Value} (ho : o.op = .extract x 0) (hx : A.eval x = .tuple #[u, v]) : (execOp A.eval o).run Try.prog w = .ok (.value u) w := by
  unfold execOp
  rw [ho]
  simp only [hx]
  go_simp
theorem runExt1 {u v : Value} (ho : o.op = .extract x 1) (hx : A.eval x = .tuple #[u, v]) : (execOp A.eval o).run Try.prog w = .ok (.value v) w := by
  unfold execOp
  rw [ho]
  simp only [hx]
  go_simp
end
end Vo
end Go.Proofs.Ytajljeegkmkkcaa

/- As Qf, where operations of the head may be guarded: one that is cut off leaves nothing in its slot. -/
namespace Go.Proofs.Ytajljeegkmkkcaa
namespace Qg
open Go.RowKit Qf
set_option linter.unusedVariables false
variable {P : Program}
theorem yielded_eval (ops : Array Oper) (a : Act) (j : Nat) : yielded ops a.tmps j = match (ops[j]?).bind (·.dst) with
    | some d => (match a.eval (.tmp d) with | .bool b => some b | _ => none)
    | none => none := by
  unfold yielded
  cases (ops[j]?).bind (·.dst) with
  | none => rfl
  | some d =>
    simp only [Option.bind_some, Act.eval, Array.getD_eq_getD_getElem?]
    cases a.tmps[d]? with
    | none => rfl
    | some x => cases x <;> rfl
/-- one operation, guarded or not -/
def landsG (P : Program) (ops : Array Oper) (o : Oper) (A : Act) (w : World) (K : Value → World → Prop) : Prop :=
  if Region.wanted o (yielded ops A.tmps) = true then lands P o A w K else K undef w
theorem landsG_free {ops : Array Oper} {o : Oper} {A : Act} {w : World} {K : Value → World → Prop} (hg : o.guard = none) (h : lands P o A w K) : landsG P ops o A w K := by
  unfold landsG Region.wanted
  rw [hg, if_pos rfl]
  exact h
theorem landsG_on {ops : Array Oper} {o : Oper} {A : Act} {w : World} {K : Value → World → Prop} (g : Nat) (b : Bool) (d : Tmp) (hg : o.guard = some (g, b)) (hd : (ops[g]?).bind (·.dst) = some d) (hv : A.eval (.tmp d) = .bool b) (h : lands P o A w K) : landsG P ops o A w K := by
  have : Region.wanted o (yielded ops A.tmps) = true := by
    unfold Region.wanted
    rw [hg]
    dsimp only
    rw [yielded_eval, hd]
    dsimp only
    rw [hv]
    simp
  unfold landsG
  rw [if_pos this]
  exact h
theorem landsG_off {ops : Array Oper} {o : Oper} {A : Act} {w : World} {K : Value → World → Prop} (g : Nat) (b : Bool) (d : Tmp) (hg : o.guard = some (g, b)) (hd : (ops[g]?).bind (·.dst) = some d) (v : Value) (hv : A.eval (.tmp d) = v) (hne : v ≠ .bool b) (h : K undef w) : landsG P ops o A w K := by
  have : Region.wanted o (yielded ops A.tmps) = false := by
    unfold Region.wanted
    rw [hg]
    dsimp only
    rw [yielded_eval, hd]
    dsimp only
    rw [hv]
    cases v with
    | bool c =>
      have hne' : c ≠ b := fun e => hne (by rw [e])
      cases c <;> cases b <;> first | rfl | exact absurd rfl hne'
    | _ => rfl
  unfold landsG
  rw [if_neg (by rw [this]; exact Bool.false_ne_true)]
  exact h
/-- what is asked of the region's text -/
def factB (ops : Array Oper) (n : Nat) : Bool :=
  (List.range n).all (fun i => match ops[i]? with
    | some oi => oi.after.all (fun e => !Region.binds .any e || decide (e.on < i)) && (List.range n).all (fun k => match ops[k]? with
      | some ok => (match ok.dst with
        | some d => (!(oi.looksAt ops).contains d || Region.waitsFor .any ops i k) && (i == k || oi.dst != some d)
        | none => true)
      | none => false)
    | none => false) && Region.seqB .any ops (ops.size - n) n (Array.replicate n true ++ Array.replicate (ops.size - n) false) && (Region.noSelect ops && decide (n < ops.size) && Region.sinkB .any ops n && Region.chainB .any ops n)
structure FactS (ops : Array Oper) (n : Nat) : Prop where
  at' : ∀ i, i < n → ∃ oi, ops[i]? = some oi ∧ (∀ e ∈ oi.after, Region.binds .any e = true → e.on < i) ∧
    ∀ k ok d, k < n → ops[k]? = some ok → ok.dst = some d → (d ∈ oi.looksAt ops → Region.waitsFor .any ops i k = true) ∧ (i ≠ k → oi.dst ≠ some d)
  text : Region.noSelect ops = true ∧ n < ops.size ∧ Region.sinkB .any ops n = true ∧ Region.chainB .any ops n = true
  seq : Region.seqB .any ops (ops.size - n) n (Array.replicate n true ++ Array.replicate (ops.size - n) false) = true
theorem factS {ops : Array Oper} {n : Nat} (h : factB ops n = true) : FactS ops n := by
  unfold factB at h
  rw [Bool.and_eq_true, Bool.and_eq_true] at h
  obtain ⟨⟨h, hq⟩, ht⟩ := h
  simp only [Bool.and_eq_true, decide_eq_true_eq] at ht
  refine ⟨fun i hi => ?_, ⟨ht.1.1.1, ht.1.1.2, ht.1.2, ht.2⟩, hq⟩
  have h1 := List.all_eq_true.1 h i (List.mem_range.2 hi)
  cases ho : ops[i]? with
  | none => rw [ho] at h1; cases h1
  | some oi =>
    rw [ho] at h1
    simp only [Bool.and_eq_true] at h1
    refine ⟨oi, rfl, fun e he hb => ?_, fun k ok d hk hok hd => ?_⟩
    · have := Array.all_eq_true'.1 h1.1 e he
      rw [hb] at this
      simpa using this
    · have h2 := List.all_eq_true.1 h1.2 k (List.mem_range.2 hk)
      simp only [hok, hd, Bool.and_eq_true] at h2
      refine ⟨fun hm => ?_, fun hne => ?_⟩
      · have := h2.1
        rw [List.contains_iff_mem.2 hm] at this
        simpa using this
      · have := h2.2
        rw [show (i == k) = false from beq_eq_false_iff_ne.2 hne] at this
        simpa using this
theorem facts {id : Nat} {Q : Exit → Act → World → Prop} {a : Act} {w : World} {l : List Oper} (n : Nat) (hm : P.follows .mixedOrders = true) (hfb : factB l.toArray n = true)
    (F : Nat → Value → World → Prop) (hF : ∀ i v w1 w2, F i v w1 → Below w1.heap.size w1 w2 → F i v w2)
    (hS : ∀ i o, i < n → l[i]? = some o → ∀ s w1, Below w.heap.size w w1 → (∀ k, Region.waitsFor .any l.toArray i k = true → F k (s k) w1) → landsG P l.toArray o (lay all1 s (l.take n) 0 a) w1 (fun v w2 => Below w1.heap.size w1 w2 ∧ F i v w2))
    (hQ : ∀ s w1, Below w.heap.size w w1 → (∀ k, k < n → F k (s k) w1) → wpList P l.toArray Q (l.drop n) (lay all1 s (l.take n) 0 a) w1) : (Code.region id l.toArray true).wp P Q a w := by
  have fs := factS hfb
  obtain ⟨hsel, hn, hs, hc⟩ := fs.text
  have hn' : n < l.length := by simpa using hn
  have hdl : (l.drop n).length = l.toArray.size - n := by simp
  have tk : ∀ i, i < n → (l.take n)[i]? = l[i]? := fun i hi => by rw [List.getElem?_take, if_pos hi]
  have hdist : ∀ (x y : Nat) (ox oy : Oper), (l.take n)[x]? = some ox → (l.take n)[y]? = some oy → x ≠ y → ∀ t, ox.dst = some t → oy.dst ≠ some t := by
    intro x y ox oy hx hy hne t ht
    have hx' : x < n := by have := (List.getElem?_eq_some_iff.1 hx).1; simp at this; omega
    have hy' : y < n := by have := (List.getElem?_eq_some_iff.1 hy).1; simp at this; omega
    obtain ⟨o2, e2, _, h2⟩ := fs.at' y hy'
    rw [tk y hy'] at hy
    rw [tk x hx'] at hx
    have : o2 = oy := by have e3 : l.toArray[y]? = some oy := by simpa using hy
                         rw [e2] at e3; exact Option.some.inj e3
    subst this
    exact (h2 x ox t hx' (by simpa using hx) ht).2 (Ne.symm hne)
  have key : ∀ (f : Nat) (li : Array Bool) (s : Nat → Value) (w1 : World), HeadInv .any l.toArray n li → ((List.range n).filter (fun i => !li.getD i false)).length = f → Below w.heap.size w w1 →
      (∀ k, li.getD k false = true → F k (s k) w1) → wpAny P .any l.toArray Q (f + (l.toArray.size - n)) li (lay (fun j => li.getD j false) s (l.take n) 0 a) w1 := by
    intro f
    induction f with
    | zero =>
      intro li s w1 inv hf hb hfa
      have hli : ∀ k, k < n → li.getD k false = true := fun k hk => by
        have := List.filter_eq_nil_iff.1 (List.length_eq_zero_iff.1 hf) k (List.mem_range.2 hk)
        simpa using this
      have el : li = Array.replicate n true ++ Array.replicate (l.toArray.size - n) false := by
        apply Array.ext
        · rw [inv.size]; simp; omega
        · intro k h1 h2
          by_cases hk : k < n
          · have := hli k hk
            rw [Array.getElem_append_left (by simpa using hk)]
            simp [h1] at this
            simp [this]
          · have hk2 : k < l.toArray.size := by rw [← inv.size]; exact h1
            have := inv.tail k (by omega) hk2
            rw [Array.getElem_append_right (by simp; omega)]
            simp [h1] at this
            simp [this]
      rw [Nat.zero_add, ← hdl]
      have e1 : lay (fun j => li.getD j false) s (l.take n) 0 a = lay all1 s (l.take n) 0 a := by
        have : ∀ (l' : List Oper) (k : Nat) (a' : Act), k + l'.length ≤ n → lay (fun j => li.getD j false) s l' k a' = lay all1 s l' k a' := by
          intro l'
          induction l' with
          | nil => intro k a' _; rfl
          | cons o l' ih =>
            intro k a' hk
            simp only [List.length_cons] at hk
            unfold lay
            rw [hli k (by omega), ih (k + 1) _ (by omega)]
            rfl
        exact this _ _ _ (by simp; omega)
      rw [e1]
      refine wpAny_of_seq (l.drop n) n li _ w1 (fun j => by simp [List.getElem?_drop]) ?_ (hQ s w1 hb (fun k hk => hfa k (hli k hk)))
      rw [hdl, el]; exact fs.seq
    | succ f ih =>
      intro li s w1 inv hf hb hfa
      have hex : ∃ i, i < n ∧ li.getD i false = false := by
        have hne : (List.range n).filter (fun i => !li.getD i false) ≠ [] := fun e => by rw [e] at hf; simp at hf
        obtain ⟨x, hx⟩ := List.exists_mem_of_ne_nil _ hne
        obtain ⟨h1, h2⟩ := List.mem_filter.1 hx
        exact ⟨x, List.mem_range.1 h1, by simpa using h2⟩
      obtain ⟨i0, hi0, hu0⟩ := hex
      have sz : ∀ i, i < n → i < li.size := fun i hi => by rw [inv.size]; simp; omega
      have hall : ∀ j ∈ Region.ready .any l.toArray li, j < n := fun j hj => Nat.lt_of_not_le fun h => absurd hj (tail_waits hs hc hn inv _ i0 rfl hi0 (getD_in (sz i0 hi0) hu0) j h)
      have hsome : Region.ready .any l.toArray li ≠ [] := by
        have : ∀ d i, i ≤ d → i < n → li.getD i false = false → ∃ j, j ∈ Region.ready .any l.toArray li := by
          intro d
          induction d with
          | zero =>
            intro i hi hin hu
            obtain rfl : i = 0 := by omega
            obtain ⟨oi, ho, hbf, _⟩ := fs.at' 0 hin
            exact ⟨0, mem_ready.2 ⟨getD_in (sz 0 hin) hu, oi, ho, fun e he hbd => absurd (hbf e he hbd) (by omega)⟩⟩
          | succ d ihd =>
            intro i hi hin hu
            obtain ⟨oi, ho, hbf, _⟩ := fs.at' i hin
            by_cases hz : ∃ e ∈ oi.after, Region.binds .any e = true ∧ li.getD e.on false = false
            · obtain ⟨e, he, hbd, hue⟩ := hz
              have := hbf e he hbd
              exact ihd e.on (by omega) (by omega) hue
            · refine ⟨i, mem_ready.2 ⟨getD_in (sz i hin) hu, oi, ho, fun e he hbd => ?_⟩⟩
              cases hx : li.getD e.on false with
              | true => rfl
              | false => exact absurd ⟨e, he, hbd, hx⟩ hz
        obtain ⟨j, hj⟩ := this i0 i0 (Nat.le_refl _) hi0 hu0
        exact List.ne_nil_of_mem hj
      rw [show f + 1 + (l.toArray.size - n) = f + (l.toArray.size - n) + 1 by omega]
      refine ⟨fun e => absurd e hsome, fun i hi => ?_⟩
      have hin := hall i hi
      obtain ⟨hun, o, ho, hdep⟩ := mem_ready.1 hi
      obtain ⟨o2, ho2, hbf, hrd⟩ := fs.at' i hin
      obtain rfl : o2 = o := by rw [ho] at ho2; exact (Option.some.inj ho2).symm
      have hlo : l[i]? = some o2 := by simpa using ho
      have hstep := hS i o2 hin hlo s w1 hb (fun k hk => by
        obtain ⟨oj, hoj, e, he, hbd, hon⟩ := Region.waitsFor_spec hk
        obtain rfl : oj = o2 := by rw [ho] at hoj; exact (Option.some.inj hoj).symm
        exact hfa k (by rw [← hon]; exact hdep e he hbd))
      have hexec : execOp (lay (fun j => li.getD j false) s (l.take n) 0 a).eval o2 = execOp (lay all1 s (l.take n) 0 a).eval o2 := by
        refine execOp_congr o2 (fun cs b => Region.noSelect_spec hsel i o2 cs b ho) (fun x hx => lay_eval _ _ _ _ rfl rfl (fun j oj hj d hd hxd => ?_))
        have hj' : j < n := by have := (List.getElem?_eq_some_iff.1 hj).1; simp at this; omega
        rw [tk j hj'] at hj
        have hlook : d ∈ o2.looksAt l.toArray := by
          subst hxd
          exact List.mem_append_left _ (List.mem_filterMap.2 ⟨.tmp d, by simpa using hx, rfl⟩)
        have hw := (hrd j oj d hj' (by simpa using hj) hd).1 hlook
        obtain ⟨oj2, hoj2, e, he, hbd, hon⟩ := Region.waitsFor_spec hw
        obtain rfl : oj2 = o2 := by rw [ho] at hoj2; exact (Option.some.inj hoj2).symm
        rw [Nat.zero_add, ← hon]
        exact hdep e he hbd
      have hnext : ∀ v w2, Below w1.heap.size w1 w2 ∧ F i v w2 → wpAny P .any l.toArray Q (f + (l.toArray.size - n)) (li.setIfInBounds i true) ((lay (fun j => li.getD j false) s (l.take n) 0 a).put o2.dst v) w2 := by
        intro v w2 ⟨hb2, hfi⟩
        rw [lay_more (getD_both hun) (l.take n) 0 a (Nat.zero_le _) (by rw [Nat.sub_zero, tk i hin]; exact hlo) hdist]
        have e2 : upd (fun j => li.getD j false) i true = fun j => (li.setIfInBounds i true).getD j false := funext fun k => (getD_upd (sz i hin)).symm
        rw [e2]
        refine ih _ _ w2 (inv.set hi hin) ?_ (hb.trans (hb2.mono hb.size)) (fun k hk => ?_)
        · have e3 : (List.range n).filter (fun j => !(li.setIfInBounds i true).getD j false) = ((List.range n).filter (fun j => !li.getD j false)).erase i := by
            have nd : ((List.range n).filter (fun j => !li.getD j false)).Nodup := List.Pairwise.filter _ List.nodup_range
            rw [nd.erase_eq_filter, List.filter_filter]
            refine List.filter_congr (fun j hj => ?_)
            rw [getD_upd (sz i hin)]
            unfold upd
            by_cases e : j = i
            · subst e; simp
            · simp [e]
          rw [e3, List.length_erase_of_mem (List.mem_filter.2 ⟨List.mem_range.2 hin, by rw [getD_both hun]; rfl⟩), hf]
          rfl
        · rw [getD_upd (sz i hin)] at hk
          unfold upd at hk ⊢
          by_cases e : k = i
          · subst e; simpa using hfi
          · rw [if_neg e] at hk ⊢
            exact hF k _ w1 w2 (hfa k hk) hb2
      have hwant : Region.wanted o2 (yielded l.toArray (lay (fun j => li.getD j false) s (l.take n) 0 a).tmps) = Region.wanted o2 (yielded l.toArray (lay all1 s (l.take n) 0 a).tmps) := by
        unfold Region.wanted
        cases hgd : o2.guard with
        | none => rfl
        | some g =>
          obtain ⟨g, b⟩ := g
          dsimp only
          rw [yielded_eval, yielded_eval]
          cases hd : (l.toArray[g]?).bind (·.dst) with
          | none => rfl
          | some d =>
            dsimp only
            have hlook : d ∈ o2.looksAt l.toArray := by
              unfold Oper.looksAt
              refine List.mem_append_right _ ?_
              rw [hgd]
              dsimp only
              rw [hd]
              simp
            have := lay_eval (li := fun j => li.getD j false) (s := s) (x := .tmp d) (l.take n) 0 a a rfl rfl (fun j oj hj d' hd' hxd => by
              injection hxd with hxd
              subst hxd
              have hj' : j < n := by have := (List.getElem?_eq_some_iff.1 hj).1; simp at this; omega
              rw [tk j hj'] at hj
              have hw := (hrd j oj d hj' (by simpa using hj) hd').1 hlook
              obtain ⟨oj2, hoj2, e, he, hbd, hon⟩ := Region.waitsFor_spec hw
              obtain rfl : oj2 = o2 := by rw [ho] at hoj2; exact (Option.some.inj hoj2).symm
              rw [Nat.zero_add, ← hon]
              exact hdep e he hbd)
            rw [this]
      unfold wpOp
      rw [ho]
      dsimp only
      unfold landsG at hstep
      rw [← hwant] at hstep
      by_cases hwd : Region.wanted o2 (yielded l.toArray (lay (fun j => li.getD j false) s (l.take n) 0 a).tmps) = true
      case neg =>
        rw [if_neg hwd] at hstep
        rw [if_neg hwd]
        exact hnext undef w1 hstep
      rw [if_pos hwd] at hstep
      rw [if_pos hwd]
      refine .inl ?_
      unfold Oper.wp
      unfold lands at hstep
      rw [hexec]
      generalize (execOp (lay all1 s (l.take n) 0 a).eval o2).run P w1 = r at hstep
      cases r with
      | ok nx w' =>
        cases nx <;> simp only at hstep <;> simp only [Oper.upon]
        case value v => exact hnext v w' hstep
        case skip => exact hnext undef w' hstep
        case enter f' args =>
          exact hstep.mono (fun e w'' ⟨v, he, hk⟩ => by subst he; exact hnext v w'' hk)
      | halt x w' => cases x <;> simp only at hstep
  refine wp_region_any hm ?_
  have inv0 : HeadInv .any l.toArray n (Array.replicate l.toArray.size false) := ⟨by simp, fun j oj _ hl => (by rw [getD_replicate_false] at hl; cases hl), fun t _ ht => getD_in (by simpa using ht) (getD_replicate_false _ _)⟩
  have := key n (Array.replicate l.toArray.size false) (fun _ => undef) { w with drawn := w.drawn + 1 } inv0 (by
    rw [List.filter_eq_self.2 (fun x _ => by rw [getD_replicate_false]; rfl)]; simp) (Below.refl w.heap.size w).drew (fun k hk => by rw [getD_replicate_false] at hk; cases hk)
  have e0 : lay (fun j => (Array.replicate l.toArray.size false).getD j false) (fun _ => undef) (l.take n) 0 a = a := by
    have : ∀ (l' : List Oper) (k : Nat) (a' : Act), lay (fun j => (Array.replicate l.toArray.size false).getD j false) (fun _ => undef) l' k a' = a' := by
      intro l'
      induction l' with
      | nil => intro k a'; rfl
      | cons o l' ih => intro k a'; unfold lay; rw [getD_replicate_false, if_neg (by simp)]; exact ih _ _
    exact this _ _ _
  rw [e0, show n + (l.toArray.size - n) = l.toArray.size by omega] at this
  exact this
/-- the same, each operation in a frame of which only what it needs is known -/
theorem facts2 {id : Nat} {Q : Exit → Act → World → Prop} {a : Act} {w : World} {l : List Oper} (n : Nat) (hm : P.follows .mixedOrders = true) (hfb : factB l.toArray n = true)
    (F : Nat → Value → World → Prop) (hF : ∀ i v w1 w2, F i v w1 → Below w1.heap.size w1 w2 → F i v w2)
    (hS : ∀ i o, i < n → l[i]? = some o → ∀ (s : Nat → Value) (A : Act) (w1 : World), Below w.heap.size w w1 → (∀ k, Region.waitsFor .any l.toArray i k = true → F k (s k) w1) →
      (∀ k ok t, k < n → l[k]? = some ok → ok.dst = some t → t < a.tmps.size → A.eval (.tmp t) = s k) → (∀ t, (l.take n).all (fun ok => ok.dst != some t) = true → A.eval (.tmp t) = a.eval (.tmp t)) →
      landsG P l.toArray o A w1 (fun v w2 => Below w1.heap.size w1 w2 ∧ F i v w2))
    (hQ : ∀ s w1, Below w.heap.size w w1 → (∀ k, k < n → F k (s k) w1) → wpList P l.toArray Q (l.drop n) (lay all1 s (l.take n) 0 a) w1) : (Code.region id l.toArray true).wp P Q a w := by
  have fs := factS hfb
  have tk : ∀ i, i < n → (l.take n)[i]? = l[i]? := fun i hi => by rw [List.getElem?_take, if_pos hi]
  have hdist : ∀ (x y : Nat) (ox oy : Oper), (l.take n)[x]? = some ox → (l.take n)[y]? = some oy → x ≠ y → ∀ t, ox.dst = some t → oy.dst ≠ some t := by
    intro x y ox oy hx hy hne t ht
    have hx' : x < n := by have := (List.getElem?_eq_some_iff.1 hx).1; simp at this; omega
    have hy' : y < n := by have := (List.getElem?_eq_some_iff.1 hy).1; simp at this; omega
    obtain ⟨o2, e2, _, h2⟩ := fs.at' y hy'
    rw [tk y hy'] at hy
    rw [tk x hx'] at hx
    have e3 : l.toArray[y]? = some oy := by simpa using hy
    obtain rfl : o2 = oy := by rw [e2] at e3; exact Option.some.inj e3
    exact (h2 x ox t hx' (by simpa using hx) ht).2 (Ne.symm hne)
  refine facts n hm hfb F hF (fun i o hi ho s w1 hb hk => hS i o hi ho s _ w1 hb hk (fun k ok t hk' hok ht hz => ?_) (fun t ht => lay_old _ _ _ (fun ok hok => by simpa using List.all_eq_true.1 ht ok hok))) hQ
  have := lay_at (s := s) (l.take n) 0 a k ok (by rw [tk k hk']; exact hok) ht hdist hz
  rwa [Nat.zero_add] at this
end Qg
end Go.Proofs.Ytajljeegkmkkcaa

/- As Qg, where what stays from operation to operation is told by a relation of one's own. -/
namespace Go.Proofs.Ytajljeegkmkkcaa
namespace Qh
open Go.RowKit Qf Qg
set_option linter.unusedVariables false
variable {P : Program}
theorem facts {id : Nat} {Q : Exit → Act → World → Prop} {a : Act} {w : World} {l : List Oper} (R : World → World → Prop) (hT : ∀ a b c, R a b → R b c → R a c) (n : Nat) (h0 : R w { w with drawn := w.drawn + 1 }) (hm : P.follows .mixedOrders = true) (hfb : Qg.factB l.toArray n = true)
    (F : Nat → Value → World → Prop) (hF : ∀ i v w1 w2, F i v w1 → R w1 w2 → F i v w2)
    (hS : ∀ i o, i < n → l[i]? = some o → ∀ s w1, R w w1 → (∀ k, Region.waitsFor .any l.toArray i k = true → F k (s k) w1) → landsG P l.toArray o (lay all1 s (l.take n) 0 a) w1 (fun v w2 => R w1 w2 ∧ F i v w2))
    (hQ : ∀ s w1, R w w1 → (∀ k, k < n → F k (s k) w1) → wpList P l.toArray Q (l.drop n) (lay all1 s (l.take n) 0 a) w1) : (Code.region id l.toArray true).wp P Q a w := by
  have fs := Qg.factS hfb
  obtain ⟨hsel, hn, hs, hc⟩ := fs.text
  have hn' : n < l.length := by simpa using hn
  have hdl : (l.drop n).length = l.toArray.size - n := by simp
  have tk : ∀ i, i < n → (l.take n)[i]? = l[i]? := fun i hi => by rw [List.getElem?_take, if_pos hi]
  have hdist : ∀ (x y : Nat) (ox oy : Oper), (l.take n)[x]? = some ox → (l.take n)[y]? = some oy → x ≠ y → ∀ t, ox.dst = some t → oy.dst ≠ some t := by
    intro x y ox oy hx hy hne t ht
    have hx' : x < n := by have := (List.getElem?_eq_some_iff.1 hx).1; simp at this; omega
    have hy' : y < n := by have := (List.getElem?_eq_some_iff.1 hy).1; simp at this; omega
    obtain ⟨o2, e2, _, h2⟩ := fs.at' y hy'
    rw [tk y hy'] at hy
    rw [tk x hx'] at hx
    have : o2 = oy := by have e3 : l.toArray[y]? = some oy := by simpa using hy
                         rw [e2] at e3; exact Option.some.inj e3
    subst this
    exact (h2 x ox t hx' (by simpa using hx) ht).2 (Ne.symm hne)
  have key : ∀ (f : Nat) (li : Array Bool) (s : Nat → Value) (w1 : World), HeadInv .any l.toArray n li → ((List.range n).filter (fun i => !li.getD i false)).length = f → R w w1 →
      (∀ k, li.getD k false = true → F k (s k) w1) → wpAny P .any l.toArray Q (f + (l.toArray.size - n)) li (lay (fun j => li.getD j false) s (l.take n) 0 a) w1 := by
    intro f
    induction f with
    | zero =>
      intro li s w1 inv hf hb hfa
      have hli : ∀ k, k < n → li.getD k false = true := fun k hk => by
        have := List.filter_eq_nil_iff.1 (List.length_eq_zero_iff.1 hf) k (List.mem_range.2 hk)
        simpa using this
      have el : li = Array.replicate n true ++ Array.replicate (l.toArray.size - n) false := by
        apply Array.ext
        · rw [inv.size]; simp; omega
        · intro k h1 h2
          by_cases hk : k < n
          · have := hli k hk
            rw [Array.getElem_append_left (by simpa using hk)]
            simp [h1] at this
            simp [this]
          · have hk2 : k < l.toArray.size := by rw [← inv.size]; exact h1
            have := inv.tail k (by omega) hk2
            rw [Array.getElem_append_right (by simp; omega)]
            simp [h1] at this
            simp [this]
      rw [Nat.zero_add, ← hdl]
      have e1 : lay (fun j => li.getD j false) s (l.take n) 0 a = lay all1 s (l.take n) 0 a := by
        have : ∀ (l' : List Oper) (k : Nat) (a' : Act), k + l'.length ≤ n → lay (fun j => li.getD j false) s l' k a' = lay all1 s l' k a' := by
          intro l'
          induction l' with
          | nil => intro k a' _; rfl
          | cons o l' ih =>
            intro k a' hk
            simp only [List.length_cons] at hk
            unfold lay
            rw [hli k (by omega), ih (k + 1) _ (by omega)]
            rfl
        exact this _ _ _ (by simp; omega)
      rw [e1]
      refine wpAny_of_seq (l.drop n) n li _ w1 (fun j => by simp [List.getElem?_drop]) ?_ (hQ s w1 hb (fun k hk => hfa k (hli k hk)))
      rw [hdl, el]; exact fs.seq
    | succ f ih =>
      intro li s w1 inv hf hb hfa
      have hex : ∃ i, i < n ∧ li.getD i false = false := by
        have hne : (List.range n).filter (fun i => !li.getD i false) ≠ [] := fun e => by rw [e] at hf; simp at hf
        obtain ⟨x, hx⟩ := List.exists_mem_of_ne_nil _ hne
        obtain ⟨h1, h2⟩ := List.mem_filter.1 hx
        exact ⟨x, List.mem_range.1 h1, by simpa using h2⟩
      obtain ⟨i0, hi0, hu0⟩ := hex
      have sz : ∀ i, i < n → i < li.size := fun i hi => by rw [inv.size]; simp; omega
      have hall : ∀ j ∈ Region.ready .any l.toArray li, j < n := fun j hj => Nat.lt_of_not_le fun h => absurd hj (tail_waits hs hc hn inv _ i0 rfl hi0 (getD_in (sz i0 hi0) hu0) j h)
      have hsome : Region.ready .any l.toArray li ≠ [] := by
        have : ∀ d i, i ≤ d → i < n → li.getD i false = false → ∃ j, j ∈ Region.ready .any l.toArray li := by
          intro d
          induction d with
          | zero =>
            intro i hi hin hu
            obtain rfl : i = 0 := by omega
            obtain ⟨oi, ho, hbf, _⟩ := fs.at' 0 hin
            exact ⟨0, mem_ready.2 ⟨getD_in (sz 0 hin) hu, oi, ho, fun e he hbd => absurd (hbf e he hbd) (by omega)⟩⟩
          | succ d ihd =>
            intro i hi hin hu
            obtain ⟨oi, ho, hbf, _⟩ := fs.at' i hin
            by_cases hz : ∃ e ∈ oi.after, Region.binds .any e = true ∧ li.getD e.on false = false
            · obtain ⟨e, he, hbd, hue⟩ := hz
              have := hbf e he hbd
              exact ihd e.on (by omega) (by omega) hue
            · refine ⟨i, mem_ready.2 ⟨getD_in (sz i hin) hu, oi, ho, fun e he hbd => ?_⟩⟩
              cases hx : li.getD e.on false with
              | true => rfl
              | false => exact absurd ⟨e, he, hbd, hx⟩ hz
        obtain ⟨j, hj⟩ := this i0 i0 (Nat.le_refl _) hi0 hu0
        exact List.ne_nil_of_mem hj
      rw [show f + 1 + (l.toArray.size - n) = f + (l.toArray.size - n) + 1 by omega]
      refine ⟨fun e => absurd e hsome, fun i hi => ?_⟩
      have hin := hall i hi
      obtain ⟨hun, o, ho, hdep⟩ := mem_ready.1 hi
      obtain ⟨o2, ho2, hbf, hrd⟩ := fs.at' i hin
      obtain rfl : o2 = o := by rw [ho] at ho2; exact (Option.some.inj ho2).symm
      have hlo : l[i]? = some o2 := by simpa using ho
      have hstep := hS i o2 hin hlo s w1 hb (fun k hk => by
        obtain ⟨oj, hoj, e, he, hbd, hon⟩ := Region.waitsFor_spec hk
        obtain rfl : oj = o2 := by rw [ho] at hoj; exact (Option.some.inj hoj).symm
        exact hfa k (by rw [← hon]; exact hdep e he hbd))
      have hexec : execOp (lay (fun j => li.getD j false) s (l.take n) 0 a).eval o2 = execOp (lay all1 s (l.take n) 0 a).eval o2 := by
        refine execOp_congr o2 (fun cs b => Region.noSelect_spec hsel i o2 cs b ho) (fun x hx => lay_eval _ _ _ _ rfl rfl (fun j oj hj d hd hxd => ?_))
        have hj' : j < n := by have := (List.getElem?_eq_some_iff.1 hj).1; simp at this; omega
        rw [tk j hj'] at hj
        have hlook : d ∈ o2.looksAt l.toArray := by
          subst hxd
          exact List.mem_append_left _ (List.mem_filterMap.2 ⟨.tmp d, by simpa using hx, rfl⟩)
        have hw := (hrd j oj d hj' (by simpa using hj) hd).1 hlook
        obtain ⟨oj2, hoj2, e, he, hbd, hon⟩ := Region.waitsFor_spec hw
        obtain rfl : oj2 = o2 := by rw [ho] at hoj2; exact (Option.some.inj hoj2).symm
        rw [Nat.zero_add, ← hon]
        exact hdep e he hbd
      have hnext : ∀ v w2, R w1 w2 ∧ F i v w2 → wpAny P .any l.toArray Q (f + (l.toArray.size - n)) (li.setIfInBounds i true) ((lay (fun j => li.getD j false) s (l.take n) 0 a).put o2.dst v) w2 := by
        intro v w2 ⟨hb2, hfi⟩
        rw [lay_more (getD_both hun) (l.take n) 0 a (Nat.zero_le _) (by rw [Nat.sub_zero, tk i hin]; exact hlo) hdist]
        have e2 : upd (fun j => li.getD j false) i true = fun j => (li.setIfInBounds i true).getD j false := funext fun k => (getD_upd (sz i hin)).symm
        rw [e2]
        refine ih _ _ w2 (inv.set hi hin) ?_ (hT _ _ _ hb hb2) (fun k hk => ?_)
        · have e3 : (List.range n).filter (fun j => !(li.setIfInBounds i true).getD j false) = ((List.range n).filter (fun j => !li.getD j false)).erase i := by
            have nd : ((List.range n).filter (fun j => !li.getD j false)).Nodup := List.Pairwise.filter _ List.nodup_range
            rw [nd.erase_eq_filter, List.filter_filter]
            refine List.filter_congr (fun j hj => ?_)
            rw [getD_upd (sz i hin)]
            unfold upd
            by_cases e : j = i
            · subst e; simp
            · simp [e]
          rw [e3, List.length_erase_of_mem (List.mem_filter.2 ⟨List.mem_range.2 hin, by rw [getD_both hun]; rfl⟩), hf]
          rfl
        · rw [getD_upd (sz i hin)] at hk
          unfold upd at hk ⊢
          by_cases e : k = i
          · subst e; simpa using hfi
          · rw [if_neg e] at hk ⊢
            exact hF k _ w1 w2 (hfa k hk) hb2
      have hwant : Region.wanted o2 (yielded l.toArray (lay (fun j => li.getD j false) s (l.take n) 0 a).tmps) = Region.wanted o2 (yielded l.toArray (lay all1 s (l.take n) 0 a).tmps) := by
        unfold Region.wanted
        cases hgd : o2.guard with
        | none => rfl
        | some g =>
          obtain ⟨g, b⟩ := g
          dsimp only
          rw [yielded_eval, yielded_eval]
          cases hd : (l.toArray[g]?).bind (·.dst) with
          | none => rfl
          | some d =>
            dsimp only
            have hlook : d ∈ o2.looksAt l.toArray := by
              unfold Oper.looksAt
              refine List.mem_append_right _ ?_
              rw [hgd]
              dsimp only
              rw [hd]
              simp
            have := lay_eval (li := fun j => li.getD j false) (s := s) (x := .tmp d) (l.take n) 0 a a rfl rfl (fun j oj hj d' hd' hxd => by
              injection hxd with hxd
              subst hxd
              have hj' : j < n := by have := (List.getElem?_eq_some_iff.1 hj).1; simp at this; omega
              rw [tk j hj'] at hj
              have hw := (hrd j oj d hj' (by simpa using hj) hd').1 hlook
              obtain ⟨oj2, hoj2, e, he, hbd, hon⟩ := Region.waitsFor_spec hw
              obtain rfl : oj2 = o2 := by rw [ho] at hoj2; exact (Option.some.inj hoj2).symm
              rw [Nat.zero_add, ← hon]
              exact hdep e he hbd)
            rw [this]
      unfold wpOp
      rw [ho]
      dsimp only
      unfold landsG at hstep
      rw [← hwant] at hstep
      by_cases hwd : Region.wanted o2 (yielded l.toArray (lay (fun j => li.getD j false) s (l.take n) 0 a).tmps) = true
      case neg =>
        rw [if_neg hwd] at hstep
        rw [if_neg hwd]
        exact hnext undef w1 hstep
      rw [if_pos hwd] at hstep
      rw [if_pos hwd]
      refine .inl ?_
      unfold Oper.wp
      unfold lands at hstep
      rw [hexec]
      generalize (execOp (lay all1 s (l.take n) 0 a).eval o2).run P w1 = r at hstep
      cases r with
      | ok nx w' =>
        cases nx <;> simp only at hstep <;> simp only [Oper.upon]
        case value v => exact hnext v w' hstep
        case skip => exact hnext undef w' hstep
        case enter f' args =>
          exact hstep.mono (fun e w'' ⟨v, he, hk⟩ => by subst he; exact hnext v w'' hk)
      | halt x w' => cases x <;> simp only at hstep
  refine wp_region_any hm ?_
  have inv0 : HeadInv .any l.toArray n (Array.replicate l.toArray.size false) := ⟨by simp, fun j oj _ hl => (by rw [getD_replicate_false] at hl; cases hl), fun t _ ht => getD_in (by simpa using ht) (getD_replicate_false _ _)⟩
  have := key n (Array.replicate l.toArray.size false) (fun _ => undef) { w with drawn := w.drawn + 1 } inv0 (by
    rw [List.filter_eq_self.2 (fun x _ => by rw [getD_replicate_false]; rfl)]; simp) h0 (fun k hk => by rw [getD_replicate_false] at hk; cases hk)
  have e0 : lay (fun j => (Array.replicate l.toArray.size false).getD j false) (fun _ => undef) (l.take n) 0 a = a := by
    have : ∀ (l' : List Oper) (k : Nat) (a' : Act), lay (fun j => (Array.replicate l.toArray.size false).getD j false) (fun _ => undef) l' k a' = a' := by
      intro l'
      induction l' with
      | nil => intro k a'; rfl
      | cons o l' ih => intro k a'; unfold lay; rw [getD_replicate_false, if_neg (by simp)]; exact ih _ _
    exact this _ _ _
  rw [e0, show n + (l.toArray.size - n) = l.toArray.size by omega] at this
  exact this
/-- the same, each operation in a frame of which only what it needs is known -/
theorem facts2 {id : Nat} {Q : Exit → Act → World → Prop} {a : Act} {w : World} {l : List Oper} (R : World → World → Prop) (hT : ∀ a b c, R a b → R b c → R a c) (n : Nat) (h0 : R w { w with drawn := w.drawn + 1 }) (hm : P.follows .mixedOrders = true) (hfb : Qg.factB l.toArray n = true)
    (F : Nat → Value → World → Prop) (hF : ∀ i v w1 w2, F i v w1 → R w1 w2 → F i v w2)
    (hS : ∀ i o, i < n → l[i]? = some o → ∀ (s : Nat → Value) (A : Act) (w1 : World), R w w1 → (∀ k, Region.waitsFor .any l.toArray i k = true → F k (s k) w1) →
      (∀ k ok t, k < n → l[k]? = some ok → ok.dst = some t → t < a.tmps.size → A.eval (.tmp t) = s k) → (∀ t, (l.take n).all (fun ok => ok.dst != some t) = true → A.eval (.tmp t) = a.eval (.tmp t)) →
      landsG P l.toArray o A w1 (fun v w2 => R w1 w2 ∧ F i v w2))
    (hQ : ∀ s w1, R w w1 → (∀ k, k < n → F k (s k) w1) → wpList P l.toArray Q (l.drop n) (lay all1 s (l.take n) 0 a) w1) : (Code.region id l.toArray true).wp P Q a w := by
  have fs := Qg.factS hfb
  have tk : ∀ i, i < n → (l.take n)[i]? = l[i]? := fun i hi => by rw [List.getElem?_take, if_pos hi]
  have hdist : ∀ (x y : Nat) (ox oy : Oper), (l.take n)[x]? = some ox → (l.take n)[y]? = some oy → x ≠ y → ∀ t, ox.dst = some t → oy.dst ≠ some t := by
    intro x y ox oy hx hy hne t ht
    have hx' : x < n := by have := (List.getElem?_eq_some_iff.1 hx).1; simp at this; omega
    have hy' : y < n := by have := (List.getElem?_eq_some_iff.1 hy).1; simp at this; omega
    obtain ⟨o2, e2, _, h2⟩ := fs.at' y hy'
    rw [tk y hy'] at hy
    rw [tk x hx'] at hx
    have e3 : l.toArray[y]? = some oy := by simpa using hy
    obtain rfl : o2 = oy := by rw [e2] at e3; exact Option.some.inj e3
    exact (h2 x ox t hx' (by simpa using hx) ht).2 (Ne.symm hne)
  refine Qh.facts R hT n h0 hm hfb F hF (fun i o hi ho s w1 hb hk => hS i o hi ho s _ w1 hb hk (fun k ok t hk' hok ht hz => ?_) (fun t ht => lay_old _ _ _ (fun ok hok => by simpa using List.all_eq_true.1 ht ok hok))) hQ
  have := lay_at (s := s) (l.take n) 0 a k ok (by rw [tk k hk']; exact hok) ht hdist hz
  rwa [Nat.zero_add] at this
end Qh
end Go.Proofs.Ytajljeegkmkkcaa

/- As Qh and Qj: a fact may speak of the operations that were waited for, and each operation has a relation of its own, under which the others' facts stay. -/
namespace Go.Proofs.Ytajljeegkmkkcaa
namespace Qk
open Go.RowKit Qf Qg Qh
set_option linter.unusedVariables false
variable {P : Program}
theorem factsG {id : Nat} {Q : Exit → Act → World → Prop} {a : Act} {w : World} {l : List Oper} (R : World → World → Prop) (hT : ∀ a b c, R a b → R b c → R a c) (n : Nat) (h0 : R w { w with drawn := w.drawn + 1 }) (hm : P.follows .mixedOrders = true) (hfb : Qg.factB l.toArray n = true)
    (G : Nat → World → World → Prop) (F : Nat → (Nat → Value) → World → Prop) (hL : ∀ i s s' w1, (∀ j, (j = i ∨ Region.waitsFor .any l.toArray i j = true) → s j = s' j) → F i s w1 → F i s' w1) (hF : ∀ i k s w1 w2, i ≠ k → k < n → F i s w1 → R w1 w2 → G k w1 w2 → F i s w2)
    (hS : ∀ i o, i < n → l[i]? = some o → ∀ s w1, R w w1 → (∀ k, Region.waitsFor .any l.toArray i k = true → F k s w1) → landsG P l.toArray o (lay all1 s (l.take n) 0 a) w1 (fun v w2 => R w1 w2 ∧ G i w1 w2 ∧ F i (upd s i v) w2))
    (hQ : ∀ s w1, R w w1 → (∀ k, k < n → F k s w1) → wpList P l.toArray Q (l.drop n) (lay all1 s (l.take n) 0 a) w1) : (Code.region id l.toArray true).wp P Q a w := by
  have fs := Qg.factS hfb
  obtain ⟨hsel, hn, hs, hc⟩ := fs.text
  have hn' : n < l.length := by simpa using hn
  have hdl : (l.drop n).length = l.toArray.size - n := by simp
  have tk : ∀ i, i < n → (l.take n)[i]? = l[i]? := fun i hi => by rw [List.getElem?_take, if_pos hi]
  have hdist : ∀ (x y : Nat) (ox oy : Oper), (l.take n)[x]? = some ox → (l.take n)[y]? = some oy → x ≠ y → ∀ t, ox.dst = some t → oy.dst ≠ some t := by
    intro x y ox oy hx hy hne t ht
    have hx' : x < n := by have := (List.getElem?_eq_some_iff.1 hx).1; simp at this; omega
    have hy' : y < n := by have := (List.getElem?_eq_some_iff.1 hy).1; simp at this; omega
    obtain ⟨o2, e2, _, h2⟩ := fs.at' y hy'
    rw [tk y hy'] at hy
    rw [tk x hx'] at hx
    have : o2 = oy := by have e3 : l.toArray[y]? = some oy := by simpa using hy
                         rw [e2] at e3; exact Option.some.inj e3
    subst this
    exact (h2 x ox t hx' (by simpa using hx) ht).2 (Ne.symm hne)
  have key : ∀ (f : Nat) (li : Array Bool) (s : Nat → Value) (w1 : World), HeadInv .any l.toArray n li → ((List.range n).filter (fun i => !li.getD i false)).length = f → R w w1 →
      (∀ k, li.getD k false = true → F k s w1) → wpAny P .any l.toArray Q (f + (l.toArray.size - n)) li (lay (fun j => li.getD j false) s (l.take n) 0 a) w1 := by
    intro f
    induction f with
    | zero =>
      intro li s w1 inv hf hb hfa
      have hli : ∀ k, k < n → li.getD k false = true := fun k hk => by
        have := List.filter_eq_nil_iff.1 (List.length_eq_zero_iff.1 hf) k (List.mem_range.2 hk)
        simpa using this
      have el : li = Array.replicate n true ++ Array.replicate (l.toArray.size - n) false := by
        apply Array.ext
        · rw [inv.size]; simp; omega
        · intro k h1 h2
          by_cases hk : k < n
          · have := hli k hk
            rw [Array.getElem_append_left (by simpa using hk)]
            simp [h1] at this
            simp [this]
          · have hk2 : k < l.toArray.size := by rw [← inv.size]; exact h1
            have := inv.tail k (by omega) hk2
            rw [Array.getElem_append_right (by simp; omega)]
            simp [h1] at this
            simp [this]
      rw [Nat.zero_add, ← hdl]
      have e1 : lay (fun j => li.getD j false) s (l.take n) 0 a = lay all1 s (l.take n) 0 a := by
        have : ∀ (l' : List Oper) (k : Nat) (a' : Act), k + l'.length ≤ n → lay (fun j => li.getD j false) s l' k a' = lay all1 s l' k a' := by
          intro l'
          induction l' with
          | nil => intro k a' _; rfl
          | cons o l' ih =>
            intro k a' hk
            simp only [List.length_cons] at hk
            unfold lay
            rw [hli k (by omega), ih (k + 1) _ (by omega)]
            rfl
        exact this _ _ _ (by simp; omega)
      rw [e1]
      refine wpAny_of_seq (l.drop n) n li _ w1 (fun j => by simp [List.getElem?_drop]) ?_ (hQ s w1 hb (fun k hk => hfa k (hli k hk)))
      rw [hdl, el]; exact fs.seq
    | succ f ih =>
      intro li s w1 inv hf hb hfa
      have hex : ∃ i, i < n ∧ li.getD i false = false := by
        have hne : (List.range n).filter (fun i => !li.getD i false) ≠ [] := fun e => by rw [e] at hf; simp at hf
        obtain ⟨x, hx⟩ := List.exists_mem_of_ne_nil _ hne
        obtain ⟨h1, h2⟩ := List.mem_filter.1 hx
        exact ⟨x, List.mem_range.1 h1, by simpa using h2⟩
      obtain ⟨i0, hi0, hu0⟩ := hex
      have sz : ∀ i, i < n → i < li.size := fun i hi => by rw [inv.size]; simp; omega
      have hall : ∀ j ∈ Region.ready .any l.toArray li, j < n := fun j hj => Nat.lt_of_not_le fun h => absurd hj (tail_waits hs hc hn inv _ i0 rfl hi0 (getD_in (sz i0 hi0) hu0) j h)
      have hsome : Region.ready .any l.toArray li ≠ [] := by
        have : ∀ d i, i ≤ d → i < n → li.getD i false = false → ∃ j, j ∈ Region.ready .any l.toArray li := by
          intro d
          induction d with
          | zero =>
            intro i hi hin hu
            obtain rfl : i = 0 := by omega
            obtain ⟨oi, ho, hbf, _⟩ := fs.at' 0 hin
            exact ⟨0, mem_ready.2 ⟨getD_in (sz 0 hin) hu, oi, ho, fun e he hbd => absurd (hbf e he hbd) (by omega)⟩⟩
          | succ d ihd =>
            intro i hi hin hu
            obtain ⟨oi, ho, hbf, _⟩ := fs.at' i hin
            by_cases hz : ∃ e ∈ oi.after, Region.binds .any e = true ∧ li.getD e.on false = false
            · obtain ⟨e, he, hbd, hue⟩ := hz
              have := hbf e he hbd
              exact ihd e.on (by omega) (by omega) hue
            · refine ⟨i, mem_ready.2 ⟨getD_in (sz i hin) hu, oi, ho, fun e he hbd => ?_⟩⟩
              cases hx : li.getD e.on false with
              | true => rfl
              | false => exact absurd ⟨e, he, hbd, hx⟩ hz
        obtain ⟨j, hj⟩ := this i0 i0 (Nat.le_refl _) hi0 hu0
        exact List.ne_nil_of_mem hj
      rw [show f + 1 + (l.toArray.size - n) = f + (l.toArray.size - n) + 1 by omega]
      refine ⟨fun e => absurd e hsome, fun i hi => ?_⟩
      have hin := hall i hi
      obtain ⟨hun, o, ho, hdep⟩ := mem_ready.1 hi
      obtain ⟨o2, ho2, hbf, hrd⟩ := fs.at' i hin
      obtain rfl : o2 = o := by rw [ho] at ho2; exact (Option.some.inj ho2).symm
      have hlo : l[i]? = some o2 := by simpa using ho
      have hstep := hS i o2 hin hlo s w1 hb (fun k hk => by
        obtain ⟨oj, hoj, e, he, hbd, hon⟩ := Region.waitsFor_spec hk
        obtain rfl : oj = o2 := by rw [ho] at hoj; exact (Option.some.inj hoj).symm
        exact hfa k (by rw [← hon]; exact hdep e he hbd))
      have hexec : execOp (lay (fun j => li.getD j false) s (l.take n) 0 a).eval o2 = execOp (lay all1 s (l.take n) 0 a).eval o2 := by
        refine execOp_congr o2 (fun cs b => Region.noSelect_spec hsel i o2 cs b ho) (fun x hx => lay_eval _ _ _ _ rfl rfl (fun j oj hj d hd hxd => ?_))
        have hj' : j < n := by have := (List.getElem?_eq_some_iff.1 hj).1; simp at this; omega
        rw [tk j hj'] at hj
        have hlook : d ∈ o2.looksAt l.toArray := by
          subst hxd
          exact List.mem_append_left _ (List.mem_filterMap.2 ⟨.tmp d, by simpa using hx, rfl⟩)
        have hw := (hrd j oj d hj' (by simpa using hj) hd).1 hlook
        obtain ⟨oj2, hoj2, e, he, hbd, hon⟩ := Region.waitsFor_spec hw
        obtain rfl : oj2 = o2 := by rw [ho] at hoj2; exact (Option.some.inj hoj2).symm
        rw [Nat.zero_add, ← hon]
        exact hdep e he hbd
      have hnext : ∀ v w2, R w1 w2 ∧ G i w1 w2 ∧ F i (upd s i v) w2 → wpAny P .any l.toArray Q (f + (l.toArray.size - n)) (li.setIfInBounds i true) ((lay (fun j => li.getD j false) s (l.take n) 0 a).put o2.dst v) w2 := by
        intro v w2 ⟨hb2, hg2, hfi⟩
        rw [lay_more (getD_both hun) (l.take n) 0 a (Nat.zero_le _) (by rw [Nat.sub_zero, tk i hin]; exact hlo) hdist]
        have e2 : upd (fun j => li.getD j false) i true = fun j => (li.setIfInBounds i true).getD j false := funext fun k => (getD_upd (sz i hin)).symm
        rw [e2]
        refine ih _ _ w2 (inv.set hi hin) ?_ (hT _ _ _ hb hb2) (fun k hk => ?_)
        · have e3 : (List.range n).filter (fun j => !(li.setIfInBounds i true).getD j false) = ((List.range n).filter (fun j => !li.getD j false)).erase i := by
            have nd : ((List.range n).filter (fun j => !li.getD j false)).Nodup := List.Pairwise.filter _ List.nodup_range
            rw [nd.erase_eq_filter, List.filter_filter]
            refine List.filter_congr (fun j hj => ?_)
            rw [getD_upd (sz i hin)]
            unfold upd
            by_cases e : j = i
            · subst e; simp
            · simp [e]
          rw [e3, List.length_erase_of_mem (List.mem_filter.2 ⟨List.mem_range.2 hin, by rw [getD_both hun]; rfl⟩), hf]
          rfl
        · rw [getD_upd (sz i hin)] at hk
          by_cases e : k = i
          · subst e; exact hfi
          · unfold upd at hk
            rw [if_neg e] at hk
            refine hF k i _ w1 w2 e hin (hL k s _ w1 (fun j hj => ?_) (hfa k hk)) hb2 hg2
            have hji : j ≠ i := by
              rcases hj with rfl | hw
              · exact e
              · rintro rfl
                obtain ⟨ok, hok, e', he', hbd, hon⟩ := Region.waitsFor_spec hw
                have := inv.closed k ok hok hk e' he' hbd
                rw [hon, getD_both hun] at this
                cases this
            unfold upd
            rw [if_neg hji]
      have hwant : Region.wanted o2 (yielded l.toArray (lay (fun j => li.getD j false) s (l.take n) 0 a).tmps) = Region.wanted o2 (yielded l.toArray (lay all1 s (l.take n) 0 a).tmps) := by
        unfold Region.wanted
        cases hgd : o2.guard with
        | none => rfl
        | some g =>
          obtain ⟨g, b⟩ := g
          dsimp only
          rw [yielded_eval, yielded_eval]
          cases hd : (l.toArray[g]?).bind (·.dst) with
          | none => rfl
          | some d =>
            dsimp only
            have hlook : d ∈ o2.looksAt l.toArray := by
              unfold Oper.looksAt
              refine List.mem_append_right _ ?_
              rw [hgd]
              dsimp only
              rw [hd]
              simp
            have := lay_eval (li := fun j => li.getD j false) (s := s) (x := .tmp d) (l.take n) 0 a a rfl rfl (fun j oj hj d' hd' hxd => by
              injection hxd with hxd
              subst hxd
              have hj' : j < n := by have := (List.getElem?_eq_some_iff.1 hj).1; simp at this; omega
              rw [tk j hj'] at hj
              have hw := (hrd j oj d hj' (by simpa using hj) hd').1 hlook
              obtain ⟨oj2, hoj2, e, he, hbd, hon⟩ := Region.waitsFor_spec hw
              obtain rfl : oj2 = o2 := by rw [ho] at hoj2; exact (Option.some.inj hoj2).symm
              rw [Nat.zero_add, ← hon]
              exact hdep e he hbd)
            rw [this]
      unfold wpOp
      rw [ho]
      dsimp only
      unfold landsG at hstep
      rw [← hwant] at hstep
      by_cases hwd : Region.wanted o2 (yielded l.toArray (lay (fun j => li.getD j false) s (l.take n) 0 a).tmps) = true
      case neg =>
        rw [if_neg hwd] at hstep
        rw [if_neg hwd]
        exact hnext undef w1 hstep
      rw [if_pos hwd] at hstep
      rw [if_pos hwd]
      refine .inl ?_
      unfold Oper.wp
      unfold lands at hstep
      rw [hexec]
      generalize (execOp (lay all1 s (l.take n) 0 a).eval o2).run P w1 = r at hstep
      cases r with
      | ok nx w' =>
        cases nx <;> simp only at hstep <;> simp only [Oper.upon]
        case value v => exact hnext v w' hstep
        case skip => exact hnext undef w' hstep
        case enter f' args =>
          exact hstep.mono (fun e w'' ⟨v, he, hk⟩ => by subst he; exact hnext v w'' hk)
      | halt x w' => cases x <;> simp only at hstep
  refine wp_region_any hm ?_
  have inv0 : HeadInv .any l.toArray n (Array.replicate l.toArray.size false) := ⟨by simp, fun j oj _ hl => (by rw [getD_replicate_false] at hl; cases hl), fun t _ ht => getD_in (by simpa using ht) (getD_replicate_false _ _)⟩
  have := key n (Array.replicate l.toArray.size false) (fun _ => undef) { w with drawn := w.drawn + 1 } inv0 (by
    rw [List.filter_eq_self.2 (fun x _ => by rw [getD_replicate_false]; rfl)]; simp) h0 (fun k hk => by rw [getD_replicate_false] at hk; cases hk)
  have e0 : lay (fun j => (Array.replicate l.toArray.size false).getD j false) (fun _ => undef) (l.take n) 0 a = a := by
    have : ∀ (l' : List Oper) (k : Nat) (a' : Act), lay (fun j => (Array.replicate l.toArray.size false).getD j false) (fun _ => undef) l' k a' = a' := by
      intro l'
      induction l' with
      | nil => intro k a'; rfl
      | cons o l' ih => intro k a'; unfold lay; rw [getD_replicate_false, if_neg (by simp)]; exact ih _ _
    exact this _ _ _
  rw [e0, show n + (l.toArray.size - n) = l.toArray.size by omega] at this
  exact this
/-- the same, each operation in a frame of which only what it needs is known -/
theorem factsG2 {id : Nat} {Q : Exit → Act → World → Prop} {a : Act} {w : World} {l : List Oper} (R : World → World → Prop) (hT : ∀ a b c, R a b → R b c → R a c) (n : Nat) (h0 : R w { w with drawn := w.drawn + 1 }) (hm : P.follows .mixedOrders = true) (hfb : Qg.factB l.toArray n = true)
    (G : Nat → World → World → Prop) (F : Nat → (Nat → Value) → World → Prop) (hL : ∀ i s s' w1, (∀ j, (j = i ∨ Region.waitsFor .any l.toArray i j = true) → s j = s' j) → F i s w1 → F i s' w1) (hF : ∀ i k s w1 w2, i ≠ k → k < n → F i s w1 → R w1 w2 → G k w1 w2 → F i s w2)
    (hS : ∀ i o, i < n → l[i]? = some o → ∀ (s : Nat → Value) (A : Act) (w1 : World), R w w1 → (∀ k, Region.waitsFor .any l.toArray i k = true → F k s w1) →
      (∀ k ok t, k < n → l[k]? = some ok → ok.dst = some t → t < a.tmps.size → A.eval (.tmp t) = s k) → (∀ t, (l.take n).all (fun ok => ok.dst != some t) = true → A.eval (.tmp t) = a.eval (.tmp t)) →
      landsG P l.toArray o A w1 (fun v w2 => R w1 w2 ∧ G i w1 w2 ∧ F i (upd s i v) w2))
    (hQ : ∀ s w1, R w w1 → (∀ k, k < n → F k s w1) → wpList P l.toArray Q (l.drop n) (lay all1 s (l.take n) 0 a) w1) : (Code.region id l.toArray true).wp P Q a w := by
  have fs := Qg.factS hfb
  have tk : ∀ i, i < n → (l.take n)[i]? = l[i]? := fun i hi => by rw [List.getElem?_take, if_pos hi]
  have hdist : ∀ (x y : Nat) (ox oy : Oper), (l.take n)[x]? = some ox → (l.take n)[y]? = some oy → x ≠ y → ∀ t, ox.dst = some t → oy.dst ≠ some t := by
    intro x y ox oy hx hy hne t ht
    have hx' : x < n := by have := (List.getElem?_eq_some_iff.1 hx).1; simp at this; omega
    have hy' : y < n := by have := (List.getElem?_eq_some_iff.1 hy).1; simp at this; omega
    obtain ⟨o2, e2, _, h2⟩ := fs.at' y hy'
    rw [tk y hy'] at hy
    rw [tk x hx'] at hx
    have e3 : l.toArray[y]? = some oy := by simpa using hy
    obtain rfl : o2 = oy := by rw [e2] at e3; exact Option.some.inj e3
    exact (h2 x ox t hx' (by simpa using hx) ht).2 (Ne.symm hne)
  refine factsG R hT n h0 hm hfb G F hL hF (fun i o hi ho s w1 hb hk => hS i o hi ho s _ w1 hb hk (fun k ok t hk' hok ht hz => ?_) (fun t ht => lay_old _ _ _ (fun ok hok => by simpa using List.all_eq_true.1 ht ok hok))) hQ
  have := lay_at (s := s) (l.take n) 0 a k ok (by rw [tk k hk']; exact hok) ht hdist hz
  rwa [Nat.zero_add] at this
end Qk
end Go.Proofs.Ytajljeegkmkkcaa

/- For the law on StepOpt: a store into a variable of six cells as an operation of a region whose order is open. -/
namespace Go.Proofs.Ytajljeegkmkkcaa
namespace Qf
open Go.RowKit
theorem lands_skip {P : Program} {o : Oper} {A : Act} {w : World} {K : Value → World → Prop} (w' : World) (he : (execOp A.eval o).run P w = .ok .skip w') (hk : K undef w') : lands P o A w K := by
  unfold lands; rw [he]; exact hk
end Qf
namespace Vo
open Go.ChangeShapes Go.WideShapes Go.ChangeAt Go.RowKit Go.Joins Go.Sort
open Vl
set_option linter.unusedVariables false
/-- of a state in a variable: its first cell is a list -/
def Ls (V : Nat → Value) : Prop := ∃ a n c, V 0 = .slice a n c
/-- some variable of six cells was written, all else lies as it lay -/
def Sto (w w' : World) : Prop := ∃ v V V', C6 w v V ∧ Ls V ∧ Kept (· = v) w w' ∧ C6 w' v V' ∧ Ls V'
theorem rw_ne {w : World} {g r v : Nat} {D : Nat → Int} {V : Nat → Value} (h : Rw w g r D) (c : C6 w v V) (l : Ls V) (hr : r ≠ 0) : g ≠ v := by
  rintro rfl
  obtain ⟨a, n, k, e⟩ := l
  have h1 := (h 0 (by omega)).1
  have h2 := c.c 0 (by omega)
  rw [e, h1] at h2
  cases h2
theorem own_na {B v n : Nat} {w : World} {p : Option Addr} {D : Nat → Int} {V : Nat → Value} (h : OwnL B w p n D) (c : C6 w v V) (l : Ls V) : ∀ k, Blk p n k → k ≠ v := by
  rintro k ⟨hn, ad, e1, e2⟩
  rcases h with h | ⟨g, hp, _, hr⟩
  · exact absurd h hn
  · rw [hp] at e1
    cases e1
    have e2 : g = k := e2
    subst e2
    exact rw_ne hr c l hn
theorem rw_sto {w w' : World} {g r : Nat} {D : Nat → Int} (h : Rw w g r D) (s : Sto w w') : Rw w' g r D := by
  obtain ⟨v, V, V', c, l, k, _⟩ := s
  by_cases hr : r = 0
  · subst hr; exact fun t ht => absurd ht (by omega)
  · exact h.kept k (rw_ne h c l hr)
theorem own_sto {B n : Nat} {w w' : World} {p : Option Addr} {D : Nat → Int} (h : OwnL B w p n D) (s : Sto w w') : OwnL B w' p n D := by
  obtain ⟨v, V, V', c, l, k, _⟩ := s
  exact h.kept k (own_na h c l)
theorem six_sto {w w' : World} {g : Nat} {V : Nat → Value} (h : C6 w g V) (l : Ls V) (s : Sto w w') : ∃ V', C6 w' g V' ∧ Ls V' := by
  obtain ⟨v, U, U', c, lu, k, c', lu'⟩ := s
  by_cases e : g = v
  · subst e; exact ⟨U', c', lu'⟩
  · exact ⟨V, h.kept k e, l⟩
theorem Sto.size {w w' : World} (s : Sto w w') : w.heap.size ≤ w'.heap.size := by
  obtain ⟨v, V, V', c, l, k, _⟩ := s
  exact k.size
theorem ls_OV (aP aF aS : Option Addr) (n cP cF cS : Nat) (cnt fac good : Int) : Ls (OV aP aF aS n cP cF cS cnt fac good) := ⟨aP, n, cP, rfl⟩
/-- what operation k does: the n-th writes a variable, the others write nothing that was there -/
def GG (n k : Nat) (w w' : World) : Prop := (k ≠ n → Below w.heap.size w w') ∧ (k = n → Sto w w')
theorem GG.rw {n k g r : Nat} {w w' : World} {D : Nat → Int} (h : GG n k w w') (q : Rw w g r D) (z : g < w.heap.size) : Rw w' g r D := by
  by_cases e : k = n
  · exact rw_sto q (h.2 e)
  · exact q.below (h.1 e) z
theorem GG.own {n k B r : Nat} {w w' : World} {p : Option Addr} {D : Nat → Int} (h : GG n k w w') (q : OwnL B w p r D) : OwnL B w' p r D := by
  by_cases e : k = n
  · exact own_sto q (h.2 e)
  · exact q.below (h.1 e)
theorem GG.six {n k g : Nat} {w w' : World} {V : Nat → Value} (h : GG n k w w') (c : C6 w g V) (l : Ls V) : ∃ V', C6 w' g V' ∧ Ls V' := by
  by_cases e : k = n
  · exact six_sto c l (h.2 e)
  · exact ⟨V, c.kept (Kept.of_below (S := fun _ => False) (h.1 e)) id, l⟩
theorem GG.six0 {n k g : Nat} {w w' : World} {V : Nat → Value} (h : GG n k w w') (e : n ≠ k) (c : C6 w g V) : C6 w' g V := c.kept (Kept.of_below (S := fun _ => False) (h.1 (Ne.symm e))) id
theorem gp {B n i : Nat} {w1 w2 : World} {Fp : Prop} (hi : i ≠ n) (hB : B ≤ w1.heap.size) (b : Below w1.heap.size w1 w2) (f : Fp) : Below B w1 w2 ∧ GG n i w1 w2 ∧ Fp := ⟨b.mono hB, ⟨fun _ => b, fun e => absurd e hi⟩, f⟩
theorem gs {B n : Nat} {w1 w2 : World} {Fp : Prop} (b : Below B w1 w2) (s : Sto w1 w2) (f : Fp) : Below B w1 w2 ∧ GG n n w1 w2 ∧ Fp := ⟨b, ⟨fun h => absurd rfl h, fun _ => s⟩, f⟩
/-- an answer in a variable: lists of one's own from block B on -/
structure Ans (B gg : Nat) (p f q : Option Addr) (m c d g : Nat) (A E C : Nat → Int) (n1 n2 n3 : Int) (Y : World) : Prop where
  k : C6 Y gg (OV p f q m c d g n1 n2 n3)
  hB : B ≤ gg
  P : OwnL B Y p m A
  F : OwnL B Y f m E
  S : OwnL B Y q m C
  pf : ∀ k k', Blk p m k → Blk f m k' → k < k'
  fs : ∀ k k', Blk f m k → Blk q m k' → k < k'
section
variable {B gg : Nat} {p f q : Option Addr} {m c d g : Nat} {A E C : Nat → Int} {n1 n2 n3 : Int} {Y Y' : World}
theorem Ans.below (h : Ans B gg p f q m c d g A E C n1 n2 n3 Y) (b : Below Y.heap.size Y Y') : Ans B gg p f q m c d g A E C n1 n2 n3 Y' :=
  ⟨h.k.kept (Kept.of_below (S := fun _ => False) b) id, h.hB, h.P.below b, h.F.below b, h.S.below b, h.pf, h.fs⟩
theorem Ans.kept {S : Nat → Prop} (h : Ans B gg p f q m c d g A E C n1 n2 n3 Y) (k : Kept S Y Y') (hs : ∀ b, S b → b < B) : Ans B gg p f q m c d g A E C n1 n2 n3 Y' :=
  ⟨h.k.kept k (fun e => by have := hs _ e; have := h.hB; omega), h.hB, h.P.kept k (fun b hb e => by have := hs _ e; have := (h.P.blk hb).1; omega), h.F.kept k (fun b hb e => by have := hs _ e; have := (h.F.blk hb).1; omega), h.S.kept k (fun b hb e => by have := hs _ e; have := (h.S.blk hb).1; omega), h.pf, h.fs⟩
theorem Ans.pq (h : Ans B gg p f q m c d g A E C n1 n2 n3 Y) : ∀ k k', Blk p m k → Blk q m k' → k < k' := by
  intro k k' h1 h2
  rcases h.F with h0 | ⟨g2, e2, _, _⟩
  · exact absurd h0 h1.1
  · have b2 : Blk f m g2 := ⟨h1.1, _, e2, rfl⟩
    exact Nat.lt_trans (h.pf k g2 h1 b2) (h.fs g2 k' b2 h2)
/-- its lists are marked -/
theorem Ans.mark (h : Ans B gg p f q m c d g A E C n1 n2 n3 Y) {A' E' C' : Nat → Int} (k : Kept (fun i => Blk p m i ∨ Blk f m i ∨ Blk q m i) Y Y') (hP : OwnL B Y' p m A') (hF : OwnL B Y' f m E') (hS : OwnL B Y' q m C') : Ans B gg p f q m c d g A' E' C' n1 n2 n3 Y' := by
  refine ⟨h.k.kept k (fun e => ?_), h.hB, hP, hF, hS, h.pf, h.fs⟩
  rcases e with e | e | e
  · exact own_na h.P h.k (ls_OV ..) _ e rfl
  · exact own_na h.F h.k (ls_OV ..) _ e rfl
  · exact own_na h.S h.k (ls_OV ..) _ e rfl
end
/-- what came in, and what the model answered: it lies below block B -/
structure Pre (w : World) (B pa pb gw : Nat) (x0 x1 x2 x3 x4 x5 x6 x7 x8 x9 xa : Int) (v0 v1 v2 v3 v4 v5 : Value) (p f q : Option Addr) (m c d g : Nat) (A E C : Nat → Int) (n1 n2 n3 : Int) (Y : World) : Prop where
  bw : Below w.heap.size w Y
  z : w.heap.size ≤ B ∧ pa < B ∧ pb < B ∧ gw < B ∧ B ≤ Y.heap.size
  ka : Box11 Y pa x0 x1 x2 x3 x4 x5 x6 x7 x8 x9 xa
  kb : BoxV6 Y pb v0 v1 v2 v3 v4 v5
  kw : BoxV6 Y gw (.slice p m c) (.slice f m d) (.slice q m g) (.int .i64 n1) (.int .i64 n2) (.int .i64 n3)
  P : Ints B Y p m A
  F : Ints B Y f m E
  S : Ints B Y q m C
theorem box11_at {B p : Nat} {w w' : World} {x0 x1 x2 x3 x4 x5 x6 x7 x8 x9 xa : Int} (h : Box11 w p x0 x1 x2 x3 x4 x5 x6 x7 x8 x9 xa) (b : Below B w w') (hp : p < B) : Box11 w' p x0 x1 x2 x3 x4 x5 x6 x7 x8 x9 xa := by
  obtain ⟨hz, h0, h1, h2, h3, h4, h5, h6, h7, h8, h9, h10⟩ := h
  refine ⟨Nat.lt_of_lt_of_le hz b.size, ?_, ?_, ?_, ?_, ?_, ?_, ?_, ?_, ?_, ?_, ?_⟩ <;> rw [b.cell hp] <;> assumption
theorem boxV6_at {B p : Nat} {w w' : World} {v0 v1 v2 v3 v4 v5 : Value} (h : BoxV6 w p v0 v1 v2 v3 v4 v5) (b : Below B w w') (hp : p < B) : BoxV6 w' p v0 v1 v2 v3 v4 v5 := by
  obtain ⟨hz, h0, h1, h2, h3, h4, h5⟩ := h
  refine ⟨Nat.lt_of_lt_of_le hz b.size, ?_, ?_, ?_, ?_, ?_, ?_⟩ <;> rw [b.cell hp] <;> assumption
theorem Pre.below {w : World} {B pa pb gw : Nat} {x0 x1 x2 x3 x4 x5 x6 x7 x8 x9 xa : Int} {v0 v1 v2 v3 v4 v5 : Value} {p f q : Option Addr} {m c d g : Nat} {A E C : Nat → Int} {n1 n2 n3 : Int} {Y Y' : World} (h : Pre w B pa pb gw x0 x1 x2 x3 x4 x5 x6 x7 x8 x9 xa v0 v1 v2 v3 v4 v5 p f q m c d g A E C n1 n2 n3 Y) (b : Below B Y Y') :
    Pre w B pa pb gw x0 x1 x2 x3 x4 x5 x6 x7 x8 x9 xa v0 v1 v2 v3 v4 v5 p f q m c d g A E C n1 n2 n3 Y' := by
  obtain ⟨bw, ⟨z1, z2, z3, z4, z5⟩, ka, kb, kw, hP, hF, hS⟩ := h
  exact ⟨bw.trans (b.mono z1), ⟨z1, z2, z3, z4, Nat.le_trans z5 b.size⟩, box11_at ka b z2, boxV6_at kb b z3, boxV6_at kw b z4, hP.below b, hF.below b, hS.below b⟩
theorem Ans.box {B gg : Nat} {p f q : Option Addr} {m c d g : Nat} {A E C : Nat → Int} {n1 n2 n3 : Int} {Y : World} (h : Ans B gg p f q m c d g A E C n1 n2 n3 Y) : BoxV6 Y gg (.slice p m c) (.slice f m d) (.slice q m g) (.int .i64 n1) (.int .i64 n2) (.int .i64 n3) :=
  ⟨h.k.z, h.k.c 0 (by omega), h.k.c 1 (by omega), h.k.c 2 (by omega), h.k.c 3 (by omega), h.k.c 4 (by omega), h.k.c 5 (by omega)⟩
/-- what the program is handed: a state in a variable, its three rows and one more, between blocks B and C -/
structure Mid (B C v1 g1 g2 g3 gx r q s t : Nat) (n f o : Int) (P Q S D : Nat → Int) (Y : World) : Prop where
  k : BoxV6 Y v1 (.slice (some ⟨g1, 0, none⟩) r r) (.slice (some ⟨g2, 0, none⟩) q q) (.slice (some ⟨g3, 0, none⟩) s s) (.int .i64 n) (.int .i64 f) (.int .i64 o)
  z : B ≤ g1 ∧ g1 < g2 ∧ g2 < g3 ∧ g3 < v1 ∧ v1 < gx ∧ gx < C ∧ C ≤ Y.heap.size
  P : Rw Y g1 r P
  Q : Rw Y g2 q Q
  S : Rw Y g3 s S
  X : Rw Y gx t D
theorem Mid.below {B C v1 g1 g2 g3 gx r q s t : Nat} {n f o : Int} {P Q S D : Nat → Int} {Y Y' : World} (h : Mid B C v1 g1 g2 g3 gx r q s t n f o P Q S D Y) (b : Below C Y Y') : Mid B C v1 g1 g2 g3 gx r q s t n f o P Q S D Y' := by
  obtain ⟨k, z, hP, hQ, hS, hX⟩ := h
  exact ⟨boxV6_at k b (by omega), by have := b.size; omega, hP.below b (by omega), hQ.below b (by omega), hS.below b (by omega), hX.below b (by omega)⟩
section
variable {o : Oper} {A : Act} {w : World} {x y : Operand} {b : Nat}
theorem runStoreO {V : Nat → Value} {p f q : Option Addr} {m c d g : Nat} {n fc gd : Int} (ho : o.op = .store 30 x y) (hx : A.eval x = .pointer (some ⟨b, 0, none⟩)) (hy : A.eval y = .agg #[.slice p m c, .slice f m d, .slice q m g, .int .i64 n, .int .i64 fc, .int .i64 gd]) (h : C6 w b V) :
    ∃ w', (execOp A.eval o).run Try.prog w = .ok .skip w' ∧ C6 w' b (OV p f q m c d g n fc gd) ∧ Kept (· = b) w w' := by
  have c0 := h.c 0 (by omega)
  have c1 := h.c 1 (by omega)
  have c2 := h.c 2 (by omega)
  have c3 := h.c 3 (by omega)
  have c4 := h.c 4 (by omega)
  have c5 := h.c 5 (by omega)
  have f0 := h.f 0
  have f1 := h.f 1
  have f2 := h.f 2
  have f3 := h.f 3
  have f4 := h.f 4
  have f5 := h.f 5
  refine ⟨(((((w.setCell ⟨b, 0, none⟩ (.slice p m c)).setCell ⟨b, 1, none⟩ (.slice f m d)).setCell ⟨b, 2, none⟩ (.slice q m g)).setCell ⟨b, 3, none⟩ (.int .i64 n)).setCell ⟨b, 4, none⟩ (.int .i64 fc)).setCell ⟨b, 5, none⟩ (.int .i64 gd), ?_, ?_, ?_⟩
  · unfold execOp
    rw [ho]
    simp only [hx, hy]
    go_simp
  · refine (((((((h.set 0 _ (by omega)).set 1 _ (by omega)).set 2 _ (by omega)).set 3 _ (by omega)).set 4 _ (by omega)).set 5 _ (by omega))).same (fun i hi => ?_)
    rcases (by omega : i = 0 ∨ i = 1 ∨ i = 2 ∨ i = 3 ∨ i = 4 ∨ i = 5) with rfl | rfl | rfl | rfl | rfl | rfl <;> rfl
  · exact ((((((Kept.setCell w ⟨b, 0, none⟩ _).trans (Kept.setCell _ ⟨b, 1, none⟩ _)).trans (Kept.setCell _ ⟨b, 2, none⟩ _)).trans (Kept.setCell _ ⟨b, 3, none⟩ _)).trans (Kept.setCell _ ⟨b, 4, none⟩ _)).trans (Kept.setCell _ ⟨b, 5, none⟩ _))
end
end Vo
end Go.Proofs.Ytajljeegkmkkcaa

/- RunOpt of the model (written by tools/genrn.py). -/
namespace Go.Proofs.Ytajljeegkmkkcaa
namespace Vo
open Go.ChangeShapes Go.WideShapes Go.ChangeAt Go.RowKit Go.Joins Go.Sort
open Vl
set_option linter.unusedVariables false
set_option linter.unusedSimpArgs false
theorem nil_ints {B n : Nat} {w : World} {a : Option Addr} {D : Nat → Int} (h : Ints B w a n D) : a = none → n = 0 ∧ True := by
  rintro rfl
  rcases h with h | ⟨b, off, e, _⟩
  · exact ⟨h, trivial⟩
  · cases e
theorem runIxS {o : Oper} {A : Act} {w : World} {x y : Operand} {b f n c j : Nat} (ho : o.op = .indexAddr 44 x y) (hx : A.eval x = .slice (some ⟨b, f, none⟩) n c) (hy : A.eval y = .int .i64 ((j : Nat) : Int)) (hj : j < n) : (execOp A.eval o).run Try.prog w = .ok (.value (.pointer (some ⟨b, f + j, none⟩))) w := by
  unfold execOp
  rw [ho]
  simp only [hx, hy]
  go_simp
set_option maxHeartbeats 4000000 in
set_option maxRecDepth 100000 in
theorem sRun (R : Rl) (n m cP cF cS cl : Nat) (S : Nat → St) (X : Nat → Prop) (aP aF aS ls : Option Addr) (L : Nat → LV) (w : World) (h1 : Ints w.heap.size w aP n (S 0).P) (h2 : Ints w.heap.size w aF n (S 0).F) (h3 : Ints w.heap.size w aS n (S 0).S) (hb : bd (S 0).c ∧ bd (S 0).f ∧ bd (S 0).g) (hok : ∀ t, t ≤ m → (∀ u, u < t → ¬ X u) → (S t).ok n) (hL : LL w.heap.size w ls m L) (hm : (m : Int) ≤ 1048576)
    (hC : ∀ t, t < m → (∀ u, u < t → ¬ X u) → ∃ (m' : Nat) (N : St) (bo : Bool), (X t → bo = false) ∧ (¬ X t → m' = n ∧ N = S (t + 1) ∧ bo = true) ∧ ∀ (cP cF cS : Nat) (aP aF aS : Option Addr) (w : World), Ints w.heap.size w aP n (S t).P → Ints w.heap.size w aF n (S t).F → Ints w.heap.size w aS n (S t).S → Ints w.heap.size w (L t).a (L t).r (L t).D → Calls Try.prog 6 #[.agg #[.int .i64 R.d, .int .i64 R.r1, .int .i64 R.r2, .int .i64 R.r3, .int .i64 R.r4, .int .i64 R.k, .int .i64 R.z, .int .i64 R.o, .int .i64 R.y, .int .i64 R.mo, .int .i64 R.gr], .agg #[.slice aP n cP, .slice aF n cF, .slice aS n cS, .int .i64 (S t).c, .int .i64 (S t).f, .int .i64 (S t).g], .slice (L t).a (L t).r (L t).cap] w (StepU m' N bo w)) :
    Calls Try.prog 17 #[.agg #[.int .i64 R.d, .int .i64 R.r1, .int .i64 R.r2, .int .i64 R.r3, .int .i64 R.r4, .int .i64 R.k, .int .i64 R.z, .int .i64 R.o, .int .i64 R.y, .int .i64 R.mo, .int .i64 R.gr], .agg #[.slice aP n cP, .slice aF n cF, .slice aS n cS, .int .i64 (S 0).c, .int .i64 (S 0).f, .int .i64 (S 0).g], .slice ls m cl] w (RunR n m S X w) := by
  obtain ⟨W1, hW1⟩ : ∃ W1, w.alloc (.cells #[.int .i64 R.d, .int .i64 R.r1, .int .i64 R.r2, .int .i64 R.r3, .int .i64 R.r4, .int .i64 R.k, .int .i64 R.z, .int .i64 R.o, .int .i64 R.y, .int .i64 R.mo, .int .i64 R.gr] 35) = W1 := ⟨_, rfl⟩
  have n1 : Below w.heap.size w W1 := hW1 ▸ (Below.refl _ _).alloc (Nat.le_refl _) _
  have y1 : w.heap.size < W1.heap.size := by rw [← hW1]; simp
  obtain ⟨W2, hW2⟩ : ∃ W2, W1.alloc (.cells #[.slice aP n cP, .slice aF n cF, .slice aS n cS, .int .i64 (S 0).c, .int .i64 (S 0).f, .int .i64 (S 0).g] 30) = W2 := ⟨_, rfl⟩
  have n2 : Below W1.heap.size W1 W2 := hW2 ▸ (Below.refl _ _).alloc (Nat.le_refl _) _
  have y2 : W1.heap.size < W2.heap.size := by rw [← hW2]; simp
  obtain ⟨W3, hW3⟩ : ∃ W3, W2.alloc (.cells #[.slice none 0 0, .slice none 0 0, .slice none 0 0, .int .i64 0, .int .i64 0, .int .i64 0] 30) = W3 := ⟨_, rfl⟩
  have n3 : Below W2.heap.size W2 W3 := hW3 ▸ (Below.refl _ _).alloc (Nat.le_refl _) _
  have y3 : W2.heap.size < W3.heap.size := by rw [← hW3]; simp
  have LR := hide (show Lis [(⟨w.heap.size, 0, none⟩, .int .i64 R.d), (⟨w.heap.size, 1, none⟩, .int .i64 R.r1), (⟨w.heap.size, 2, none⟩, .int .i64 R.r2), (⟨w.heap.size, 3, none⟩, .int .i64 R.r3), (⟨w.heap.size, 4, none⟩, .int .i64 R.r4), (⟨w.heap.size, 5, none⟩, .int .i64 R.k), (⟨w.heap.size, 6, none⟩, .int .i64 R.z), (⟨w.heap.size, 7, none⟩, .int .i64 R.o), (⟨w.heap.size, 8, none⟩, .int .i64 R.y), (⟨w.heap.size, 9, none⟩, .int .i64 R.mo), (⟨w.heap.size, 10, none⟩, .int .i64 R.gr)] W3 from (show Lis _ W1 from fun x hx => by
      simp only [List.mem_cons, List.not_mem_nil, or_false] at hx
      rcases hx with rfl | rfl | rfl | rfl | rfl | rfl | rfl | rfl | rfl | rfl | rfl <;> (rw [← hW1]; simp [go_sem])).below n2 |>.below n3)
  have O1 := hide ((show C6 W2 W1.heap.size (OV aP aF aS n cP cF cS (S 0).c (S 0).f (S 0).g) from ⟨fun i hi => by rcases (by omega : i = 0 ∨ i = 1 ∨ i = 2 ∨ i = 3 ∨ i = 4 ∨ i = 5) with rfl | rfl | rfl | rfl | rfl | rfl <;> (rw [← hW2]; simp [go_sem, OV]), fun i => by rw [← hW2]; simp [go_sem], y2⟩).kept (Kept.of_below (S := fun _ => False) n3) id)
  have R1 := hide (show C6 W3 W2.heap.size (OV none none none 0 0 0 0 0 0 0) from ⟨fun i hi => by rcases (by omega : i = 0 ∨ i = 1 ∨ i = 2 ∨ i = 3 ∨ i = 4 ∨ i = 5) with rfl | rfl | rfl | rfl | rfl | rfl <;> (rw [← hW3]; simp [go_sem, OV]), fun i => by rw [← hW3]; simp [go_sem], y3⟩)
  have B3 := hide ((n1.trans (n2.mono n1.size)).trans (n3.mono (Nat.le_trans n1.size n2.size)))
  have Y := hide (And.intro y1 (And.intro y2 y3))
  have hs : (S 0).ok n := hok 0 (Nat.zero_le _) (fun u hu => absurd hu (by omega))
  have n4 : (n : Int) ≤ 4096 := hs.1
  have hyes : ook n n n (S 0).P (S 0).F (S 0).S (S 0).c (S 0).f (S 0).g = true := decide_eq_true hs
  have CO := hide (specOpt aP aF aS n n n cP cF cS (S 0).P (S 0).F (S 0).S (S 0).c (S 0).f (S 0).g W3 ((h1.below B3.out).mono B3.out.size) ((h2.below B3.out).mono B3.out.size) ((h3.below B3.out).mono B3.out.size) (by omega) hb.1 hb.2.1 hb.2.2 (by omega) (by omega))
  rw [hyes] at CO
  have HL := hide (hL.below B3.out)
  have H1 := hide ((h1.below B3.out).mono B3.out.size)
  have H2 := hide ((h2.below B3.out).mono B3.out.size)
  have H3 := hide ((h3.below B3.out).mono B3.out.size)
  have HC := hide hC
  have HK0 := hide hok
  have N4 := hide n4
  have o0 : W3.cell? ⟨W1.heap.size, 0, none⟩ = some (.slice aP n cP) := O1.out.c 0 (by omega)
  have o1 : W3.cell? ⟨W1.heap.size, 1, none⟩ = some (.slice aF n cF) := O1.out.c 1 (by omega)
  have o2 : W3.cell? ⟨W1.heap.size, 2, none⟩ = some (.slice aS n cS) := O1.out.c 2 (by omega)
  have o3 : W3.cell? ⟨W1.heap.size, 3, none⟩ = some (.int .i64 (S 0).c) := O1.out.c 3 (by omega)
  have o4 : W3.cell? ⟨W1.heap.size, 4, none⟩ = some (.int .i64 (S 0).f) := O1.out.c 4 (by omega)
  have o5 : W3.cell? ⟨W1.heap.size, 5, none⟩ = some (.int .i64 (S 0).g) := O1.out.c 5 (by omega)
  clear h1 h2 h3 hL hC hok hs hyes n4 hb n1 n2 n3 y1 y2 y3
  go_enter Try.func17, Try.ntmps17
  go_wp2_with fail
  refine CO.out.mono ?_; rintro e W4 ⟨rfl, bx⟩
  replace O1 := hide (O1.out.kept (Kept.of_below (S := fun _ => False) bx) id)
  replace R1 := hide (R1.out.kept (Kept.of_below (S := fun _ => False) bx) id)
  replace LR := hide (LR.out.below bx)
  have S4 := hide bx.size
  replace HL := hide (HL.out.below (bx.mono B3.out.size))
  replace H1 := hide ((H1.out.below bx).mono bx.size)
  replace H2 := hide ((H2.out.below bx).mono bx.size)
  replace H3 := hide ((H3.out.below bx).mono bx.size)
  replace B3 := hide (B3.out.trans (bx.mono B3.out.size))
  clear bx CO hW1 hW2 hW3 o0 o1 o2 o3 o4 o5
  go_wp2_with fail
  go_loopw [8] (fun i wx => ∃ (k : Nat) (p f q : Option Addr) (c d g : Nat), k ≤ m ∧ i = .int .i64 k ∧ (∀ t, t < k → ¬ X t) ∧ C6 wx W1.heap.size (OV p f q n c d g (S k).c (S k).f (S k).g) ∧ (Ints wx.heap.size wx p n (S k).P ∧ Ints wx.heap.size wx f n (S k).F ∧ Ints wx.heap.size wx q n (S k).S) ∧ Kept (· = W1.heap.size) W4 wx) (fun i _ => m - (intOf i).toNat)
  case atStart => exact ⟨0, aP, aF, aS, cP, cF, cS, Nat.zero_le _, rfl, fun t ht => by omega, O1.out, ⟨H1.out, H2.out, H3.out⟩, Kept.refl _ _⟩
  case round =>
    obtain ⟨k, p, f, q, c, d, g, hk, rfl, hnst, hc6, ⟨q1, q2, q3⟩, hK⟩ := hrel
    have HN := hide hnst
    have HO := hide (HK0.out k hk hnst)
    have HC6 := hide hc6
    have HP := hide q1
    have HF := hide q2
    have HS := hide q3
    have HK := hide hK
    clear hnst hc6 q1 q2 q3 hK
    have BK := hide (B3.out.trans (HK.out.below (Nat.le_trans (Nat.le_of_lt Y.out.1) (Nat.le_trans (Nat.le_of_lt Y.out.2.1) (Nat.le_trans (Nat.le_of_lt Y.out.2.2) S4.out))) (fun b e => by have := Y.out; have e : b = W1.heap.size := e; omega)) : Below w.heap.size w wr)
    have RW := hide (R1.out.kept HK.out (by have := Y.out; show ¬ W2.heap.size = W1.heap.size; omega))
    obtain ⟨cc, hcc⟩ : ∃ cc, (S k).c = cc := ⟨_, rfl⟩
    obtain ⟨ff, hff⟩ : ∃ ff, (S k).f = ff := ⟨_, rfl⟩
    obtain ⟨gg, hgg⟩ : ∃ gg, (S k).g = gg := ⟨_, rfl⟩
    have EC := hide (And.intro hcc (And.intro hff hgg))
    rw [hcc, hff, hgg] at HC6
    clear hcc hff hgg
    have s0 : wr.cell? ⟨W1.heap.size, 0, none⟩ = some (.slice p n c) := HC6.out.c 0 (by omega)
    have s1 : wr.cell? ⟨W1.heap.size, 1, none⟩ = some (.slice f n d) := HC6.out.c 1 (by omega)
    have s2 : wr.cell? ⟨W1.heap.size, 2, none⟩ = some (.slice q n g) := HC6.out.c 2 (by omega)
    have s3 : wr.cell? ⟨W1.heap.size, 3, none⟩ = some (.int .i64 cc) := HC6.out.c 3 (by omega)
    have s4 : wr.cell? ⟨W1.heap.size, 4, none⟩ = some (.int .i64 ff) := HC6.out.c 4 (by omega)
    have s5 : wr.cell? ⟨W1.heap.size, 5, none⟩ = some (.int .i64 gg) := HC6.out.c 5 (by omega)
    by_cases hkm : k < m
    · have ZW := hide (HC6.out.z)
      have kI : (k : Int) < (m : Int) := by omega
      have HKM := hide hkm
      have wk : IntKind.i64.wrap ((k : Int) + 1) = (k : Int) + 1 := by rw [IntKind.wrap_i64]; omega
      rcases (HL.out.below (HK.out.below (Nat.le_trans (Nat.le_of_lt Y.out.1) (Nat.le_trans (Nat.le_of_lt Y.out.2.1) (Nat.le_trans (Nat.le_of_lt Y.out.2.2) S4.out))) (fun b e => by have := Y.out; have e : b = W1.heap.size := e; omega) : Below w.heap.size W4 wr)) with h0 | ⟨blk, off, rfl, hblk, hcl⟩
      · omega
      obtain ⟨cl0, il0⟩ := hcl k hkm
      obtain ⟨m', N, bo, hX, hN, hS⟩ := HC.out k hkm HN.out
      have HX := hide hX
      have HNX := hide hN
      clear hX hN
      obtain ⟨la, hla⟩ : ∃ la, (L k).a = la := ⟨_, rfl⟩
      obtain ⟨lr, hlr⟩ : ∃ lr, (L k).r = lr := ⟨_, rfl⟩
      obtain ⟨lc, hlc⟩ : ∃ lc, (L k).cap = lc := ⟨_, rfl⟩
      rw [hla, hlr, hlc] at cl0 hS
      rw [hla, hlr] at il0
      rw [EC.out.1, EC.out.2.1, EC.out.2.2] at hS
      have IL := hide il0
      have CS := hide hS
      have CL := hide cl0
      have ZB := hide (show blk < wr.heap.size from Nat.lt_of_lt_of_le hblk BK.out.size)
      clear hla hlr hlc hcl il0 cl0 hS hblk
      have FA := hide (fun (Q : World) (hQ : Below wr.heap.size wr Q) => (show Q.cell? ⟨w.heap.size, 0, none⟩ = some (.int .i64 R.d) ∧ Q.cell? ⟨w.heap.size, 1, none⟩ = some (.int .i64 R.r1) ∧ Q.cell? ⟨w.heap.size, 2, none⟩ = some (.int .i64 R.r2) ∧ Q.cell? ⟨w.heap.size, 3, none⟩ = some (.int .i64 R.r3) ∧ Q.cell? ⟨w.heap.size, 4, none⟩ = some (.int .i64 R.r4) ∧ Q.cell? ⟨w.heap.size, 5, none⟩ = some (.int .i64 R.k) ∧ Q.cell? ⟨w.heap.size, 6, none⟩ = some (.int .i64 R.z) ∧ Q.cell? ⟨w.heap.size, 7, none⟩ = some (.int .i64 R.o) ∧ Q.cell? ⟨w.heap.size, 8, none⟩ = some (.int .i64 R.y) ∧ Q.cell? ⟨w.heap.size, 9, none⟩ = some (.int .i64 R.mo) ∧ Q.cell? ⟨w.heap.size, 10, none⟩ = some (.int .i64 R.gr) from ⟨(hQ.cell (p := ⟨w.heap.size, 0, none⟩) (Nat.lt_of_lt_of_le (Nat.lt_trans Y.out.1 (Nat.lt_trans Y.out.2.1 Y.out.2.2)) (Nat.le_trans S4.out HK.out.size))).trans ((World.cell?_of_block (w := W4) (a := ⟨w.heap.size, 0, none⟩) (HK.out.block _ (Nat.lt_of_lt_of_le (Nat.lt_trans Y.out.1 (Nat.lt_trans Y.out.2.1 Y.out.2.2)) S4.out) (Nat.ne_of_lt Y.out.1))).trans (LR.out (⟨w.heap.size, 0, none⟩, .int .i64 R.d) (.head _))), (hQ.cell (p := ⟨w.heap.size, 1, none⟩) (Nat.lt_of_lt_of_le (Nat.lt_trans Y.out.1 (Nat.lt_trans Y.out.2.1 Y.out.2.2)) (Nat.le_trans S4.out HK.out.size))).trans ((World.cell?_of_block (w := W4) (a := ⟨w.heap.size, 1, none⟩) (HK.out.block _ (Nat.lt_of_lt_of_le (Nat.lt_trans Y.out.1 (Nat.lt_trans Y.out.2.1 Y.out.2.2)) S4.out) (Nat.ne_of_lt Y.out.1))).trans (LR.out (⟨w.heap.size, 1, none⟩, .int .i64 R.r1) (.tail _ (.head _)))), (hQ.cell (p := ⟨w.heap.size, 2, none⟩) (Nat.lt_of_lt_of_le (Nat.lt_trans Y.out.1 (Nat.lt_trans Y.out.2.1 Y.out.2.2)) (Nat.le_trans S4.out HK.out.size))).trans ((World.cell?_of_block (w := W4) (a := ⟨w.heap.size, 2, none⟩) (HK.out.block _ (Nat.lt_of_lt_of_le (Nat.lt_trans Y.out.1 (Nat.lt_trans Y.out.2.1 Y.out.2.2)) S4.out) (Nat.ne_of_lt Y.out.1))).trans (LR.out (⟨w.heap.size, 2, none⟩, .int .i64 R.r2) (.tail _ (.tail _ (.head _))))), (hQ.cell (p := ⟨w.heap.size, 3, none⟩) (Nat.lt_of_lt_of_le (Nat.lt_trans Y.out.1 (Nat.lt_trans Y.out.2.1 Y.out.2.2)) (Nat.le_trans S4.out HK.out.size))).trans ((World.cell?_of_block (w := W4) (a := ⟨w.heap.size, 3, none⟩) (HK.out.block _ (Nat.lt_of_lt_of_le (Nat.lt_trans Y.out.1 (Nat.lt_trans Y.out.2.1 Y.out.2.2)) S4.out) (Nat.ne_of_lt Y.out.1))).trans (LR.out (⟨w.heap.size, 3, none⟩, .int .i64 R.r3) (.tail _ (.tail _ (.tail _ (.head _)))))), (hQ.cell (p := ⟨w.heap.size, 4, none⟩) (Nat.lt_of_lt_of_le (Nat.lt_trans Y.out.1 (Nat.lt_trans Y.out.2.1 Y.out.2.2)) (Nat.le_trans S4.out HK.out.size))).trans ((World.cell?_of_block (w := W4) (a := ⟨w.heap.size, 4, none⟩) (HK.out.block _ (Nat.lt_of_lt_of_le (Nat.lt_trans Y.out.1 (Nat.lt_trans Y.out.2.1 Y.out.2.2)) S4.out) (Nat.ne_of_lt Y.out.1))).trans (LR.out (⟨w.heap.size, 4, none⟩, .int .i64 R.r4) (.tail _ (.tail _ (.tail _ (.tail _ (.head _))))))), (hQ.cell (p := ⟨w.heap.size, 5, none⟩) (Nat.lt_of_lt_of_le (Nat.lt_trans Y.out.1 (Nat.lt_trans Y.out.2.1 Y.out.2.2)) (Nat.le_trans S4.out HK.out.size))).trans ((World.cell?_of_block (w := W4) (a := ⟨w.heap.size, 5, none⟩) (HK.out.block _ (Nat.lt_of_lt_of_le (Nat.lt_trans Y.out.1 (Nat.lt_trans Y.out.2.1 Y.out.2.2)) S4.out) (Nat.ne_of_lt Y.out.1))).trans (LR.out (⟨w.heap.size, 5, none⟩, .int .i64 R.k) (.tail _ (.tail _ (.tail _ (.tail _ (.tail _ (.head _)))))))), (hQ.cell (p := ⟨w.heap.size, 6, none⟩) (Nat.lt_of_lt_of_le (Nat.lt_trans Y.out.1 (Nat.lt_trans Y.out.2.1 Y.out.2.2)) (Nat.le_trans S4.out HK.out.size))).trans ((World.cell?_of_block (w := W4) (a := ⟨w.heap.size, 6, none⟩) (HK.out.block _ (Nat.lt_of_lt_of_le (Nat.lt_trans Y.out.1 (Nat.lt_trans Y.out.2.1 Y.out.2.2)) S4.out) (Nat.ne_of_lt Y.out.1))).trans (LR.out (⟨w.heap.size, 6, none⟩, .int .i64 R.z) (.tail _ (.tail _ (.tail _ (.tail _ (.tail _ (.tail _ (.head _))))))))), (hQ.cell (p := ⟨w.heap.size, 7, none⟩) (Nat.lt_of_lt_of_le (Nat.lt_trans Y.out.1 (Nat.lt_trans Y.out.2.1 Y.out.2.2)) (Nat.le_trans S4.out HK.out.size))).trans ((World.cell?_of_block (w := W4) (a := ⟨w.heap.size, 7, none⟩) (HK.out.block _ (Nat.lt_of_lt_of_le (Nat.lt_trans Y.out.1 (Nat.lt_trans Y.out.2.1 Y.out.2.2)) S4.out) (Nat.ne_of_lt Y.out.1))).trans (LR.out (⟨w.heap.size, 7, none⟩, .int .i64 R.o) (.tail _ (.tail _ (.tail _ (.tail _ (.tail _ (.tail _ (.tail _ (.head _)))))))))), (hQ.cell (p := ⟨w.heap.size, 8, none⟩) (Nat.lt_of_lt_of_le (Nat.lt_trans Y.out.1 (Nat.lt_trans Y.out.2.1 Y.out.2.2)) (Nat.le_trans S4.out HK.out.size))).trans ((World.cell?_of_block (w := W4) (a := ⟨w.heap.size, 8, none⟩) (HK.out.block _ (Nat.lt_of_lt_of_le (Nat.lt_trans Y.out.1 (Nat.lt_trans Y.out.2.1 Y.out.2.2)) S4.out) (Nat.ne_of_lt Y.out.1))).trans (LR.out (⟨w.heap.size, 8, none⟩, .int .i64 R.y) (.tail _ (.tail _ (.tail _ (.tail _ (.tail _ (.tail _ (.tail _ (.tail _ (.head _))))))))))), (hQ.cell (p := ⟨w.heap.size, 9, none⟩) (Nat.lt_of_lt_of_le (Nat.lt_trans Y.out.1 (Nat.lt_trans Y.out.2.1 Y.out.2.2)) (Nat.le_trans S4.out HK.out.size))).trans ((World.cell?_of_block (w := W4) (a := ⟨w.heap.size, 9, none⟩) (HK.out.block _ (Nat.lt_of_lt_of_le (Nat.lt_trans Y.out.1 (Nat.lt_trans Y.out.2.1 Y.out.2.2)) S4.out) (Nat.ne_of_lt Y.out.1))).trans (LR.out (⟨w.heap.size, 9, none⟩, .int .i64 R.mo) (.tail _ (.tail _ (.tail _ (.tail _ (.tail _ (.tail _ (.tail _ (.tail _ (.tail _ (.head _)))))))))))), (hQ.cell (p := ⟨w.heap.size, 10, none⟩) (Nat.lt_of_lt_of_le (Nat.lt_trans Y.out.1 (Nat.lt_trans Y.out.2.1 Y.out.2.2)) (Nat.le_trans S4.out HK.out.size))).trans ((World.cell?_of_block (w := W4) (a := ⟨w.heap.size, 10, none⟩) (HK.out.block _ (Nat.lt_of_lt_of_le (Nat.lt_trans Y.out.1 (Nat.lt_trans Y.out.2.1 Y.out.2.2)) S4.out) (Nat.ne_of_lt Y.out.1))).trans (LR.out (⟨w.heap.size, 10, none⟩, .int .i64 R.gr) (.tail _ (.tail _ (.tail _ (.tail _ (.tail _ (.tail _ (.tail _ (.tail _ (.tail _ (.tail _ (.head _)))))))))))))⟩))
      have FB := hide (fun (Q : World) (hQ : Below wr.heap.size wr Q) => (show BoxV6 Q W1.heap.size (.slice p n c) (.slice f n d) (.slice q n g) (.int .i64 cc) (.int .i64 ff) (.int .i64 gg) from boxV6_at ⟨HC6.out.z, HC6.out.c 0 (by omega), HC6.out.c 1 (by omega), HC6.out.c 2 (by omega), HC6.out.c 3 (by omega), HC6.out.c 4 (by omega), HC6.out.c 5 (by omega)⟩ hQ HC6.out.z))
      have FE := hide (fun (Q : World) (hQ : Below wr.heap.size wr Q) => (hQ.cell (p := ⟨blk, off + k, none⟩) ZB.out).trans CL.out)
      have CT := hide (fun (Q : World) (hQ : Below wr.heap.size wr Q) => CS.out c d g p f q Q ((HP.out.below hQ).mono hQ.size) ((HF.out.below hQ).mono hQ.size) ((HS.out.below hQ).mono hQ.size) ((IL.out.below (hQ.mono BK.out.size)).mono (Nat.le_trans BK.out.size hQ.size)))
      go_wp2_with fail
      refine Qk.factsG2 (Below wr.heap.size) (fun _ _ _ => Below.trans) 12 (Below.refl _ _).drew (by kernel_rfl) (by kernel_rfl) (GG 11) (fun i s0 wx => match i with | 0 => s0 0 = .agg #[.int .i64 R.d, .int .i64 R.r1, .int .i64 R.r2, .int .i64 R.r3, .int .i64 R.r4, .int .i64 R.k, .int .i64 R.z, .int .i64 R.o, .int .i64 R.y, .int .i64 R.mo, .int .i64 R.gr] | 1 => s0 1 = .agg #[.slice p n c, .slice f n d, .slice q n g, .int .i64 cc, .int .i64 ff, .int .i64 gg] | 2 => s0 2 = .slice (some ⟨blk, off, none⟩) m cl | 3 => s0 3 = .int .i64 (k : Int) | 4 => s0 4 = .pointer (some ⟨blk, off + k, none⟩) | 5 => s0 5 = .slice la lr lc | 6 => ∃ (p f q : Option Addr) (c d g : Nat), s0 6 = .tuple #[.agg #[.slice p m' c, .slice f m' d, .slice q m' g, .int .i64 N.c, .int .i64 N.f, .int .i64 N.g], .bool bo] ∧ (OwnL wr.heap.size wx p m' N.P ∧ OwnL wr.heap.size wx f m' N.F ∧ OwnL wr.heap.size wx q m' N.S) ∧ ((∀ k k', Blk p m' k → Blk f m' k' → k < k') ∧ (∀ k k', Blk f m' k → Blk q m' k' → k < k')) | 7 => (∃ (p f q : Option Addr) (c d g : Nat), s0 7 = .tuple #[.agg #[.slice p m' c, .slice f m' d, .slice q m' g, .int .i64 N.c, .int .i64 N.f, .int .i64 N.g], .bool bo]) ∧ s0 7 = s0 6 | 8 => (∃ (p f q : Option Addr) (c d g : Nat), s0 8 = .agg #[.slice p m' c, .slice f m' d, .slice q m' g, .int .i64 N.c, .int .i64 N.f, .int .i64 N.g]) ∧ ∀ u v, s0 7 = .tuple #[u, v] → s0 8 = u | 9 => ∀ u v, s0 7 = .tuple #[u, v] → s0 9 = v | 10 => ∃ (g : Nat) (V : Nat → Value), s0 10 = .pointer (some ⟨g, 0, none⟩) ∧ wr.heap.size ≤ g ∧ C6 wx g V ∧ Ls V | 11 => ∀ (gg : Nat) (p f q : Option Addr) (c d g : Nat), s0 10 = .pointer (some ⟨gg, 0, none⟩) → s0 8 = .agg #[.slice p m' c, .slice f m' d, .slice q m' g, .int .i64 N.c, .int .i64 N.f, .int .i64 N.g] → C6 wx gg (OV p f q m' c d g N.c N.f N.g) | _ => True) ?loc ?stable ?steps ?rest
      case loc =>
        intro i s s' w1 hs h
        match i, h with
        | 0, h => exact (hs 0 (.inl rfl)).symm.trans h
        | 1, h => exact (hs 1 (.inl rfl)).symm.trans h
        | 2, h => exact (hs 2 (.inl rfl)).symm.trans h
        | 3, h => exact (hs 3 (.inl rfl)).symm.trans h
        | 4, h => exact (hs 4 (.inl rfl)).symm.trans h
        | 5, h => exact (hs 5 (.inl rfl)).symm.trans h
        | 6, ⟨p, f, q, c, d, g, h1, h2⟩ => exact ⟨p, f, q, c, d, g, (hs 6 (.inl rfl)).symm.trans h1, h2⟩
        | 7, ⟨⟨p, f, q, c, d, g, h0⟩, h⟩ => exact ⟨⟨p, f, q, c, d, g, (hs 7 (.inl rfl)).symm.trans h0⟩, (hs 7 (.inl rfl)).symm.trans (h.trans (hs 6 (.inr (by kernel_rfl))))⟩
        | 8, ⟨⟨p, f, q, c, d, g, h0⟩, h⟩ => exact ⟨⟨p, f, q, c, d, g, (hs 8 (.inl rfl)).symm.trans h0⟩, fun u v e => (hs 8 (.inl rfl)).symm.trans (h u v ((hs 7 (.inr (by kernel_rfl))).trans e))⟩
        | 9, h => exact fun u v e => (hs 9 (.inl rfl)).symm.trans (h u v ((hs 7 (.inr (by kernel_rfl))).trans e))
        | 10, ⟨g, V, h1, h2⟩ => exact ⟨g, V, (hs 10 (.inl rfl)).symm.trans h1, h2⟩
        | 11, h => exact fun gg p f q c d g e1 e2 => h gg p f q c d g ((hs 10 (.inr (by kernel_rfl))).trans e1) ((hs 8 (.inr (by kernel_rfl))).trans e2)
        | _ + 12, h => exact h
      case stable =>
        intro i k s w1 w2 hne hkn h hb hg
        match i, h, hne with
        | 0, h, _ => exact h
        | 1, h, _ => exact h
        | 2, h, _ => exact h
        | 3, h, _ => exact h
        | 4, h, _ => exact h
        | 5, h, _ => exact h
        | 6, ⟨p, f, q, c, d, g, h1, ⟨q1, q2, q3⟩, h3⟩, _ => exact ⟨p, f, q, c, d, g, h1, ⟨hg.own q1, hg.own q2, hg.own q3⟩, h3⟩
        | 7, h, _ => exact h
        | 8, h, _ => exact h
        | 9, h, _ => exact h
        | 10, ⟨g, V, h1, h2, h3, h4⟩, _ => obtain ⟨V', h3, h4⟩ := hg.six h3 h4; exact ⟨g, V', h1, h2, h3, h4⟩
        | 11, h, hne => exact fun gg p f q c d g e1 e2 => hg.six0 hne (h gg p f q c d g e1 e2)
        | _ + 12, h, _ => exact h
      case steps =>
        intro i o hi ho s0 A wS hb hk hA hO
        match i, hi, ho, hk with
        | 0, _, ho, hk =>
          cases ho
          refine Qg.landsG_free rfl ?_
          obtain ⟨l0, l1, l2, l3, l4, l5, l6, l7, l8, l9, l10⟩ := FA.out wS hb
          exact Qf.lands_val _ _ (runLR rfl ((hO 3 (by rfl)).trans rfl) l0 l1 l2 l3 l4 l5 l6 l7 l8 l9 l10) (gp (by decide) hb.size (Below.refl _ _) (by simp [Qf.upd]))
        | 1, _, ho, hk =>
          cases ho
          refine Qg.landsG_free rfl ?_
          exact Qf.lands_val _ _ (runLoadOI rfl ((hO 4 (by rfl)).trans rfl) (FB.out wS hb)) (gp (by decide) hb.size (Below.refl _ _) (by simp [Qf.upd]))
        | 2, _, ho, hk =>
          cases ho
          refine Qg.landsG_free rfl ?_
          exact Qf.lands_move _ rfl (.slice (some ⟨blk, off, none⟩) m cl) ((hO 2 (by rfl)).trans rfl) (gp (by decide) hb.size (Below.refl _ _) (by simp [Qf.upd]))
        | 3, _, ho, hk =>
          cases ho
          refine Qg.landsG_free rfl ?_
          exact Qf.lands_move _ rfl (.int .i64 (k : Int)) ((hO 8 (by rfl)).trans rfl) (gp (by decide) hb.size (Below.refl _ _) (by simp [Qf.upd]))
        | 4, _, ho, hk =>
          cases ho
          refine Qg.landsG_free rfl ?_
          have h2 := hA 2 _ 22 (by decide) rfl rfl (by simp)
          have e2 := hk 2 (by kernel_rfl)
          rw [e2] at h2
          have h3 := hA 3 _ 23 (by decide) rfl rfl (by simp)
          have e3 := hk 3 (by kernel_rfl)
          rw [e3] at h3
          exact Qf.lands_val _ _ (runIxS rfl h2 h3 HKM.out) (gp (by decide) hb.size (Below.refl _ _) (by simp [Qf.upd]))
        | 5, _, ho, hk =>
          cases ho
          refine Qg.landsG_free rfl ?_
          have h4 := hA 4 _ 24 (by decide) rfl rfl (by simp)
          have e4 := hk 4 (by kernel_rfl)
          rw [e4] at h4
          exact Qf.lands_val _ _ (runLL rfl h4 (FE.out wS hb)) (gp (by decide) hb.size (Below.refl _ _) (by simp [Qf.upd]))
        | 6, _, ho, hk =>
          cases ho
          refine Qg.landsG_free rfl ?_
          have h0 := hA 0 _ 20 (by decide) rfl rfl (by simp)
          have e0 := hk 0 (by kernel_rfl)
          rw [e0] at h0
          have h1 := hA 1 _ 21 (by decide) rfl rfl (by simp)
          have e1 := hk 1 (by kernel_rfl)
          rw [e1] at h1
          have h5 := hA 5 _ 25 (by decide) rfl rfl (by simp)
          have e5 := hk 5 (by kernel_rfl)
          rw [e5] at h5
          refine Qf.lands_call 6 _ _ rfl (enters_of Try.func6 (by kernel_rfl) rfl) _ (by first | (simp [h0, h1, h5]; done) | (simp [h0, h1, h5]; rfl)) ((CT.out wS hb).mono ?_)
          rintro e wT ⟨p, f, q, c, d, g, rfl, ⟨o1', o2', o3'⟩, od, bT⟩
          exact ⟨_, rfl, gp (by decide) hb.size bT ⟨p, f, q, c, d, g, by simp [Qf.upd], ⟨o1'.mono hb.size, o2'.mono hb.size, o3'.mono hb.size⟩, od⟩⟩
        | 7, _, ho, hk =>
          cases ho
          refine Qg.landsG_free rfl ?_
          have h6 := hA 6 _ 26 (by decide) rfl rfl (by simp)
          obtain ⟨p, f, q, c, d, g, e6, -⟩ := hk 6 (by kernel_rfl)
          exact Qf.lands_move _ rfl _ h6 (gp (by decide) hb.size (Below.refl _ _) ⟨⟨p, f, q, c, d, g, by simp [Qf.upd, e6]⟩, by simp [Qf.upd]⟩)
        | 8, _, ho, hk =>
          cases ho
          refine Qg.landsG_free rfl ?_
          have h7 := hA 7 _ 19 (by decide) rfl rfl (by simp)
          obtain ⟨⟨p, f, q, c, d, g, e7⟩, -⟩ := hk 7 (by kernel_rfl)
          rw [e7] at h7
          exact Qf.lands_val _ _ (runExt0 rfl h7) (gp (by decide) hb.size (Below.refl _ _) ⟨⟨p, f, q, c, d, g, by simp [Qf.upd]⟩, (fun u v e => by
            have e2 : s0 7 = .tuple #[u, v] := by simpa [Qf.upd] using e
            rw [e7] at e2
            cases e2
            simp [Qf.upd])⟩)
        | 9, _, ho, hk =>
          cases ho
          refine Qg.landsG_free rfl ?_
          have h7 := hA 7 _ 19 (by decide) rfl rfl (by simp)
          obtain ⟨⟨p, f, q, c, d, g, e7⟩, -⟩ := hk 7 (by kernel_rfl)
          rw [e7] at h7
          exact Qf.lands_val _ _ (runExt1 rfl h7) (gp (by decide) hb.size (Below.refl _ _) (fun u v e => by
            have e2 : s0 7 = .tuple #[u, v] := by simpa [Qf.upd] using e
            rw [e7] at e2
            cases e2
            simp [Qf.upd]))
        | 10, _, ho, hk =>
          cases ho
          refine Qg.landsG_free rfl ?_
          exact Qf.lands_val _ _ (runAllocO rfl) (gp (by decide) hb.size ((Below.refl _ _).alloc (Nat.le_refl _) _) ⟨_, _, by simp [Qf.upd], hb.size, ⟨fun i hi => by rcases (by omega : i = 0 ∨ i = 1 ∨ i = 2 ∨ i = 3 ∨ i = 4 ∨ i = 5) with rfl | rfl | rfl | rfl | rfl | rfl <;> simp [go_sem, OV], fun i => by simp [go_sem], by simp⟩, ls_OV none none none 0 0 0 0 0 0 0⟩)
        | 11, _, ho, hk =>
          have ho' : o.op = Op.store 30 (.tmp 9) (.tmp 27) := by cases ho; rfl
          refine Qg.landsG_free (show o.guard = none by cases ho; rfl) ?_
          have hp := hA 10 _ 9 (by decide) rfl rfl (by simp)
          obtain ⟨gg, V, ep, hgg, c6, lv⟩ := hk 10 (by kernel_rfl)
          rw [ep] at hp
          have hv := hA 8 _ 27 (by decide) rfl rfl (by simp)
          obtain ⟨⟨p, f, q, c, d, g, e8⟩, -⟩ := hk 8 (by kernel_rfl)
          rw [e8] at hv
          obtain ⟨w', run, c6', kk⟩ := runStoreO ho' hp hv c6
          refine Qf.lands_skip w' run (gs (kk.below hb.size (fun k e => by subst e; exact hgg)) ⟨gg, V, _, c6, lv, kk, c6', ls_OV ..⟩ (fun gg' p' f' q' c' d' g' a1 a2 => ?_))
          have a1 : s0 10 = .pointer (some ⟨gg', 0, none⟩) := by simpa [Qf.upd] using a1
          have a2 : s0 8 = .agg #[.slice p' m' c', .slice f' m' d', .slice q' m' g', .int .i64 N.c, .int .i64 N.f, .int .i64 N.g] := by simpa [Qf.upd] using a2
          rw [ep] at a1
          cases a1
          rw [e8] at a2
          cases a2
          exact c6'
        | _ + 12, hi, _, _ => exact absurd hi (by omega)
      case rest =>
      intro s' Z bz hk9
      have e0 := hk9 0 (by decide)
      have e1 := hk9 1 (by decide)
      have e2 := hk9 2 (by decide)
      have e3 := hk9 3 (by decide)
      have e4 := hk9 4 (by decide)
      have e5 := hk9 5 (by decide)
      obtain ⟨p1, f1, q1, c1, d1, g1, e6, ⟨oP, oF, oS⟩, od1, od2⟩ := hk9 6 (by decide)
      have e7 := (hk9 7 (by decide)).2
      have e8 := (hk9 8 (by decide)).2 _ _ (Eq.trans e7 e6)
      have e9 := hk9 9 (by decide) _ _ (Eq.trans e7 e6)
      rw [e6] at e7
      obtain ⟨vb, -, e10, hgg, -⟩ := hk9 10 (by decide)
      have c6 := hk9 11 (by decide) _ _ _ _ _ _ _ e10 e8
      have NA := hide (show Ans wr.heap.size vb p1 f1 q1 m' c1 d1 g1 N.P N.F N.S N.c N.f N.g Z from ⟨c6, hgg, oP, oF, oS, od1, od2⟩)
      have BZ0 := hide bz
      clear bz c6 oP oF oS od1 od2 hgg
      simp only [List.take_succ_cons, List.take_zero, List.drop_succ_cons, List.drop_zero, Qf.lay, Qf.all1, if_true, e0, e1, e2, e3, e4, e5, e6, e7, e8, e9, e10]
      simp only [Act.put, List.setIfInBounds_toArray, List.set_cons_succ, List.set_cons_zero]
      clear hk9 e0 e1 e2 e3 e4 e5 e6 e7 e8 e9 e10
      replace HP := hide ((HP.out.below BZ0.out).mono BZ0.out.size)
      replace HF := hide ((HF.out.below BZ0.out).mono BZ0.out.size)
      replace HS := hide ((HS.out.below BZ0.out).mono BZ0.out.size)
      replace HC6 := hide (HC6.out.kept (Kept.of_below (S := fun _ => False) BZ0.out) id)
      replace RW := hide (RW.out.kept (Kept.of_below (S := fun _ => False) BZ0.out) id)
      replace BK := hide (BK.out.trans (BZ0.out.mono BK.out.size))
      replace HK := hide (HK.out.trans (Kept.of_below BZ0.out))
      clear FA FB FE CT CS IL CL s0 s1 s2 s3 s4 s5
      have s0 : Z.cell? ⟨W1.heap.size, 0, none⟩ = some (.slice p n c) := HC6.out.c 0 (by omega)
      have s1 : Z.cell? ⟨W1.heap.size, 1, none⟩ = some (.slice f n d) := HC6.out.c 1 (by omega)
      have s2 : Z.cell? ⟨W1.heap.size, 2, none⟩ = some (.slice q n g) := HC6.out.c 2 (by omega)
      have s3 : Z.cell? ⟨W1.heap.size, 3, none⟩ = some (.int .i64 cc) := HC6.out.c 3 (by omega)
      have s4 : Z.cell? ⟨W1.heap.size, 4, none⟩ = some (.int .i64 ff) := HC6.out.c 4 (by omega)
      have s5 : Z.cell? ⟨W1.heap.size, 5, none⟩ = some (.int .i64 gg) := HC6.out.c 5 (by omega)
      cases bo
      case false =>
        have STOP := hide (show X k from Classical.byContradiction (fun h => by have := (HNX.out h).2.2; cases this))
        clear HX HNX NA
        have CC := hide (specCopyO p f q n c d g (S k).P (S k).F (S k).S cc ff gg Z HP.out HF.out HS.out (nil_ints HP.out) (nil_ints HF.out) (nil_ints HS.out) N4.out)
        go_wp2_with fail
        refine CC.out.mono ?_; rintro e V ⟨p', f', q', c', d', g', rfl, ⟨w1, w2, w3⟩, ⟨v1, v2⟩, bx⟩
        have RZ := hide (RW.out.kept (Kept.of_below (S := fun _ => False) bx) id)
        have BZ := hide (BK.out.trans (bx.mono BK.out.size))
        have LZ := hide (show W3.heap.size ≤ Z.heap.size from Nat.le_trans S4.out HK.out.size)
        have HP2 := hide w1
        have HF2 := hide w2
        have HS2 := hide w3
        have AP := hide (And.intro v1 v2)
        clear w1 w2 w3 v1 v2 bx CC
        obtain ⟨T0, hT0⟩ : ∃ T0, V.setCell ⟨W2.heap.size, 0, none⟩ (.slice p' n c') = T0 := ⟨_, rfl⟩
        have RT0 := hide (hT0 ▸ RZ.out.set 0 (.slice p' n c') (by omega) : C6 T0 W2.heap.size _)
        obtain ⟨vT0, eT0⟩ : ∃ u, V.cell? ⟨W2.heap.size, 0, none⟩ = some u := ⟨_, RZ.out.c 0 (by omega)⟩
        have fT0 := RZ.out.f 0
        have kT0 : Kept (· = W2.heap.size) V T0 := hT0 ▸ Kept.setCell V ⟨W2.heap.size, 0, none⟩ _
        have BT0 := hide (hT0 ▸ BZ.out.setCell (p := ⟨W2.heap.size, 0, none⟩) (by have := Y.out; show w.heap.size ≤ W2.heap.size; omega) _ : Below w.heap.size w T0)
        obtain ⟨T1, hT1⟩ : ∃ T1, T0.setCell ⟨W2.heap.size, 1, none⟩ (.slice f' n d') = T1 := ⟨_, rfl⟩
        have RT1 := hide (hT1 ▸ RT0.out.set 1 (.slice f' n d') (by omega) : C6 T1 W2.heap.size _)
        obtain ⟨vT1, eT1⟩ : ∃ u, T0.cell? ⟨W2.heap.size, 1, none⟩ = some u := ⟨_, RT0.out.c 1 (by omega)⟩
        have fT1 := RT0.out.f 1
        have kT1 : Kept (· = W2.heap.size) T0 T1 := hT1 ▸ Kept.setCell T0 ⟨W2.heap.size, 1, none⟩ _
        have BT1 := hide (hT1 ▸ BT0.out.setCell (p := ⟨W2.heap.size, 1, none⟩) (by have := Y.out; show w.heap.size ≤ W2.heap.size; omega) _ : Below w.heap.size w T1)
        obtain ⟨T2, hT2⟩ : ∃ T2, T1.setCell ⟨W2.heap.size, 2, none⟩ (.slice q' n g') = T2 := ⟨_, rfl⟩
        have RT2 := hide (hT2 ▸ RT1.out.set 2 (.slice q' n g') (by omega) : C6 T2 W2.heap.size _)
        obtain ⟨vT2, eT2⟩ : ∃ u, T1.cell? ⟨W2.heap.size, 2, none⟩ = some u := ⟨_, RT1.out.c 2 (by omega)⟩
        have fT2 := RT1.out.f 2
        have kT2 : Kept (· = W2.heap.size) T1 T2 := hT2 ▸ Kept.setCell T1 ⟨W2.heap.size, 2, none⟩ _
        have BT2 := hide (hT2 ▸ BT1.out.setCell (p := ⟨W2.heap.size, 2, none⟩) (by have := Y.out; show w.heap.size ≤ W2.heap.size; omega) _ : Below w.heap.size w T2)
        obtain ⟨T3, hT3⟩ : ∃ T3, T2.setCell ⟨W2.heap.size, 3, none⟩ (.int .i64 cc) = T3 := ⟨_, rfl⟩
        have RT3 := hide (hT3 ▸ RT2.out.set 3 (.int .i64 cc) (by omega) : C6 T3 W2.heap.size _)
        obtain ⟨vT3, eT3⟩ : ∃ u, T2.cell? ⟨W2.heap.size, 3, none⟩ = some u := ⟨_, RT2.out.c 3 (by omega)⟩
        have fT3 := RT2.out.f 3
        have kT3 : Kept (· = W2.heap.size) T2 T3 := hT3 ▸ Kept.setCell T2 ⟨W2.heap.size, 3, none⟩ _
        have BT3 := hide (hT3 ▸ BT2.out.setCell (p := ⟨W2.heap.size, 3, none⟩) (by have := Y.out; show w.heap.size ≤ W2.heap.size; omega) _ : Below w.heap.size w T3)
        obtain ⟨T4, hT4⟩ : ∃ T4, T3.setCell ⟨W2.heap.size, 4, none⟩ (.int .i64 ff) = T4 := ⟨_, rfl⟩
        have RT4 := hide (hT4 ▸ RT3.out.set 4 (.int .i64 ff) (by omega) : C6 T4 W2.heap.size _)
        obtain ⟨vT4, eT4⟩ : ∃ u, T3.cell? ⟨W2.heap.size, 4, none⟩ = some u := ⟨_, RT3.out.c 4 (by omega)⟩
        have fT4 := RT3.out.f 4
        have kT4 : Kept (· = W2.heap.size) T3 T4 := hT4 ▸ Kept.setCell T3 ⟨W2.heap.size, 4, none⟩ _
        have BT4 := hide (hT4 ▸ BT3.out.setCell (p := ⟨W2.heap.size, 4, none⟩) (by have := Y.out; show w.heap.size ≤ W2.heap.size; omega) _ : Below w.heap.size w T4)
        obtain ⟨T5, hT5⟩ : ∃ T5, T4.setCell ⟨W2.heap.size, 5, none⟩ (.int .i64 gg) = T5 := ⟨_, rfl⟩
        have RT5 := hide (hT5 ▸ RT4.out.set 5 (.int .i64 gg) (by omega) : C6 T5 W2.heap.size _)
        obtain ⟨vT5, eT5⟩ : ∃ u, T4.cell? ⟨W2.heap.size, 5, none⟩ = some u := ⟨_, RT4.out.c 5 (by omega)⟩
        have fT5 := RT4.out.f 5
        have kT5 : Kept (· = W2.heap.size) T4 T5 := hT5 ▸ Kept.setCell T4 ⟨W2.heap.size, 5, none⟩ _
        have BT5 := hide (hT5 ▸ BT4.out.setCell (p := ⟨W2.heap.size, 5, none⟩) (by have := Y.out; show w.heap.size ≤ W2.heap.size; omega) _ : Below w.heap.size w T5)
        have kk : Kept (· = W2.heap.size) V T5 := ((((kT0.trans kT1).trans kT2).trans kT3).trans kT4).trans kT5
        have ZP := hide ((HP2.out.kept kk (fun b hb e => by have := (HP2.out.blk hb).1; have := LZ.out; have := Y.out; have e : b = W2.heap.size := e; omega)).mono BK.out.size)
        have ZF := hide ((HF2.out.kept kk (fun b hb e => by have := (HF2.out.blk hb).1; have := LZ.out; have := Y.out; have e : b = W2.heap.size := e; omega)).mono BK.out.size)
        have ZS := hide ((HS2.out.kept kk (fun b hb e => by have := (HS2.out.blk hb).1; have := LZ.out; have := Y.out; have e : b = W2.heap.size := e; omega)).mono BK.out.size)
        have r0 : T5.cell? ⟨W2.heap.size, 0, none⟩ = some (.slice p' n c') := RT5.out.c 0 (by omega)
        have r1 : T5.cell? ⟨W2.heap.size, 1, none⟩ = some (.slice f' n d') := RT5.out.c 1 (by omega)
        have r2 : T5.cell? ⟨W2.heap.size, 2, none⟩ = some (.slice q' n g') := RT5.out.c 2 (by omega)
        have r3 : T5.cell? ⟨W2.heap.size, 3, none⟩ = some (.int .i64 cc) := RT5.out.c 3 (by omega)
        have r4 : T5.cell? ⟨W2.heap.size, 4, none⟩ = some (.int .i64 ff) := RT5.out.c 4 (by omega)
        have r5 : T5.cell? ⟨W2.heap.size, 5, none⟩ = some (.int .i64 gg) := RT5.out.c 5 (by omega)
        clear kk kT0 kT1 kT2 kT3 kT4 kT5
        go_wp2_with fail
        refine bodyPost_ret (v := .tuple #[.agg #[.slice p' n c', .slice f' n d', .slice q' n g', .int .i64 cc, .int .i64 ff, .int .i64 gg], .int .i64 (k : Int)]) (by simp [results, Try.results17, go_sem, r0, r1, r2, r3, r4, r5]) rfl ?_
        exact ⟨k, p', f', q', c', d', g', ⟨by omega, HN.out, .inr STOP.out⟩, by rw [EC.out.1, EC.out.2.1, EC.out.2.2], ⟨ZP.out, ZF.out, ZS.out⟩, AP.out, HO.out, BT5.out⟩
      case true =>
        have NX := hide (show ¬ X k from fun h => by have := HX.out h; cases this)
        obtain ⟨em, eN, -⟩ := HNX.out NX.out
        have EN := hide eN
        clear eN
        subst em
        obtain ⟨-, n0, n1, n2, n3, n4, n5⟩ := NA.out.box
        have NE := hide (show vb ≠ W1.heap.size from by have := NA.out.hB; have := ZW.out; omega)
        have UP := hide (own_na NA.out.P HC6.out (ls_OV ..))
        have UF := hide (own_na NA.out.F HC6.out (ls_OV ..))
        have US := hide (own_na NA.out.S HC6.out (ls_OV ..))
        obtain ⟨U0, hU0⟩ : ∃ U0, Z.setCell ⟨W1.heap.size, 0, none⟩ (.slice p1 m' c1) = U0 := ⟨_, rfl⟩
        have RU0 := hide (hU0 ▸ HC6.out.set 0 (.slice p1 m' c1) (by omega) : C6 U0 W1.heap.size _)
        obtain ⟨vU0, eU0⟩ : ∃ u, Z.cell? ⟨W1.heap.size, 0, none⟩ = some u := ⟨_, HC6.out.c 0 (by omega)⟩
        have fU0 := HC6.out.f 0
        have kU0 : Kept (· = W1.heap.size) Z U0 := hU0 ▸ Kept.setCell Z ⟨W1.heap.size, 0, none⟩ _
        have BU0 := hide (hU0 ▸ BK.out.setCell (p := ⟨W1.heap.size, 0, none⟩) (Nat.le_of_lt Y.out.1) _ : Below w.heap.size w U0)
        obtain ⟨U1, hU1⟩ : ∃ U1, U0.setCell ⟨W1.heap.size, 1, none⟩ (.slice f1 m' d1) = U1 := ⟨_, rfl⟩
        have RU1 := hide (hU1 ▸ RU0.out.set 1 (.slice f1 m' d1) (by omega) : C6 U1 W1.heap.size _)
        obtain ⟨vU1, eU1⟩ : ∃ u, U0.cell? ⟨W1.heap.size, 1, none⟩ = some u := ⟨_, RU0.out.c 1 (by omega)⟩
        have fU1 := RU0.out.f 1
        have kU1 : Kept (· = W1.heap.size) U0 U1 := hU1 ▸ Kept.setCell U0 ⟨W1.heap.size, 1, none⟩ _
        have BU1 := hide (hU1 ▸ BU0.out.setCell (p := ⟨W1.heap.size, 1, none⟩) (Nat.le_of_lt Y.out.1) _ : Below w.heap.size w U1)
        obtain ⟨U2, hU2⟩ : ∃ U2, U1.setCell ⟨W1.heap.size, 2, none⟩ (.slice q1 m' g1) = U2 := ⟨_, rfl⟩
        have RU2 := hide (hU2 ▸ RU1.out.set 2 (.slice q1 m' g1) (by omega) : C6 U2 W1.heap.size _)
        obtain ⟨vU2, eU2⟩ : ∃ u, U1.cell? ⟨W1.heap.size, 2, none⟩ = some u := ⟨_, RU1.out.c 2 (by omega)⟩
        have fU2 := RU1.out.f 2
        have kU2 : Kept (· = W1.heap.size) U1 U2 := hU2 ▸ Kept.setCell U1 ⟨W1.heap.size, 2, none⟩ _
        have BU2 := hide (hU2 ▸ BU1.out.setCell (p := ⟨W1.heap.size, 2, none⟩) (Nat.le_of_lt Y.out.1) _ : Below w.heap.size w U2)
        obtain ⟨U3, hU3⟩ : ∃ U3, U2.setCell ⟨W1.heap.size, 3, none⟩ (.int .i64 N.c) = U3 := ⟨_, rfl⟩
        have RU3 := hide (hU3 ▸ RU2.out.set 3 (.int .i64 N.c) (by omega) : C6 U3 W1.heap.size _)
        obtain ⟨vU3, eU3⟩ : ∃ u, U2.cell? ⟨W1.heap.size, 3, none⟩ = some u := ⟨_, RU2.out.c 3 (by omega)⟩
        have fU3 := RU2.out.f 3
        have kU3 : Kept (· = W1.heap.size) U2 U3 := hU3 ▸ Kept.setCell U2 ⟨W1.heap.size, 3, none⟩ _
        have BU3 := hide (hU3 ▸ BU2.out.setCell (p := ⟨W1.heap.size, 3, none⟩) (Nat.le_of_lt Y.out.1) _ : Below w.heap.size w U3)
        obtain ⟨U4, hU4⟩ : ∃ U4, U3.setCell ⟨W1.heap.size, 4, none⟩ (.int .i64 N.f) = U4 := ⟨_, rfl⟩
        have RU4 := hide (hU4 ▸ RU3.out.set 4 (.int .i64 N.f) (by omega) : C6 U4 W1.heap.size _)
        obtain ⟨vU4, eU4⟩ : ∃ u, U3.cell? ⟨W1.heap.size, 4, none⟩ = some u := ⟨_, RU3.out.c 4 (by omega)⟩
        have fU4 := RU3.out.f 4
        have kU4 : Kept (· = W1.heap.size) U3 U4 := hU4 ▸ Kept.setCell U3 ⟨W1.heap.size, 4, none⟩ _
        have BU4 := hide (hU4 ▸ BU3.out.setCell (p := ⟨W1.heap.size, 4, none⟩) (Nat.le_of_lt Y.out.1) _ : Below w.heap.size w U4)
        obtain ⟨U5, hU5⟩ : ∃ U5, U4.setCell ⟨W1.heap.size, 5, none⟩ (.int .i64 N.g) = U5 := ⟨_, rfl⟩
        have RU5 := hide (hU5 ▸ RU4.out.set 5 (.int .i64 N.g) (by omega) : C6 U5 W1.heap.size _)
        obtain ⟨vU5, eU5⟩ : ∃ u, U4.cell? ⟨W1.heap.size, 5, none⟩ = some u := ⟨_, RU4.out.c 5 (by omega)⟩
        have fU5 := RU4.out.f 5
        have kU5 : Kept (· = W1.heap.size) U4 U5 := hU5 ▸ Kept.setCell U4 ⟨W1.heap.size, 5, none⟩ _
        have BU5 := hide (hU5 ▸ BU4.out.setCell (p := ⟨W1.heap.size, 5, none⟩) (Nat.le_of_lt Y.out.1) _ : Below w.heap.size w U5)
        have kk : Kept (· = W1.heap.size) Z U5 := ((((kU0.trans kU1).trans kU2).trans kU3).trans kU4).trans kU5
        have OU := hide (RU5.out.same (fun i hi => by rcases (by omega : i = 0 ∨ i = 1 ∨ i = 2 ∨ i = 3 ∨ i = 4 ∨ i = 5) with rfl | rfl | rfl | rfl | rfl | rfl <;> rfl) : C6 U5 W1.heap.size (OV p1 f1 q1 m' c1 d1 g1 N.c N.f N.g))
        have IP := hide ((NA.out.P.kept kk (fun b hb e => UP.out b hb e)).ints)
        have IF := hide ((NA.out.F.kept kk (fun b hb e => UF.out b hb e)).ints)
        have IS := hide ((NA.out.S.kept kk (fun b hb e => US.out b hb e)).ints)
        have KU := hide (HK.out.trans kk)
        clear kk kU0 kU1 kU2 kU3 kU4 kU5
        go_wp2_with fail
        go_roundw
        case rel =>
          refine ⟨k + 1, p1, f1, q1, c1, d1, g1, by omega, by go_num, fun t ht => ?_, ?_, ?_, KU.out⟩
          · by_cases e : t < k
            · exact HN.out t e
            · obtain rfl : t = k := by omega
              exact NX.out
          · rw [← EN.out]; exact OU.out
          · rw [← EN.out]; exact ⟨IP.out, IF.out, IS.out⟩
        case measure => simp [intOf]; omega
    · have lk : decide ((k : Int) < (m : Int)) = false := decide_eq_false (by omega)
      have lk' : decide (k < m) = false := decide_eq_false (by omega)
      obtain rfl : k = m := by omega
      have CC := hide (specCopyO p f q n c d g (S k).P (S k).F (S k).S cc ff gg wr HP.out HF.out HS.out (nil_ints HP.out) (nil_ints HF.out) (nil_ints HS.out) N4.out)
      go_wp2_with fail
      refine CC.out.mono ?_; rintro e V ⟨p', f', q', c', d', g', rfl, ⟨w1, w2, w3⟩, ⟨v1, v2⟩, bx⟩
      have RZ := hide (RW.out.kept (Kept.of_below (S := fun _ => False) bx) id)
      have BZ := hide (BK.out.trans (bx.mono BK.out.size))
      have LZ := hide (show W3.heap.size ≤ wr.heap.size from Nat.le_trans S4.out HK.out.size)
      have HP2 := hide w1
      have HF2 := hide w2
      have HS2 := hide w3
      have AP := hide (And.intro v1 v2)
      clear w1 w2 w3 v1 v2 bx CC
      obtain ⟨T0, hT0⟩ : ∃ T0, V.setCell ⟨W2.heap.size, 0, none⟩ (.slice p' n c') = T0 := ⟨_, rfl⟩
      have RT0 := hide (hT0 ▸ RZ.out.set 0 (.slice p' n c') (by omega) : C6 T0 W2.heap.size _)
      obtain ⟨vT0, eT0⟩ : ∃ u, V.cell? ⟨W2.heap.size, 0, none⟩ = some u := ⟨_, RZ.out.c 0 (by omega)⟩
      have fT0 := RZ.out.f 0
      have kT0 : Kept (· = W2.heap.size) V T0 := hT0 ▸ Kept.setCell V ⟨W2.heap.size, 0, none⟩ _
      have BT0 := hide (hT0 ▸ BZ.out.setCell (p := ⟨W2.heap.size, 0, none⟩) (by have := Y.out; show w.heap.size ≤ W2.heap.size; omega) _ : Below w.heap.size w T0)
      obtain ⟨T1, hT1⟩ : ∃ T1, T0.setCell ⟨W2.heap.size, 1, none⟩ (.slice f' n d') = T1 := ⟨_, rfl⟩
      have RT1 := hide (hT1 ▸ RT0.out.set 1 (.slice f' n d') (by omega) : C6 T1 W2.heap.size _)
      obtain ⟨vT1, eT1⟩ : ∃ u, T0.cell? ⟨W2.heap.size, 1, none⟩ = some u := ⟨_, RT0.out.c 1 (by omega)⟩
      have fT1 := RT0.out.f 1
      have kT1 : Kept (· = W2.heap.size) T0 T1 := hT1 ▸ Kept.setCell T0 ⟨W2.heap.size, 1, none⟩ _
      have BT1 := hide (hT1 ▸ BT0.out.setCell (p := ⟨W2.heap.size, 1, none⟩) (by have := Y.out; show w.heap.size ≤ W2.heap.size; omega) _ : Below w.heap.size w T1)
      obtain ⟨T2, hT2⟩ : ∃ T2, T1.setCell ⟨W2.heap.size, 2, none⟩ (.slice q' n g') = T2 := ⟨_, rfl⟩
      have RT2 := hide (hT2 ▸ RT1.out.set 2 (.slice q' n g') (by omega) : C6 T2 W2.heap.size _)
      obtain ⟨vT2, eT2⟩ : ∃ u, T1.cell? ⟨W2.heap.size, 2, none⟩ = some u := ⟨_, RT1.out.c 2 (by omega)⟩
      have fT2 := RT1.out.f 2
      have kT2 : Kept (· = W2.heap.size) T1 T2 := hT2 ▸ Kept.setCell T1 ⟨W2.heap.size, 2, none⟩ _
      have BT2 := hide (hT2 ▸ BT1.out.setCell (p := ⟨W2.heap.size, 2, none⟩) (by have := Y.out; show w.heap.size ≤ W2.heap.size; omega) _ : Below w.heap.size w T2)
      obtain ⟨T3, hT3⟩ : ∃ T3, T2.setCell ⟨W2.heap.size, 3, none⟩ (.int .i64 cc) = T3 := ⟨_, rfl⟩
      have RT3 := hide (hT3 ▸ RT2.out.set 3 (.int .i64 cc) (by omega) : C6 T3 W2.heap.size _)
      obtain ⟨vT3, eT3⟩ : ∃ u, T2.cell? ⟨W2.heap.size, 3, none⟩ = some u := ⟨_, RT2.out.c 3 (by omega)⟩
      have fT3 := RT2.out.f 3
      have kT3 : Kept (· = W2.heap.size) T2 T3 := hT3 ▸ Kept.setCell T2 ⟨W2.heap.size, 3, none⟩ _
      have BT3 := hide (hT3 ▸ BT2.out.setCell (p := ⟨W2.heap.size, 3, none⟩) (by have := Y.out; show w.heap.size ≤ W2.heap.size; omega) _ : Below w.heap.size w T3)
      obtain ⟨T4, hT4⟩ : ∃ T4, T3.setCell ⟨W2.heap.size, 4, none⟩ (.int .i64 ff) = T4 := ⟨_, rfl⟩
      have RT4 := hide (hT4 ▸ RT3.out.set 4 (.int .i64 ff) (by omega) : C6 T4 W2.heap.size _)
      obtain ⟨vT4, eT4⟩ : ∃ u, T3.cell? ⟨W2.heap.size, 4, none⟩ = some u := ⟨_, RT3.out.c 4 (by omega)⟩
      have fT4 := RT3.out.f 4
      have kT4 : Kept (· = W2.heap.size) T3 T4 := hT4 ▸ Kept.setCell T3 ⟨W2.heap.size, 4, none⟩ _
      have BT4 := hide (hT4 ▸ BT3.out.setCell (p := ⟨W2.heap.size, 4, none⟩) (by have := Y.out; show w.heap.size ≤ W2.heap.size; omega) _ : Below w.heap.size w T4)
      obtain ⟨T5, hT5⟩ : ∃ T5, T4.setCell ⟨W2.heap.size, 5, none⟩ (.int .i64 gg) = T5 := ⟨_, rfl⟩
      have RT5 := hide (hT5 ▸ RT4.out.set 5 (.int .i64 gg) (by omega) : C6 T5 W2.heap.size _)
      obtain ⟨vT5, eT5⟩ : ∃ u, T4.cell? ⟨W2.heap.size, 5, none⟩ = some u := ⟨_, RT4.out.c 5 (by omega)⟩
      have fT5 := RT4.out.f 5
      have kT5 : Kept (· = W2.heap.size) T4 T5 := hT5 ▸ Kept.setCell T4 ⟨W2.heap.size, 5, none⟩ _
      have BT5 := hide (hT5 ▸ BT4.out.setCell (p := ⟨W2.heap.size, 5, none⟩) (by have := Y.out; show w.heap.size ≤ W2.heap.size; omega) _ : Below w.heap.size w T5)
      have kk : Kept (· = W2.heap.size) V T5 := ((((kT0.trans kT1).trans kT2).trans kT3).trans kT4).trans kT5
      have ZP := hide ((HP2.out.kept kk (fun b hb e => by have := (HP2.out.blk hb).1; have := LZ.out; have := Y.out; have e : b = W2.heap.size := e; omega)).mono BK.out.size)
      have ZF := hide ((HF2.out.kept kk (fun b hb e => by have := (HF2.out.blk hb).1; have := LZ.out; have := Y.out; have e : b = W2.heap.size := e; omega)).mono BK.out.size)
      have ZS := hide ((HS2.out.kept kk (fun b hb e => by have := (HS2.out.blk hb).1; have := LZ.out; have := Y.out; have e : b = W2.heap.size := e; omega)).mono BK.out.size)
      have r0 : T5.cell? ⟨W2.heap.size, 0, none⟩ = some (.slice p' n c') := RT5.out.c 0 (by omega)
      have r1 : T5.cell? ⟨W2.heap.size, 1, none⟩ = some (.slice f' n d') := RT5.out.c 1 (by omega)
      have r2 : T5.cell? ⟨W2.heap.size, 2, none⟩ = some (.slice q' n g') := RT5.out.c 2 (by omega)
      have r3 : T5.cell? ⟨W2.heap.size, 3, none⟩ = some (.int .i64 cc) := RT5.out.c 3 (by omega)
      have r4 : T5.cell? ⟨W2.heap.size, 4, none⟩ = some (.int .i64 ff) := RT5.out.c 4 (by omega)
      have r5 : T5.cell? ⟨W2.heap.size, 5, none⟩ = some (.int .i64 gg) := RT5.out.c 5 (by omega)
      clear kk kT0 kT1 kT2 kT3 kT4 kT5
      go_wp2_with fail
      refine bodyPost_ret (v := .tuple #[.agg #[.slice p' n c', .slice f' n d', .slice q' n g', .int .i64 cc, .int .i64 ff, .int .i64 gg], .int .i64 (k : Int)]) (by simp [results, Try.results17, go_sem, r0, r1, r2, r3, r4, r5]) rfl ?_
      exact ⟨k, p', f', q', c', d', g', ⟨by omega, HN.out, .inl rfl⟩, by rw [EC.out.1, EC.out.2.1, EC.out.2.2], ⟨ZP.out, ZF.out, ZS.out⟩, AP.out, HO.out, BT5.out⟩
end Vo
end Go.Proofs.Ytajljeegkmkkcaa

/- RunOpt on both sides (written by tools/genro.py). -/
namespace Go.Proofs.Ytajljeegkmkkcaa
namespace Vo
open Go.ChangeShapes Go.WideShapes Go.ChangeAt Go.RowKit Go.Joins Go.Sort
open Vl
set_option linter.unusedVariables false
set_option linter.unusedSimpArgs false
set_option maxHeartbeats 2000000 in
theorem sRunNo (R : Rl) (n n2 n3 m cP cF cS cl : Nat) (s : St) (aP aF aS ls : Option Addr) (w : World) (h1 : Ints w.heap.size w aP n s.P) (h2 : Ints w.heap.size w aF n2 s.F) (h3 : Ints w.heap.size w aS n3 s.S) (hr1 : (n : Int) ≤ 1048576) (hr2 : (n2 : Int) ≤ 1048576) (hr3 : (n3 : Int) ≤ 1048576) (hb : bd s.c ∧ bd s.f ∧ bd s.g) (hno : ook n n2 n3 s.P s.F s.S s.c s.f s.g = false) :
    Calls Try.prog 17 #[.agg #[.int .i64 R.d, .int .i64 R.r1, .int .i64 R.r2, .int .i64 R.r3, .int .i64 R.r4, .int .i64 R.k, .int .i64 R.z, .int .i64 R.o, .int .i64 R.y, .int .i64 R.mo, .int .i64 R.gr], .agg #[.slice aP n cP, .slice aF n2 cF, .slice aS n3 cS, .int .i64 s.c, .int .i64 s.f, .int .i64 s.g], .slice ls m cl] w fun e w' => e = .returned (.tuple #[ZOpt, .int .i64 0]) ∧ Below w.heap.size w w' := by
  obtain ⟨W1, hW1⟩ : ∃ W1, w.alloc (.cells #[.int .i64 R.d, .int .i64 R.r1, .int .i64 R.r2, .int .i64 R.r3, .int .i64 R.r4, .int .i64 R.k, .int .i64 R.z, .int .i64 R.o, .int .i64 R.y, .int .i64 R.mo, .int .i64 R.gr] 35) = W1 := ⟨_, rfl⟩
  have n1 : Below w.heap.size w W1 := hW1 ▸ (Below.refl _ _).alloc (Nat.le_refl _) _
  have y1 : w.heap.size < W1.heap.size := by rw [← hW1]; simp
  obtain ⟨W2, hW2⟩ : ∃ W2, W1.alloc (.cells #[.slice aP n cP, .slice aF n2 cF, .slice aS n3 cS, .int .i64 s.c, .int .i64 s.f, .int .i64 s.g] 30) = W2 := ⟨_, rfl⟩
  have n2' : Below W1.heap.size W1 W2 := hW2 ▸ (Below.refl _ _).alloc (Nat.le_refl _) _
  have y2 : W1.heap.size < W2.heap.size := by rw [← hW2]; simp
  obtain ⟨W3, hW3⟩ : ∃ W3, W2.alloc (.cells #[.slice none 0 0, .slice none 0 0, .slice none 0 0, .int .i64 0, .int .i64 0, .int .i64 0] 30) = W3 := ⟨_, rfl⟩
  have n3' : Below W2.heap.size W2 W3 := hW3 ▸ (Below.refl _ _).alloc (Nat.le_refl _) _
  have y3 : W2.heap.size < W3.heap.size := by rw [← hW3]; simp
  have K := hide ((hW2 ▸ boxV6_new _ _ _ _ _ _ _ _ : BoxV6 W2 W1.heap.size (.slice aP n cP) (.slice aF n2 cF) (.slice aS n3 cS) (.int .i64 s.c) (.int .i64 s.f) (.int .i64 s.g)).below n3')
  have R1 := hide (show C6 W3 W2.heap.size (OV none none none 0 0 0 0 0 0 0) from ⟨fun i hi => by rcases (by omega : i = 0 ∨ i = 1 ∨ i = 2 ∨ i = 3 ∨ i = 4 ∨ i = 5) with rfl | rfl | rfl | rfl | rfl | rfl <;> (rw [← hW3]; simp [go_sem, OV]), fun i => by rw [← hW3]; simp [go_sem], y3⟩)
  have B3 := hide ((n1.trans (n2'.mono n1.size)).trans (n3'.mono (Nat.le_trans n1.size n2'.size)))
  have Y := hide (And.intro y1 (And.intro y2 y3))
  have CO := hide (specOpt aP aF aS n n2 n3 cP cF cS s.P s.F s.S s.c s.f s.g W3 ((h1.below B3.out).mono B3.out.size) ((h2.below B3.out).mono B3.out.size) ((h3.below B3.out).mono B3.out.size) hr1 hb.1 hb.2.1 hb.2.2 hr2 hr3)
  rw [hno] at CO
  clear h1 h2 h3 hb hno n1 n2' n3' y1 y2 y3
  obtain ⟨-, c0, c1, c2, c3, c4, c5⟩ := K.out
  go_enter Try.func17, Try.ntmps17
  go_wp2_with fail
  refine CO.out.mono ?_; rintro e X ⟨rfl, bx⟩
  have RX := hide (R1.out.kept (Kept.of_below (S := fun _ => False) bx) id)
  have BX := hide (B3.out.trans (bx.mono B3.out.size))
  clear bx CO R1 B3 K c0 c1 c2 c3 c4 c5 hW1 hW2 hW3
  obtain ⟨T0, hT0⟩ : ∃ T0, X.setCell ⟨W2.heap.size, 0, none⟩ (.slice none 0 0) = T0 := ⟨_, rfl⟩
  have RT0 := hide (hT0 ▸ RX.out.set 0 (.slice none 0 0) (by omega) : C6 T0 W2.heap.size _)
  have eT0 : X.cell? ⟨W2.heap.size, 0, none⟩ = some (.slice none 0 0) := RX.out.c 0 (by omega)
  have fT0 := RX.out.f 0
  have BT0 := hide (hT0 ▸ BX.out.setCell (p := ⟨W2.heap.size, 0, none⟩) (by have := Y.out; show w.heap.size ≤ W2.heap.size; omega) _ : Below w.heap.size w T0)
  obtain ⟨T1, hT1⟩ : ∃ T1, T0.setCell ⟨W2.heap.size, 1, none⟩ (.slice none 0 0) = T1 := ⟨_, rfl⟩
  have RT1 := hide (hT1 ▸ RT0.out.set 1 (.slice none 0 0) (by omega) : C6 T1 W2.heap.size _)
  have eT1 : T0.cell? ⟨W2.heap.size, 1, none⟩ = some (.slice none 0 0) := RT0.out.c 1 (by omega)
  have fT1 := RT0.out.f 1
  have BT1 := hide (hT1 ▸ BT0.out.setCell (p := ⟨W2.heap.size, 1, none⟩) (by have := Y.out; show w.heap.size ≤ W2.heap.size; omega) _ : Below w.heap.size w T1)
  obtain ⟨T2, hT2⟩ : ∃ T2, T1.setCell ⟨W2.heap.size, 2, none⟩ (.slice none 0 0) = T2 := ⟨_, rfl⟩
  have RT2 := hide (hT2 ▸ RT1.out.set 2 (.slice none 0 0) (by omega) : C6 T2 W2.heap.size _)
  have eT2 : T1.cell? ⟨W2.heap.size, 2, none⟩ = some (.slice none 0 0) := RT1.out.c 2 (by omega)
  have fT2 := RT1.out.f 2
  have BT2 := hide (hT2 ▸ BT1.out.setCell (p := ⟨W2.heap.size, 2, none⟩) (by have := Y.out; show w.heap.size ≤ W2.heap.size; omega) _ : Below w.heap.size w T2)
  obtain ⟨T3, hT3⟩ : ∃ T3, T2.setCell ⟨W2.heap.size, 3, none⟩ (.int .i64 0) = T3 := ⟨_, rfl⟩
  have RT3 := hide (hT3 ▸ RT2.out.set 3 (.int .i64 0) (by omega) : C6 T3 W2.heap.size _)
  have eT3 : T2.cell? ⟨W2.heap.size, 3, none⟩ = some (.int .i64 0) := RT2.out.c 3 (by omega)
  have fT3 := RT2.out.f 3
  have BT3 := hide (hT3 ▸ BT2.out.setCell (p := ⟨W2.heap.size, 3, none⟩) (by have := Y.out; show w.heap.size ≤ W2.heap.size; omega) _ : Below w.heap.size w T3)
  obtain ⟨T4, hT4⟩ : ∃ T4, T3.setCell ⟨W2.heap.size, 4, none⟩ (.int .i64 0) = T4 := ⟨_, rfl⟩
  have RT4 := hide (hT4 ▸ RT3.out.set 4 (.int .i64 0) (by omega) : C6 T4 W2.heap.size _)
  have eT4 : T3.cell? ⟨W2.heap.size, 4, none⟩ = some (.int .i64 0) := RT3.out.c 4 (by omega)
  have fT4 := RT3.out.f 4
  have BT4 := hide (hT4 ▸ BT3.out.setCell (p := ⟨W2.heap.size, 4, none⟩) (by have := Y.out; show w.heap.size ≤ W2.heap.size; omega) _ : Below w.heap.size w T4)
  obtain ⟨T5, hT5⟩ : ∃ T5, T4.setCell ⟨W2.heap.size, 5, none⟩ (.int .i64 0) = T5 := ⟨_, rfl⟩
  have RT5 := hide (hT5 ▸ RT4.out.set 5 (.int .i64 0) (by omega) : C6 T5 W2.heap.size _)
  have eT5 : T4.cell? ⟨W2.heap.size, 5, none⟩ = some (.int .i64 0) := RT4.out.c 5 (by omega)
  have fT5 := RT4.out.f 5
  have BT5 := hide (hT5 ▸ BT4.out.setCell (p := ⟨W2.heap.size, 5, none⟩) (by have := Y.out; show w.heap.size ≤ W2.heap.size; omega) _ : Below w.heap.size w T5)
  have r0 : T5.cell? ⟨W2.heap.size, 0, none⟩ = some (.slice none 0 0) := RT5.out.c 0 (by omega)
  have r1 : T5.cell? ⟨W2.heap.size, 1, none⟩ = some (.slice none 0 0) := RT5.out.c 1 (by omega)
  have r2 : T5.cell? ⟨W2.heap.size, 2, none⟩ = some (.slice none 0 0) := RT5.out.c 2 (by omega)
  have r3 : T5.cell? ⟨W2.heap.size, 3, none⟩ = some (.int .i64 0) := RT5.out.c 3 (by omega)
  have r4 : T5.cell? ⟨W2.heap.size, 4, none⟩ = some (.int .i64 0) := RT5.out.c 4 (by omega)
  have r5 : T5.cell? ⟨W2.heap.size, 5, none⟩ = some (.int .i64 0) := RT5.out.c 5 (by omega)
  go_wp2_with fail
  exact bodyPost_ret (v := .tuple #[ZOpt, .int .i64 0]) (by simp [results, Try.results17, go_sem, r0, r1, r2, r3, r4, r5, ZOpt]) rfl ⟨rfl, BT5.out⟩
/-- a run's answer, whatever it is -/
def RunU (m : Nat) (N : St) (K : Int) (w : World) (e : Ending) (w' : World) : Prop :=
  ∃ (p f q : Option Addr) (c d g : Nat), e = .returned (.tuple #[.agg #[.slice p m c, .slice f m d, .slice q m g, .int .i64 N.c, .int .i64 N.f, .int .i64 N.g], .int .i64 K]) ∧ (OwnL w.heap.size w' p m N.P ∧ OwnL w.heap.size w' f m N.F ∧ OwnL w.heap.size w' q m N.S) ∧ ((∀ k k', Blk p m k → Blk f m k' → k < k') ∧ (∀ k k', Blk f m k → Blk q m k' → k < k')) ∧ Below w.heap.size w w'
def Ends (m : Nat) (X : Nat → Prop) (k : Nat) : Prop := k ≤ m ∧ (∀ t, t < k → ¬ X t) ∧ (k = m ∨ X k)
theorem run_one (m : Nat) (X : Nat → Prop) : ∃ K, ∀ k, Ends m X k → k = K := by
  by_cases h : ∃ K, Ends m X K
  · obtain ⟨K, K1, K2, K3⟩ := h
    refine ⟨K, fun k ⟨k1, k2, k3⟩ => ?_⟩
    rcases Nat.lt_trichotomy k K with q | q | q
    · rcases k3 with k3 | k3
      · omega
      · exact absurd k3 (K2 k q)
    · exact q
    · rcases K3 with K3 | K3
      · omega
      · exact absurd K3 (k2 K q)
  · exact ⟨0, fun k hk => absurd ⟨k, hk⟩ h⟩
theorem RunR.uni {n m K : Nat} {S : Nat → St} {X : Nat → Prop} {w w' : World} {e : Ending} (h : RunR n m S X w e w') (hK : ∀ k, Ends m X k → k = K) : RunU n (S K) (K : Int) w e w' := by
  obtain ⟨k, p, f, s, c, d, g, hk, e1, o, ⟨b1, b2⟩, -, bl⟩ := h
  obtain rfl := hK k hk
  exact ⟨p, f, s, c, d, g, e1, o, ⟨bhd_lt b1, bhd_lt b2⟩, bl⟩
theorem RunR.turn {n m : Nat} {S S' : Nat → St} {X X' : Nat → Prop} {w w' : World} {e : Ending} (h : RunR n m S X w e w') (hS : ∀ k, k ≤ m → S k = S' k) (hX : ∀ k, k < m → (X k ↔ X' k)) : RunR n m S' X' w e w' := by
  obtain ⟨k, p, f, s, c, d, g, ⟨k1, k2, k3⟩, e1, o, bb, ok, bl⟩ := h
  rw [hS k k1] at e1 o ok
  refine ⟨k, p, f, s, c, d, g, ⟨k1, fun t ht q => k2 t ht ((hX t (by omega)).2 q), ?_⟩, e1, o, bb, ok, bl⟩
  rcases k3 with k3 | k3
  · exact .inl k3
  · by_cases c : k = m
    · exact .inl c
    · exact .inr ((hX k (by omega)).1 k3)
theorem sq_same {R : Rl} {n m : Nat} {U : Int → Int} {GG : Int → (Nat → Int) → Nat → Int} {L M : Nat → LV} {st : St} (h : LSame m L M) : ∀ k, k ≤ m → sq R n U GG M st k = sq R n U GG L st k := by
  intro k
  induction k with
  | zero => intro _; rfl
  | succ k ih =>
    intro hk
    show St.next _ _ _ _ _ _ = St.next _ _ _ _ _ _
    rw [ih (by omega), (h k (by omega)).2]
theorem lsum_eq {n : Nat} {L M : Nat → LV} (h : LSame n L M) : ∀ k, k ≤ n → lsum M k = lsum L k := by
  intro k
  induction k with
  | zero => intro _; rfl
  | succ k ih =>
    intro hk
    show lsum M k + (M k).r = lsum L k + (L k).r
    rw [ih (by omega), (h k (by omega)).1]
theorem stp_same {R : Rl} {n m : Nat} {U : Int → Int} {GG : Int → (Nat → Int) → Nat → Int} {L M : Nat → LV} {st : St} (h : LSame m L M) (k : Nat) (hk : k < m) : Stp R n U GG M st k ↔ Stp R n U GG L st k := by
  unfold Stp
  rw [sq_same h k (by omega), (h k hk).1]
theorem ok_bd {n : Nat} {s : St} (h : s.ok n) : bd s.c ∧ bd s.f ∧ bd s.g := by
  obtain ⟨-, -, -, ⟨c0, c1⟩, ⟨g0, g1⟩, -, hf⟩ := h
  have f0 := fac_rng hf
  unfold bd
  omega
def zSt : St := ⟨fun _ => 0, fun _ => 0, fun _ => 0, 0, 0, 0⟩
theorem run_zero {w w' : World} {e : Ending} (h : e = .returned (.tuple #[ZOpt, .int .i64 0]) ∧ Below w.heap.size w w') : RunU 0 zSt 0 w e w' :=
  ⟨none, none, none, 0, 0, 0, h.1, ⟨.inl rfl, .inl rfl, .inl rfl⟩, ⟨fun k k' h => absurd rfl h.1, fun k k' h => absurd rfl h.1⟩, h.2⟩
theorem step_zero {w w' : World} {e : Ending} (h : e = .returned (.tuple #[ZOpt, .bool false]) ∧ Below w.heap.size w w') : StepU 0 zSt false w e w' :=
  ⟨none, none, none, 0, 0, 0, h.1, ⟨.inl rfl, .inl rfl, .inl rfl⟩, ⟨fun k k' h => absurd rfl h.1, fun k k' h => absurd rfl h.1⟩, h.2⟩
set_option maxHeartbeats 1000000 in
/-- a run: one answer of both sides -/
theorem runUni (R : Rl) (n n2 n3 m : Nat) (s : St) (L : Nat → LV) (hRb : R.bds) (hb : bd s.c ∧ bd s.f ∧ bd s.g) (hr1 : (n : Int) ≤ 1048576) (hr2 : (n2 : Int) ≤ 1048576) (hr3 : (n3 : Int) ≤ 1048576) (hm : (m : Int) ≤ 1048576) (hl : LLen m L 1048576) : ∃ (m' : Nat) (N : St) (K : Int), (m' : Int) ≤ 1048576 ∧
    (∀ (cP cF cS cl : Nat) (aP aF aS ls : Option Addr) (M : Nat → LV) (w : World), Ints w.heap.size w aP n s.P → Ints w.heap.size w aF n2 s.F → Ints w.heap.size w aS n3 s.S → (aP = none → n = 0 ∧ cP = 0) → (aF = none → n2 = 0 ∧ cF = 0) → (aS = none → n3 = 0 ∧ cS = 0) → LSame m L M → LL w.heap.size w ls m M →
      Calls Try.prog 17 #[.agg #[.int .i64 R.d, .int .i64 R.r1, .int .i64 R.r2, .int .i64 R.r3, .int .i64 R.r4, .int .i64 R.k, .int .i64 R.z, .int .i64 R.o, .int .i64 R.y, .int .i64 R.mo, .int .i64 R.gr], .agg #[.slice aP n cP, .slice aF n2 cF, .slice aS n3 cS, .int .i64 s.c, .int .i64 s.f, .int .i64 s.g], .slice ls m cl] w (RunU m' N K w)) ∧
    (∀ (cP cF cS cl : Nat) (aP aF aS ls : Option Addr) (M : Nat → LV) (w : World), Ints w.heap.size w aP n s.P → Ints w.heap.size w aF n2 s.F → Ints w.heap.size w aS n3 s.S → (aP = none → n = 0 ∧ cP = 0) → (aF = none → n2 = 0 ∧ cF = 0) → (aS = none → n3 = 0 ∧ cS = 0) → LSame m L M → LL w.heap.size w ls m M →
      Calls Try.prog 19 #[.agg #[.int .i64 R.d, .int .i64 R.r1, .int .i64 R.r2, .int .i64 R.r3, .int .i64 R.r4, .int .i64 R.k, .int .i64 R.z, .int .i64 R.o, .int .i64 R.y, .int .i64 R.mo, .int .i64 R.gr], .agg #[.slice aP n cP, .slice aF n2 cF, .slice aS n3 cS, .int .i64 s.c, .int .i64 s.f, .int .i64 s.g], .slice ls m cl] w (RunU m' N K w)) := by
  cases hy : ook n n2 n3 s.P s.F s.S s.c s.f s.g
  · exact ⟨0, zSt, 0, by decide, fun cP cF cS cl aP aF aS ls M w h1 h2 h3 z1 z2 z3 hs hL => (sRunNo R n n2 n3 m cP cF cS cl s aP aF aS ls w h1 h2 h3 hr1 hr2 hr3 hb hy).mono fun e w' q => run_zero q,
      fun cP cF cS cl aP aF aS ls M w h1 h2 h3 z1 z2 z3 hs hL => (runOptNo R n n2 n3 m cP cF cS cl s aP aF aS ls w h1 h2 h3 hr1 hr2 hr3 hb hy).mono fun e w' q => run_zero q⟩
  have ok : OOk n n2 n3 s.P s.F s.S s.c s.f s.g := of_decide_eq_true hy
  obtain ⟨e2, e3⟩ : n = n2 ∧ n = n3 := by have := ok.2.1; have := ok.2.2.1; omega
  subst e2
  subst e3
  have n4 : (n : Int) ≤ 4096 := ok.1
  cases hR : R.okB
  · refine ⟨n, s, 0, hr1, fun cP cF cS cl aP aF aS ls M w h1 h2 h3 z1 z2 z3 hs hL => ?_, fun cP cF cS cl aP aF aS ls M w h1 h2 h3 z1 z2 z3 hs hL => ?_⟩
    · refine (sRun R n m cP cF cS cl (fun _ => s) (fun _ => True) aP aF aS ls M w h1 h2 h3 hb (fun t _ _ => ok) hL hm (fun t ht _ => ⟨0, zSt, false, fun _ => rfl, fun h => absurd trivial h, fun cP cF cS aP aF aS w h1 h2 h3 hI => (sStepNo R n n n (M t).r cP cF cS (M t).cap s aP aF aS (M t).a w h1 h2 h3 hr1 hr1 hr1 hb hRb (.inl hR)).mono fun e w' q => step_zero q⟩)).mono ?_
      intro e w' q
      exact q.uni (K := 0) (fun k hk => by
        by_cases c : k = 0
        · exact c
        · exact absurd trivial (hk.2.1 0 (by omega)))
    · refine (runOptRule R n m cP cF cS cl s aP aF aS ls w h1 h2 h3 z1 z2 z3 hb hRb ok hR).mono ?_
      rintro e w' ⟨p, f, q, c, d, g, e1, o, ⟨b1, b2⟩, bl⟩
      exact ⟨p, f, q, c, d, g, e1, o, ⟨bhd_lt b1, bhd_lt b2⟩, bl⟩
  obtain ⟨U, hU, hUs⟩ := rateEnv R hRb
  obtain ⟨GG, hG, hGs⟩ := gradEnv R hR hRb n n4
  obtain ⟨K, hK⟩ := run_one m (Stp R n U GG L s)
  refine ⟨n, sq R n U GG L s K, K, hr1, fun cP cF cS cl aP aF aS ls M w h1 h2 h3 z1 z2 z3 hs hL => ?_, fun cP cF cS cl aP aF aS ls M w h1 h2 h3 z1 z2 z3 hs hL => ?_⟩
  · have hok : ∀ t, (∀ u, u < t → ¬ Stp R n U GG M s u) → (sq R n U GG M s t).ok n := by
      intro t
      induction t with
      | zero => intro _; exact ok
      | succ t ih =>
        intro hn
        have ot := ih (fun u hu => hn u (by omega))
        have hc : 0 ≤ (sq R n U GG M s t).c ∧ (sq R n U GG M s t).c ≤ 1000000 := ot.2.2.2.1
        have c1 : (sq R n U GG M s t).c ≠ 1000000 := fun e => hn t (by omega) (.inl e)
        obtain ⟨u0, u1⟩ := (hU _ hc.1 (by omega)).1
        exact St.next_ok ot hR u0 u1 (fun hb => (hG _ _ ot.2.2.2.2.2.2 hb).1) c1
    refine (sRun R n m cP cF cS cl (sq R n U GG M s) (Stp R n U GG M s) aP aF aS ls M w h1 h2 h3 hb (fun t _ hn => hok t hn) hL hm (fun t ht hn => ?_)).mono (fun e w' q => (q.turn (sq_same hs) (stp_same hs)).uni hK)
    have ot := hok t hn
    have hc : 0 ≤ (sq R n U GG M s t).c ∧ (sq R n U GG M s t).c ≤ 1000000 := ot.2.2.2.1
    have hf : fac (sq R n U GG M s t).f = true := ot.2.2.2.2.2.2
    have hra : ((M t).r : Int) ≤ 1048576 := by rw [(hs t ht).1]; exact hl t ht
    by_cases hx : Stp R n U GG M s t
    · exact ⟨0, zSt, false, fun _ => rfl, fun h => absurd hx h, fun cP cF cS aP aF aS w h1 h2 h3 hI => (sStepNo2 R n (M t).r cP cF cS (M t).cap (sq R n U GG M s t) aP aF aS (M t).a w h1 h2 h3 hr1 hra (ok_bd ot) hRb hR (decide_eq_true ot) hx).mono fun e w' q => step_zero q⟩
    · have c1 : (sq R n U GG M s t).c ≠ 1000000 := fun e => hx (.inl e)
      refine ⟨n, sq R n U GG M s (t + 1), true, fun h => absurd h hx, fun _ => ⟨rfl, rfl, rfl⟩, fun cP cF cS aP aF aS w h1 h2 h3 hI => ?_⟩
      have er : n = (M t).r := Classical.byContradiction (fun e => hx (.inr (fun h => e h.symm)))
      refine (specStepYes R n (M t).r cP cF cS (M t).cap (sq R n U GG M s t) aP aF aS (M t).a (M t).D w h1 h2 h3 (nil_ints h1) (nil_ints h2) (nil_ints h3) hra (ok_bd ot) hRb hR ot hI c1 er U GG ⟨(hU _ hc.1 (by omega)).1, hUs _ hc.1 (by omega)⟩ (fun hg => ⟨(hG _ _ hf hg).1, (hGs _ _ hf hg).1, (hGs _ _ hf hg).2⟩)).mono (fun e w' q => q.uni _ _ _ False.elim (fun _ => ⟨rfl, rfl, rfl⟩))
  · exact (runOptYes R n m cP cF cS cl s aP aF aS ls M w h1 h2 h3 z1 z2 z3 hb hRb ok hR hL hm U GG hU hG).mono (fun e w' q => (q.turn (sq_same hs) (stp_same hs)).uni hK)
end Vo
end Go.Proofs.Ytajljeegkmkkcaa

/- As Qk, where some facts are forgotten once a certain operation (a store) was done. -/
namespace Go.Proofs.Ytajljeegkmkkcaa
namespace Ql
open Go.RowKit Qf Qg Qh
set_option linter.unusedVariables false
variable {P : Program}
theorem factsK {id : Nat} {Q : Exit → Act → World → Prop} {a : Act} {w : World} {l : List Oper} (R : World → World → Prop) (hT : ∀ a b c, R a b → R b c → R a c) (n st : Nat) (keep : Nat → Bool) (h0 : R w { w with drawn := w.drawn + 1 }) (hm : P.follows .mixedOrders = true) (hfb : Qg.factB l.toArray n = true)
    (G : Nat → World → World → Prop) (F : Nat → (Nat → Value) → World → Prop) (hL : ∀ i s s' w1, (∀ j, (j = i ∨ Region.waitsFor .any l.toArray i j = true) → s j = s' j) → F i s w1 → F i s' w1) (hF : ∀ i k s w1 w2, i ≠ k → k < n → (k = st → keep i = true) → F i s w1 → R w1 w2 → G k w1 w2 → F i s w2)
    (hS : ∀ i o, i < n → l[i]? = some o → ∀ s w1, R w w1 → (∀ k, Region.waitsFor .any l.toArray i k = true → (Region.waitsFor .any l.toArray st i = true ∨ i = st ∨ keep k = true) → F k s w1) → landsG P l.toArray o (lay all1 s (l.take n) 0 a) w1 (fun v w2 => R w1 w2 ∧ G i w1 w2 ∧ F i (upd s i v) w2))
    (hQ : ∀ s w1, R w w1 → (∀ k, k < n → keep k = true → F k s w1) → wpList P l.toArray Q (l.drop n) (lay all1 s (l.take n) 0 a) w1) : (Code.region id l.toArray true).wp P Q a w := by
  have fs := Qg.factS hfb
  obtain ⟨hsel, hn, hs, hc⟩ := fs.text
  have hn' : n < l.length := by simpa using hn
  have hdl : (l.drop n).length = l.toArray.size - n := by simp
  have tk : ∀ i, i < n → (l.take n)[i]? = l[i]? := fun i hi => by rw [List.getElem?_take, if_pos hi]
  have hdist : ∀ (x y : Nat) (ox oy : Oper), (l.take n)[x]? = some ox → (l.take n)[y]? = some oy → x ≠ y → ∀ t, ox.dst = some t → oy.dst ≠ some t := by
    intro x y ox oy hx hy hne t ht
    have hx' : x < n := by have := (List.getElem?_eq_some_iff.1 hx).1; simp at this; omega
    have hy' : y < n := by have := (List.getElem?_eq_some_iff.1 hy).1; simp at this; omega
    obtain ⟨o2, e2, _, h2⟩ := fs.at' y hy'
    rw [tk y hy'] at hy
    rw [tk x hx'] at hx
    have : o2 = oy := by have e3 : l.toArray[y]? = some oy := by simpa using hy
                         rw [e2] at e3; exact Option.some.inj e3
    subst this
    exact (h2 x ox t hx' (by simpa using hx) ht).2 (Ne.symm hne)
  have key : ∀ (f : Nat) (li : Array Bool) (s : Nat → Value) (w1 : World), HeadInv .any l.toArray n li → ((List.range n).filter (fun i => !li.getD i false)).length = f → R w w1 →
      (∀ k, li.getD k false = true → (li.getD st false = false ∨ keep k = true) → F k s w1) → wpAny P .any l.toArray Q (f + (l.toArray.size - n)) li (lay (fun j => li.getD j false) s (l.take n) 0 a) w1 := by
    intro f
    induction f with
    | zero =>
      intro li s w1 inv hf hb hfa
      have hli : ∀ k, k < n → li.getD k false = true := fun k hk => by
        have := List.filter_eq_nil_iff.1 (List.length_eq_zero_iff.1 hf) k (List.mem_range.2 hk)
        simpa using this
      have el : li = Array.replicate n true ++ Array.replicate (l.toArray.size - n) false := by
        apply Array.ext
        · rw [inv.size]; simp; omega
        · intro k h1 h2
          by_cases hk : k < n
          · have := hli k hk
            rw [Array.getElem_append_left (by simpa using hk)]
            simp [h1] at this
            simp [this]
          · have hk2 : k < l.toArray.size := by rw [← inv.size]; exact h1
            have := inv.tail k (by omega) hk2
            rw [Array.getElem_append_right (by simp; omega)]
            simp [h1] at this
            simp [this]
      rw [Nat.zero_add, ← hdl]
      have e1 : lay (fun j => li.getD j false) s (l.take n) 0 a = lay all1 s (l.take n) 0 a := by
        have : ∀ (l' : List Oper) (k : Nat) (a' : Act), k + l'.length ≤ n → lay (fun j => li.getD j false) s l' k a' = lay all1 s l' k a' := by
          intro l'
          induction l' with
          | nil => intro k a' _; rfl
          | cons o l' ih =>
            intro k a' hk
            simp only [List.length_cons] at hk
            unfold lay
            rw [hli k (by omega), ih (k + 1) _ (by omega)]
            rfl
        exact this _ _ _ (by simp; omega)
      rw [e1]
      refine wpAny_of_seq (l.drop n) n li _ w1 (fun j => by simp [List.getElem?_drop]) ?_ (hQ s w1 hb (fun k hk hq => hfa k (hli k hk) (.inr hq)))
      rw [hdl, el]; exact fs.seq
    | succ f ih =>
      intro li s w1 inv hf hb hfa
      have hex : ∃ i, i < n ∧ li.getD i false = false := by
        have hne : (List.range n).filter (fun i => !li.getD i false) ≠ [] := fun e => by rw [e] at hf; simp at hf
        obtain ⟨x, hx⟩ := List.exists_mem_of_ne_nil _ hne
        obtain ⟨h1, h2⟩ := List.mem_filter.1 hx
        exact ⟨x, List.mem_range.1 h1, by simpa using h2⟩
      obtain ⟨i0, hi0, hu0⟩ := hex
      have sz : ∀ i, i < n → i < li.size := fun i hi => by rw [inv.size]; simp; omega
      have hall : ∀ j ∈ Region.ready .any l.toArray li, j < n := fun j hj => Nat.lt_of_not_le fun h => absurd hj (tail_waits hs hc hn inv _ i0 rfl hi0 (getD_in (sz i0 hi0) hu0) j h)
      have hsome : Region.ready .any l.toArray li ≠ [] := by
        have : ∀ d i, i ≤ d → i < n → li.getD i false = false → ∃ j, j ∈ Region.ready .any l.toArray li := by
          intro d
          induction d with
          | zero =>
            intro i hi hin hu
            obtain rfl : i = 0 := by omega
            obtain ⟨oi, ho, hbf, _⟩ := fs.at' 0 hin
            exact ⟨0, mem_ready.2 ⟨getD_in (sz 0 hin) hu, oi, ho, fun e he hbd => absurd (hbf e he hbd) (by omega)⟩⟩
          | succ d ihd =>
            intro i hi hin hu
            obtain ⟨oi, ho, hbf, _⟩ := fs.at' i hin
            by_cases hz : ∃ e ∈ oi.after, Region.binds .any e = true ∧ li.getD e.on false = false
            · obtain ⟨e, he, hbd, hue⟩ := hz
              have := hbf e he hbd
              exact ihd e.on (by omega) (by omega) hue
            · refine ⟨i, mem_ready.2 ⟨getD_in (sz i hin) hu, oi, ho, fun e he hbd => ?_⟩⟩
              cases hx : li.getD e.on false with
              | true => rfl
              | false => exact absurd ⟨e, he, hbd, hx⟩ hz
        obtain ⟨j, hj⟩ := this i0 i0 (Nat.le_refl _) hi0 hu0
        exact List.ne_nil_of_mem hj
      rw [show f + 1 + (l.toArray.size - n) = f + (l.toArray.size - n) + 1 by omega]
      refine ⟨fun e => absurd e hsome, fun i hi => ?_⟩
      have hin := hall i hi
      obtain ⟨hun, o, ho, hdep⟩ := mem_ready.1 hi
      obtain ⟨o2, ho2, hbf, hrd⟩ := fs.at' i hin
      obtain rfl : o2 = o := by rw [ho] at ho2; exact (Option.some.inj ho2).symm
      have hlo : l[i]? = some o2 := by simpa using ho
      have hstep := hS i o2 hin hlo s w1 hb (fun k hk hq => by
        obtain ⟨oj, hoj, e, he, hbd, hon⟩ := Region.waitsFor_spec hk
        obtain rfl : oj = o2 := by rw [ho] at hoj; exact (Option.some.inj hoj).symm
        refine hfa k (by rw [← hon]; exact hdep e he hbd) ?_
        rcases hq with hq | hq | hq
        · refine .inl ?_
          cases hst : li.getD st false with
          | false => rfl
          | true =>
            obtain ⟨os, hos, e', he', hbd', hon'⟩ := Region.waitsFor_spec hq
            have := inv.closed st os hos hst e' he' hbd'
            rw [hon', getD_both hun] at this
            cases this
        · subst hq; exact .inl (getD_both hun)
        · exact .inr hq)
      have hexec : execOp (lay (fun j => li.getD j false) s (l.take n) 0 a).eval o2 = execOp (lay all1 s (l.take n) 0 a).eval o2 := by
        refine execOp_congr o2 (fun cs b => Region.noSelect_spec hsel i o2 cs b ho) (fun x hx => lay_eval _ _ _ _ rfl rfl (fun j oj hj d hd hxd => ?_))
        have hj' : j < n := by have := (List.getElem?_eq_some_iff.1 hj).1; simp at this; omega
        rw [tk j hj'] at hj
        have hlook : d ∈ o2.looksAt l.toArray := by
          subst hxd
          exact List.mem_append_left _ (List.mem_filterMap.2 ⟨.tmp d, by simpa using hx, rfl⟩)
        have hw := (hrd j oj d hj' (by simpa using hj) hd).1 hlook
        obtain ⟨oj2, hoj2, e, he, hbd, hon⟩ := Region.waitsFor_spec hw
        obtain rfl : oj2 = o2 := by rw [ho] at hoj2; exact (Option.some.inj hoj2).symm
        rw [Nat.zero_add, ← hon]
        exact hdep e he hbd
      have hnext : ∀ v w2, R w1 w2 ∧ G i w1 w2 ∧ F i (upd s i v) w2 → wpAny P .any l.toArray Q (f + (l.toArray.size - n)) (li.setIfInBounds i true) ((lay (fun j => li.getD j false) s (l.take n) 0 a).put o2.dst v) w2 := by
        intro v w2 ⟨hb2, hg2, hfi⟩
        rw [lay_more (getD_both hun) (l.take n) 0 a (Nat.zero_le _) (by rw [Nat.sub_zero, tk i hin]; exact hlo) hdist]
        have e2 : upd (fun j => li.getD j false) i true = fun j => (li.setIfInBounds i true).getD j false := funext fun k => (getD_upd (sz i hin)).symm
        rw [e2]
        refine ih _ _ w2 (inv.set hi hin) ?_ (hT _ _ _ hb hb2) (fun k hk hq => ?_)
        · have e3 : (List.range n).filter (fun j => !(li.setIfInBounds i true).getD j false) = ((List.range n).filter (fun j => !li.getD j false)).erase i := by
            have nd : ((List.range n).filter (fun j => !li.getD j false)).Nodup := List.Pairwise.filter _ List.nodup_range
            rw [nd.erase_eq_filter, List.filter_filter]
            refine List.filter_congr (fun j hj => ?_)
            rw [getD_upd (sz i hin)]
            unfold upd
            by_cases e : j = i
            · subst e; simp
            · simp [e]
          rw [e3, List.length_erase_of_mem (List.mem_filter.2 ⟨List.mem_range.2 hin, by rw [getD_both hun]; rfl⟩), hf]
          rfl
        · rw [getD_upd (sz i hin)] at hk hq
          by_cases e : k = i
          · subst e; exact hfi
          · unfold upd at hk
            rw [if_neg e] at hk
            have hq1 : i = st → keep k = true := fun e2 => by
              rcases hq with hq | hq
              · rw [← e2] at hq
                unfold upd at hq
                rw [if_pos rfl] at hq
                cases hq
              · exact hq
            have hq2 : li.getD st false = false ∨ keep k = true := by
              rcases hq with hq | hq
              · unfold upd at hq
                by_cases e2 : st = i
                · rw [if_pos e2] at hq; cases hq
                · rw [if_neg e2] at hq; exact .inl hq
              · exact .inr hq
            refine hF k i _ w1 w2 e hin hq1 (hL k s _ w1 (fun j hj => ?_) (hfa k hk hq2)) hb2 hg2
            have hji : j ≠ i := by
              rcases hj with rfl | hw
              · exact e
              · rintro rfl
                obtain ⟨ok, hok, e', he', hbd, hon⟩ := Region.waitsFor_spec hw
                have := inv.closed k ok hok hk e' he' hbd
                rw [hon, getD_both hun] at this
                cases this
            unfold upd
            rw [if_neg hji]
      have hwant : Region.wanted o2 (yielded l.toArray (lay (fun j => li.getD j false) s (l.take n) 0 a).tmps) = Region.wanted o2 (yielded l.toArray (lay all1 s (l.take n) 0 a).tmps) := by
        unfold Region.wanted
        cases hgd : o2.guard with
        | none => rfl
        | some g =>
          obtain ⟨g, b⟩ := g
          dsimp only
          rw [yielded_eval, yielded_eval]
          cases hd : (l.toArray[g]?).bind (·.dst) with
          | none => rfl
          | some d =>
            dsimp only
            have hlook : d ∈ o2.looksAt l.toArray := by
              unfold Oper.looksAt
              refine List.mem_append_right _ ?_
              rw [hgd]
              dsimp only
              rw [hd]
              simp
            have := lay_eval (li := fun j => li.getD j false) (s := s) (x := .tmp d) (l.take n) 0 a a rfl rfl (fun j oj hj d' hd' hxd => by
              injection hxd with hxd
              subst hxd
              have hj' : j < n := by have := (List.getElem?_eq_some_iff.1 hj).1; simp at this; omega
              rw [tk j hj'] at hj
              have hw := (hrd j oj d hj' (by simpa using hj) hd').1 hlook
              obtain ⟨oj2, hoj2, e, he, hbd, hon⟩ := Region.waitsFor_spec hw
              obtain rfl : oj2 = o2 := by rw [ho] at hoj2; exact (Option.some.inj hoj2).symm
              rw [Nat.zero_add, ← hon]
              exact hdep e he hbd)
            rw [this]
      unfold wpOp
      rw [ho]
      dsimp only
      unfold landsG at hstep
      rw [← hwant] at hstep
      by_cases hwd : Region.wanted o2 (yielded l.toArray (lay (fun j => li.getD j false) s (l.take n) 0 a).tmps) = true
      case neg =>
        rw [if_neg hwd] at hstep
        rw [if_neg hwd]
        exact hnext undef w1 hstep
      rw [if_pos hwd] at hstep
      rw [if_pos hwd]
      refine .inl ?_
      unfold Oper.wp
      unfold lands at hstep
      rw [hexec]
      generalize (execOp (lay all1 s (l.take n) 0 a).eval o2).run P w1 = r at hstep
      cases r with
      | ok nx w' =>
        cases nx <;> simp only at hstep <;> simp only [Oper.upon]
        case value v => exact hnext v w' hstep
        case skip => exact hnext undef w' hstep
        case enter f' args =>
          exact hstep.mono (fun e w'' ⟨v, he, hk⟩ => by subst he; exact hnext v w'' hk)
      | halt x w' => cases x <;> simp only at hstep
  refine wp_region_any hm ?_
  have inv0 : HeadInv .any l.toArray n (Array.replicate l.toArray.size false) := ⟨by simp, fun j oj _ hl => (by rw [getD_replicate_false] at hl; cases hl), fun t _ ht => getD_in (by simpa using ht) (getD_replicate_false _ _)⟩
  have := key n (Array.replicate l.toArray.size false) (fun _ => undef) { w with drawn := w.drawn + 1 } inv0 (by
    rw [List.filter_eq_self.2 (fun x _ => by rw [getD_replicate_false]; rfl)]; simp) h0 (fun k hk _ => by rw [getD_replicate_false] at hk; cases hk)
  have e0 : lay (fun j => (Array.replicate l.toArray.size false).getD j false) (fun _ => undef) (l.take n) 0 a = a := by
    have : ∀ (l' : List Oper) (k : Nat) (a' : Act), lay (fun j => (Array.replicate l.toArray.size false).getD j false) (fun _ => undef) l' k a' = a' := by
      intro l'
      induction l' with
      | nil => intro k a'; rfl
      | cons o l' ih => intro k a'; unfold lay; rw [getD_replicate_false, if_neg (by simp)]; exact ih _ _
    exact this _ _ _
  rw [e0, show n + (l.toArray.size - n) = l.toArray.size by omega] at this
  exact this
/-- the same, each operation in a frame of which only what it needs is known -/
theorem factsK2 {id : Nat} {Q : Exit → Act → World → Prop} {a : Act} {w : World} {l : List Oper} (R : World → World → Prop) (hT : ∀ a b c, R a b → R b c → R a c) (n st : Nat) (keep : Nat → Bool) (h0 : R w { w with drawn := w.drawn + 1 }) (hm : P.follows .mixedOrders = true) (hfb : Qg.factB l.toArray n = true)
    (G : Nat → World → World → Prop) (F : Nat → (Nat → Value) → World → Prop) (hL : ∀ i s s' w1, (∀ j, (j = i ∨ Region.waitsFor .any l.toArray i j = true) → s j = s' j) → F i s w1 → F i s' w1) (hF : ∀ i k s w1 w2, i ≠ k → k < n → (k = st → keep i = true) → F i s w1 → R w1 w2 → G k w1 w2 → F i s w2)
    (hS : ∀ i o, i < n → l[i]? = some o → ∀ (s : Nat → Value) (A : Act) (w1 : World), R w w1 → (∀ k, Region.waitsFor .any l.toArray i k = true → (Region.waitsFor .any l.toArray st i = true ∨ i = st ∨ keep k = true) → F k s w1) →
      (∀ k ok t, k < n → l[k]? = some ok → ok.dst = some t → t < a.tmps.size → A.eval (.tmp t) = s k) → (∀ t, (l.take n).all (fun ok => ok.dst != some t) = true → A.eval (.tmp t) = a.eval (.tmp t)) →
      landsG P l.toArray o A w1 (fun v w2 => R w1 w2 ∧ G i w1 w2 ∧ F i (upd s i v) w2))
    (hQ : ∀ s w1, R w w1 → (∀ k, k < n → keep k = true → F k s w1) → wpList P l.toArray Q (l.drop n) (lay all1 s (l.take n) 0 a) w1) : (Code.region id l.toArray true).wp P Q a w := by
  have fs := Qg.factS hfb
  have tk : ∀ i, i < n → (l.take n)[i]? = l[i]? := fun i hi => by rw [List.getElem?_take, if_pos hi]
  have hdist : ∀ (x y : Nat) (ox oy : Oper), (l.take n)[x]? = some ox → (l.take n)[y]? = some oy → x ≠ y → ∀ t, ox.dst = some t → oy.dst ≠ some t := by
    intro x y ox oy hx hy hne t ht
    have hx' : x < n := by have := (List.getElem?_eq_some_iff.1 hx).1; simp at this; omega
    have hy' : y < n := by have := (List.getElem?_eq_some_iff.1 hy).1; simp at this; omega
    obtain ⟨o2, e2, _, h2⟩ := fs.at' y hy'
    rw [tk y hy'] at hy
    rw [tk x hx'] at hx
    have e3 : l.toArray[y]? = some oy := by simpa using hy
    obtain rfl : o2 = oy := by rw [e2] at e3; exact Option.some.inj e3
    exact (h2 x ox t hx' (by simpa using hx) ht).2 (Ne.symm hne)
  refine factsK R hT n st keep h0 hm hfb G F hL hF (fun i o hi ho s w1 hb hk => hS i o hi ho s _ w1 hb hk (fun k ok t hk' hok ht hz => ?_) (fun t ht => lay_old _ _ _ (fun ok hok => by simpa using List.all_eq_true.1 ht ok hok))) hQ
  have := lay_at (s := s) (l.take n) 0 a k ok (by rw [tk k hk']; exact hok) ht hdist hz
  rwa [Nat.zero_add] at this
end Ql
end Go.Proofs.Ytajljeegkmkkcaa

/- Lists of lists of one's own: marked, held (out of Nj). -/
namespace Go.Proofs.Ytajljeegkmkkcaa
namespace Vo
open Go.ChangeShapes Go.WideShapes Go.ChangeAt Go.RowKit Go.Joins Go.Sort
open Vl Vp
set_option linter.unusedVariables false
set_option linter.unusedSimpArgs false
theorem OLL.keptS {S : Nat → Prop} {w w' : World} {g n k : Nat} {M : Nat → LV} (h : OLL w g n k M) (hk : Kept S w w') (hg : ¬ S g) (hr : ∀ i, i < k → ∀ b, Blk (M i).a (M i).r b → ¬ S b) : OLL w' g n k M :=
  have eb := hk.block g h.lt hg
  ⟨Nat.lt_of_lt_of_le h.lt hk.size, fun i hi => (World.cell?_of_block (w := w) (a := ⟨g, i, none⟩) eb).trans (h.laid i hi), fun i h1 h2 => (World.cell?_of_block (w := w) (a := ⟨g, i, none⟩) eb).trans (h.rest i h1 h2), fun i => (World.frozen?_of_block (w := w) (a := ⟨g, i, none⟩) eb).trans (h.free i), fun i hi => (h.own i hi).kept hk (hr i hi), h.ord⟩
theorem lsum_mono {L : Nat → LV} {k n : Nat} (h : k ≤ n) : lsum L k ≤ lsum L n := by
  induction n with
  | zero => have : k = 0 := by omega
            subst this; exact Nat.le_refl _
  | succ n ih =>
    by_cases e : k = n + 1
    · subst e; exact Nat.le_refl _
    · have := ih (by omega)
      show _ ≤ lsum L n + (L n).r
      omega
theorem arg2_at {H : Type} {enc : TypeId × Value → H} {w : World} {base : Nat} {spare : Nat → Bool} {held : Bool} {a : Option Addr} {r cap : Nat} {d : DataW H} {p : List MemPlace}
    (h : DataW.Trod enc Try.prog w base spare held 44 (.slice a r cap) d p) : Arg2 w a r := by
  obtain ⟨fuel, hf⟩ := h
  obtain ⟨a', r', cap', e, h'⟩ := arg2_of (c := .slice a r cap) (by simpa [Value.cells] using hf)
  simp at e
  obtain ⟨rfl, rfl, rfl⟩ := e
  exact h'
/-- rows of one's own that lie from E up to below F -/
def RowsO (E F : Nat) (w : World) (a : Option Addr) (n : Nat) (M : Nat → LV) : Prop :=
  n = 0 ∨ ∃ g, a = some ⟨g, 0, none⟩ ∧ E ≤ g ∧ g < F ∧ OLL w g n n M ∧ ∀ i, i < n → ∀ b, Blk (M i).a (M i).r b → b < F
theorem RowsO.below {E F : Nat} {w w' : World} {a : Option Addr} {n : Nat} {M : Nat → LV} (h : RowsO E F w a n M) (hb : Below w.heap.size w w') : RowsO E F w' a n M := by
  rcases h with h | ⟨g, e, h1, h2, o, r⟩
  · exact .inl h
  · exact .inr ⟨g, e, h1, h2, o.below hb, r⟩
theorem RowsO.kept {S : Nat → Prop} {E F : Nat} {w w' : World} {a : Option Addr} {n : Nat} {M : Nat → LV} (h : RowsO E F w a n M) (hk : Kept S w w') (hs : ∀ b, E ≤ b → b < F → ¬ S b) : RowsO E F w' a n M := by
  rcases h with h | ⟨g, e, h1, h2, o, r⟩
  · exact .inl h
  · exact .inr ⟨g, e, h1, h2, o.keptS hk (hs g h1 h2) (fun i hi b hb => hs b (by have := ((o.own i hi).blk hb).1; omega) (r i hi b hb)), r⟩
theorem RowsO.read {E F : Nat} {w : World} {a : Option Addr} {n : Nat} {M : Nat → LV} (h : RowsO E F w a n M) : LL w.heap.size w a n M := by
  rcases h with h | ⟨g, rfl, h1, h2, o, r⟩
  · exact .inl h
  · exact o.read
def setD (M : Nat → LV) (i : Nat) (D : Nat → Int) : Nat → LV := fun t => if t = i then ⟨(M t).a, (M t).r, (M t).cap, D⟩ else M t
theorem setD_a (M : Nat → LV) (i : Nat) (D : Nat → Int) (t : Nat) : (setD M i D t).a = (M t).a ∧ (setD M i D t).r = (M t).r ∧ (setD M i D t).cap = (M t).cap := by
  unfold setD
  split <;> exact ⟨rfl, rfl, rfl⟩
theorem OLL.mark {w w' : World} {g n i : Nat} {M : Nat → LV} {D : Nat → Int} (h : OLL w g n n M) (hi : i < n) (ho : OwnL (g + 1) w' (M i).a (M i).r D) (hk : Kept (Blk (M i).a (M i).r) w w') : OLL w' g n n (setD M i D) := by
  have ng : ¬ Blk (M i).a (M i).r g := fun q => by have := ((h.own i hi).blk q).1; omega
  have eb := hk.block g h.lt ng
  refine ⟨Nat.lt_of_lt_of_le h.lt hk.size, fun t ht => ?_, fun t h1 h2 => by omega, fun t => (World.frozen?_of_block (w := w) (a := ⟨g, t, none⟩) eb).trans (h.free t), fun t ht => ?_, fun t u htu hu b b' h2 h3 => ?_⟩
  · obtain ⟨e1, e2, e3⟩ := setD_a M i D t
    rw [e1, e2, e3]
    exact (World.cell?_of_block (w := w) (a := ⟨g, t, none⟩) eb).trans (h.laid t ht)
  · by_cases c : t = i
    · subst c
      unfold setD
      simp only [if_true]
      exact ho
    · unfold setD
      simp only [c, if_false]
      refine (h.own t ht).kept hk (fun b q q' => ?_)
      rcases Nat.lt_or_ge t i with z | z
      · have := h.ord t i z hi b b q q'; omega
      · have := h.ord i t (by omega) ht b b q' q; omega
  · rw [(setD_a M i D t).1, (setD_a M i D t).2.1] at h2
    rw [(setD_a M i D u).1, (setD_a M i D u).2.1] at h3
    exact h.ord t u htu hu b b' h2 h3
/-- rows that are marked, up to the j-th -/
def mkd (M : Nat → LV) (k : Int) (j : Nat) : Nat → LV := fun t => if t < j then ⟨(M t).a, (M t).r, (M t).cap, fun x => k + lsum M t + x⟩ else M t
theorem mkd_zero (M : Nat → LV) (k : Int) : mkd M k 0 = M := by
  funext t
  unfold mkd
  rw [if_neg (by omega)]
theorem mkd_at (M : Nat → LV) (k : Int) (j : Nat) : mkd M k j j = M j := by
  unfold mkd
  rw [if_neg (by omega)]
theorem mkd_in (M : Nat → LV) (k : Int) {j t : Nat} (h : t < j) : mkd M k j t = ⟨(M t).a, (M t).r, (M t).cap, fun x => k + lsum M t + x⟩ := by
  unfold mkd
  rw [if_pos h]
theorem mkd_a (M : Nat → LV) (k : Int) (j t : Nat) : (mkd M k j t).a = (M t).a ∧ (mkd M k j t).r = (M t).r := by
  unfold mkd
  split <;> exact ⟨rfl, rfl⟩
theorem mkd_succ (M : Nat → LV) (k : Int) (j : Nat) : setD (mkd M k j) j (fun x => k + lsum M j + x) = mkd M k (j + 1) := by
  funext t
  unfold setD
  by_cases c : t = j
  · subst c
    rw [if_pos rfl, mkd_at, mkd_in M k (Nat.lt_succ_self t)]
  · rw [if_neg c]
    unfold mkd
    by_cases d : t < j
    · rw [if_pos d, if_pos (by omega)]
    · rw [if_neg d, if_neg (by omega)]
theorem lsum_succ (L : Nat → LV) (n : Nat) : ((lsum L (n + 1) : Nat) : Int) = (lsum L n : Int) + ((L n).r : Int) := by
  show ((lsum L n + (L n).r : Nat) : Int) = _
  omega
theorem RowsO.mark {E F : Nat} {w w' : World} {a : Option Addr} {n j : Nat} {M : Nat → LV} {k : Int} (h : RowsO E F w a n (mkd M k j)) (hj : j < n) {g : Nat} (hg : a = some ⟨g, 0, none⟩) (ho : OwnL (g + 1) w' (M j).a (M j).r (fun x => k + lsum M j + x)) (hk : Kept (Blk (M j).a (M j).r) w w') : RowsO E F w' a n (mkd M k (j + 1)) := by
  rcases h with h | ⟨g', e, h1, h2, o, r⟩
  · omega
  · rw [hg] at e
    cases e
    refine .inr ⟨g, hg, h1, h2, ?_, fun i hi b hb => ?_⟩
    · rw [← mkd_succ]
      exact o.mark hj (by rw [mkd_at]; exact ho) (by rw [mkd_at]; exact hk)
    · refine r i hi b ?_
      rw [(mkd_a _ _ _ _).1, (mkd_a _ _ _ _).2] at hb ⊢
      exact hb
set_option maxHeartbeats 1000000 in
theorem markIntSS (E F : Nat) (a : Option Addr) (n cap : Nat) (M : Nat → LV) (k : Int) (w : World) (h : RowsO E F w a n M) (hl : LLen n M 1048576) (hs : (lsum M n : Int) ≤ 33554432) (hn : (n : Int) ≤ 1048576) (k0 : 0 ≤ k) (k1 : k ≤ 33554432) :
    Calls Try.prog 21 #[.slice a n cap, .int .i64 k] w fun e w' => e = .returned (.int .i64 (k + lsum M n)) ∧ RowsO E F w' a n (mkd M k n) ∧ Kept (fun b => E ≤ b ∧ b < F) w w' := by
  have H := hide h
  have HL := hide hl
  have HS := hide hs
  clear h hl hs
  go_enter Try.func21, Try.ntmps21
  go_wp2_with fail
  go_loopw [1, 5] (fun c i wx => ∃ j : Nat, j ≤ n ∧ c = .int .i64 (k + lsum M j) ∧ i = .int .i64 j ∧ RowsO E F wx a n (mkd M k j) ∧ Kept (fun b => E ≤ b ∧ b < F) w wx) (fun _ i _ => n - (intOf i).toNat)
  case atStart => exact ⟨0, Nat.zero_le _, by show _ = Value.int IntKind.i64 (k + ((0 : Nat) : Int)); go_num, rfl, by rw [mkd_zero]; exact H.out, Kept.refl _ _⟩
  case round =>
    obtain ⟨X, rfl⟩ : ∃ X, X = wr := ⟨_, rfl⟩
    obtain ⟨j, hj, rfl, rfl, hw, hk⟩ := hrel
    have HW := hide hw
    have HK := hide hk
    clear hw hk
    by_cases hlt : j < n
    · have kI : (j : Int) < n := by omega
      obtain ⟨g, hg, o, rr⟩ : ∃ g, a = some ⟨g, 0, none⟩ ∧ OLL X g n n (mkd M k j) ∧ (E ≤ g ∧ ∀ b, Blk (M j).a (M j).r b → b < F) := by
        rcases HW.out with h0 | ⟨g, e, h1, h2, o, r⟩
        · omega
        · exact ⟨g, e, o, h1, fun b hb => r j hlt b (by rw [mkd_at]; exact hb)⟩
      have c0 := o.laid j hlt
      have ow := hide (o.own j hlt)
      rw [mkd_at] at c0 ow
      have RR := hide rr
      have HG := hide hg
      obtain ⟨S, hS⟩ : ∃ S : Int, S = lsum M j := ⟨_, rfl⟩
      have s0 : 0 ≤ S := by omega
      have s1 : S ≤ 33554432 := by have := lsum_mono (L := M) hj; have := HS.out; omega
      have CT := hide (markIntS (g + 1) (M j).a (M j).r (M j).cap (M j).D (k + S) X ow.out (HL.out j hlt) (by omega) (by omega))
      have ES := hide hS
      rw [← hS]
      clear o rr hS
      subst hg
      go_wp2_with fail
      refine CT.out.mono ?_
      rintro e X1 ⟨rfl, ho, hk⟩
      have HO := hide ho
      have HX := hide hk
      clear ho hk CT
      have lr := HL.out j hlt
      go_wp2_with fail
      go_roundw
      all_goals first
        | (simp only [intOf]; omega)
        | (simp [intOf]; omega)
        | exact ⟨j + 1, by omega, by rw [lsum_succ, ← ES.out]; go_num, by go_num, HW.out.mark hlt rfl (by rw [← ES.out]; exact HO.out) HX.out, HK.out.trans (HX.out.mono (fun b _ q => ⟨by have := (ow.out.blk q).1; have := RR.out.1; omega, RR.out.2 b q⟩))⟩
    · obtain rfl : j = n := by omega
      go_wp2_with fail
      go_ret
      exact ⟨rfl, HW.out, HK.out⟩
theorem heldIntB (B : Nat) (a : Option Addr) (r cap : Nat) (k : Int) (w : World) (h : Ints B w a r (fun j => k + j)) (hr : (r : Int) ≤ 1048576) (k0 : 0 ≤ k) (k1 : k ≤ 134217728) :
    Calls Try.prog 37 #[.slice a r cap, .int .i64 k] w fun e w' => e = .returned (.int .i64 (k + r)) ∧ w' = w := by
  have H := hide h
  clear h
  go_enter Try.func37, Try.ntmps37
  go_wp2_with fail
  go_loop [1, 5] (fun c i => ∃ j : Nat, j ≤ r ∧ c = .int .i64 (k + j) ∧ i = .int .i64 j) (fun _ i => r - (intOf i).toNat)
  case atStart => exact ⟨0, Nat.zero_le _, by go_num, rfl⟩
  case round =>
    obtain ⟨j, hj, rfl, rfl⟩ := hrel
    by_cases hlt : j < r
    · rcases H.out with h0 | ⟨b, off, rfl, hbB, hc⟩
      · omega
      have c1 := (hc j hlt).1
      clear hc
      go_wp2_with fail
      go_round
      case rel => exact ⟨j + 1, by omega, by go_num, by go_num⟩
      case measure => simp [intOf]; omega
    · have e : j = r := by omega
      subst e
      go_wp2_with fail
      go_ret
      exact ⟨rfl, rfl⟩
end Vo
end Go.Proofs.Ytajljeegkmkkcaa
