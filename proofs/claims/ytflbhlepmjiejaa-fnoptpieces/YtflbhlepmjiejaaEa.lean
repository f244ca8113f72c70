/- Rates: schedules that can be, on both sides (written by tools/gen15.py). -/
import Derived.Test.YtflbhlepmjiejaaEb
namespace Go.Proofs.Ytflbhlepmjiejaa
namespace Vo
open Go.ChangeShapes Go.WideShapes Go.ChangeAt Go.RowKit Go.Joins Go.Sort
open Vl
set_option linter.unusedVariables false
set_option linter.unusedSimpArgs false
/-- 4 ints in a variable -/
def Box4 (w : World) (p : Nat) (x0 x1 x2 x3 : Int) : Prop := p < w.heap.size ∧ w.cell? ⟨p, 0, none⟩ = some (.int .i64 x0) ∧ w.cell? ⟨p, 1, none⟩ = some (.int .i64 x1) ∧ w.cell? ⟨p, 2, none⟩ = some (.int .i64 x2) ∧ w.cell? ⟨p, 3, none⟩ = some (.int .i64 x3)
theorem box4_new (w : World) (x0 x1 x2 x3 : Int) (ty : TypeId) : Box4 (w.alloc (.cells #[.int .i64 x0, .int .i64 x1, .int .i64 x2, .int .i64 x3] ty)) w.heap.size x0 x1 x2 x3 := ⟨by simp, by simp [go_sem], by simp [go_sem], by simp [go_sem], by simp [go_sem]⟩
theorem Box4.below {w w' : World} {p : Nat} {x0 x1 x2 x3 : Int} (h : Box4 w p x0 x1 x2 x3) (b : Below w.heap.size w w') : Box4 w' p x0 x1 x2 x3 := by
  obtain ⟨hp, h0, h1, h2, h3⟩ := h
  exact ⟨Nat.lt_of_lt_of_le hp b.size, by rw [b.cell (p := ⟨p, 0, none⟩) hp]; exact h0, by rw [b.cell (p := ⟨p, 1, none⟩) hp]; exact h1, by rw [b.cell (p := ⟨p, 2, none⟩) hp]; exact h2, by rw [b.cell (p := ⟨p, 3, none⟩) hp]; exact h3⟩
theorem areRatesF (B : Nat) (a : Option Addr) (s cap : Nat) (S : Nat → Int) (w : World) (hB : B ≤ w.heap.size) (h : Ints B w a s S) (hs : (s : Int) ≤ 1048576) :
    Calls Try.prog 59 #[.slice a s cap] w fun e w' => e = .returned (.bool (ib 0 16777216 s S)) ∧ Below w.heap.size w w' := by
  have C := hide (inBoundsF B a s cap S 0 16777216 w (by decide) hB h hs)
  clear h hB
  go_enter Try.func59, Try.ntmps59
  go_wp2_with fail
  refine C.out.mono ?_; rintro e1 w1 ⟨rfl, b1⟩
  go_wp2_with fail
  go_ret
  exact ⟨rfl, b1⟩
theorem areStepsF (B : Nat) (a : Option Addr) (s cap : Nat) (S : Nat → Int) (w : World) (hB : B ≤ w.heap.size) (h : Ints B w a s S) (hs : (s : Int) ≤ 1048576) :
    Calls Try.prog 23 #[.slice a s cap] w fun e w' => e = .returned (.bool (ib 0 1000000 s S)) ∧ Below w.heap.size w w' := by
  have C := hide (inBoundsF B a s cap S 0 1000000 w (by decide) hB h hs)
  clear h hB
  go_enter Try.func23, Try.ntmps23
  go_wp2_with fail
  refine C.out.mono ?_; rintro e1 w1 ⟨rfl, b1⟩
  go_wp2_with fail
  go_ret
  exact ⟨rfl, b1⟩
theorem rates_two (x y : Int) (b : Bool) (P : Nat) (w : World) (hx : bd x) (hy : bd y) (hb : decide ((0 ≤ x ∧ x ≤ 16777216) ∧ (0 ≤ y ∧ y ≤ 16777216)) = b) (hP : P = w.heap.size) :
    Calls Try.prog 59 #[.slice (some ⟨P, 0, none⟩) 2 2] (w.alloc (.cells #[.int .i64 x, .int .i64 y] 3)) fun e w' => e = .returned (.bool b) ∧ Below w.heap.size w w' := by
  subst hP
  refine (areRatesF (w.heap.size + 1) _ 2 2 (fun i => if i = 0 then x else y) _ (by simp) (two_new x y w _ hx hy) (by decide)).mono ?_
  rintro e w' ⟨rfl, b1⟩
  exact ⟨by rw [ib_two, hb], ((Below.refl _ _).alloc (Nat.le_refl _) _).trans (b1.mono (by simp))⟩
theorem steps_two (x y : Int) (b : Bool) (P : Nat) (w : World) (hx : bd x) (hy : bd y) (hb : decide ((0 ≤ x ∧ x ≤ 1000000) ∧ (0 ≤ y ∧ y ≤ 1000000)) = b) (hP : P = w.heap.size) :
    Calls Try.prog 23 #[.slice (some ⟨P, 0, none⟩) 2 2] (w.alloc (.cells #[.int .i64 x, .int .i64 y] 3)) fun e w' => e = .returned (.bool b) ∧ Below w.heap.size w w' := by
  subst hP
  refine (areStepsF (w.heap.size + 1) _ 2 2 (fun i => if i = 0 then x else y) _ (by simp) (two_new x y w _ hx hy) (by decide)).mono ?_
  rintro e w' ⟨rfl, b1⟩
  exact ⟨by rw [ib_two, hb], ((Below.refl _ _).alloc (Nat.le_refl _) _).trans (b1.mono (by simp))⟩
theorem steps_one (x : Int) (b : Bool) (P : Nat) (w : World) (hx : bd x) (hb : decide (0 ≤ x ∧ x ≤ 1000000) = b) (hP : P = w.heap.size) :
    Calls Try.prog 23 #[.slice (some ⟨P, 0, none⟩) 1 1] (w.alloc (.cells #[.int .i64 x] 3)) fun e w' => e = .returned (.bool b) ∧ Below w.heap.size w w' := by
  subst hP
  refine (areStepsF (w.heap.size + 1) _ 1 1 (fun _ => x) _ (by simp) (one_new x w _ hx) (by decide)).mono ?_
  rintro e w' ⟨rfl, b1⟩
  exact ⟨by rw [ib_one, hb], ((Below.refl _ _).alloc (Nat.le_refl _) _).trans (b1.mono (by simp))⟩
/-- a schedule that can be -/
def schOk (p l m n : Int) : Bool := decide ((0 ≤ l ∧ l ≤ p ∧ p ≤ 16777216) ∧ (0 ≤ m ∧ m ≤ n ∧ n ≤ 1000000))
theorem sch_of {p l m n : Int} (h : schOk p l m n = true) : (0 ≤ l ∧ l ≤ p ∧ p ≤ 16777216) ∧ (0 ≤ m ∧ m ≤ n ∧ n ≤ 1000000) := of_decide_eq_true h
set_option maxHeartbeats 1000000 in
theorem sSch_no1 (p l m n : Int) (w : World) (hp : bd p) (hl : bd l) (hm : bd m) (hn : bd n)  (g1 : decide (0 ≤ p ∧ p ≤ 16777216) = false) :
    Calls Try.prog 52 #[.agg #[.int .i64 p, .int .i64 l, .int .i64 m, .int .i64 n]] w fun e w' => e = .returned (.bool false) ∧ Below w.heap.size w w' := by
  have Hp := hide hp
  have Hl := hide hl
  have Hm := hide hm
  have Hn := hide hn
  clear hp hl hm hn
  have G1 := hide g1
  clear g1
  obtain ⟨WA, hWA⟩ : ∃ WA, w.alloc (.cells #[.int .i64 p, .int .i64 l, .int .i64 m, .int .i64 n] 25) = WA := ⟨_, rfl⟩
  have nWA : Below w.heap.size w WA := hWA ▸ (Below.refl _ _).alloc (Nat.le_refl _) _
  have mWA : Box4 WA w.heap.size p l m n := hWA ▸ box4_new _ _ _ _ _ _
  have BL : Hid (Below w.heap.size w WA) := hide (nWA)
  have KA := hide (mWA)
  clear nWA mWA
  obtain ⟨-, cA0, cA1, cA2, cA3⟩ := KA.out
  go_enter Try.func52, Try.ntmps52
  go_wp2_with fail
  refine (gInS p 0 16777216 false G1.out _).mono ?_
  rintro e1 w1 ⟨rfl, q1⟩
  replace KA := hide (KA.out.below q1)
  clear cA0 cA1 cA2 cA3
  obtain ⟨-, cA0, cA1, cA2, cA3⟩ := KA.out
  replace BL := hide (BL.out.trans (q1.mono BL.out.size))
  clear q1
  go_wp2_with fail
  go_ret
  exact ⟨rfl, BL.out⟩
set_option maxHeartbeats 1000000 in
theorem sSch_no2 (p l m n : Int) (w : World) (hp : bd p) (hl : bd l) (hm : bd m) (hn : bd n)  (g1 : decide (0 ≤ p ∧ p ≤ 16777216) = true) (g2 : decide (0 ≤ l ∧ l ≤ p) = false) :
    Calls Try.prog 52 #[.agg #[.int .i64 p, .int .i64 l, .int .i64 m, .int .i64 n]] w fun e w' => e = .returned (.bool false) ∧ Below w.heap.size w w' := by
  have Hp := hide hp
  have Hl := hide hl
  have Hm := hide hm
  have Hn := hide hn
  clear hp hl hm hn
  have G1 := hide g1
  have G2 := hide g2
  clear g1 g2
  obtain ⟨WA, hWA⟩ : ∃ WA, w.alloc (.cells #[.int .i64 p, .int .i64 l, .int .i64 m, .int .i64 n] 25) = WA := ⟨_, rfl⟩
  have nWA : Below w.heap.size w WA := hWA ▸ (Below.refl _ _).alloc (Nat.le_refl _) _
  have mWA : Box4 WA w.heap.size p l m n := hWA ▸ box4_new _ _ _ _ _ _
  have BL : Hid (Below w.heap.size w WA) := hide (nWA)
  have KA := hide (mWA)
  clear nWA mWA
  obtain ⟨-, cA0, cA1, cA2, cA3⟩ := KA.out
  go_enter Try.func52, Try.ntmps52
  go_wp2_with fail
  refine (gInS p 0 16777216 true G1.out _).mono ?_
  rintro e1 w1 ⟨rfl, q1⟩
  replace KA := hide (KA.out.below q1)
  clear cA0 cA1 cA2 cA3
  obtain ⟨-, cA0, cA1, cA2, cA3⟩ := KA.out
  replace BL := hide (BL.out.trans (q1.mono BL.out.size))
  clear q1
  go_wp2_with fail
  refine (gInS l 0 p false G2.out _).mono ?_
  rintro e1 w2 ⟨rfl, q2⟩
  replace KA := hide (KA.out.below q2)
  clear cA0 cA1 cA2 cA3
  obtain ⟨-, cA0, cA1, cA2, cA3⟩ := KA.out
  replace BL := hide (BL.out.trans (q2.mono BL.out.size))
  clear q2
  go_wp2_with fail
  go_ret
  exact ⟨rfl, BL.out⟩
set_option maxHeartbeats 1000000 in
theorem sSch_no3 (p l m n : Int) (w : World) (hp : bd p) (hl : bd l) (hm : bd m) (hn : bd n)  (g1 : decide (0 ≤ p ∧ p ≤ 16777216) = true) (g2 : decide (0 ≤ l ∧ l ≤ p) = true) (g3 : decide (0 ≤ n ∧ n ≤ 1000000) = false) :
    Calls Try.prog 52 #[.agg #[.int .i64 p, .int .i64 l, .int .i64 m, .int .i64 n]] w fun e w' => e = .returned (.bool false) ∧ Below w.heap.size w w' := by
  have Hp := hide hp
  have Hl := hide hl
  have Hm := hide hm
  have Hn := hide hn
  clear hp hl hm hn
  have G1 := hide g1
  have G2 := hide g2
  have G3 := hide g3
  clear g1 g2 g3
  obtain ⟨WA, hWA⟩ : ∃ WA, w.alloc (.cells #[.int .i64 p, .int .i64 l, .int .i64 m, .int .i64 n] 25) = WA := ⟨_, rfl⟩
  have nWA : Below w.heap.size w WA := hWA ▸ (Below.refl _ _).alloc (Nat.le_refl _) _
  have mWA : Box4 WA w.heap.size p l m n := hWA ▸ box4_new _ _ _ _ _ _
  have BL : Hid (Below w.heap.size w WA) := hide (nWA)
  have KA := hide (mWA)
  clear nWA mWA
  obtain ⟨-, cA0, cA1, cA2, cA3⟩ := KA.out
  go_enter Try.func52, Try.ntmps52
  go_wp2_with fail
  refine (gInS p 0 16777216 true G1.out _).mono ?_
  rintro e1 w1 ⟨rfl, q1⟩
  replace KA := hide (KA.out.below q1)
  clear cA0 cA1 cA2 cA3
  obtain ⟨-, cA0, cA1, cA2, cA3⟩ := KA.out
  replace BL := hide (BL.out.trans (q1.mono BL.out.size))
  clear q1
  go_wp2_with fail
  refine (gInS l 0 p true G2.out _).mono ?_
  rintro e1 w2 ⟨rfl, q2⟩
  replace KA := hide (KA.out.below q2)
  clear cA0 cA1 cA2 cA3
  obtain ⟨-, cA0, cA1, cA2, cA3⟩ := KA.out
  replace BL := hide (BL.out.trans (q2.mono BL.out.size))
  clear q2
  go_wp2_with fail
  refine (gInS n 0 1000000 false G3.out _).mono ?_
  rintro e1 w3 ⟨rfl, q3⟩
  replace KA := hide (KA.out.below q3)
  clear cA0 cA1 cA2 cA3
  obtain ⟨-, cA0, cA1, cA2, cA3⟩ := KA.out
  replace BL := hide (BL.out.trans (q3.mono BL.out.size))
  clear q3
  go_wp2_with fail
  go_ret
  exact ⟨rfl, BL.out⟩
set_option maxHeartbeats 1000000 in
theorem sSch_no4 (p l m n : Int) (w : World) (hp : bd p) (hl : bd l) (hm : bd m) (hn : bd n)  (g1 : decide (0 ≤ p ∧ p ≤ 16777216) = true) (g2 : decide (0 ≤ l ∧ l ≤ p) = true) (g3 : decide (0 ≤ n ∧ n ≤ 1000000) = true) (g4 : decide (0 ≤ m ∧ m ≤ n) = false) :
    Calls Try.prog 52 #[.agg #[.int .i64 p, .int .i64 l, .int .i64 m, .int .i64 n]] w fun e w' => e = .returned (.bool false) ∧ Below w.heap.size w w' := by
  have Hp := hide hp
  have Hl := hide hl
  have Hm := hide hm
  have Hn := hide hn
  clear hp hl hm hn
  have G1 := hide g1
  have G2 := hide g2
  have G3 := hide g3
  have G4 := hide g4
  clear g1 g2 g3 g4
  obtain ⟨WA, hWA⟩ : ∃ WA, w.alloc (.cells #[.int .i64 p, .int .i64 l, .int .i64 m, .int .i64 n] 25) = WA := ⟨_, rfl⟩
  have nWA : Below w.heap.size w WA := hWA ▸ (Below.refl _ _).alloc (Nat.le_refl _) _
  have mWA : Box4 WA w.heap.size p l m n := hWA ▸ box4_new _ _ _ _ _ _
  have BL : Hid (Below w.heap.size w WA) := hide (nWA)
  have KA := hide (mWA)
  clear nWA mWA
  obtain ⟨-, cA0, cA1, cA2, cA3⟩ := KA.out
  go_enter Try.func52, Try.ntmps52
  go_wp2_with fail
  refine (gInS p 0 16777216 true G1.out _).mono ?_
  rintro e1 w1 ⟨rfl, q1⟩
  replace KA := hide (KA.out.below q1)
  clear cA0 cA1 cA2 cA3
  obtain ⟨-, cA0, cA1, cA2, cA3⟩ := KA.out
  replace BL := hide (BL.out.trans (q1.mono BL.out.size))
  clear q1
  go_wp2_with fail
  refine (gInS l 0 p true G2.out _).mono ?_
  rintro e1 w2 ⟨rfl, q2⟩
  replace KA := hide (KA.out.below q2)
  clear cA0 cA1 cA2 cA3
  obtain ⟨-, cA0, cA1, cA2, cA3⟩ := KA.out
  replace BL := hide (BL.out.trans (q2.mono BL.out.size))
  clear q2
  go_wp2_with fail
  refine (gInS n 0 1000000 true G3.out _).mono ?_
  rintro e1 w3 ⟨rfl, q3⟩
  replace KA := hide (KA.out.below q3)
  clear cA0 cA1 cA2 cA3
  obtain ⟨-, cA0, cA1, cA2, cA3⟩ := KA.out
  replace BL := hide (BL.out.trans (q3.mono BL.out.size))
  clear q3
  go_wp2_with fail
  refine (gInS m 0 n false G4.out _).mono ?_
  rintro e1 w4 ⟨rfl, q4⟩
  replace KA := hide (KA.out.below q4)
  clear cA0 cA1 cA2 cA3
  obtain ⟨-, cA0, cA1, cA2, cA3⟩ := KA.out
  replace BL := hide (BL.out.trans (q4.mono BL.out.size))
  clear q4
  go_wp2_with fail
  go_ret
  exact ⟨rfl, BL.out⟩
set_option maxHeartbeats 1000000 in
theorem sSch_yes (p l m n : Int) (w : World) (hp : bd p) (hl : bd l) (hm : bd m) (hn : bd n)  (g1 : decide (0 ≤ p ∧ p ≤ 16777216) = true) (g2 : decide (0 ≤ l ∧ l ≤ p) = true) (g3 : decide (0 ≤ n ∧ n ≤ 1000000) = true) (g4 : decide (0 ≤ m ∧ m ≤ n) = true) :
    Calls Try.prog 52 #[.agg #[.int .i64 p, .int .i64 l, .int .i64 m, .int .i64 n]] w fun e w' => e = .returned (.bool true) ∧ Below w.heap.size w w' := by
  have Hp := hide hp
  have Hl := hide hl
  have Hm := hide hm
  have Hn := hide hn
  clear hp hl hm hn
  have G1 := hide g1
  have G2 := hide g2
  have G3 := hide g3
  have G4 := hide g4
  clear g1 g2 g3 g4
  obtain ⟨WA, hWA⟩ : ∃ WA, w.alloc (.cells #[.int .i64 p, .int .i64 l, .int .i64 m, .int .i64 n] 25) = WA := ⟨_, rfl⟩
  have nWA : Below w.heap.size w WA := hWA ▸ (Below.refl _ _).alloc (Nat.le_refl _) _
  have mWA : Box4 WA w.heap.size p l m n := hWA ▸ box4_new _ _ _ _ _ _
  have BL : Hid (Below w.heap.size w WA) := hide (nWA)
  have KA := hide (mWA)
  clear nWA mWA
  obtain ⟨-, cA0, cA1, cA2, cA3⟩ := KA.out
  go_enter Try.func52, Try.ntmps52
  go_wp2_with fail
  refine (gInS p 0 16777216 true G1.out _).mono ?_
  rintro e1 w1 ⟨rfl, q1⟩
  replace KA := hide (KA.out.below q1)
  clear cA0 cA1 cA2 cA3
  obtain ⟨-, cA0, cA1, cA2, cA3⟩ := KA.out
  replace BL := hide (BL.out.trans (q1.mono BL.out.size))
  clear q1
  go_wp2_with fail
  refine (gInS l 0 p true G2.out _).mono ?_
  rintro e1 w2 ⟨rfl, q2⟩
  replace KA := hide (KA.out.below q2)
  clear cA0 cA1 cA2 cA3
  obtain ⟨-, cA0, cA1, cA2, cA3⟩ := KA.out
  replace BL := hide (BL.out.trans (q2.mono BL.out.size))
  clear q2
  go_wp2_with fail
  refine (gInS n 0 1000000 true G3.out _).mono ?_
  rintro e1 w3 ⟨rfl, q3⟩
  replace KA := hide (KA.out.below q3)
  clear cA0 cA1 cA2 cA3
  obtain ⟨-, cA0, cA1, cA2, cA3⟩ := KA.out
  replace BL := hide (BL.out.trans (q3.mono BL.out.size))
  clear q3
  go_wp2_with fail
  refine (gInS m 0 n true G4.out _).mono ?_
  rintro e1 w4 ⟨rfl, q4⟩
  replace KA := hide (KA.out.below q4)
  clear cA0 cA1 cA2 cA3
  obtain ⟨-, cA0, cA1, cA2, cA3⟩ := KA.out
  replace BL := hide (BL.out.trans (q4.mono BL.out.size))
  clear q4
  go_wp2_with fail
  go_ret
  exact ⟨rfl, BL.out⟩
set_option maxHeartbeats 1000000 in
theorem iSch_no1 (p l m n : Int) (w : World) (hp : bd p) (hl : bd l) (hm : bd m) (hn : bd n)  (g1 : decide ((0 ≤ p ∧ p ≤ 16777216) ∧ (0 ≤ l ∧ l ≤ 16777216)) = false) :
    Calls Try.prog 47 #[.agg #[.int .i64 p, .int .i64 l, .int .i64 m, .int .i64 n]] w fun e w' => e = .returned (.bool false) ∧ Below w.heap.size w w' := by
  have Hp := hide hp
  have Hl := hide hl
  have Hm := hide hm
  have Hn := hide hn
  clear hp hl hm hn
  have G1 := hide g1
  clear g1
  obtain ⟨WA, hWA⟩ : ∃ WA, w.alloc (.cells #[.int .i64 p, .int .i64 l, .int .i64 m, .int .i64 n] 25) = WA := ⟨_, rfl⟩
  have nWA : Below w.heap.size w WA := hWA ▸ (Below.refl _ _).alloc (Nat.le_refl _) _
  have mWA : Box4 WA w.heap.size p l m n := hWA ▸ box4_new _ _ _ _ _ _
  have BL : Hid (Below w.heap.size w WA) := hide (nWA)
  have KA := hide (mWA)
  clear nWA mWA
  obtain ⟨-, cA0, cA1, cA2, cA3⟩ := KA.out
  go_enter Try.func47, Try.ntmps47
  go_wp2_with fail
  refine (rates_two p l false _ _ Hp.out Hl.out G1.out rfl).mono ?_
  rintro e1 w1 ⟨rfl, q1⟩
  replace KA := hide (KA.out.below q1)
  clear cA0 cA1 cA2 cA3
  obtain ⟨-, cA0, cA1, cA2, cA3⟩ := KA.out
  replace BL := hide (BL.out.trans (q1.mono BL.out.size))
  clear q1
  go_wp2_with fail
  go_ret
  exact ⟨rfl, BL.out⟩
set_option maxHeartbeats 1000000 in
theorem iSch_no2 (p l m n : Int) (w : World) (hp : bd p) (hl : bd l) (hm : bd m) (hn : bd n)  (g1 : decide ((0 ≤ p ∧ p ≤ 16777216) ∧ (0 ≤ l ∧ l ≤ 16777216)) = true) (g2 : decide (l ≤ p) = false) :
    Calls Try.prog 47 #[.agg #[.int .i64 p, .int .i64 l, .int .i64 m, .int .i64 n]] w fun e w' => e = .returned (.bool false) ∧ Below w.heap.size w w' := by
  have Hp := hide hp
  have Hl := hide hl
  have Hm := hide hm
  have Hn := hide hn
  clear hp hl hm hn
  have f2 : decide (l ≤ p) = false := g2
  have G1 := hide g1
  have G2 := hide g2
  clear g1 g2
  obtain ⟨WA, hWA⟩ : ∃ WA, w.alloc (.cells #[.int .i64 p, .int .i64 l, .int .i64 m, .int .i64 n] 25) = WA := ⟨_, rfl⟩
  have nWA : Below w.heap.size w WA := hWA ▸ (Below.refl _ _).alloc (Nat.le_refl _) _
  have mWA : Box4 WA w.heap.size p l m n := hWA ▸ box4_new _ _ _ _ _ _
  have BL : Hid (Below w.heap.size w WA) := hide (nWA)
  have KA := hide (mWA)
  clear nWA mWA
  obtain ⟨-, cA0, cA1, cA2, cA3⟩ := KA.out
  go_enter Try.func47, Try.ntmps47
  go_wp2_with fail
  refine (rates_two p l true _ _ Hp.out Hl.out G1.out rfl).mono ?_
  rintro e1 w1 ⟨rfl, q1⟩
  replace KA := hide (KA.out.below q1)
  clear cA0 cA1 cA2 cA3
  obtain ⟨-, cA0, cA1, cA2, cA3⟩ := KA.out
  replace BL := hide (BL.out.trans (q1.mono BL.out.size))
  clear q1
  go_wp2_with fail
  go_ret
  exact ⟨rfl, BL.out⟩
set_option maxHeartbeats 1000000 in
theorem iSch_no3 (p l m n : Int) (w : World) (hp : bd p) (hl : bd l) (hm : bd m) (hn : bd n)  (g1 : decide ((0 ≤ p ∧ p ≤ 16777216) ∧ (0 ≤ l ∧ l ≤ 16777216)) = true) (g2 : decide (l ≤ p) = true) (g3 : decide ((0 ≤ m ∧ m ≤ 1000000) ∧ (0 ≤ n ∧ n ≤ 1000000)) = false) :
    Calls Try.prog 47 #[.agg #[.int .i64 p, .int .i64 l, .int .i64 m, .int .i64 n]] w fun e w' => e = .returned (.bool false) ∧ Below w.heap.size w w' := by
  have Hp := hide hp
  have Hl := hide hl
  have Hm := hide hm
  have Hn := hide hn
  clear hp hl hm hn
  have f2 : l ≤ p := of_decide_eq_true g2
  have G1 := hide g1
  have G2 := hide g2
  have G3 := hide g3
  clear g1 g2 g3
  obtain ⟨WA, hWA⟩ : ∃ WA, w.alloc (.cells #[.int .i64 p, .int .i64 l, .int .i64 m, .int .i64 n] 25) = WA := ⟨_, rfl⟩
  have nWA : Below w.heap.size w WA := hWA ▸ (Below.refl _ _).alloc (Nat.le_refl _) _
  have mWA : Box4 WA w.heap.size p l m n := hWA ▸ box4_new _ _ _ _ _ _
  have BL : Hid (Below w.heap.size w WA) := hide (nWA)
  have KA := hide (mWA)
  clear nWA mWA
  obtain ⟨-, cA0, cA1, cA2, cA3⟩ := KA.out
  go_enter Try.func47, Try.ntmps47
  go_wp2_with fail
  refine (rates_two p l true _ _ Hp.out Hl.out G1.out rfl).mono ?_
  rintro e1 w1 ⟨rfl, q1⟩
  replace KA := hide (KA.out.below q1)
  clear cA0 cA1 cA2 cA3
  obtain ⟨-, cA0, cA1, cA2, cA3⟩ := KA.out
  replace BL := hide (BL.out.trans (q1.mono BL.out.size))
  clear q1
  go_wp2_with fail
  refine (steps_two m n false _ _ Hm.out Hn.out G3.out rfl).mono ?_
  rintro e1 w3 ⟨rfl, q3⟩
  replace KA := hide (KA.out.below q3)
  clear cA0 cA1 cA2 cA3
  obtain ⟨-, cA0, cA1, cA2, cA3⟩ := KA.out
  replace BL := hide (BL.out.trans (q3.mono BL.out.size))
  clear q3
  go_wp2_with fail
  go_ret
  exact ⟨rfl, BL.out⟩
set_option maxHeartbeats 1000000 in
theorem iSch_no4 (p l m n : Int) (w : World) (hp : bd p) (hl : bd l) (hm : bd m) (hn : bd n)  (g1 : decide ((0 ≤ p ∧ p ≤ 16777216) ∧ (0 ≤ l ∧ l ≤ 16777216)) = true) (g2 : decide (l ≤ p) = true) (g3 : decide ((0 ≤ m ∧ m ≤ 1000000) ∧ (0 ≤ n ∧ n ≤ 1000000)) = true) (g4 : decide (m ≤ n) = false) :
    Calls Try.prog 47 #[.agg #[.int .i64 p, .int .i64 l, .int .i64 m, .int .i64 n]] w fun e w' => e = .returned (.bool false) ∧ Below w.heap.size w w' := by
  have Hp := hide hp
  have Hl := hide hl
  have Hm := hide hm
  have Hn := hide hn
  clear hp hl hm hn
  have f2 : l ≤ p := of_decide_eq_true g2
  have f4 : decide (m ≤ n) = false := g4
  have G1 := hide g1
  have G2 := hide g2
  have G3 := hide g3
  have G4 := hide g4
  clear g1 g2 g3 g4
  obtain ⟨WA, hWA⟩ : ∃ WA, w.alloc (.cells #[.int .i64 p, .int .i64 l, .int .i64 m, .int .i64 n] 25) = WA := ⟨_, rfl⟩
  have nWA : Below w.heap.size w WA := hWA ▸ (Below.refl _ _).alloc (Nat.le_refl _) _
  have mWA : Box4 WA w.heap.size p l m n := hWA ▸ box4_new _ _ _ _ _ _
  have BL : Hid (Below w.heap.size w WA) := hide (nWA)
  have KA := hide (mWA)
  clear nWA mWA
  obtain ⟨-, cA0, cA1, cA2, cA3⟩ := KA.out
  go_enter Try.func47, Try.ntmps47
  go_wp2_with fail
  refine (rates_two p l true _ _ Hp.out Hl.out G1.out rfl).mono ?_
  rintro e1 w1 ⟨rfl, q1⟩
  replace KA := hide (KA.out.below q1)
  clear cA0 cA1 cA2 cA3
  obtain ⟨-, cA0, cA1, cA2, cA3⟩ := KA.out
  replace BL := hide (BL.out.trans (q1.mono BL.out.size))
  clear q1
  go_wp2_with fail
  refine (steps_two m n true _ _ Hm.out Hn.out G3.out rfl).mono ?_
  rintro e1 w3 ⟨rfl, q3⟩
  replace KA := hide (KA.out.below q3)
  clear cA0 cA1 cA2 cA3
  obtain ⟨-, cA0, cA1, cA2, cA3⟩ := KA.out
  replace BL := hide (BL.out.trans (q3.mono BL.out.size))
  clear q3
  go_wp2_with fail
  go_ret
  exact ⟨rfl, BL.out⟩
set_option maxHeartbeats 1000000 in
theorem iSch_yes (p l m n : Int) (w : World) (hp : bd p) (hl : bd l) (hm : bd m) (hn : bd n)  (g1 : decide ((0 ≤ p ∧ p ≤ 16777216) ∧ (0 ≤ l ∧ l ≤ 16777216)) = true) (g2 : decide (l ≤ p) = true) (g3 : decide ((0 ≤ m ∧ m ≤ 1000000) ∧ (0 ≤ n ∧ n ≤ 1000000)) = true) (g4 : decide (m ≤ n) = true) :
    Calls Try.prog 47 #[.agg #[.int .i64 p, .int .i64 l, .int .i64 m, .int .i64 n]] w fun e w' => e = .returned (.bool true) ∧ Below w.heap.size w w' := by
  have Hp := hide hp
  have Hl := hide hl
  have Hm := hide hm
  have Hn := hide hn
  clear hp hl hm hn
  have f2 : l ≤ p := of_decide_eq_true g2
  have f4 : m ≤ n := of_decide_eq_true g4
  have G1 := hide g1
  have G2 := hide g2
  have G3 := hide g3
  have G4 := hide g4
  clear g1 g2 g3 g4
  obtain ⟨WA, hWA⟩ : ∃ WA, w.alloc (.cells #[.int .i64 p, .int .i64 l, .int .i64 m, .int .i64 n] 25) = WA := ⟨_, rfl⟩
  have nWA : Below w.heap.size w WA := hWA ▸ (Below.refl _ _).alloc (Nat.le_refl _) _
  have mWA : Box4 WA w.heap.size p l m n := hWA ▸ box4_new _ _ _ _ _ _
  have BL : Hid (Below w.heap.size w WA) := hide (nWA)
  have KA := hide (mWA)
  clear nWA mWA
  obtain ⟨-, cA0, cA1, cA2, cA3⟩ := KA.out
  go_enter Try.func47, Try.ntmps47
  go_wp2_with fail
  refine (rates_two p l true _ _ Hp.out Hl.out G1.out rfl).mono ?_
  rintro e1 w1 ⟨rfl, q1⟩
  replace KA := hide (KA.out.below q1)
  clear cA0 cA1 cA2 cA3
  obtain ⟨-, cA0, cA1, cA2, cA3⟩ := KA.out
  replace BL := hide (BL.out.trans (q1.mono BL.out.size))
  clear q1
  go_wp2_with fail
  refine (steps_two m n true _ _ Hm.out Hn.out G3.out rfl).mono ?_
  rintro e1 w3 ⟨rfl, q3⟩
  replace KA := hide (KA.out.below q3)
  clear cA0 cA1 cA2 cA3
  obtain ⟨-, cA0, cA1, cA2, cA3⟩ := KA.out
  replace BL := hide (BL.out.trans (q3.mono BL.out.size))
  clear q3
  go_wp2_with fail
  go_ret
  exact ⟨rfl, BL.out⟩
theorem specSched (p l m n : Int) (w : World) (hp : bd p) (hl : bd l) (hm : bd m) (hn : bd n) :
    Calls Try.prog 52 #[.agg #[.int .i64 p, .int .i64 l, .int .i64 m, .int .i64 n]] w fun e w' => e = .returned (.bool (schOk p l m n)) ∧ Below w.heap.size w w' := by
  cases g1 : decide (0 ≤ p ∧ p ≤ 16777216)
  · rw [show schOk p l m n = false from decide_eq_false (fun h => of_decide_eq_false g1 (by omega))]
    exact sSch_no1 p l m n w hp hl hm hn g1
  cases g2 : decide (0 ≤ l ∧ l ≤ p)
  · rw [show schOk p l m n = false from decide_eq_false (fun h => of_decide_eq_false g2 (by omega))]
    exact sSch_no2 p l m n w hp hl hm hn g1 g2
  cases g3 : decide (0 ≤ n ∧ n ≤ 1000000)
  · rw [show schOk p l m n = false from decide_eq_false (fun h => of_decide_eq_false g3 (by omega))]
    exact sSch_no3 p l m n w hp hl hm hn g1 g2 g3
  cases g4 : decide (0 ≤ m ∧ m ≤ n)
  · rw [show schOk p l m n = false from decide_eq_false (fun h => of_decide_eq_false g4 (by omega))]
    exact sSch_no4 p l m n w hp hl hm hn g1 g2 g3 g4
  have f1 := of_decide_eq_true g1
  have f2 := of_decide_eq_true g2
  have f3 := of_decide_eq_true g3
  have f4 := of_decide_eq_true g4
  rw [show schOk p l m n = true from decide_eq_true (by omega)]
  exact sSch_yes p l m n w hp hl hm hn g1 g2 g3 g4
theorem gSchS (p l m n : Int) (b : Bool) (hp : bd p) (hl : bd l) (hm : bd m) (hn : bd n) (hb : schOk p l m n = b) (w : World) :
    Calls Try.prog 52 #[.agg #[.int .i64 p, .int .i64 l, .int .i64 m, .int .i64 n]] w fun e w' => e = .returned (.bool b) ∧ Below w.heap.size w w' := by
  rw [← hb]; exact specSched p l m n w hp hl hm hn
theorem implSched (p l m n : Int) (w : World) (hp : bd p) (hl : bd l) (hm : bd m) (hn : bd n) :
    Calls Try.prog 47 #[.agg #[.int .i64 p, .int .i64 l, .int .i64 m, .int .i64 n]] w fun e w' => e = .returned (.bool (schOk p l m n)) ∧ Below w.heap.size w w' := by
  cases g1 : decide ((0 ≤ p ∧ p ≤ 16777216) ∧ (0 ≤ l ∧ l ≤ 16777216))
  · rw [show schOk p l m n = false from decide_eq_false (fun h => of_decide_eq_false g1 (by omega))]
    exact iSch_no1 p l m n w hp hl hm hn g1
  cases g2 : decide (l ≤ p)
  · rw [show schOk p l m n = false from decide_eq_false (fun h => of_decide_eq_false g2 (by omega))]
    exact iSch_no2 p l m n w hp hl hm hn g1 g2
  cases g3 : decide ((0 ≤ m ∧ m ≤ 1000000) ∧ (0 ≤ n ∧ n ≤ 1000000))
  · rw [show schOk p l m n = false from decide_eq_false (fun h => of_decide_eq_false g3 (by omega))]
    exact iSch_no3 p l m n w hp hl hm hn g1 g2 g3
  cases g4 : decide (m ≤ n)
  · rw [show schOk p l m n = false from decide_eq_false (fun h => of_decide_eq_false g4 (by omega))]
    exact iSch_no4 p l m n w hp hl hm hn g1 g2 g3 g4
  have f1 := of_decide_eq_true g1
  have f2 := of_decide_eq_true g2
  have f3 := of_decide_eq_true g3
  have f4 := of_decide_eq_true g4
  rw [show schOk p l m n = true from decide_eq_true (by omega)]
  exact iSch_yes p l m n w hp hl hm hn g1 g2 g3 g4
theorem gSchI (p l m n : Int) (b : Bool) (hp : bd p) (hl : bd l) (hm : bd m) (hn : bd n) (hb : schOk p l m n = b) (w : World) :
    Calls Try.prog 47 #[.agg #[.int .i64 p, .int .i64 l, .int .i64 m, .int .i64 n]] w fun e w' => e = .returned (.bool b) ∧ Below w.heap.size w w' := by
  rw [← hb]; exact implSched p l m n w hp hl hm hn
theorem mul_pt {p t : Int} (p0 : 0 ≤ p) (p1 : p ≤ 16777216) (t0 : 0 ≤ t) (t1 : t ≤ 1000001) : 0 ≤ p * t ∧ p * t ≤ 16777232777216 := by
  refine ⟨Int.mul_nonneg p0 t0, ?_⟩
  calc p * t ≤ 16777216 * t := Int.mul_le_mul_of_nonneg_right p1 t0
    _ ≤ 16777232777216 := by omega
/-- what is rounded of at most K times d lies in 0 .. K -/
theorem near_rng {n d K r : Int} (n0 : 0 ≤ n) (d0 : 1 ≤ d) (K0 : 0 ≤ K) (h : n ≤ K * d) (hr : r = if n.tmod d < 0 then Nea.rd (n.tdiv d - 1) (n.tmod d + d) d else Nea.rd (n.tdiv d) (n.tmod d) d) : 0 ≤ r ∧ r ≤ K := by
  have e1 : n.tdiv d = n / d := Int.tdiv_eq_ediv_of_nonneg n0
  have e2 : n.tmod d = n % d := Int.tmod_eq_emod_of_nonneg n0
  have m0 := Int.emod_nonneg n (show d ≠ 0 by omega)
  have q0 : 0 ≤ n / d := Int.ediv_nonneg n0 (by omega)
  have q1 : n / d ≤ K := Int.ediv_le_of_le_mul (by omega) h
  have q2 : n % d = n - n / d * d := by rw [Int.emod_def, Int.mul_comm]
  rw [e1, e2, if_neg (by omega)] at hr
  unfold Nea.rd at hr
  by_cases c : n / d = K
  · have : n % d = 0 := by rw [c] at q2; omega
    rw [this, if_neg (by omega)] at hr
    omega
  · split at hr <;> omega
set_option maxHeartbeats 1000000 in
theorem sRate_no1 (p l m n t : Int) (w : World) (hp : bd p) (hl : bd l) (hm : bd m) (hn : bd n) (ht : bd t)  (g1 : schOk p l m n = false) :
    Calls Try.prog 35 #[.agg #[.int .i64 p, .int .i64 l, .int .i64 m, .int .i64 n], .int .i64 t] w fun e w' => e = .returned (.int .i64 0) ∧ Below w.heap.size w w' := by
  have Ht := hide ht
  clear ht
  have Hp := hide hp
  have Hl := hide hl
  have Hm := hide hm
  have Hn := hide hn
  clear hp hl hm hn
  have G1 := hide g1
  clear g1
  obtain ⟨WA, hWA⟩ : ∃ WA, w.alloc (.cells #[.int .i64 p, .int .i64 l, .int .i64 m, .int .i64 n] 25) = WA := ⟨_, rfl⟩
  have nWA : Below w.heap.size w WA := hWA ▸ (Below.refl _ _).alloc (Nat.le_refl _) _
  have mWA : Box4 WA w.heap.size p l m n := hWA ▸ box4_new _ _ _ _ _ _
  have BL : Hid (Below w.heap.size w WA) := hide (nWA)
  have KA := hide (mWA)
  clear nWA mWA
  obtain ⟨-, cA0, cA1, cA2, cA3⟩ := KA.out
  go_enter Try.func35, Try.ntmps35
  go_wp2_with fail
  refine (gSchS p l m n false Hp.out Hl.out Hm.out Hn.out G1.out _).mono ?_
  rintro e1 w1 ⟨rfl, q1⟩
  replace KA := hide (KA.out.below q1)
  clear cA0 cA1 cA2 cA3
  obtain ⟨-, cA0, cA1, cA2, cA3⟩ := KA.out
  replace BL := hide (BL.out.trans (q1.mono BL.out.size))
  clear q1
  go_wp2_with fail
  go_ret
  exact ⟨rfl, BL.out⟩
set_option maxHeartbeats 1000000 in
theorem sRate_no2 (p l m n t : Int) (w : World) (hp : bd p) (hl : bd l) (hm : bd m) (hn : bd n) (ht : bd t)  (g1 : schOk p l m n = true) (g2 : decide (0 ≤ t ∧ t ≤ 10000000) = false) :
    Calls Try.prog 35 #[.agg #[.int .i64 p, .int .i64 l, .int .i64 m, .int .i64 n], .int .i64 t] w fun e w' => e = .returned (.int .i64 0) ∧ Below w.heap.size w w' := by
  have Ht := hide ht
  clear ht
  have Hp := hide hp
  have Hl := hide hl
  have Hm := hide hm
  have Hn := hide hn
  clear hp hl hm hn
  have G1 := hide g1
  have G2 := hide g2
  clear g1 g2
  obtain ⟨WA, hWA⟩ : ∃ WA, w.alloc (.cells #[.int .i64 p, .int .i64 l, .int .i64 m, .int .i64 n] 25) = WA := ⟨_, rfl⟩
  have nWA : Below w.heap.size w WA := hWA ▸ (Below.refl _ _).alloc (Nat.le_refl _) _
  have mWA : Box4 WA w.heap.size p l m n := hWA ▸ box4_new _ _ _ _ _ _
  have BL : Hid (Below w.heap.size w WA) := hide (nWA)
  have KA := hide (mWA)
  clear nWA mWA
  obtain ⟨-, cA0, cA1, cA2, cA3⟩ := KA.out
  go_enter Try.func35, Try.ntmps35
  go_wp2_with fail
  refine (gSchS p l m n true Hp.out Hl.out Hm.out Hn.out G1.out _).mono ?_
  rintro e1 w1 ⟨rfl, q1⟩
  replace KA := hide (KA.out.below q1)
  clear cA0 cA1 cA2 cA3
  obtain ⟨-, cA0, cA1, cA2, cA3⟩ := KA.out
  replace BL := hide (BL.out.trans (q1.mono BL.out.size))
  clear q1
  go_wp2_with fail
  refine (gInS t 0 10000000 false G2.out _).mono ?_
  rintro e1 w2 ⟨rfl, q2⟩
  replace KA := hide (KA.out.below q2)
  clear cA0 cA1 cA2 cA3
  obtain ⟨-, cA0, cA1, cA2, cA3⟩ := KA.out
  replace BL := hide (BL.out.trans (q2.mono BL.out.size))
  clear q2
  go_wp2_with fail
  go_ret
  exact ⟨rfl, BL.out⟩
set_option maxHeartbeats 1000000 in
theorem sRate_yes1 (p l m n t : Int) (w : World) (hp : bd p) (hl : bd l) (hm : bd m) (hn : bd n) (ht : bd t) (r : Int) (c1 : t < m) (t2 : t ≤ 1000000) (t3 : 0 ≤ t) (p0 : 0 ≤ p * (t + 1)) (p1 : p * (t + 1) ≤ 16777232777216) (hN : ∀ w, Calls Try.prog 33 #[.int .i64 (p * (t + 1)), .int .i64 m] w fun e w' => e = .returned (.int .i64 r) ∧ Below w.heap.size w w') (g1 : schOk p l m n = true) (g2 : decide (0 ≤ t ∧ t ≤ 10000000) = true) :
    Calls Try.prog 35 #[.agg #[.int .i64 p, .int .i64 l, .int .i64 m, .int .i64 n], .int .i64 t] w fun e w' => e = .returned (.int .i64 r) ∧ Below w.heap.size w w' := by
  have HN := hide hN
  clear hN
  have Ht := hide ht
  clear ht
  have Hp := hide hp
  have Hl := hide hl
  have Hm := hide hm
  have Hn := hide hn
  clear hp hl hm hn
  have G1 := hide g1
  have G2 := hide g2
  clear g1 g2
  obtain ⟨WA, hWA⟩ : ∃ WA, w.alloc (.cells #[.int .i64 p, .int .i64 l, .int .i64 m, .int .i64 n] 25) = WA := ⟨_, rfl⟩
  have nWA : Below w.heap.size w WA := hWA ▸ (Below.refl _ _).alloc (Nat.le_refl _) _
  have mWA : Box4 WA w.heap.size p l m n := hWA ▸ box4_new _ _ _ _ _ _
  have BL : Hid (Below w.heap.size w WA) := hide (nWA)
  have KA := hide (mWA)
  clear nWA mWA
  obtain ⟨-, cA0, cA1, cA2, cA3⟩ := KA.out
  go_enter Try.func35, Try.ntmps35
  go_wp2_with fail
  refine (gSchS p l m n true Hp.out Hl.out Hm.out Hn.out G1.out _).mono ?_
  rintro e1 w1 ⟨rfl, q1⟩
  replace KA := hide (KA.out.below q1)
  clear cA0 cA1 cA2 cA3
  obtain ⟨-, cA0, cA1, cA2, cA3⟩ := KA.out
  replace BL := hide (BL.out.trans (q1.mono BL.out.size))
  clear q1
  go_wp2_with fail
  refine (gInS t 0 10000000 true G2.out _).mono ?_
  rintro e1 w2 ⟨rfl, q2⟩
  replace KA := hide (KA.out.below q2)
  clear cA0 cA1 cA2 cA3
  obtain ⟨-, cA0, cA1, cA2, cA3⟩ := KA.out
  replace BL := hide (BL.out.trans (q2.mono BL.out.size))
  clear q2
  go_wp2_with fail
  refine (HN.out _).mono ?_
  rintro e1 w3 ⟨rfl, q3⟩
  replace KA := hide (KA.out.below q3)
  clear cA0 cA1 cA2 cA3
  obtain ⟨-, cA0, cA1, cA2, cA3⟩ := KA.out
  replace BL := hide (BL.out.trans (q3.mono BL.out.size))
  clear q3
  go_wp2_with fail
  go_ret
  exact ⟨rfl, BL.out⟩
set_option maxHeartbeats 1000000 in
theorem sRate_yes2 (p l m n t : Int) (w : World) (hp : bd p) (hl : bd l) (hm : bd m) (hn : bd n) (ht : bd t) (r A B C D E : Int) (c1 : decide (t < m) = false) (c2 : t < n) (hA : IntKind.i64.wrap (p - l) = A) (hB : IntKind.i64.wrap (t - m) = B) (hC : IntKind.i64.wrap (n - m) = C) (hD : IntKind.i64.wrap (A * B) = D) (hE : IntKind.i64.wrap (p - r) = E) (hN : ∀ w, Calls Try.prog 33 #[.int .i64 (D), .int .i64 C] w fun e w' => e = .returned (.int .i64 r) ∧ Below w.heap.size w w') (g1 : schOk p l m n = true) (g2 : decide (0 ≤ t ∧ t ≤ 10000000) = true) :
    Calls Try.prog 35 #[.agg #[.int .i64 p, .int .i64 l, .int .i64 m, .int .i64 n], .int .i64 t] w fun e w' => e = .returned (.int .i64 E) ∧ Below w.heap.size w w' := by
  have HN := hide hN
  clear hN
  have Ht := hide ht
  clear ht
  have Hp := hide hp
  have Hl := hide hl
  have Hm := hide hm
  have Hn := hide hn
  clear hp hl hm hn
  have G1 := hide g1
  have G2 := hide g2
  clear g1 g2
  obtain ⟨WA, hWA⟩ : ∃ WA, w.alloc (.cells #[.int .i64 p, .int .i64 l, .int .i64 m, .int .i64 n] 25) = WA := ⟨_, rfl⟩
  have nWA : Below w.heap.size w WA := hWA ▸ (Below.refl _ _).alloc (Nat.le_refl _) _
  have mWA : Box4 WA w.heap.size p l m n := hWA ▸ box4_new _ _ _ _ _ _
  have BL : Hid (Below w.heap.size w WA) := hide (nWA)
  have KA := hide (mWA)
  clear nWA mWA
  obtain ⟨-, cA0, cA1, cA2, cA3⟩ := KA.out
  go_enter Try.func35, Try.ntmps35
  go_wp2_with fail
  refine (gSchS p l m n true Hp.out Hl.out Hm.out Hn.out G1.out _).mono ?_
  rintro e1 w1 ⟨rfl, q1⟩
  replace KA := hide (KA.out.below q1)
  clear cA0 cA1 cA2 cA3
  obtain ⟨-, cA0, cA1, cA2, cA3⟩ := KA.out
  replace BL := hide (BL.out.trans (q1.mono BL.out.size))
  clear q1
  go_wp2_with fail
  refine (gInS t 0 10000000 true G2.out _).mono ?_
  rintro e1 w2 ⟨rfl, q2⟩
  replace KA := hide (KA.out.below q2)
  clear cA0 cA1 cA2 cA3
  obtain ⟨-, cA0, cA1, cA2, cA3⟩ := KA.out
  replace BL := hide (BL.out.trans (q2.mono BL.out.size))
  clear q2
  have CN := hide (fun d os => Calls.regrown_of (d := d) (os := os) (w := w2) (HN.out _))
  go_wp2_with fail
  have kcA0 := cell_regrown cA0
  have kcA1 := cell_regrown cA1
  have kcA2 := cell_regrown cA2
  have kcA3 := cell_regrown cA3
  clear cA0 cA1 cA2 cA3
  refine wp_region_quiet_below (by kernel_rfl) (by kernel_rfl) ?_
  repeat (go_big_quiet_step (first | (go_at_call 33; exact CN.out _ _)))
  refine wpQuiet_nil ?_
  intro _ hw'
  obtain ⟨⟨dq, osq⟩, hw''⟩ := hw'
  subst hw''
  go_wp2_with fail
  go_ret
  exact ⟨rfl, BL.out.trans ((below_regrown _ dq osq).mono BL.out.size)⟩
set_option maxHeartbeats 1000000 in
theorem sRate_yes3 (p l m n t : Int) (w : World) (hp : bd p) (hl : bd l) (hm : bd m) (hn : bd n) (ht : bd t) (c1 : decide (t < m) = false) (c2 : decide (t < n) = false) (g1 : schOk p l m n = true) (g2 : decide (0 ≤ t ∧ t ≤ 10000000) = true) :
    Calls Try.prog 35 #[.agg #[.int .i64 p, .int .i64 l, .int .i64 m, .int .i64 n], .int .i64 t] w fun e w' => e = .returned (.int .i64 l) ∧ Below w.heap.size w w' := by
  have Ht := hide ht
  clear ht
  have Hp := hide hp
  have Hl := hide hl
  have Hm := hide hm
  have Hn := hide hn
  clear hp hl hm hn
  have G1 := hide g1
  have G2 := hide g2
  clear g1 g2
  obtain ⟨WA, hWA⟩ : ∃ WA, w.alloc (.cells #[.int .i64 p, .int .i64 l, .int .i64 m, .int .i64 n] 25) = WA := ⟨_, rfl⟩
  have nWA : Below w.heap.size w WA := hWA ▸ (Below.refl _ _).alloc (Nat.le_refl _) _
  have mWA : Box4 WA w.heap.size p l m n := hWA ▸ box4_new _ _ _ _ _ _
  have BL : Hid (Below w.heap.size w WA) := hide (nWA)
  have KA := hide (mWA)
  clear nWA mWA
  obtain ⟨-, cA0, cA1, cA2, cA3⟩ := KA.out
  go_enter Try.func35, Try.ntmps35
  go_wp2_with fail
  refine (gSchS p l m n true Hp.out Hl.out Hm.out Hn.out G1.out _).mono ?_
  rintro e1 w1 ⟨rfl, q1⟩
  replace KA := hide (KA.out.below q1)
  clear cA0 cA1 cA2 cA3
  obtain ⟨-, cA0, cA1, cA2, cA3⟩ := KA.out
  replace BL := hide (BL.out.trans (q1.mono BL.out.size))
  clear q1
  go_wp2_with fail
  refine (gInS t 0 10000000 true G2.out _).mono ?_
  rintro e1 w2 ⟨rfl, q2⟩
  replace KA := hide (KA.out.below q2)
  clear cA0 cA1 cA2 cA3
  obtain ⟨-, cA0, cA1, cA2, cA3⟩ := KA.out
  replace BL := hide (BL.out.trans (q2.mono BL.out.size))
  clear q2
  go_wp2_with fail
  go_ret
  exact ⟨rfl, BL.out⟩
set_option maxHeartbeats 1000000 in
theorem iRate_no1 (p l m n t : Int) (w : World) (hp : bd p) (hl : bd l) (hm : bd m) (hn : bd n) (ht : bd t)  (g1 : schOk p l m n = false) :
    Calls Try.prog 63 #[.agg #[.int .i64 p, .int .i64 l, .int .i64 m, .int .i64 n], .int .i64 t] w fun e w' => e = .returned (.int .i64 0) ∧ Below w.heap.size w w' := by
  have Ht := hide ht
  clear ht
  have Hp := hide hp
  have Hl := hide hl
  have Hm := hide hm
  have Hn := hide hn
  clear hp hl hm hn
  have G1 := hide g1
  clear g1
  obtain ⟨WA, hWA⟩ : ∃ WA, w.alloc (.cells #[.int .i64 p, .int .i64 l, .int .i64 m, .int .i64 n] 25) = WA := ⟨_, rfl⟩
  have nWA : Below w.heap.size w WA := hWA ▸ (Below.refl _ _).alloc (Nat.le_refl _) _
  have mWA : Box4 WA w.heap.size p l m n := hWA ▸ box4_new _ _ _ _ _ _
  have BL : Hid (Below w.heap.size w WA) := hide (nWA)
  have KA := hide (mWA)
  clear nWA mWA
  obtain ⟨-, cA0, cA1, cA2, cA3⟩ := KA.out
  go_enter Try.func63, Try.ntmps63
  go_wp2_with fail
  refine (gSchI p l m n false Hp.out Hl.out Hm.out Hn.out G1.out _).mono ?_
  rintro e1 w1 ⟨rfl, q1⟩
  replace KA := hide (KA.out.below q1)
  clear cA0 cA1 cA2 cA3
  obtain ⟨-, cA0, cA1, cA2, cA3⟩ := KA.out
  replace BL := hide (BL.out.trans (q1.mono BL.out.size))
  clear q1
  go_wp2_with fail
  go_ret
  exact ⟨rfl, BL.out⟩
set_option maxHeartbeats 1000000 in
theorem iRate_no2 (p l m n t : Int) (w : World) (hp : bd p) (hl : bd l) (hm : bd m) (hn : bd n) (ht : bd t)  (g1 : schOk p l m n = true) (g2 : decide (0 ≤ t ∧ t ≤ 10000000) = false) :
    Calls Try.prog 63 #[.agg #[.int .i64 p, .int .i64 l, .int .i64 m, .int .i64 n], .int .i64 t] w fun e w' => e = .returned (.int .i64 0) ∧ Below w.heap.size w w' := by
  have Ht := hide ht
  clear ht
  have Hp := hide hp
  have Hl := hide hl
  have Hm := hide hm
  have Hn := hide hn
  clear hp hl hm hn
  have G1 := hide g1
  have G2 := hide g2
  clear g1 g2
  obtain ⟨WA, hWA⟩ : ∃ WA, w.alloc (.cells #[.int .i64 p, .int .i64 l, .int .i64 m, .int .i64 n] 25) = WA := ⟨_, rfl⟩
  have nWA : Below w.heap.size w WA := hWA ▸ (Below.refl _ _).alloc (Nat.le_refl _) _
  have mWA : Box4 WA w.heap.size p l m n := hWA ▸ box4_new _ _ _ _ _ _
  have BL : Hid (Below w.heap.size w WA) := hide (nWA)
  have KA := hide (mWA)
  clear nWA mWA
  obtain ⟨-, cA0, cA1, cA2, cA3⟩ := KA.out
  go_enter Try.func63, Try.ntmps63
  go_wp2_with fail
  refine (gSchI p l m n true Hp.out Hl.out Hm.out Hn.out G1.out _).mono ?_
  rintro e1 w1 ⟨rfl, q1⟩
  replace KA := hide (KA.out.below q1)
  clear cA0 cA1 cA2 cA3
  obtain ⟨-, cA0, cA1, cA2, cA3⟩ := KA.out
  replace BL := hide (BL.out.trans (q1.mono BL.out.size))
  clear q1
  go_wp2_with fail
  refine (inB_one 0 10000000 t false _ _ (by decide) Ht.out G2.out rfl).mono ?_
  rintro e1 w2 ⟨rfl, q2⟩
  replace KA := hide (KA.out.below q2)
  clear cA0 cA1 cA2 cA3
  obtain ⟨-, cA0, cA1, cA2, cA3⟩ := KA.out
  replace BL := hide (BL.out.trans (q2.mono BL.out.size))
  clear q2
  go_wp2_with fail
  go_ret
  exact ⟨rfl, BL.out⟩
set_option maxHeartbeats 1000000 in
theorem iRate_yes1 (p l m n t : Int) (w : World) (hp : bd p) (hl : bd l) (hm : bd m) (hn : bd n) (ht : bd t) (r : Int) (c1 : t < m) (t2 : t ≤ 1000000) (t3 : 0 ≤ t) (p0 : 0 ≤ p * (t + 1)) (p1 : p * (t + 1) ≤ 16777232777216) (hN : ∀ w, Calls Try.prog 68 #[.int .i64 (p * (t + 1)), .int .i64 m] w fun e w' => e = .returned (.int .i64 r) ∧ Below w.heap.size w w') (g1 : schOk p l m n = true) (g2 : decide (0 ≤ t ∧ t ≤ 10000000) = true) :
    Calls Try.prog 63 #[.agg #[.int .i64 p, .int .i64 l, .int .i64 m, .int .i64 n], .int .i64 t] w fun e w' => e = .returned (.int .i64 r) ∧ Below w.heap.size w w' := by
  have HN := hide hN
  clear hN
  have Ht := hide ht
  clear ht
  have Hp := hide hp
  have Hl := hide hl
  have Hm := hide hm
  have Hn := hide hn
  clear hp hl hm hn
  have G1 := hide g1
  have G2 := hide g2
  clear g1 g2
  obtain ⟨WA, hWA⟩ : ∃ WA, w.alloc (.cells #[.int .i64 p, .int .i64 l, .int .i64 m, .int .i64 n] 25) = WA := ⟨_, rfl⟩
  have nWA : Below w.heap.size w WA := hWA ▸ (Below.refl _ _).alloc (Nat.le_refl _) _
  have mWA : Box4 WA w.heap.size p l m n := hWA ▸ box4_new _ _ _ _ _ _
  have BL : Hid (Below w.heap.size w WA) := hide (nWA)
  have KA := hide (mWA)
  clear nWA mWA
  obtain ⟨-, cA0, cA1, cA2, cA3⟩ := KA.out
  go_enter Try.func63, Try.ntmps63
  go_wp2_with fail
  refine (gSchI p l m n true Hp.out Hl.out Hm.out Hn.out G1.out _).mono ?_
  rintro e1 w1 ⟨rfl, q1⟩
  replace KA := hide (KA.out.below q1)
  clear cA0 cA1 cA2 cA3
  obtain ⟨-, cA0, cA1, cA2, cA3⟩ := KA.out
  replace BL := hide (BL.out.trans (q1.mono BL.out.size))
  clear q1
  go_wp2_with fail
  refine (inB_one 0 10000000 t true _ _ (by decide) Ht.out G2.out rfl).mono ?_
  rintro e1 w2 ⟨rfl, q2⟩
  replace KA := hide (KA.out.below q2)
  clear cA0 cA1 cA2 cA3
  obtain ⟨-, cA0, cA1, cA2, cA3⟩ := KA.out
  replace BL := hide (BL.out.trans (q2.mono BL.out.size))
  clear q2
  go_wp2_with fail
  refine (HN.out _).mono ?_
  rintro e1 w3 ⟨rfl, q3⟩
  replace KA := hide (KA.out.below q3)
  clear cA0 cA1 cA2 cA3
  obtain ⟨-, cA0, cA1, cA2, cA3⟩ := KA.out
  replace BL := hide (BL.out.trans (q3.mono BL.out.size))
  clear q3
  go_wp2_with fail
  go_ret
  exact ⟨rfl, BL.out⟩
set_option maxHeartbeats 1000000 in
theorem iRate_yes2 (p l m n t : Int) (w : World) (hp : bd p) (hl : bd l) (hm : bd m) (hn : bd n) (ht : bd t) (r A B C D E : Int) (c1 : decide (t < m) = false) (c2 : t < n) (hA : IntKind.i64.wrap (p - l) = A) (hB : IntKind.i64.wrap (t - m) = B) (hC : IntKind.i64.wrap (n - m) = C) (hD : IntKind.i64.wrap (A * B) = D) (hE : IntKind.i64.wrap (p - r) = E) (hN : ∀ w, Calls Try.prog 68 #[.int .i64 (D), .int .i64 C] w fun e w' => e = .returned (.int .i64 r) ∧ Below w.heap.size w w') (g1 : schOk p l m n = true) (g2 : decide (0 ≤ t ∧ t ≤ 10000000) = true) :
    Calls Try.prog 63 #[.agg #[.int .i64 p, .int .i64 l, .int .i64 m, .int .i64 n], .int .i64 t] w fun e w' => e = .returned (.int .i64 E) ∧ Below w.heap.size w w' := by
  have HN := hide hN
  clear hN
  have Ht := hide ht
  clear ht
  have Hp := hide hp
  have Hl := hide hl
  have Hm := hide hm
  have Hn := hide hn
  clear hp hl hm hn
  have G1 := hide g1
  have G2 := hide g2
  clear g1 g2
  obtain ⟨WA, hWA⟩ : ∃ WA, w.alloc (.cells #[.int .i64 p, .int .i64 l, .int .i64 m, .int .i64 n] 25) = WA := ⟨_, rfl⟩
  have nWA : Below w.heap.size w WA := hWA ▸ (Below.refl _ _).alloc (Nat.le_refl _) _
  have mWA : Box4 WA w.heap.size p l m n := hWA ▸ box4_new _ _ _ _ _ _
  have BL : Hid (Below w.heap.size w WA) := hide (nWA)
  have KA := hide (mWA)
  clear nWA mWA
  obtain ⟨-, cA0, cA1, cA2, cA3⟩ := KA.out
  go_enter Try.func63, Try.ntmps63
  go_wp2_with fail
  refine (gSchI p l m n true Hp.out Hl.out Hm.out Hn.out G1.out _).mono ?_
  rintro e1 w1 ⟨rfl, q1⟩
  replace KA := hide (KA.out.below q1)
  clear cA0 cA1 cA2 cA3
  obtain ⟨-, cA0, cA1, cA2, cA3⟩ := KA.out
  replace BL := hide (BL.out.trans (q1.mono BL.out.size))
  clear q1
  go_wp2_with fail
  refine (inB_one 0 10000000 t true _ _ (by decide) Ht.out G2.out rfl).mono ?_
  rintro e1 w2 ⟨rfl, q2⟩
  replace KA := hide (KA.out.below q2)
  clear cA0 cA1 cA2 cA3
  obtain ⟨-, cA0, cA1, cA2, cA3⟩ := KA.out
  replace BL := hide (BL.out.trans (q2.mono BL.out.size))
  clear q2
  have CN := hide (fun d os => Calls.regrown_of (d := d) (os := os) (w := w2) (HN.out _))
  go_wp2_with fail
  have kcA0 := cell_regrown cA0
  have kcA1 := cell_regrown cA1
  have kcA2 := cell_regrown cA2
  have kcA3 := cell_regrown cA3
  clear cA0 cA1 cA2 cA3
  refine wp_region_quiet_below (by kernel_rfl) (by kernel_rfl) ?_
  repeat (go_big_quiet_step (first | (go_at_call 68; exact CN.out _ _)))
  refine wpQuiet_nil ?_
  intro _ hw'
  obtain ⟨⟨dq, osq⟩, hw''⟩ := hw'
  subst hw''
  go_wp2_with fail
  go_ret
  exact ⟨rfl, BL.out.trans ((below_regrown _ dq osq).mono BL.out.size)⟩
set_option maxHeartbeats 1000000 in
theorem iRate_yes3 (p l m n t : Int) (w : World) (hp : bd p) (hl : bd l) (hm : bd m) (hn : bd n) (ht : bd t) (c1 : decide (t < m) = false) (c2 : decide (t < n) = false) (g1 : schOk p l m n = true) (g2 : decide (0 ≤ t ∧ t ≤ 10000000) = true) :
    Calls Try.prog 63 #[.agg #[.int .i64 p, .int .i64 l, .int .i64 m, .int .i64 n], .int .i64 t] w fun e w' => e = .returned (.int .i64 l) ∧ Below w.heap.size w w' := by
  have Ht := hide ht
  clear ht
  have Hp := hide hp
  have Hl := hide hl
  have Hm := hide hm
  have Hn := hide hn
  clear hp hl hm hn
  have G1 := hide g1
  have G2 := hide g2
  clear g1 g2
  obtain ⟨WA, hWA⟩ : ∃ WA, w.alloc (.cells #[.int .i64 p, .int .i64 l, .int .i64 m, .int .i64 n] 25) = WA := ⟨_, rfl⟩
  have nWA : Below w.heap.size w WA := hWA ▸ (Below.refl _ _).alloc (Nat.le_refl _) _
  have mWA : Box4 WA w.heap.size p l m n := hWA ▸ box4_new _ _ _ _ _ _
  have BL : Hid (Below w.heap.size w WA) := hide (nWA)
  have KA := hide (mWA)
  clear nWA mWA
  obtain ⟨-, cA0, cA1, cA2, cA3⟩ := KA.out
  go_enter Try.func63, Try.ntmps63
  go_wp2_with fail
  refine (gSchI p l m n true Hp.out Hl.out Hm.out Hn.out G1.out _).mono ?_
  rintro e1 w1 ⟨rfl, q1⟩
  replace KA := hide (KA.out.below q1)
  clear cA0 cA1 cA2 cA3
  obtain ⟨-, cA0, cA1, cA2, cA3⟩ := KA.out
  replace BL := hide (BL.out.trans (q1.mono BL.out.size))
  clear q1
  go_wp2_with fail
  refine (inB_one 0 10000000 t true _ _ (by decide) Ht.out G2.out rfl).mono ?_
  rintro e1 w2 ⟨rfl, q2⟩
  replace KA := hide (KA.out.below q2)
  clear cA0 cA1 cA2 cA3
  obtain ⟨-, cA0, cA1, cA2, cA3⟩ := KA.out
  replace BL := hide (BL.out.trans (q2.mono BL.out.size))
  clear q2
  go_wp2_with fail
  go_ret
  exact ⟨rfl, BL.out⟩
/-- a rate: both sides answer one number -/
theorem rateBoth (p l m n t : Int) (hp : bd p) (hl : bd l) (hm : bd m) (hn : bd n) (ht : bd t) : ∃ v : Int, (0 ≤ v ∧ v ≤ 16777216) ∧
    (∀ w, Calls Try.prog 35 #[.agg #[.int .i64 p, .int .i64 l, .int .i64 m, .int .i64 n], .int .i64 t] w fun e w' => e = .returned (.int .i64 v) ∧ Below w.heap.size w w') ∧
    (∀ w, Calls Try.prog 63 #[.agg #[.int .i64 p, .int .i64 l, .int .i64 m, .int .i64 n], .int .i64 t] w fun e w' => e = .returned (.int .i64 v) ∧ Below w.heap.size w w') := by
  cases g1 : schOk p l m n
  · exact ⟨0, by omega, fun w => sRate_no1 p l m n t w hp hl hm hn ht g1, fun w => iRate_no1 p l m n t w hp hl hm hn ht g1⟩
  cases g2 : decide (0 ≤ t ∧ t ≤ 10000000)
  · exact ⟨0, by omega, fun w => sRate_no2 p l m n t w hp hl hm hn ht g1 g2, fun w => iRate_no2 p l m n t w hp hl hm hn ht g1 g2⟩
  obtain ⟨⟨l0, l1, p1⟩, m0, m1, n1⟩ := sch_of g1
  obtain ⟨t0, t1⟩ := of_decide_eq_true g2
  by_cases c1 : t < m
  · obtain ⟨q0, q1⟩ := mul_pt (p := p) (t := t + 1) (by omega) p1 (by omega) (by omega)
    obtain ⟨r, ⟨r0, r1⟩, er, hS, hI⟩ := nearB (p * (t + 1)) m 16777232777216 (by omega) q1 (by decide) (by omega) (by omega)
    have hr := near_rng (n := p * (t + 1)) (d := m) (K := p) q0 (by omega) (by omega) (Int.mul_le_mul_of_nonneg_left (by omega) (by omega)) er
    exact ⟨r, by omega, fun w => sRate_yes1 p l m n t w hp hl hm hn ht r c1 (by omega) t0 q0 q1 hS g1 g2, fun w => iRate_yes1 p l m n t w hp hl hm hn ht r c1 (by omega) t0 q0 q1 hI g1 g2⟩
  by_cases c2 : t < n
  · obtain ⟨q0, q1⟩ := mul_pt (p := p - l) (t := t - m) (by omega) (by omega) (by omega) (by omega)
    obtain ⟨r, ⟨r0, r1⟩, er, hS, hI⟩ := nearB ((p - l) * (t - m)) (n - m) 16777232777216 (by omega) q1 (by decide) (by omega) (by omega)
    have hr := near_rng (n := (p - l) * (t - m)) (d := n - m) (K := p - l) q0 (by omega) (by omega) (Int.mul_le_mul_of_nonneg_left (by omega) (by omega)) er
    exact ⟨p - r, by omega, fun w => sRate_yes2 p l m n t w hp hl hm hn ht r _ _ _ _ _ (decide_eq_false c1) c2 (wid (by omega)) (wid (by omega)) (wid (by omega)) (wid (by omega)) (wid (by omega)) hS g1 g2, fun w => iRate_yes2 p l m n t w hp hl hm hn ht r _ _ _ _ _ (decide_eq_false c1) c2 (wid (by omega)) (wid (by omega)) (wid (by omega)) (wid (by omega)) (wid (by omega)) hI g1 g2⟩
  · exact ⟨l, by omega, fun w => sRate_yes3 p l m n t w hp hl hm hn ht (decide_eq_false c1) (decide_eq_false c2) g1 g2, fun w => iRate_yes3 p l m n t w hp hl hm hn ht (decide_eq_false c1) (decide_eq_false c2) g1 g2⟩
end Vo
end Go.Proofs.Ytflbhlepmjiejaa
