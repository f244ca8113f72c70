/- Rules that can be, on both sides (written by tools/gen15.py). -/
import Derived.Test.YtflbhlepmjiejaaEa
namespace Go.Proofs.Ytflbhlepmjiejaa
namespace Vo
open Go.ChangeShapes Go.WideShapes Go.ChangeAt Go.RowKit Go.Joins Go.Sort
open Vl
set_option linter.unusedVariables false
set_option linter.unusedSimpArgs false
/-- 11 ints in a variable -/
def Box11 (w : World) (p : Nat) (x0 x1 x2 x3 x4 x5 x6 x7 x8 x9 x10 : Int) : Prop := p < w.heap.size ∧ w.cell? ⟨p, 0, none⟩ = some (.int .i64 x0) ∧ w.cell? ⟨p, 1, none⟩ = some (.int .i64 x1) ∧ w.cell? ⟨p, 2, none⟩ = some (.int .i64 x2) ∧ w.cell? ⟨p, 3, none⟩ = some (.int .i64 x3) ∧ w.cell? ⟨p, 4, none⟩ = some (.int .i64 x4) ∧ w.cell? ⟨p, 5, none⟩ = some (.int .i64 x5) ∧ w.cell? ⟨p, 6, none⟩ = some (.int .i64 x6) ∧ w.cell? ⟨p, 7, none⟩ = some (.int .i64 x7) ∧ w.cell? ⟨p, 8, none⟩ = some (.int .i64 x8) ∧ w.cell? ⟨p, 9, none⟩ = some (.int .i64 x9) ∧ w.cell? ⟨p, 10, none⟩ = some (.int .i64 x10)
theorem box11_new (w : World) (x0 x1 x2 x3 x4 x5 x6 x7 x8 x9 x10 : Int) (ty : TypeId) : Box11 (w.alloc (.cells #[.int .i64 x0, .int .i64 x1, .int .i64 x2, .int .i64 x3, .int .i64 x4, .int .i64 x5, .int .i64 x6, .int .i64 x7, .int .i64 x8, .int .i64 x9, .int .i64 x10] ty)) w.heap.size x0 x1 x2 x3 x4 x5 x6 x7 x8 x9 x10 := ⟨by simp, by simp [go_sem], by simp [go_sem], by simp [go_sem], by simp [go_sem], by simp [go_sem], by simp [go_sem], by simp [go_sem], by simp [go_sem], by simp [go_sem], by simp [go_sem], by simp [go_sem]⟩
theorem Box11.below {w w' : World} {p : Nat} {x0 x1 x2 x3 x4 x5 x6 x7 x8 x9 x10 : Int} (h : Box11 w p x0 x1 x2 x3 x4 x5 x6 x7 x8 x9 x10) (b : Below w.heap.size w w') : Box11 w' p x0 x1 x2 x3 x4 x5 x6 x7 x8 x9 x10 := by
  obtain ⟨hp, h0, h1, h2, h3, h4, h5, h6, h7, h8, h9, h10⟩ := h
  exact ⟨Nat.lt_of_lt_of_le hp b.size, by rw [b.cell (p := ⟨p, 0, none⟩) hp]; exact h0, by rw [b.cell (p := ⟨p, 1, none⟩) hp]; exact h1, by rw [b.cell (p := ⟨p, 2, none⟩) hp]; exact h2, by rw [b.cell (p := ⟨p, 3, none⟩) hp]; exact h3, by rw [b.cell (p := ⟨p, 4, none⟩) hp]; exact h4, by rw [b.cell (p := ⟨p, 5, none⟩) hp]; exact h5, by rw [b.cell (p := ⟨p, 6, none⟩) hp]; exact h6, by rw [b.cell (p := ⟨p, 7, none⟩) hp]; exact h7, by rw [b.cell (p := ⟨p, 8, none⟩) hp]; exact h8, by rw [b.cell (p := ⟨p, 9, none⟩) hp]; exact h9, by rw [b.cell (p := ⟨p, 10, none⟩) hp]; exact h10⟩
theorem three_new (x y z : Int) (w : World) (ty : TypeId) (hx : bd x) (hy : bd y) (hz : bd z) : Ints (w.heap.size + 1) (w.alloc (.cells #[.int .i64 x, .int .i64 y, .int .i64 z] ty)) (some ⟨w.heap.size, 0, none⟩) 3 (fun i => if i = 0 then x else if i = 1 then y else z) :=
  .inr ⟨_, 0, rfl, by simp, fun j hj => by
    rcases (by omega : j = 0 ∨ j = 1 ∨ j = 2) with rfl | rfl | rfl
    · exact ⟨by simp [go_sem], by simpa using hx⟩
    · exact ⟨by simp [go_sem], by simpa using hy⟩
    · exact ⟨by simp [go_sem], by simpa using hz⟩⟩
theorem ib_three (l m x y z : Int) : ib l m 3 (fun i => if i = 0 then x else if i = 1 then y else z) = decide ((l ≤ x ∧ x ≤ m) ∧ (l ≤ y ∧ y ≤ m) ∧ (l ≤ z ∧ z ≤ m)) := by
  unfold ib
  rw [decide_eq_decide]
  refine ⟨fun h => ⟨by simpa using h 0 (by omega), by simpa using h 1 (by omega), by simpa using h 2 (by omega)⟩, fun h i hi => ?_⟩
  rcases (by omega : i = 0 ∨ i = 1 ∨ i = 2) with rfl | rfl | rfl
  · exact h.1
  · exact h.2.1
  · exact h.2.2
theorem arePartsF (B : Nat) (a : Option Addr) (s cap : Nat) (S : Nat → Int) (w : World) (hB : B ≤ w.heap.size) (h : Ints B w a s S) (hs : (s : Int) ≤ 1048576) :
    Calls Try.prog 48 #[.slice a s cap] w fun e w' => e = .returned (.bool (ib 0 65536 s S)) ∧ Below w.heap.size w w' := by
  have C := hide (inBoundsF B a s cap S 0 65536 w (by decide) hB h hs)
  clear h hB
  go_enter Try.func48, Try.ntmps48
  go_wp2_with fail
  refine C.out.mono ?_; rintro e1 w1 ⟨rfl, b1⟩
  go_wp2_with fail
  go_ret
  exact ⟨rfl, b1⟩
theorem parts_three (x y z : Int) (b : Bool) (P : Nat) (w : World) (hx : bd x) (hy : bd y) (hz : bd z) (hb : decide ((0 ≤ x ∧ x ≤ 65536) ∧ (0 ≤ y ∧ y ≤ 65536) ∧ (0 ≤ z ∧ z ≤ 65536)) = b) (hP : P = w.heap.size) :
    Calls Try.prog 48 #[.slice (some ⟨P, 0, none⟩) 3 3] (w.alloc (.cells #[.int .i64 x, .int .i64 y, .int .i64 z] 3)) fun e w' => e = .returned (.bool b) ∧ Below w.heap.size w w' := by
  subst hP
  refine (arePartsF (w.heap.size + 1) _ 3 3 (fun i => if i = 0 then x else if i = 1 then y else z) _ (by simp) (three_new x y z w _ hx hy hz) (by decide)).mono ?_
  rintro e w' ⟨rfl, b1⟩
  exact ⟨by rw [ib_three, hb], ((Below.refl _ _).alloc (Nat.le_refl _) _).trans (b1.mono (by simp))⟩
theorem lengthF (x : Int) (b : Bool) (hx : bd x) (hb : decide (0 ≤ x ∧ x ≤ 1073741824) = b) (w : World) :
    Calls Try.prog 49 #[.int .i64 x] w fun e w' => e = .returned (.bool b) ∧ Below w.heap.size w w' := by
  have HX := hide hx
  have HB := hide hb
  clear hx hb
  go_enter Try.func49, Try.ntmps49
  go_wp2_with fail
  refine (inB_one 0 1073741824 x b _ _ (by decide) HX.out HB.out rfl).mono ?_; rintro e1 w1 ⟨rfl, b1⟩
  go_wp2_with fail
  go_ret
  exact ⟨rfl, b1⟩
theorem gPartS (x : Int) (b : Bool) (hb : decide (0 ≤ x ∧ x ≤ 65536) = b) (w : World) :
    Calls Try.prog 53 #[.int .i64 x] w fun e w' => e = .returned (.bool b) ∧ Below w.heap.size w w' := by
  have C := hide (fun w => gInS x 0 65536 b hb w)
  clear hb
  go_enter Try.func53, Try.ntmps53
  go_wp2_with fail
  refine (C.out _).mono ?_; rintro e1 w1 ⟨rfl, b1⟩
  go_wp2_with fail
  go_ret
  exact ⟨rfl, b1⟩
/-- a rule that can be -/
def rulOk (d p l m n k z o y s g : Int) : Bool := decide ((1 ≤ d ∧ d ≤ 3) ∧ schOk p l m n = true ∧ (0 ≤ k ∧ k ≤ 65536) ∧ (0 ≤ z ∧ z ≤ 65536) ∧ (0 ≤ y ∧ y ≤ 65536) ∧ (1 ≤ o ∧ o ≤ 16777216) ∧ (0 ≤ s ∧ s ≤ 1073741824) ∧ (0 ≤ g ∧ g ≤ 1000000))
theorem rul_of {d p l m n k z o y s g : Int} (h : rulOk d p l m n k z o y s g = true) : (1 ≤ d ∧ d ≤ 3) ∧ schOk p l m n = true ∧ (0 ≤ k ∧ k ≤ 65536) ∧ (0 ≤ z ∧ z ≤ 65536) ∧ (0 ≤ y ∧ y ≤ 65536) ∧ (1 ≤ o ∧ o ≤ 16777216) ∧ (0 ≤ s ∧ s ≤ 1073741824) ∧ (0 ≤ g ∧ g ≤ 1000000) := of_decide_eq_true h
set_option maxHeartbeats 1000000 in
theorem sRul_no1 (d p l m n k z o y s g : Int) (w : World) (hd : bd d) (hp : bd p) (hl : bd l) (hm : bd m) (hn : bd n) (hk : bd k) (hz : bd z) (ho : bd o) (hy : bd y) (hs : bd s) (hg : bd g)  (g1 : decide (1 ≤ d ∧ d ≤ 3) = false) :
    Calls Try.prog 30 #[.agg #[.int .i64 d, .int .i64 p, .int .i64 l, .int .i64 m, .int .i64 n, .int .i64 k, .int .i64 z, .int .i64 o, .int .i64 y, .int .i64 s, .int .i64 g]] w fun e w' => e = .returned (.bool false) ∧ Below w.heap.size w w' := by
  have Hd := hide hd
  have Hp := hide hp
  have Hl := hide hl
  have Hm := hide hm
  have Hn := hide hn
  have Hk := hide hk
  have Hz := hide hz
  have Ho := hide ho
  have Hy := hide hy
  have Hs := hide hs
  have Hg := hide hg
  clear hd hp hl hm hn hk hz ho hy hs hg
  have G1 := hide g1
  clear g1
  obtain ⟨WA, hWA⟩ : ∃ WA, w.alloc (.cells #[.int .i64 d, .int .i64 p, .int .i64 l, .int .i64 m, .int .i64 n, .int .i64 k, .int .i64 z, .int .i64 o, .int .i64 y, .int .i64 s, .int .i64 g] 27) = WA := ⟨_, rfl⟩
  have nWA : Below w.heap.size w WA := hWA ▸ (Below.refl _ _).alloc (Nat.le_refl _) _
  have mWA : Box11 WA w.heap.size d p l m n k z o y s g := hWA ▸ box11_new _ _ _ _ _ _ _ _ _ _ _ _ _
  have BL : Hid (Below w.heap.size w WA) := hide (nWA)
  have KA := hide (mWA)
  clear nWA mWA
  obtain ⟨-, cA0, cA1, cA2, cA3, cA4, cA5, cA6, cA7, cA8, cA9, cA10⟩ := KA.out
  go_enter Try.func30, Try.ntmps30
  go_wp2_with fail
  refine (gInS d 1 3 false G1.out _).mono ?_
  rintro e1 w1 ⟨rfl, q1⟩
  replace KA := hide (KA.out.below q1)
  clear cA0 cA1 cA2 cA3 cA4 cA5 cA6 cA7 cA8 cA9 cA10
  obtain ⟨-, cA0, cA1, cA2, cA3, cA4, cA5, cA6, cA7, cA8, cA9, cA10⟩ := KA.out
  replace BL := hide (BL.out.trans (q1.mono BL.out.size))
  clear q1
  go_wp2_with fail
  go_ret
  exact ⟨rfl, BL.out⟩
set_option maxHeartbeats 1000000 in
theorem sRul_no2 (d p l m n k z o y s g : Int) (w : World) (hd : bd d) (hp : bd p) (hl : bd l) (hm : bd m) (hn : bd n) (hk : bd k) (hz : bd z) (ho : bd o) (hy : bd y) (hs : bd s) (hg : bd g)  (g1 : decide (1 ≤ d ∧ d ≤ 3) = true) (g2 : schOk p l m n = false) :
    Calls Try.prog 30 #[.agg #[.int .i64 d, .int .i64 p, .int .i64 l, .int .i64 m, .int .i64 n, .int .i64 k, .int .i64 z, .int .i64 o, .int .i64 y, .int .i64 s, .int .i64 g]] w fun e w' => e = .returned (.bool false) ∧ Below w.heap.size w w' := by
  have Hd := hide hd
  have Hp := hide hp
  have Hl := hide hl
  have Hm := hide hm
  have Hn := hide hn
  have Hk := hide hk
  have Hz := hide hz
  have Ho := hide ho
  have Hy := hide hy
  have Hs := hide hs
  have Hg := hide hg
  clear hd hp hl hm hn hk hz ho hy hs hg
  have G1 := hide g1
  have G2 := hide g2
  clear g1 g2
  obtain ⟨WA, hWA⟩ : ∃ WA, w.alloc (.cells #[.int .i64 d, .int .i64 p, .int .i64 l, .int .i64 m, .int .i64 n, .int .i64 k, .int .i64 z, .int .i64 o, .int .i64 y, .int .i64 s, .int .i64 g] 27) = WA := ⟨_, rfl⟩
  have nWA : Below w.heap.size w WA := hWA ▸ (Below.refl _ _).alloc (Nat.le_refl _) _
  have mWA : Box11 WA w.heap.size d p l m n k z o y s g := hWA ▸ box11_new _ _ _ _ _ _ _ _ _ _ _ _ _
  have BL : Hid (Below w.heap.size w WA) := hide (nWA)
  have KA := hide (mWA)
  clear nWA mWA
  obtain ⟨-, cA0, cA1, cA2, cA3, cA4, cA5, cA6, cA7, cA8, cA9, cA10⟩ := KA.out
  go_enter Try.func30, Try.ntmps30
  go_wp2_with fail
  refine (gInS d 1 3 true G1.out _).mono ?_
  rintro e1 w1 ⟨rfl, q1⟩
  replace KA := hide (KA.out.below q1)
  clear cA0 cA1 cA2 cA3 cA4 cA5 cA6 cA7 cA8 cA9 cA10
  obtain ⟨-, cA0, cA1, cA2, cA3, cA4, cA5, cA6, cA7, cA8, cA9, cA10⟩ := KA.out
  replace BL := hide (BL.out.trans (q1.mono BL.out.size))
  clear q1
  go_wp2_with fail
  refine (gSchS p l m n false Hp.out Hl.out Hm.out Hn.out G2.out _).mono ?_
  rintro e1 w2 ⟨rfl, q2⟩
  replace KA := hide (KA.out.below q2)
  clear cA0 cA1 cA2 cA3 cA4 cA5 cA6 cA7 cA8 cA9 cA10
  obtain ⟨-, cA0, cA1, cA2, cA3, cA4, cA5, cA6, cA7, cA8, cA9, cA10⟩ := KA.out
  replace BL := hide (BL.out.trans (q2.mono BL.out.size))
  clear q2
  go_wp2_with fail
  go_ret
  exact ⟨rfl, BL.out⟩
set_option maxHeartbeats 1000000 in
theorem sRul_no3 (d p l m n k z o y s g : Int) (w : World) (hd : bd d) (hp : bd p) (hl : bd l) (hm : bd m) (hn : bd n) (hk : bd k) (hz : bd z) (ho : bd o) (hy : bd y) (hs : bd s) (hg : bd g)  (g1 : decide (1 ≤ d ∧ d ≤ 3) = true) (g2 : schOk p l m n = true) (g3 : decide (0 ≤ k ∧ k ≤ 65536) = false) :
    Calls Try.prog 30 #[.agg #[.int .i64 d, .int .i64 p, .int .i64 l, .int .i64 m, .int .i64 n, .int .i64 k, .int .i64 z, .int .i64 o, .int .i64 y, .int .i64 s, .int .i64 g]] w fun e w' => e = .returned (.bool false) ∧ Below w.heap.size w w' := by
  have Hd := hide hd
  have Hp := hide hp
  have Hl := hide hl
  have Hm := hide hm
  have Hn := hide hn
  have Hk := hide hk
  have Hz := hide hz
  have Ho := hide ho
  have Hy := hide hy
  have Hs := hide hs
  have Hg := hide hg
  clear hd hp hl hm hn hk hz ho hy hs hg
  have G1 := hide g1
  have G2 := hide g2
  have G3 := hide g3
  clear g1 g2 g3
  obtain ⟨WA, hWA⟩ : ∃ WA, w.alloc (.cells #[.int .i64 d, .int .i64 p, .int .i64 l, .int .i64 m, .int .i64 n, .int .i64 k, .int .i64 z, .int .i64 o, .int .i64 y, .int .i64 s, .int .i64 g] 27) = WA := ⟨_, rfl⟩
  have nWA : Below w.heap.size w WA := hWA ▸ (Below.refl _ _).alloc (Nat.le_refl _) _
  have mWA : Box11 WA w.heap.size d p l m n k z o y s g := hWA ▸ box11_new _ _ _ _ _ _ _ _ _ _ _ _ _
  have BL : Hid (Below w.heap.size w WA) := hide (nWA)
  have KA := hide (mWA)
  clear nWA mWA
  obtain ⟨-, cA0, cA1, cA2, cA3, cA4, cA5, cA6, cA7, cA8, cA9, cA10⟩ := KA.out
  go_enter Try.func30, Try.ntmps30
  go_wp2_with fail
  refine (gInS d 1 3 true G1.out _).mono ?_
  rintro e1 w1 ⟨rfl, q1⟩
  replace KA := hide (KA.out.below q1)
  clear cA0 cA1 cA2 cA3 cA4 cA5 cA6 cA7 cA8 cA9 cA10
  obtain ⟨-, cA0, cA1, cA2, cA3, cA4, cA5, cA6, cA7, cA8, cA9, cA10⟩ := KA.out
  replace BL := hide (BL.out.trans (q1.mono BL.out.size))
  clear q1
  go_wp2_with fail
  refine (gSchS p l m n true Hp.out Hl.out Hm.out Hn.out G2.out _).mono ?_
  rintro e1 w2 ⟨rfl, q2⟩
  replace KA := hide (KA.out.below q2)
  clear cA0 cA1 cA2 cA3 cA4 cA5 cA6 cA7 cA8 cA9 cA10
  obtain ⟨-, cA0, cA1, cA2, cA3, cA4, cA5, cA6, cA7, cA8, cA9, cA10⟩ := KA.out
  replace BL := hide (BL.out.trans (q2.mono BL.out.size))
  clear q2
  go_wp2_with fail
  refine (gPartS k false G3.out _).mono ?_
  rintro e1 w3 ⟨rfl, q3⟩
  replace KA := hide (KA.out.below q3)
  clear cA0 cA1 cA2 cA3 cA4 cA5 cA6 cA7 cA8 cA9 cA10
  obtain ⟨-, cA0, cA1, cA2, cA3, cA4, cA5, cA6, cA7, cA8, cA9, cA10⟩ := KA.out
  replace BL := hide (BL.out.trans (q3.mono BL.out.size))
  clear q3
  go_wp2_with fail
  go_ret
  exact ⟨rfl, BL.out⟩
set_option maxHeartbeats 1000000 in
theorem sRul_no4 (d p l m n k z o y s g : Int) (w : World) (hd : bd d) (hp : bd p) (hl : bd l) (hm : bd m) (hn : bd n) (hk : bd k) (hz : bd z) (ho : bd o) (hy : bd y) (hs : bd s) (hg : bd g)  (g1 : decide (1 ≤ d ∧ d ≤ 3) = true) (g2 : schOk p l m n = true) (g3 : decide (0 ≤ k ∧ k ≤ 65536) = true) (g4 : decide (0 ≤ z ∧ z ≤ 65536) = false) :
    Calls Try.prog 30 #[.agg #[.int .i64 d, .int .i64 p, .int .i64 l, .int .i64 m, .int .i64 n, .int .i64 k, .int .i64 z, .int .i64 o, .int .i64 y, .int .i64 s, .int .i64 g]] w fun e w' => e = .returned (.bool false) ∧ Below w.heap.size w w' := by
  have Hd := hide hd
  have Hp := hide hp
  have Hl := hide hl
  have Hm := hide hm
  have Hn := hide hn
  have Hk := hide hk
  have Hz := hide hz
  have Ho := hide ho
  have Hy := hide hy
  have Hs := hide hs
  have Hg := hide hg
  clear hd hp hl hm hn hk hz ho hy hs hg
  have G1 := hide g1
  have G2 := hide g2
  have G3 := hide g3
  have G4 := hide g4
  clear g1 g2 g3 g4
  obtain ⟨WA, hWA⟩ : ∃ WA, w.alloc (.cells #[.int .i64 d, .int .i64 p, .int .i64 l, .int .i64 m, .int .i64 n, .int .i64 k, .int .i64 z, .int .i64 o, .int .i64 y, .int .i64 s, .int .i64 g] 27) = WA := ⟨_, rfl⟩
  have nWA : Below w.heap.size w WA := hWA ▸ (Below.refl _ _).alloc (Nat.le_refl _) _
  have mWA : Box11 WA w.heap.size d p l m n k z o y s g := hWA ▸ box11_new _ _ _ _ _ _ _ _ _ _ _ _ _
  have BL : Hid (Below w.heap.size w WA) := hide (nWA)
  have KA := hide (mWA)
  clear nWA mWA
  obtain ⟨-, cA0, cA1, cA2, cA3, cA4, cA5, cA6, cA7, cA8, cA9, cA10⟩ := KA.out
  go_enter Try.func30, Try.ntmps30
  go_wp2_with fail
  refine (gInS d 1 3 true G1.out _).mono ?_
  rintro e1 w1 ⟨rfl, q1⟩
  replace KA := hide (KA.out.below q1)
  clear cA0 cA1 cA2 cA3 cA4 cA5 cA6 cA7 cA8 cA9 cA10
  obtain ⟨-, cA0, cA1, cA2, cA3, cA4, cA5, cA6, cA7, cA8, cA9, cA10⟩ := KA.out
  replace BL := hide (BL.out.trans (q1.mono BL.out.size))
  clear q1
  go_wp2_with fail
  refine (gSchS p l m n true Hp.out Hl.out Hm.out Hn.out G2.out _).mono ?_
  rintro e1 w2 ⟨rfl, q2⟩
  replace KA := hide (KA.out.below q2)
  clear cA0 cA1 cA2 cA3 cA4 cA5 cA6 cA7 cA8 cA9 cA10
  obtain ⟨-, cA0, cA1, cA2, cA3, cA4, cA5, cA6, cA7, cA8, cA9, cA10⟩ := KA.out
  replace BL := hide (BL.out.trans (q2.mono BL.out.size))
  clear q2
  go_wp2_with fail
  refine (gPartS k true G3.out _).mono ?_
  rintro e1 w3 ⟨rfl, q3⟩
  replace KA := hide (KA.out.below q3)
  clear cA0 cA1 cA2 cA3 cA4 cA5 cA6 cA7 cA8 cA9 cA10
  obtain ⟨-, cA0, cA1, cA2, cA3, cA4, cA5, cA6, cA7, cA8, cA9, cA10⟩ := KA.out
  replace BL := hide (BL.out.trans (q3.mono BL.out.size))
  clear q3
  go_wp2_with fail
  refine (gPartS z false G4.out _).mono ?_
  rintro e1 w4 ⟨rfl, q4⟩
  replace KA := hide (KA.out.below q4)
  clear cA0 cA1 cA2 cA3 cA4 cA5 cA6 cA7 cA8 cA9 cA10
  obtain ⟨-, cA0, cA1, cA2, cA3, cA4, cA5, cA6, cA7, cA8, cA9, cA10⟩ := KA.out
  replace BL := hide (BL.out.trans (q4.mono BL.out.size))
  clear q4
  go_wp2_with fail
  go_ret
  exact ⟨rfl, BL.out⟩
set_option maxHeartbeats 1000000 in
theorem sRul_no5 (d p l m n k z o y s g : Int) (w : World) (hd : bd d) (hp : bd p) (hl : bd l) (hm : bd m) (hn : bd n) (hk : bd k) (hz : bd z) (ho : bd o) (hy : bd y) (hs : bd s) (hg : bd g)  (g1 : decide (1 ≤ d ∧ d ≤ 3) = true) (g2 : schOk p l m n = true) (g3 : decide (0 ≤ k ∧ k ≤ 65536) = true) (g4 : decide (0 ≤ z ∧ z ≤ 65536) = true) (g5 : decide (0 ≤ y ∧ y ≤ 65536) = false) :
    Calls Try.prog 30 #[.agg #[.int .i64 d, .int .i64 p, .int .i64 l, .int .i64 m, .int .i64 n, .int .i64 k, .int .i64 z, .int .i64 o, .int .i64 y, .int .i64 s, .int .i64 g]] w fun e w' => e = .returned (.bool false) ∧ Below w.heap.size w w' := by
  have Hd := hide hd
  have Hp := hide hp
  have Hl := hide hl
  have Hm := hide hm
  have Hn := hide hn
  have Hk := hide hk
  have Hz := hide hz
  have Ho := hide ho
  have Hy := hide hy
  have Hs := hide hs
  have Hg := hide hg
  clear hd hp hl hm hn hk hz ho hy hs hg
  have G1 := hide g1
  have G2 := hide g2
  have G3 := hide g3
  have G4 := hide g4
  have G5 := hide g5
  clear g1 g2 g3 g4 g5
  obtain ⟨WA, hWA⟩ : ∃ WA, w.alloc (.cells #[.int .i64 d, .int .i64 p, .int .i64 l, .int .i64 m, .int .i64 n, .int .i64 k, .int .i64 z, .int .i64 o, .int .i64 y, .int .i64 s, .int .i64 g] 27) = WA := ⟨_, rfl⟩
  have nWA : Below w.heap.size w WA := hWA ▸ (Below.refl _ _).alloc (Nat.le_refl _) _
  have mWA : Box11 WA w.heap.size d p l m n k z o y s g := hWA ▸ box11_new _ _ _ _ _ _ _ _ _ _ _ _ _
  have BL : Hid (Below w.heap.size w WA) := hide (nWA)
  have KA := hide (mWA)
  clear nWA mWA
  obtain ⟨-, cA0, cA1, cA2, cA3, cA4, cA5, cA6, cA7, cA8, cA9, cA10⟩ := KA.out
  go_enter Try.func30, Try.ntmps30
  go_wp2_with fail
  refine (gInS d 1 3 true G1.out _).mono ?_
  rintro e1 w1 ⟨rfl, q1⟩
  replace KA := hide (KA.out.below q1)
  clear cA0 cA1 cA2 cA3 cA4 cA5 cA6 cA7 cA8 cA9 cA10
  obtain ⟨-, cA0, cA1, cA2, cA3, cA4, cA5, cA6, cA7, cA8, cA9, cA10⟩ := KA.out
  replace BL := hide (BL.out.trans (q1.mono BL.out.size))
  clear q1
  go_wp2_with fail
  refine (gSchS p l m n true Hp.out Hl.out Hm.out Hn.out G2.out _).mono ?_
  rintro e1 w2 ⟨rfl, q2⟩
  replace KA := hide (KA.out.below q2)
  clear cA0 cA1 cA2 cA3 cA4 cA5 cA6 cA7 cA8 cA9 cA10
  obtain ⟨-, cA0, cA1, cA2, cA3, cA4, cA5, cA6, cA7, cA8, cA9, cA10⟩ := KA.out
  replace BL := hide (BL.out.trans (q2.mono BL.out.size))
  clear q2
  go_wp2_with fail
  refine (gPartS k true G3.out _).mono ?_
  rintro e1 w3 ⟨rfl, q3⟩
  replace KA := hide (KA.out.below q3)
  clear cA0 cA1 cA2 cA3 cA4 cA5 cA6 cA7 cA8 cA9 cA10
  obtain ⟨-, cA0, cA1, cA2, cA3, cA4, cA5, cA6, cA7, cA8, cA9, cA10⟩ := KA.out
  replace BL := hide (BL.out.trans (q3.mono BL.out.size))
  clear q3
  go_wp2_with fail
  refine (gPartS z true G4.out _).mono ?_
  rintro e1 w4 ⟨rfl, q4⟩
  replace KA := hide (KA.out.below q4)
  clear cA0 cA1 cA2 cA3 cA4 cA5 cA6 cA7 cA8 cA9 cA10
  obtain ⟨-, cA0, cA1, cA2, cA3, cA4, cA5, cA6, cA7, cA8, cA9, cA10⟩ := KA.out
  replace BL := hide (BL.out.trans (q4.mono BL.out.size))
  clear q4
  go_wp2_with fail
  refine (gPartS y false G5.out _).mono ?_
  rintro e1 w5 ⟨rfl, q5⟩
  replace KA := hide (KA.out.below q5)
  clear cA0 cA1 cA2 cA3 cA4 cA5 cA6 cA7 cA8 cA9 cA10
  obtain ⟨-, cA0, cA1, cA2, cA3, cA4, cA5, cA6, cA7, cA8, cA9, cA10⟩ := KA.out
  replace BL := hide (BL.out.trans (q5.mono BL.out.size))
  clear q5
  go_wp2_with fail
  go_ret
  exact ⟨rfl, BL.out⟩
set_option maxHeartbeats 1000000 in
theorem sRul_no6 (d p l m n k z o y s g : Int) (w : World) (hd : bd d) (hp : bd p) (hl : bd l) (hm : bd m) (hn : bd n) (hk : bd k) (hz : bd z) (ho : bd o) (hy : bd y) (hs : bd s) (hg : bd g)  (g1 : decide (1 ≤ d ∧ d ≤ 3) = true) (g2 : schOk p l m n = true) (g3 : decide (0 ≤ k ∧ k ≤ 65536) = true) (g4 : decide (0 ≤ z ∧ z ≤ 65536) = true) (g5 : decide (0 ≤ y ∧ y ≤ 65536) = true) (g6 : decide (1 ≤ o ∧ o ≤ 16777216) = false) :
    Calls Try.prog 30 #[.agg #[.int .i64 d, .int .i64 p, .int .i64 l, .int .i64 m, .int .i64 n, .int .i64 k, .int .i64 z, .int .i64 o, .int .i64 y, .int .i64 s, .int .i64 g]] w fun e w' => e = .returned (.bool false) ∧ Below w.heap.size w w' := by
  have Hd := hide hd
  have Hp := hide hp
  have Hl := hide hl
  have Hm := hide hm
  have Hn := hide hn
  have Hk := hide hk
  have Hz := hide hz
  have Ho := hide ho
  have Hy := hide hy
  have Hs := hide hs
  have Hg := hide hg
  clear hd hp hl hm hn hk hz ho hy hs hg
  have G1 := hide g1
  have G2 := hide g2
  have G3 := hide g3
  have G4 := hide g4
  have G5 := hide g5
  have G6 := hide g6
  clear g1 g2 g3 g4 g5 g6
  obtain ⟨WA, hWA⟩ : ∃ WA, w.alloc (.cells #[.int .i64 d, .int .i64 p, .int .i64 l, .int .i64 m, .int .i64 n, .int .i64 k, .int .i64 z, .int .i64 o, .int .i64 y, .int .i64 s, .int .i64 g] 27) = WA := ⟨_, rfl⟩
  have nWA : Below w.heap.size w WA := hWA ▸ (Below.refl _ _).alloc (Nat.le_refl _) _
  have mWA : Box11 WA w.heap.size d p l m n k z o y s g := hWA ▸ box11_new _ _ _ _ _ _ _ _ _ _ _ _ _
  have BL : Hid (Below w.heap.size w WA) := hide (nWA)
  have KA := hide (mWA)
  clear nWA mWA
  obtain ⟨-, cA0, cA1, cA2, cA3, cA4, cA5, cA6, cA7, cA8, cA9, cA10⟩ := KA.out
  go_enter Try.func30, Try.ntmps30
  go_wp2_with fail
  refine (gInS d 1 3 true G1.out _).mono ?_
  rintro e1 w1 ⟨rfl, q1⟩
  replace KA := hide (KA.out.below q1)
  clear cA0 cA1 cA2 cA3 cA4 cA5 cA6 cA7 cA8 cA9 cA10
  obtain ⟨-, cA0, cA1, cA2, cA3, cA4, cA5, cA6, cA7, cA8, cA9, cA10⟩ := KA.out
  replace BL := hide (BL.out.trans (q1.mono BL.out.size))
  clear q1
  go_wp2_with fail
  refine (gSchS p l m n true Hp.out Hl.out Hm.out Hn.out G2.out _).mono ?_
  rintro e1 w2 ⟨rfl, q2⟩
  replace KA := hide (KA.out.below q2)
  clear cA0 cA1 cA2 cA3 cA4 cA5 cA6 cA7 cA8 cA9 cA10
  obtain ⟨-, cA0, cA1, cA2, cA3, cA4, cA5, cA6, cA7, cA8, cA9, cA10⟩ := KA.out
  replace BL := hide (BL.out.trans (q2.mono BL.out.size))
  clear q2
  go_wp2_with fail
  refine (gPartS k true G3.out _).mono ?_
  rintro e1 w3 ⟨rfl, q3⟩
  replace KA := hide (KA.out.below q3)
  clear cA0 cA1 cA2 cA3 cA4 cA5 cA6 cA7 cA8 cA9 cA10
  obtain ⟨-, cA0, cA1, cA2, cA3, cA4, cA5, cA6, cA7, cA8, cA9, cA10⟩ := KA.out
  replace BL := hide (BL.out.trans (q3.mono BL.out.size))
  clear q3
  go_wp2_with fail
  refine (gPartS z true G4.out _).mono ?_
  rintro e1 w4 ⟨rfl, q4⟩
  replace KA := hide (KA.out.below q4)
  clear cA0 cA1 cA2 cA3 cA4 cA5 cA6 cA7 cA8 cA9 cA10
  obtain ⟨-, cA0, cA1, cA2, cA3, cA4, cA5, cA6, cA7, cA8, cA9, cA10⟩ := KA.out
  replace BL := hide (BL.out.trans (q4.mono BL.out.size))
  clear q4
  go_wp2_with fail
  refine (gPartS y true G5.out _).mono ?_
  rintro e1 w5 ⟨rfl, q5⟩
  replace KA := hide (KA.out.below q5)
  clear cA0 cA1 cA2 cA3 cA4 cA5 cA6 cA7 cA8 cA9 cA10
  obtain ⟨-, cA0, cA1, cA2, cA3, cA4, cA5, cA6, cA7, cA8, cA9, cA10⟩ := KA.out
  replace BL := hide (BL.out.trans (q5.mono BL.out.size))
  clear q5
  go_wp2_with fail
  refine (gInS o 1 16777216 false G6.out _).mono ?_
  rintro e1 w6 ⟨rfl, q6⟩
  replace KA := hide (KA.out.below q6)
  clear cA0 cA1 cA2 cA3 cA4 cA5 cA6 cA7 cA8 cA9 cA10
  obtain ⟨-, cA0, cA1, cA2, cA3, cA4, cA5, cA6, cA7, cA8, cA9, cA10⟩ := KA.out
  replace BL := hide (BL.out.trans (q6.mono BL.out.size))
  clear q6
  go_wp2_with fail
  go_ret
  exact ⟨rfl, BL.out⟩
set_option maxHeartbeats 1000000 in
theorem sRul_no7 (d p l m n k z o y s g : Int) (w : World) (hd : bd d) (hp : bd p) (hl : bd l) (hm : bd m) (hn : bd n) (hk : bd k) (hz : bd z) (ho : bd o) (hy : bd y) (hs : bd s) (hg : bd g)  (g1 : decide (1 ≤ d ∧ d ≤ 3) = true) (g2 : schOk p l m n = true) (g3 : decide (0 ≤ k ∧ k ≤ 65536) = true) (g4 : decide (0 ≤ z ∧ z ≤ 65536) = true) (g5 : decide (0 ≤ y ∧ y ≤ 65536) = true) (g6 : decide (1 ≤ o ∧ o ≤ 16777216) = true) (g7 : decide (0 ≤ s ∧ s ≤ 1073741824) = false) :
    Calls Try.prog 30 #[.agg #[.int .i64 d, .int .i64 p, .int .i64 l, .int .i64 m, .int .i64 n, .int .i64 k, .int .i64 z, .int .i64 o, .int .i64 y, .int .i64 s, .int .i64 g]] w fun e w' => e = .returned (.bool false) ∧ Below w.heap.size w w' := by
  have Hd := hide hd
  have Hp := hide hp
  have Hl := hide hl
  have Hm := hide hm
  have Hn := hide hn
  have Hk := hide hk
  have Hz := hide hz
  have Ho := hide ho
  have Hy := hide hy
  have Hs := hide hs
  have Hg := hide hg
  clear hd hp hl hm hn hk hz ho hy hs hg
  have G1 := hide g1
  have G2 := hide g2
  have G3 := hide g3
  have G4 := hide g4
  have G5 := hide g5
  have G6 := hide g6
  have G7 := hide g7
  clear g1 g2 g3 g4 g5 g6 g7
  obtain ⟨WA, hWA⟩ : ∃ WA, w.alloc (.cells #[.int .i64 d, .int .i64 p, .int .i64 l, .int .i64 m, .int .i64 n, .int .i64 k, .int .i64 z, .int .i64 o, .int .i64 y, .int .i64 s, .int .i64 g] 27) = WA := ⟨_, rfl⟩
  have nWA : Below w.heap.size w WA := hWA ▸ (Below.refl _ _).alloc (Nat.le_refl _) _
  have mWA : Box11 WA w.heap.size d p l m n k z o y s g := hWA ▸ box11_new _ _ _ _ _ _ _ _ _ _ _ _ _
  have BL : Hid (Below w.heap.size w WA) := hide (nWA)
  have KA := hide (mWA)
  clear nWA mWA
  obtain ⟨-, cA0, cA1, cA2, cA3, cA4, cA5, cA6, cA7, cA8, cA9, cA10⟩ := KA.out
  go_enter Try.func30, Try.ntmps30
  go_wp2_with fail
  refine (gInS d 1 3 true G1.out _).mono ?_
  rintro e1 w1 ⟨rfl, q1⟩
  replace KA := hide (KA.out.below q1)
  clear cA0 cA1 cA2 cA3 cA4 cA5 cA6 cA7 cA8 cA9 cA10
  obtain ⟨-, cA0, cA1, cA2, cA3, cA4, cA5, cA6, cA7, cA8, cA9, cA10⟩ := KA.out
  replace BL := hide (BL.out.trans (q1.mono BL.out.size))
  clear q1
  go_wp2_with fail
  refine (gSchS p l m n true Hp.out Hl.out Hm.out Hn.out G2.out _).mono ?_
  rintro e1 w2 ⟨rfl, q2⟩
  replace KA := hide (KA.out.below q2)
  clear cA0 cA1 cA2 cA3 cA4 cA5 cA6 cA7 cA8 cA9 cA10
  obtain ⟨-, cA0, cA1, cA2, cA3, cA4, cA5, cA6, cA7, cA8, cA9, cA10⟩ := KA.out
  replace BL := hide (BL.out.trans (q2.mono BL.out.size))
  clear q2
  go_wp2_with fail
  refine (gPartS k true G3.out _).mono ?_
  rintro e1 w3 ⟨rfl, q3⟩
  replace KA := hide (KA.out.below q3)
  clear cA0 cA1 cA2 cA3 cA4 cA5 cA6 cA7 cA8 cA9 cA10
  obtain ⟨-, cA0, cA1, cA2, cA3, cA4, cA5, cA6, cA7, cA8, cA9, cA10⟩ := KA.out
  replace BL := hide (BL.out.trans (q3.mono BL.out.size))
  clear q3
  go_wp2_with fail
  refine (gPartS z true G4.out _).mono ?_
  rintro e1 w4 ⟨rfl, q4⟩
  replace KA := hide (KA.out.below q4)
  clear cA0 cA1 cA2 cA3 cA4 cA5 cA6 cA7 cA8 cA9 cA10
  obtain ⟨-, cA0, cA1, cA2, cA3, cA4, cA5, cA6, cA7, cA8, cA9, cA10⟩ := KA.out
  replace BL := hide (BL.out.trans (q4.mono BL.out.size))
  clear q4
  go_wp2_with fail
  refine (gPartS y true G5.out _).mono ?_
  rintro e1 w5 ⟨rfl, q5⟩
  replace KA := hide (KA.out.below q5)
  clear cA0 cA1 cA2 cA3 cA4 cA5 cA6 cA7 cA8 cA9 cA10
  obtain ⟨-, cA0, cA1, cA2, cA3, cA4, cA5, cA6, cA7, cA8, cA9, cA10⟩ := KA.out
  replace BL := hide (BL.out.trans (q5.mono BL.out.size))
  clear q5
  go_wp2_with fail
  refine (gInS o 1 16777216 true G6.out _).mono ?_
  rintro e1 w6 ⟨rfl, q6⟩
  replace KA := hide (KA.out.below q6)
  clear cA0 cA1 cA2 cA3 cA4 cA5 cA6 cA7 cA8 cA9 cA10
  obtain ⟨-, cA0, cA1, cA2, cA3, cA4, cA5, cA6, cA7, cA8, cA9, cA10⟩ := KA.out
  replace BL := hide (BL.out.trans (q6.mono BL.out.size))
  clear q6
  go_wp2_with fail
  refine (gInS s 0 1073741824 false G7.out _).mono ?_
  rintro e1 w7 ⟨rfl, q7⟩
  replace KA := hide (KA.out.below q7)
  clear cA0 cA1 cA2 cA3 cA4 cA5 cA6 cA7 cA8 cA9 cA10
  obtain ⟨-, cA0, cA1, cA2, cA3, cA4, cA5, cA6, cA7, cA8, cA9, cA10⟩ := KA.out
  replace BL := hide (BL.out.trans (q7.mono BL.out.size))
  clear q7
  go_wp2_with fail
  go_ret
  exact ⟨rfl, BL.out⟩
set_option maxHeartbeats 1000000 in
theorem sRul_no8 (d p l m n k z o y s g : Int) (w : World) (hd : bd d) (hp : bd p) (hl : bd l) (hm : bd m) (hn : bd n) (hk : bd k) (hz : bd z) (ho : bd o) (hy : bd y) (hs : bd s) (hg : bd g)  (g1 : decide (1 ≤ d ∧ d ≤ 3) = true) (g2 : schOk p l m n = true) (g3 : decide (0 ≤ k ∧ k ≤ 65536) = true) (g4 : decide (0 ≤ z ∧ z ≤ 65536) = true) (g5 : decide (0 ≤ y ∧ y ≤ 65536) = true) (g6 : decide (1 ≤ o ∧ o ≤ 16777216) = true) (g7 : decide (0 ≤ s ∧ s ≤ 1073741824) = true) (g8 : decide (0 ≤ g ∧ g ≤ 1000000) = false) :
    Calls Try.prog 30 #[.agg #[.int .i64 d, .int .i64 p, .int .i64 l, .int .i64 m, .int .i64 n, .int .i64 k, .int .i64 z, .int .i64 o, .int .i64 y, .int .i64 s, .int .i64 g]] w fun e w' => e = .returned (.bool false) ∧ Below w.heap.size w w' := by
  have Hd := hide hd
  have Hp := hide hp
  have Hl := hide hl
  have Hm := hide hm
  have Hn := hide hn
  have Hk := hide hk
  have Hz := hide hz
  have Ho := hide ho
  have Hy := hide hy
  have Hs := hide hs
  have Hg := hide hg
  clear hd hp hl hm hn hk hz ho hy hs hg
  have G1 := hide g1
  have G2 := hide g2
  have G3 := hide g3
  have G4 := hide g4
  have G5 := hide g5
  have G6 := hide g6
  have G7 := hide g7
  have G8 := hide g8
  clear g1 g2 g3 g4 g5 g6 g7 g8
  obtain ⟨WA, hWA⟩ : ∃ WA, w.alloc (.cells #[.int .i64 d, .int .i64 p, .int .i64 l, .int .i64 m, .int .i64 n, .int .i64 k, .int .i64 z, .int .i64 o, .int .i64 y, .int .i64 s, .int .i64 g] 27) = WA := ⟨_, rfl⟩
  have nWA : Below w.heap.size w WA := hWA ▸ (Below.refl _ _).alloc (Nat.le_refl _) _
  have mWA : Box11 WA w.heap.size d p l m n k z o y s g := hWA ▸ box11_new _ _ _ _ _ _ _ _ _ _ _ _ _
  have BL : Hid (Below w.heap.size w WA) := hide (nWA)
  have KA := hide (mWA)
  clear nWA mWA
  obtain ⟨-, cA0, cA1, cA2, cA3, cA4, cA5, cA6, cA7, cA8, cA9, cA10⟩ := KA.out
  go_enter Try.func30, Try.ntmps30
  go_wp2_with fail
  refine (gInS d 1 3 true G1.out _).mono ?_
  rintro e1 w1 ⟨rfl, q1⟩
  replace KA := hide (KA.out.below q1)
  clear cA0 cA1 cA2 cA3 cA4 cA5 cA6 cA7 cA8 cA9 cA10
  obtain ⟨-, cA0, cA1, cA2, cA3, cA4, cA5, cA6, cA7, cA8, cA9, cA10⟩ := KA.out
  replace BL := hide (BL.out.trans (q1.mono BL.out.size))
  clear q1
  go_wp2_with fail
  refine (gSchS p l m n true Hp.out Hl.out Hm.out Hn.out G2.out _).mono ?_
  rintro e1 w2 ⟨rfl, q2⟩
  replace KA := hide (KA.out.below q2)
  clear cA0 cA1 cA2 cA3 cA4 cA5 cA6 cA7 cA8 cA9 cA10
  obtain ⟨-, cA0, cA1, cA2, cA3, cA4, cA5, cA6, cA7, cA8, cA9, cA10⟩ := KA.out
  replace BL := hide (BL.out.trans (q2.mono BL.out.size))
  clear q2
  go_wp2_with fail
  refine (gPartS k true G3.out _).mono ?_
  rintro e1 w3 ⟨rfl, q3⟩
  replace KA := hide (KA.out.below q3)
  clear cA0 cA1 cA2 cA3 cA4 cA5 cA6 cA7 cA8 cA9 cA10
  obtain ⟨-, cA0, cA1, cA2, cA3, cA4, cA5, cA6, cA7, cA8, cA9, cA10⟩ := KA.out
  replace BL := hide (BL.out.trans (q3.mono BL.out.size))
  clear q3
  go_wp2_with fail
  refine (gPartS z true G4.out _).mono ?_
  rintro e1 w4 ⟨rfl, q4⟩
  replace KA := hide (KA.out.below q4)
  clear cA0 cA1 cA2 cA3 cA4 cA5 cA6 cA7 cA8 cA9 cA10
  obtain ⟨-, cA0, cA1, cA2, cA3, cA4, cA5, cA6, cA7, cA8, cA9, cA10⟩ := KA.out
  replace BL := hide (BL.out.trans (q4.mono BL.out.size))
  clear q4
  go_wp2_with fail
  refine (gPartS y true G5.out _).mono ?_
  rintro e1 w5 ⟨rfl, q5⟩
  replace KA := hide (KA.out.below q5)
  clear cA0 cA1 cA2 cA3 cA4 cA5 cA6 cA7 cA8 cA9 cA10
  obtain ⟨-, cA0, cA1, cA2, cA3, cA4, cA5, cA6, cA7, cA8, cA9, cA10⟩ := KA.out
  replace BL := hide (BL.out.trans (q5.mono BL.out.size))
  clear q5
  go_wp2_with fail
  refine (gInS o 1 16777216 true G6.out _).mono ?_
  rintro e1 w6 ⟨rfl, q6⟩
  replace KA := hide (KA.out.below q6)
  clear cA0 cA1 cA2 cA3 cA4 cA5 cA6 cA7 cA8 cA9 cA10
  obtain ⟨-, cA0, cA1, cA2, cA3, cA4, cA5, cA6, cA7, cA8, cA9, cA10⟩ := KA.out
  replace BL := hide (BL.out.trans (q6.mono BL.out.size))
  clear q6
  go_wp2_with fail
  refine (gInS s 0 1073741824 true G7.out _).mono ?_
  rintro e1 w7 ⟨rfl, q7⟩
  replace KA := hide (KA.out.below q7)
  clear cA0 cA1 cA2 cA3 cA4 cA5 cA6 cA7 cA8 cA9 cA10
  obtain ⟨-, cA0, cA1, cA2, cA3, cA4, cA5, cA6, cA7, cA8, cA9, cA10⟩ := KA.out
  replace BL := hide (BL.out.trans (q7.mono BL.out.size))
  clear q7
  go_wp2_with fail
  refine (gInS g 0 1000000 false G8.out _).mono ?_
  rintro e1 w8 ⟨rfl, q8⟩
  replace KA := hide (KA.out.below q8)
  clear cA0 cA1 cA2 cA3 cA4 cA5 cA6 cA7 cA8 cA9 cA10
  obtain ⟨-, cA0, cA1, cA2, cA3, cA4, cA5, cA6, cA7, cA8, cA9, cA10⟩ := KA.out
  replace BL := hide (BL.out.trans (q8.mono BL.out.size))
  clear q8
  go_wp2_with fail
  go_ret
  exact ⟨rfl, BL.out⟩
set_option maxHeartbeats 1000000 in
theorem sRul_yes (d p l m n k z o y s g : Int) (w : World) (hd : bd d) (hp : bd p) (hl : bd l) (hm : bd m) (hn : bd n) (hk : bd k) (hz : bd z) (ho : bd o) (hy : bd y) (hs : bd s) (hg : bd g)  (g1 : decide (1 ≤ d ∧ d ≤ 3) = true) (g2 : schOk p l m n = true) (g3 : decide (0 ≤ k ∧ k ≤ 65536) = true) (g4 : decide (0 ≤ z ∧ z ≤ 65536) = true) (g5 : decide (0 ≤ y ∧ y ≤ 65536) = true) (g6 : decide (1 ≤ o ∧ o ≤ 16777216) = true) (g7 : decide (0 ≤ s ∧ s ≤ 1073741824) = true) (g8 : decide (0 ≤ g ∧ g ≤ 1000000) = true) :
    Calls Try.prog 30 #[.agg #[.int .i64 d, .int .i64 p, .int .i64 l, .int .i64 m, .int .i64 n, .int .i64 k, .int .i64 z, .int .i64 o, .int .i64 y, .int .i64 s, .int .i64 g]] w fun e w' => e = .returned (.bool true) ∧ Below w.heap.size w w' := by
  have Hd := hide hd
  have Hp := hide hp
  have Hl := hide hl
  have Hm := hide hm
  have Hn := hide hn
  have Hk := hide hk
  have Hz := hide hz
  have Ho := hide ho
  have Hy := hide hy
  have Hs := hide hs
  have Hg := hide hg
  clear hd hp hl hm hn hk hz ho hy hs hg
  have G1 := hide g1
  have G2 := hide g2
  have G3 := hide g3
  have G4 := hide g4
  have G5 := hide g5
  have G6 := hide g6
  have G7 := hide g7
  have G8 := hide g8
  clear g1 g2 g3 g4 g5 g6 g7 g8
  obtain ⟨WA, hWA⟩ : ∃ WA, w.alloc (.cells #[.int .i64 d, .int .i64 p, .int .i64 l, .int .i64 m, .int .i64 n, .int .i64 k, .int .i64 z, .int .i64 o, .int .i64 y, .int .i64 s, .int .i64 g] 27) = WA := ⟨_, rfl⟩
  have nWA : Below w.heap.size w WA := hWA ▸ (Below.refl _ _).alloc (Nat.le_refl _) _
  have mWA : Box11 WA w.heap.size d p l m n k z o y s g := hWA ▸ box11_new _ _ _ _ _ _ _ _ _ _ _ _ _
  have BL : Hid (Below w.heap.size w WA) := hide (nWA)
  have KA := hide (mWA)
  clear nWA mWA
  obtain ⟨-, cA0, cA1, cA2, cA3, cA4, cA5, cA6, cA7, cA8, cA9, cA10⟩ := KA.out
  go_enter Try.func30, Try.ntmps30
  go_wp2_with fail
  refine (gInS d 1 3 true G1.out _).mono ?_
  rintro e1 w1 ⟨rfl, q1⟩
  replace KA := hide (KA.out.below q1)
  clear cA0 cA1 cA2 cA3 cA4 cA5 cA6 cA7 cA8 cA9 cA10
  obtain ⟨-, cA0, cA1, cA2, cA3, cA4, cA5, cA6, cA7, cA8, cA9, cA10⟩ := KA.out
  replace BL := hide (BL.out.trans (q1.mono BL.out.size))
  clear q1
  go_wp2_with fail
  refine (gSchS p l m n true Hp.out Hl.out Hm.out Hn.out G2.out _).mono ?_
  rintro e1 w2 ⟨rfl, q2⟩
  replace KA := hide (KA.out.below q2)
  clear cA0 cA1 cA2 cA3 cA4 cA5 cA6 cA7 cA8 cA9 cA10
  obtain ⟨-, cA0, cA1, cA2, cA3, cA4, cA5, cA6, cA7, cA8, cA9, cA10⟩ := KA.out
  replace BL := hide (BL.out.trans (q2.mono BL.out.size))
  clear q2
  go_wp2_with fail
  refine (gPartS k true G3.out _).mono ?_
  rintro e1 w3 ⟨rfl, q3⟩
  replace KA := hide (KA.out.below q3)
  clear cA0 cA1 cA2 cA3 cA4 cA5 cA6 cA7 cA8 cA9 cA10
  obtain ⟨-, cA0, cA1, cA2, cA3, cA4, cA5, cA6, cA7, cA8, cA9, cA10⟩ := KA.out
  replace BL := hide (BL.out.trans (q3.mono BL.out.size))
  clear q3
  go_wp2_with fail
  refine (gPartS z true G4.out _).mono ?_
  rintro e1 w4 ⟨rfl, q4⟩
  replace KA := hide (KA.out.below q4)
  clear cA0 cA1 cA2 cA3 cA4 cA5 cA6 cA7 cA8 cA9 cA10
  obtain ⟨-, cA0, cA1, cA2, cA3, cA4, cA5, cA6, cA7, cA8, cA9, cA10⟩ := KA.out
  replace BL := hide (BL.out.trans (q4.mono BL.out.size))
  clear q4
  go_wp2_with fail
  refine (gPartS y true G5.out _).mono ?_
  rintro e1 w5 ⟨rfl, q5⟩
  replace KA := hide (KA.out.below q5)
  clear cA0 cA1 cA2 cA3 cA4 cA5 cA6 cA7 cA8 cA9 cA10
  obtain ⟨-, cA0, cA1, cA2, cA3, cA4, cA5, cA6, cA7, cA8, cA9, cA10⟩ := KA.out
  replace BL := hide (BL.out.trans (q5.mono BL.out.size))
  clear q5
  go_wp2_with fail
  refine (gInS o 1 16777216 true G6.out _).mono ?_
  rintro e1 w6 ⟨rfl, q6⟩
  replace KA := hide (KA.out.below q6)
  clear cA0 cA1 cA2 cA3 cA4 cA5 cA6 cA7 cA8 cA9 cA10
  obtain ⟨-, cA0, cA1, cA2, cA3, cA4, cA5, cA6, cA7, cA8, cA9, cA10⟩ := KA.out
  replace BL := hide (BL.out.trans (q6.mono BL.out.size))
  clear q6
  go_wp2_with fail
  refine (gInS s 0 1073741824 true G7.out _).mono ?_
  rintro e1 w7 ⟨rfl, q7⟩
  replace KA := hide (KA.out.below q7)
  clear cA0 cA1 cA2 cA3 cA4 cA5 cA6 cA7 cA8 cA9 cA10
  obtain ⟨-, cA0, cA1, cA2, cA3, cA4, cA5, cA6, cA7, cA8, cA9, cA10⟩ := KA.out
  replace BL := hide (BL.out.trans (q7.mono BL.out.size))
  clear q7
  go_wp2_with fail
  refine (gInS g 0 1000000 true G8.out _).mono ?_
  rintro e1 w8 ⟨rfl, q8⟩
  replace KA := hide (KA.out.below q8)
  clear cA0 cA1 cA2 cA3 cA4 cA5 cA6 cA7 cA8 cA9 cA10
  obtain ⟨-, cA0, cA1, cA2, cA3, cA4, cA5, cA6, cA7, cA8, cA9, cA10⟩ := KA.out
  replace BL := hide (BL.out.trans (q8.mono BL.out.size))
  clear q8
  go_wp2_with fail
  go_ret
  exact ⟨rfl, BL.out⟩
theorem specRule (d p l m n k z o y s g : Int) (w : World) (hd : bd d) (hp : bd p) (hl : bd l) (hm : bd m) (hn : bd n) (hk : bd k) (hz : bd z) (ho : bd o) (hy : bd y) (hs : bd s) (hg : bd g) :
    Calls Try.prog 30 #[.agg #[.int .i64 d, .int .i64 p, .int .i64 l, .int .i64 m, .int .i64 n, .int .i64 k, .int .i64 z, .int .i64 o, .int .i64 y, .int .i64 s, .int .i64 g]] w fun e w' => e = .returned (.bool (rulOk d p l m n k z o y s g)) ∧ Below w.heap.size w w' := by
  cases g1 : decide (1 ≤ d ∧ d ≤ 3)
  · rw [show rulOk d p l m n k z o y s g = false from decide_eq_false (fun h => of_decide_eq_false g1 (by have := h.1; have := h.2.2; omega))]
    exact sRul_no1 d p l m n k z o y s g w hd hp hl hm hn hk hz ho hy hs hg g1
  cases g2 : schOk p l m n
  · rw [show rulOk d p l m n k z o y s g = false from decide_eq_false (fun h => absurd h.2.1 (by rw [g2]; exact Bool.false_ne_true))]
    exact sRul_no2 d p l m n k z o y s g w hd hp hl hm hn hk hz ho hy hs hg g1 g2
  cases g3 : decide (0 ≤ k ∧ k ≤ 65536)
  · rw [show rulOk d p l m n k z o y s g = false from decide_eq_false (fun h => of_decide_eq_false g3 (by have := h.1; have := h.2.2; omega))]
    exact sRul_no3 d p l m n k z o y s g w hd hp hl hm hn hk hz ho hy hs hg g1 g2 g3
  cases g4 : decide (0 ≤ z ∧ z ≤ 65536)
  · rw [show rulOk d p l m n k z o y s g = false from decide_eq_false (fun h => of_decide_eq_false g4 (by have := h.1; have := h.2.2; omega))]
    exact sRul_no4 d p l m n k z o y s g w hd hp hl hm hn hk hz ho hy hs hg g1 g2 g3 g4
  cases g5 : decide (0 ≤ y ∧ y ≤ 65536)
  · rw [show rulOk d p l m n k z o y s g = false from decide_eq_false (fun h => of_decide_eq_false g5 (by have := h.1; have := h.2.2; omega))]
    exact sRul_no5 d p l m n k z o y s g w hd hp hl hm hn hk hz ho hy hs hg g1 g2 g3 g4 g5
  cases g6 : decide (1 ≤ o ∧ o ≤ 16777216)
  · rw [show rulOk d p l m n k z o y s g = false from decide_eq_false (fun h => of_decide_eq_false g6 (by have := h.1; have := h.2.2; omega))]
    exact sRul_no6 d p l m n k z o y s g w hd hp hl hm hn hk hz ho hy hs hg g1 g2 g3 g4 g5 g6
  cases g7 : decide (0 ≤ s ∧ s ≤ 1073741824)
  · rw [show rulOk d p l m n k z o y s g = false from decide_eq_false (fun h => of_decide_eq_false g7 (by have := h.1; have := h.2.2; omega))]
    exact sRul_no7 d p l m n k z o y s g w hd hp hl hm hn hk hz ho hy hs hg g1 g2 g3 g4 g5 g6 g7
  cases g8 : decide (0 ≤ g ∧ g ≤ 1000000)
  · rw [show rulOk d p l m n k z o y s g = false from decide_eq_false (fun h => of_decide_eq_false g8 (by have := h.1; have := h.2.2; omega))]
    exact sRul_no8 d p l m n k z o y s g w hd hp hl hm hn hk hz ho hy hs hg g1 g2 g3 g4 g5 g6 g7 g8
  have f1 := of_decide_eq_true g1
  have f3 := of_decide_eq_true g3
  have f4 := of_decide_eq_true g4
  have f5 := of_decide_eq_true g5
  have f6 := of_decide_eq_true g6
  have f7 := of_decide_eq_true g7
  have f8 := of_decide_eq_true g8
  rw [show rulOk d p l m n k z o y s g = true from decide_eq_true ⟨f1, g2, by omega⟩]
  exact sRul_yes d p l m n k z o y s g w hd hp hl hm hn hk hz ho hy hs hg g1 g2 g3 g4 g5 g6 g7 g8
set_option maxHeartbeats 1000000 in
theorem iRul_no1 (d p l m n k z o y s g : Int) (w : World) (hd : bd d) (hp : bd p) (hl : bd l) (hm : bd m) (hn : bd n) (hk : bd k) (hz : bd z) (ho : bd o) (hy : bd y) (hs : bd s) (hg : bd g)  (g1 : decide (1 ≤ d ∧ d ≤ 3) = false) :
    Calls Try.prog 25 #[.agg #[.int .i64 d, .int .i64 p, .int .i64 l, .int .i64 m, .int .i64 n, .int .i64 k, .int .i64 z, .int .i64 o, .int .i64 y, .int .i64 s, .int .i64 g]] w fun e w' => e = .returned (.bool false) ∧ Below w.heap.size w w' := by
  have Hd := hide hd
  have Hp := hide hp
  have Hl := hide hl
  have Hm := hide hm
  have Hn := hide hn
  have Hk := hide hk
  have Hz := hide hz
  have Ho := hide ho
  have Hy := hide hy
  have Hs := hide hs
  have Hg := hide hg
  clear hd hp hl hm hn hk hz ho hy hs hg
  have G1 := hide g1
  clear g1
  obtain ⟨WA, hWA⟩ : ∃ WA, w.alloc (.cells #[.int .i64 d, .int .i64 p, .int .i64 l, .int .i64 m, .int .i64 n, .int .i64 k, .int .i64 z, .int .i64 o, .int .i64 y, .int .i64 s, .int .i64 g] 27) = WA := ⟨_, rfl⟩
  have nWA : Below w.heap.size w WA := hWA ▸ (Below.refl _ _).alloc (Nat.le_refl _) _
  have mWA : Box11 WA w.heap.size d p l m n k z o y s g := hWA ▸ box11_new _ _ _ _ _ _ _ _ _ _ _ _ _
  have BL : Hid (Below w.heap.size w WA) := hide (nWA)
  have KA := hide (mWA)
  clear nWA mWA
  obtain ⟨-, cA0, cA1, cA2, cA3, cA4, cA5, cA6, cA7, cA8, cA9, cA10⟩ := KA.out
  go_enter Try.func25, Try.ntmps25
  go_wp2_with fail
  refine (inB_one 1 3 d false _ _ (by decide) Hd.out G1.out rfl).mono ?_
  rintro e1 w1 ⟨rfl, q1⟩
  replace KA := hide (KA.out.below q1)
  clear cA0 cA1 cA2 cA3 cA4 cA5 cA6 cA7 cA8 cA9 cA10
  obtain ⟨-, cA0, cA1, cA2, cA3, cA4, cA5, cA6, cA7, cA8, cA9, cA10⟩ := KA.out
  replace BL := hide (BL.out.trans (q1.mono BL.out.size))
  clear q1
  go_wp2_with fail
  go_ret
  exact ⟨rfl, BL.out⟩
set_option maxHeartbeats 1000000 in
theorem iRul_no2 (d p l m n k z o y s g : Int) (w : World) (hd : bd d) (hp : bd p) (hl : bd l) (hm : bd m) (hn : bd n) (hk : bd k) (hz : bd z) (ho : bd o) (hy : bd y) (hs : bd s) (hg : bd g)  (g1 : decide (1 ≤ d ∧ d ≤ 3) = true) (g2 : schOk p l m n = false) :
    Calls Try.prog 25 #[.agg #[.int .i64 d, .int .i64 p, .int .i64 l, .int .i64 m, .int .i64 n, .int .i64 k, .int .i64 z, .int .i64 o, .int .i64 y, .int .i64 s, .int .i64 g]] w fun e w' => e = .returned (.bool false) ∧ Below w.heap.size w w' := by
  have Hd := hide hd
  have Hp := hide hp
  have Hl := hide hl
  have Hm := hide hm
  have Hn := hide hn
  have Hk := hide hk
  have Hz := hide hz
  have Ho := hide ho
  have Hy := hide hy
  have Hs := hide hs
  have Hg := hide hg
  clear hd hp hl hm hn hk hz ho hy hs hg
  have G1 := hide g1
  have G2 := hide g2
  clear g1 g2
  obtain ⟨WA, hWA⟩ : ∃ WA, w.alloc (.cells #[.int .i64 d, .int .i64 p, .int .i64 l, .int .i64 m, .int .i64 n, .int .i64 k, .int .i64 z, .int .i64 o, .int .i64 y, .int .i64 s, .int .i64 g] 27) = WA := ⟨_, rfl⟩
  have nWA : Below w.heap.size w WA := hWA ▸ (Below.refl _ _).alloc (Nat.le_refl _) _
  have mWA : Box11 WA w.heap.size d p l m n k z o y s g := hWA ▸ box11_new _ _ _ _ _ _ _ _ _ _ _ _ _
  have BL : Hid (Below w.heap.size w WA) := hide (nWA)
  have KA := hide (mWA)
  clear nWA mWA
  obtain ⟨-, cA0, cA1, cA2, cA3, cA4, cA5, cA6, cA7, cA8, cA9, cA10⟩ := KA.out
  go_enter Try.func25, Try.ntmps25
  go_wp2_with fail
  refine (inB_one 1 3 d true _ _ (by decide) Hd.out G1.out rfl).mono ?_
  rintro e1 w1 ⟨rfl, q1⟩
  replace KA := hide (KA.out.below q1)
  clear cA0 cA1 cA2 cA3 cA4 cA5 cA6 cA7 cA8 cA9 cA10
  obtain ⟨-, cA0, cA1, cA2, cA3, cA4, cA5, cA6, cA7, cA8, cA9, cA10⟩ := KA.out
  replace BL := hide (BL.out.trans (q1.mono BL.out.size))
  clear q1
  go_wp2_with fail
  refine (gSchI p l m n false Hp.out Hl.out Hm.out Hn.out G2.out _).mono ?_
  rintro e1 w2 ⟨rfl, q2⟩
  replace KA := hide (KA.out.below q2)
  clear cA0 cA1 cA2 cA3 cA4 cA5 cA6 cA7 cA8 cA9 cA10
  obtain ⟨-, cA0, cA1, cA2, cA3, cA4, cA5, cA6, cA7, cA8, cA9, cA10⟩ := KA.out
  replace BL := hide (BL.out.trans (q2.mono BL.out.size))
  clear q2
  go_wp2_with fail
  go_ret
  exact ⟨rfl, BL.out⟩
set_option maxHeartbeats 1000000 in
theorem iRul_no3 (d p l m n k z o y s g : Int) (w : World) (hd : bd d) (hp : bd p) (hl : bd l) (hm : bd m) (hn : bd n) (hk : bd k) (hz : bd z) (ho : bd o) (hy : bd y) (hs : bd s) (hg : bd g)  (g1 : decide (1 ≤ d ∧ d ≤ 3) = true) (g2 : schOk p l m n = true) (g3 : decide ((0 ≤ k ∧ k ≤ 65536) ∧ (0 ≤ z ∧ z ≤ 65536) ∧ (0 ≤ y ∧ y ≤ 65536)) = false) :
    Calls Try.prog 25 #[.agg #[.int .i64 d, .int .i64 p, .int .i64 l, .int .i64 m, .int .i64 n, .int .i64 k, .int .i64 z, .int .i64 o, .int .i64 y, .int .i64 s, .int .i64 g]] w fun e w' => e = .returned (.bool false) ∧ Below w.heap.size w w' := by
  have Hd := hide hd
  have Hp := hide hp
  have Hl := hide hl
  have Hm := hide hm
  have Hn := hide hn
  have Hk := hide hk
  have Hz := hide hz
  have Ho := hide ho
  have Hy := hide hy
  have Hs := hide hs
  have Hg := hide hg
  clear hd hp hl hm hn hk hz ho hy hs hg
  have G1 := hide g1
  have G2 := hide g2
  have G3 := hide g3
  clear g1 g2 g3
  obtain ⟨WA, hWA⟩ : ∃ WA, w.alloc (.cells #[.int .i64 d, .int .i64 p, .int .i64 l, .int .i64 m, .int .i64 n, .int .i64 k, .int .i64 z, .int .i64 o, .int .i64 y, .int .i64 s, .int .i64 g] 27) = WA := ⟨_, rfl⟩
  have nWA : Below w.heap.size w WA := hWA ▸ (Below.refl _ _).alloc (Nat.le_refl _) _
  have mWA : Box11 WA w.heap.size d p l m n k z o y s g := hWA ▸ box11_new _ _ _ _ _ _ _ _ _ _ _ _ _
  have BL : Hid (Below w.heap.size w WA) := hide (nWA)
  have KA := hide (mWA)
  clear nWA mWA
  obtain ⟨-, cA0, cA1, cA2, cA3, cA4, cA5, cA6, cA7, cA8, cA9, cA10⟩ := KA.out
  go_enter Try.func25, Try.ntmps25
  go_wp2_with fail
  refine (inB_one 1 3 d true _ _ (by decide) Hd.out G1.out rfl).mono ?_
  rintro e1 w1 ⟨rfl, q1⟩
  replace KA := hide (KA.out.below q1)
  clear cA0 cA1 cA2 cA3 cA4 cA5 cA6 cA7 cA8 cA9 cA10
  obtain ⟨-, cA0, cA1, cA2, cA3, cA4, cA5, cA6, cA7, cA8, cA9, cA10⟩ := KA.out
  replace BL := hide (BL.out.trans (q1.mono BL.out.size))
  clear q1
  go_wp2_with fail
  refine (gSchI p l m n true Hp.out Hl.out Hm.out Hn.out G2.out _).mono ?_
  rintro e1 w2 ⟨rfl, q2⟩
  replace KA := hide (KA.out.below q2)
  clear cA0 cA1 cA2 cA3 cA4 cA5 cA6 cA7 cA8 cA9 cA10
  obtain ⟨-, cA0, cA1, cA2, cA3, cA4, cA5, cA6, cA7, cA8, cA9, cA10⟩ := KA.out
  replace BL := hide (BL.out.trans (q2.mono BL.out.size))
  clear q2
  go_wp2_with fail
  refine (parts_three k z y false _ _ Hk.out Hz.out Hy.out G3.out rfl).mono ?_
  rintro e1 w3 ⟨rfl, q3⟩
  replace KA := hide (KA.out.below q3)
  clear cA0 cA1 cA2 cA3 cA4 cA5 cA6 cA7 cA8 cA9 cA10
  obtain ⟨-, cA0, cA1, cA2, cA3, cA4, cA5, cA6, cA7, cA8, cA9, cA10⟩ := KA.out
  replace BL := hide (BL.out.trans (q3.mono BL.out.size))
  clear q3
  go_wp2_with fail
  go_ret
  exact ⟨rfl, BL.out⟩
set_option maxHeartbeats 1000000 in
theorem iRul_no4 (d p l m n k z o y s g : Int) (w : World) (hd : bd d) (hp : bd p) (hl : bd l) (hm : bd m) (hn : bd n) (hk : bd k) (hz : bd z) (ho : bd o) (hy : bd y) (hs : bd s) (hg : bd g)  (g1 : decide (1 ≤ d ∧ d ≤ 3) = true) (g2 : schOk p l m n = true) (g3 : decide ((0 ≤ k ∧ k ≤ 65536) ∧ (0 ≤ z ∧ z ≤ 65536) ∧ (0 ≤ y ∧ y ≤ 65536)) = true) (g4 : decide (1 ≤ o ∧ o ≤ 16777216) = false) :
    Calls Try.prog 25 #[.agg #[.int .i64 d, .int .i64 p, .int .i64 l, .int .i64 m, .int .i64 n, .int .i64 k, .int .i64 z, .int .i64 o, .int .i64 y, .int .i64 s, .int .i64 g]] w fun e w' => e = .returned (.bool false) ∧ Below w.heap.size w w' := by
  have Hd := hide hd
  have Hp := hide hp
  have Hl := hide hl
  have Hm := hide hm
  have Hn := hide hn
  have Hk := hide hk
  have Hz := hide hz
  have Ho := hide ho
  have Hy := hide hy
  have Hs := hide hs
  have Hg := hide hg
  clear hd hp hl hm hn hk hz ho hy hs hg
  have G1 := hide g1
  have G2 := hide g2
  have G3 := hide g3
  have G4 := hide g4
  clear g1 g2 g3 g4
  obtain ⟨WA, hWA⟩ : ∃ WA, w.alloc (.cells #[.int .i64 d, .int .i64 p, .int .i64 l, .int .i64 m, .int .i64 n, .int .i64 k, .int .i64 z, .int .i64 o, .int .i64 y, .int .i64 s, .int .i64 g] 27) = WA := ⟨_, rfl⟩
  have nWA : Below w.heap.size w WA := hWA ▸ (Below.refl _ _).alloc (Nat.le_refl _) _
  have mWA : Box11 WA w.heap.size d p l m n k z o y s g := hWA ▸ box11_new _ _ _ _ _ _ _ _ _ _ _ _ _
  have BL : Hid (Below w.heap.size w WA) := hide (nWA)
  have KA := hide (mWA)
  clear nWA mWA
  obtain ⟨-, cA0, cA1, cA2, cA3, cA4, cA5, cA6, cA7, cA8, cA9, cA10⟩ := KA.out
  go_enter Try.func25, Try.ntmps25
  go_wp2_with fail
  refine (inB_one 1 3 d true _ _ (by decide) Hd.out G1.out rfl).mono ?_
  rintro e1 w1 ⟨rfl, q1⟩
  replace KA := hide (KA.out.below q1)
  clear cA0 cA1 cA2 cA3 cA4 cA5 cA6 cA7 cA8 cA9 cA10
  obtain ⟨-, cA0, cA1, cA2, cA3, cA4, cA5, cA6, cA7, cA8, cA9, cA10⟩ := KA.out
  replace BL := hide (BL.out.trans (q1.mono BL.out.size))
  clear q1
  go_wp2_with fail
  refine (gSchI p l m n true Hp.out Hl.out Hm.out Hn.out G2.out _).mono ?_
  rintro e1 w2 ⟨rfl, q2⟩
  replace KA := hide (KA.out.below q2)
  clear cA0 cA1 cA2 cA3 cA4 cA5 cA6 cA7 cA8 cA9 cA10
  obtain ⟨-, cA0, cA1, cA2, cA3, cA4, cA5, cA6, cA7, cA8, cA9, cA10⟩ := KA.out
  replace BL := hide (BL.out.trans (q2.mono BL.out.size))
  clear q2
  go_wp2_with fail
  refine (parts_three k z y true _ _ Hk.out Hz.out Hy.out G3.out rfl).mono ?_
  rintro e1 w3 ⟨rfl, q3⟩
  replace KA := hide (KA.out.below q3)
  clear cA0 cA1 cA2 cA3 cA4 cA5 cA6 cA7 cA8 cA9 cA10
  obtain ⟨-, cA0, cA1, cA2, cA3, cA4, cA5, cA6, cA7, cA8, cA9, cA10⟩ := KA.out
  replace BL := hide (BL.out.trans (q3.mono BL.out.size))
  clear q3
  go_wp2_with fail
  refine (inB_one 1 16777216 o false _ _ (by decide) Ho.out G4.out rfl).mono ?_
  rintro e1 w4 ⟨rfl, q4⟩
  replace KA := hide (KA.out.below q4)
  clear cA0 cA1 cA2 cA3 cA4 cA5 cA6 cA7 cA8 cA9 cA10
  obtain ⟨-, cA0, cA1, cA2, cA3, cA4, cA5, cA6, cA7, cA8, cA9, cA10⟩ := KA.out
  replace BL := hide (BL.out.trans (q4.mono BL.out.size))
  clear q4
  go_wp2_with fail
  go_ret
  exact ⟨rfl, BL.out⟩
set_option maxHeartbeats 1000000 in
theorem iRul_no5 (d p l m n k z o y s g : Int) (w : World) (hd : bd d) (hp : bd p) (hl : bd l) (hm : bd m) (hn : bd n) (hk : bd k) (hz : bd z) (ho : bd o) (hy : bd y) (hs : bd s) (hg : bd g)  (g1 : decide (1 ≤ d ∧ d ≤ 3) = true) (g2 : schOk p l m n = true) (g3 : decide ((0 ≤ k ∧ k ≤ 65536) ∧ (0 ≤ z ∧ z ≤ 65536) ∧ (0 ≤ y ∧ y ≤ 65536)) = true) (g4 : decide (1 ≤ o ∧ o ≤ 16777216) = true) (g5 : decide (0 ≤ s ∧ s ≤ 1073741824) = false) :
    Calls Try.prog 25 #[.agg #[.int .i64 d, .int .i64 p, .int .i64 l, .int .i64 m, .int .i64 n, .int .i64 k, .int .i64 z, .int .i64 o, .int .i64 y, .int .i64 s, .int .i64 g]] w fun e w' => e = .returned (.bool false) ∧ Below w.heap.size w w' := by
  have Hd := hide hd
  have Hp := hide hp
  have Hl := hide hl
  have Hm := hide hm
  have Hn := hide hn
  have Hk := hide hk
  have Hz := hide hz
  have Ho := hide ho
  have Hy := hide hy
  have Hs := hide hs
  have Hg := hide hg
  clear hd hp hl hm hn hk hz ho hy hs hg
  have G1 := hide g1
  have G2 := hide g2
  have G3 := hide g3
  have G4 := hide g4
  have G5 := hide g5
  clear g1 g2 g3 g4 g5
  obtain ⟨WA, hWA⟩ : ∃ WA, w.alloc (.cells #[.int .i64 d, .int .i64 p, .int .i64 l, .int .i64 m, .int .i64 n, .int .i64 k, .int .i64 z, .int .i64 o, .int .i64 y, .int .i64 s, .int .i64 g] 27) = WA := ⟨_, rfl⟩
  have nWA : Below w.heap.size w WA := hWA ▸ (Below.refl _ _).alloc (Nat.le_refl _) _
  have mWA : Box11 WA w.heap.size d p l m n k z o y s g := hWA ▸ box11_new _ _ _ _ _ _ _ _ _ _ _ _ _
  have BL : Hid (Below w.heap.size w WA) := hide (nWA)
  have KA := hide (mWA)
  clear nWA mWA
  obtain ⟨-, cA0, cA1, cA2, cA3, cA4, cA5, cA6, cA7, cA8, cA9, cA10⟩ := KA.out
  go_enter Try.func25, Try.ntmps25
  go_wp2_with fail
  refine (inB_one 1 3 d true _ _ (by decide) Hd.out G1.out rfl).mono ?_
  rintro e1 w1 ⟨rfl, q1⟩
  replace KA := hide (KA.out.below q1)
  clear cA0 cA1 cA2 cA3 cA4 cA5 cA6 cA7 cA8 cA9 cA10
  obtain ⟨-, cA0, cA1, cA2, cA3, cA4, cA5, cA6, cA7, cA8, cA9, cA10⟩ := KA.out
  replace BL := hide (BL.out.trans (q1.mono BL.out.size))
  clear q1
  go_wp2_with fail
  refine (gSchI p l m n true Hp.out Hl.out Hm.out Hn.out G2.out _).mono ?_
  rintro e1 w2 ⟨rfl, q2⟩
  replace KA := hide (KA.out.below q2)
  clear cA0 cA1 cA2 cA3 cA4 cA5 cA6 cA7 cA8 cA9 cA10
  obtain ⟨-, cA0, cA1, cA2, cA3, cA4, cA5, cA6, cA7, cA8, cA9, cA10⟩ := KA.out
  replace BL := hide (BL.out.trans (q2.mono BL.out.size))
  clear q2
  go_wp2_with fail
  refine (parts_three k z y true _ _ Hk.out Hz.out Hy.out G3.out rfl).mono ?_
  rintro e1 w3 ⟨rfl, q3⟩
  replace KA := hide (KA.out.below q3)
  clear cA0 cA1 cA2 cA3 cA4 cA5 cA6 cA7 cA8 cA9 cA10
  obtain ⟨-, cA0, cA1, cA2, cA3, cA4, cA5, cA6, cA7, cA8, cA9, cA10⟩ := KA.out
  replace BL := hide (BL.out.trans (q3.mono BL.out.size))
  clear q3
  go_wp2_with fail
  refine (inB_one 1 16777216 o true _ _ (by decide) Ho.out G4.out rfl).mono ?_
  rintro e1 w4 ⟨rfl, q4⟩
  replace KA := hide (KA.out.below q4)
  clear cA0 cA1 cA2 cA3 cA4 cA5 cA6 cA7 cA8 cA9 cA10
  obtain ⟨-, cA0, cA1, cA2, cA3, cA4, cA5, cA6, cA7, cA8, cA9, cA10⟩ := KA.out
  replace BL := hide (BL.out.trans (q4.mono BL.out.size))
  clear q4
  go_wp2_with fail
  refine (lengthF s false Hs.out G5.out _).mono ?_
  rintro e1 w5 ⟨rfl, q5⟩
  replace KA := hide (KA.out.below q5)
  clear cA0 cA1 cA2 cA3 cA4 cA5 cA6 cA7 cA8 cA9 cA10
  obtain ⟨-, cA0, cA1, cA2, cA3, cA4, cA5, cA6, cA7, cA8, cA9, cA10⟩ := KA.out
  replace BL := hide (BL.out.trans (q5.mono BL.out.size))
  clear q5
  go_wp2_with fail
  go_ret
  exact ⟨rfl, BL.out⟩
set_option maxHeartbeats 1000000 in
theorem iRul_no6 (d p l m n k z o y s g : Int) (w : World) (hd : bd d) (hp : bd p) (hl : bd l) (hm : bd m) (hn : bd n) (hk : bd k) (hz : bd z) (ho : bd o) (hy : bd y) (hs : bd s) (hg : bd g)  (g1 : decide (1 ≤ d ∧ d ≤ 3) = true) (g2 : schOk p l m n = true) (g3 : decide ((0 ≤ k ∧ k ≤ 65536) ∧ (0 ≤ z ∧ z ≤ 65536) ∧ (0 ≤ y ∧ y ≤ 65536)) = true) (g4 : decide (1 ≤ o ∧ o ≤ 16777216) = true) (g5 : decide (0 ≤ s ∧ s ≤ 1073741824) = true) (g6 : decide (0 ≤ g ∧ g ≤ 1000000) = false) :
    Calls Try.prog 25 #[.agg #[.int .i64 d, .int .i64 p, .int .i64 l, .int .i64 m, .int .i64 n, .int .i64 k, .int .i64 z, .int .i64 o, .int .i64 y, .int .i64 s, .int .i64 g]] w fun e w' => e = .returned (.bool false) ∧ Below w.heap.size w w' := by
  have Hd := hide hd
  have Hp := hide hp
  have Hl := hide hl
  have Hm := hide hm
  have Hn := hide hn
  have Hk := hide hk
  have Hz := hide hz
  have Ho := hide ho
  have Hy := hide hy
  have Hs := hide hs
  have Hg := hide hg
  clear hd hp hl hm hn hk hz ho hy hs hg
  have G1 := hide g1
  have G2 := hide g2
  have G3 := hide g3
  have G4 := hide g4
  have G5 := hide g5
  have G6 := hide g6
  clear g1 g2 g3 g4 g5 g6
  obtain ⟨WA, hWA⟩ : ∃ WA, w.alloc (.cells #[.int .i64 d, .int .i64 p, .int .i64 l, .int .i64 m, .int .i64 n, .int .i64 k, .int .i64 z, .int .i64 o, .int .i64 y, .int .i64 s, .int .i64 g] 27) = WA := ⟨_, rfl⟩
  have nWA : Below w.heap.size w WA := hWA ▸ (Below.refl _ _).alloc (Nat.le_refl _) _
  have mWA : Box11 WA w.heap.size d p l m n k z o y s g := hWA ▸ box11_new _ _ _ _ _ _ _ _ _ _ _ _ _
  have BL : Hid (Below w.heap.size w WA) := hide (nWA)
  have KA := hide (mWA)
  clear nWA mWA
  obtain ⟨-, cA0, cA1, cA2, cA3, cA4, cA5, cA6, cA7, cA8, cA9, cA10⟩ := KA.out
  go_enter Try.func25, Try.ntmps25
  go_wp2_with fail
  refine (inB_one 1 3 d true _ _ (by decide) Hd.out G1.out rfl).mono ?_
  rintro e1 w1 ⟨rfl, q1⟩
  replace KA := hide (KA.out.below q1)
  clear cA0 cA1 cA2 cA3 cA4 cA5 cA6 cA7 cA8 cA9 cA10
  obtain ⟨-, cA0, cA1, cA2, cA3, cA4, cA5, cA6, cA7, cA8, cA9, cA10⟩ := KA.out
  replace BL := hide (BL.out.trans (q1.mono BL.out.size))
  clear q1
  go_wp2_with fail
  refine (gSchI p l m n true Hp.out Hl.out Hm.out Hn.out G2.out _).mono ?_
  rintro e1 w2 ⟨rfl, q2⟩
  replace KA := hide (KA.out.below q2)
  clear cA0 cA1 cA2 cA3 cA4 cA5 cA6 cA7 cA8 cA9 cA10
  obtain ⟨-, cA0, cA1, cA2, cA3, cA4, cA5, cA6, cA7, cA8, cA9, cA10⟩ := KA.out
  replace BL := hide (BL.out.trans (q2.mono BL.out.size))
  clear q2
  go_wp2_with fail
  refine (parts_three k z y true _ _ Hk.out Hz.out Hy.out G3.out rfl).mono ?_
  rintro e1 w3 ⟨rfl, q3⟩
  replace KA := hide (KA.out.below q3)
  clear cA0 cA1 cA2 cA3 cA4 cA5 cA6 cA7 cA8 cA9 cA10
  obtain ⟨-, cA0, cA1, cA2, cA3, cA4, cA5, cA6, cA7, cA8, cA9, cA10⟩ := KA.out
  replace BL := hide (BL.out.trans (q3.mono BL.out.size))
  clear q3
  go_wp2_with fail
  refine (inB_one 1 16777216 o true _ _ (by decide) Ho.out G4.out rfl).mono ?_
  rintro e1 w4 ⟨rfl, q4⟩
  replace KA := hide (KA.out.below q4)
  clear cA0 cA1 cA2 cA3 cA4 cA5 cA6 cA7 cA8 cA9 cA10
  obtain ⟨-, cA0, cA1, cA2, cA3, cA4, cA5, cA6, cA7, cA8, cA9, cA10⟩ := KA.out
  replace BL := hide (BL.out.trans (q4.mono BL.out.size))
  clear q4
  go_wp2_with fail
  refine (lengthF s true Hs.out G5.out _).mono ?_
  rintro e1 w5 ⟨rfl, q5⟩
  replace KA := hide (KA.out.below q5)
  clear cA0 cA1 cA2 cA3 cA4 cA5 cA6 cA7 cA8 cA9 cA10
  obtain ⟨-, cA0, cA1, cA2, cA3, cA4, cA5, cA6, cA7, cA8, cA9, cA10⟩ := KA.out
  replace BL := hide (BL.out.trans (q5.mono BL.out.size))
  clear q5
  go_wp2_with fail
  refine (steps_one g false _ _ Hg.out G6.out rfl).mono ?_
  rintro e1 w6 ⟨rfl, q6⟩
  replace KA := hide (KA.out.below q6)
  clear cA0 cA1 cA2 cA3 cA4 cA5 cA6 cA7 cA8 cA9 cA10
  obtain ⟨-, cA0, cA1, cA2, cA3, cA4, cA5, cA6, cA7, cA8, cA9, cA10⟩ := KA.out
  replace BL := hide (BL.out.trans (q6.mono BL.out.size))
  clear q6
  go_wp2_with fail
  go_ret
  exact ⟨rfl, BL.out⟩
set_option maxHeartbeats 1000000 in
theorem iRul_yes (d p l m n k z o y s g : Int) (w : World) (hd : bd d) (hp : bd p) (hl : bd l) (hm : bd m) (hn : bd n) (hk : bd k) (hz : bd z) (ho : bd o) (hy : bd y) (hs : bd s) (hg : bd g)  (g1 : decide (1 ≤ d ∧ d ≤ 3) = true) (g2 : schOk p l m n = true) (g3 : decide ((0 ≤ k ∧ k ≤ 65536) ∧ (0 ≤ z ∧ z ≤ 65536) ∧ (0 ≤ y ∧ y ≤ 65536)) = true) (g4 : decide (1 ≤ o ∧ o ≤ 16777216) = true) (g5 : decide (0 ≤ s ∧ s ≤ 1073741824) = true) (g6 : decide (0 ≤ g ∧ g ≤ 1000000) = true) :
    Calls Try.prog 25 #[.agg #[.int .i64 d, .int .i64 p, .int .i64 l, .int .i64 m, .int .i64 n, .int .i64 k, .int .i64 z, .int .i64 o, .int .i64 y, .int .i64 s, .int .i64 g]] w fun e w' => e = .returned (.bool true) ∧ Below w.heap.size w w' := by
  have Hd := hide hd
  have Hp := hide hp
  have Hl := hide hl
  have Hm := hide hm
  have Hn := hide hn
  have Hk := hide hk
  have Hz := hide hz
  have Ho := hide ho
  have Hy := hide hy
  have Hs := hide hs
  have Hg := hide hg
  clear hd hp hl hm hn hk hz ho hy hs hg
  have G1 := hide g1
  have G2 := hide g2
  have G3 := hide g3
  have G4 := hide g4
  have G5 := hide g5
  have G6 := hide g6
  clear g1 g2 g3 g4 g5 g6
  obtain ⟨WA, hWA⟩ : ∃ WA, w.alloc (.cells #[.int .i64 d, .int .i64 p, .int .i64 l, .int .i64 m, .int .i64 n, .int .i64 k, .int .i64 z, .int .i64 o, .int .i64 y, .int .i64 s, .int .i64 g] 27) = WA := ⟨_, rfl⟩
  have nWA : Below w.heap.size w WA := hWA ▸ (Below.refl _ _).alloc (Nat.le_refl _) _
  have mWA : Box11 WA w.heap.size d p l m n k z o y s g := hWA ▸ box11_new _ _ _ _ _ _ _ _ _ _ _ _ _
  have BL : Hid (Below w.heap.size w WA) := hide (nWA)
  have KA := hide (mWA)
  clear nWA mWA
  obtain ⟨-, cA0, cA1, cA2, cA3, cA4, cA5, cA6, cA7, cA8, cA9, cA10⟩ := KA.out
  go_enter Try.func25, Try.ntmps25
  go_wp2_with fail
  refine (inB_one 1 3 d true _ _ (by decide) Hd.out G1.out rfl).mono ?_
  rintro e1 w1 ⟨rfl, q1⟩
  replace KA := hide (KA.out.below q1)
  clear cA0 cA1 cA2 cA3 cA4 cA5 cA6 cA7 cA8 cA9 cA10
  obtain ⟨-, cA0, cA1, cA2, cA3, cA4, cA5, cA6, cA7, cA8, cA9, cA10⟩ := KA.out
  replace BL := hide (BL.out.trans (q1.mono BL.out.size))
  clear q1
  go_wp2_with fail
  refine (gSchI p l m n true Hp.out Hl.out Hm.out Hn.out G2.out _).mono ?_
  rintro e1 w2 ⟨rfl, q2⟩
  replace KA := hide (KA.out.below q2)
  clear cA0 cA1 cA2 cA3 cA4 cA5 cA6 cA7 cA8 cA9 cA10
  obtain ⟨-, cA0, cA1, cA2, cA3, cA4, cA5, cA6, cA7, cA8, cA9, cA10⟩ := KA.out
  replace BL := hide (BL.out.trans (q2.mono BL.out.size))
  clear q2
  go_wp2_with fail
  refine (parts_three k z y true _ _ Hk.out Hz.out Hy.out G3.out rfl).mono ?_
  rintro e1 w3 ⟨rfl, q3⟩
  replace KA := hide (KA.out.below q3)
  clear cA0 cA1 cA2 cA3 cA4 cA5 cA6 cA7 cA8 cA9 cA10
  obtain ⟨-, cA0, cA1, cA2, cA3, cA4, cA5, cA6, cA7, cA8, cA9, cA10⟩ := KA.out
  replace BL := hide (BL.out.trans (q3.mono BL.out.size))
  clear q3
  go_wp2_with fail
  refine (inB_one 1 16777216 o true _ _ (by decide) Ho.out G4.out rfl).mono ?_
  rintro e1 w4 ⟨rfl, q4⟩
  replace KA := hide (KA.out.below q4)
  clear cA0 cA1 cA2 cA3 cA4 cA5 cA6 cA7 cA8 cA9 cA10
  obtain ⟨-, cA0, cA1, cA2, cA3, cA4, cA5, cA6, cA7, cA8, cA9, cA10⟩ := KA.out
  replace BL := hide (BL.out.trans (q4.mono BL.out.size))
  clear q4
  go_wp2_with fail
  refine (lengthF s true Hs.out G5.out _).mono ?_
  rintro e1 w5 ⟨rfl, q5⟩
  replace KA := hide (KA.out.below q5)
  clear cA0 cA1 cA2 cA3 cA4 cA5 cA6 cA7 cA8 cA9 cA10
  obtain ⟨-, cA0, cA1, cA2, cA3, cA4, cA5, cA6, cA7, cA8, cA9, cA10⟩ := KA.out
  replace BL := hide (BL.out.trans (q5.mono BL.out.size))
  clear q5
  go_wp2_with fail
  refine (steps_one g true _ _ Hg.out G6.out rfl).mono ?_
  rintro e1 w6 ⟨rfl, q6⟩
  replace KA := hide (KA.out.below q6)
  clear cA0 cA1 cA2 cA3 cA4 cA5 cA6 cA7 cA8 cA9 cA10
  obtain ⟨-, cA0, cA1, cA2, cA3, cA4, cA5, cA6, cA7, cA8, cA9, cA10⟩ := KA.out
  replace BL := hide (BL.out.trans (q6.mono BL.out.size))
  clear q6
  go_wp2_with fail
  go_ret
  exact ⟨rfl, BL.out⟩
theorem implRule (d p l m n k z o y s g : Int) (w : World) (hd : bd d) (hp : bd p) (hl : bd l) (hm : bd m) (hn : bd n) (hk : bd k) (hz : bd z) (ho : bd o) (hy : bd y) (hs : bd s) (hg : bd g) :
    Calls Try.prog 25 #[.agg #[.int .i64 d, .int .i64 p, .int .i64 l, .int .i64 m, .int .i64 n, .int .i64 k, .int .i64 z, .int .i64 o, .int .i64 y, .int .i64 s, .int .i64 g]] w fun e w' => e = .returned (.bool (rulOk d p l m n k z o y s g)) ∧ Below w.heap.size w w' := by
  cases g1 : decide (1 ≤ d ∧ d ≤ 3)
  · rw [show rulOk d p l m n k z o y s g = false from decide_eq_false (fun h => of_decide_eq_false g1 (by have := h.1; have := h.2.2; omega))]
    exact iRul_no1 d p l m n k z o y s g w hd hp hl hm hn hk hz ho hy hs hg g1
  cases g2 : schOk p l m n
  · rw [show rulOk d p l m n k z o y s g = false from decide_eq_false (fun h => absurd h.2.1 (by rw [g2]; exact Bool.false_ne_true))]
    exact iRul_no2 d p l m n k z o y s g w hd hp hl hm hn hk hz ho hy hs hg g1 g2
  cases g3 : decide ((0 ≤ k ∧ k ≤ 65536) ∧ (0 ≤ z ∧ z ≤ 65536) ∧ (0 ≤ y ∧ y ≤ 65536))
  · rw [show rulOk d p l m n k z o y s g = false from decide_eq_false (fun h => of_decide_eq_false g3 (by have := h.1; have := h.2.2; omega))]
    exact iRul_no3 d p l m n k z o y s g w hd hp hl hm hn hk hz ho hy hs hg g1 g2 g3
  cases g4 : decide (1 ≤ o ∧ o ≤ 16777216)
  · rw [show rulOk d p l m n k z o y s g = false from decide_eq_false (fun h => of_decide_eq_false g4 (by have := h.1; have := h.2.2; omega))]
    exact iRul_no4 d p l m n k z o y s g w hd hp hl hm hn hk hz ho hy hs hg g1 g2 g3 g4
  cases g5 : decide (0 ≤ s ∧ s ≤ 1073741824)
  · rw [show rulOk d p l m n k z o y s g = false from decide_eq_false (fun h => of_decide_eq_false g5 (by have := h.1; have := h.2.2; omega))]
    exact iRul_no5 d p l m n k z o y s g w hd hp hl hm hn hk hz ho hy hs hg g1 g2 g3 g4 g5
  cases g6 : decide (0 ≤ g ∧ g ≤ 1000000)
  · rw [show rulOk d p l m n k z o y s g = false from decide_eq_false (fun h => of_decide_eq_false g6 (by have := h.1; have := h.2.2; omega))]
    exact iRul_no6 d p l m n k z o y s g w hd hp hl hm hn hk hz ho hy hs hg g1 g2 g3 g4 g5 g6
  have f1 := of_decide_eq_true g1
  have f3 := of_decide_eq_true g3
  have f4 := of_decide_eq_true g4
  have f5 := of_decide_eq_true g5
  have f6 := of_decide_eq_true g6
  rw [show rulOk d p l m n k z o y s g = true from decide_eq_true ⟨f1, g2, by omega⟩]
  exact iRul_yes d p l m n k z o y s g w hd hp hl hm hn hk hz ho hy hs hg g1 g2 g3 g4 g5 g6
end Vo
end Go.Proofs.Ytflbhlepmjiejaa
