/- Feeds that can be, on both sides (written by tools/gen16.py). -/
import Derived.Test.YtmdgkbmifaajgaaWg
import Derived.Test.YtmdgkbmifaajgaaAr
namespace Go.Proofs.Ytmdgkbmifaajgaa
namespace Vo
open Go.ChangeShapes Go.WideShapes Go.ChangeAt Go.RowKit Go.Joins Go.Sort
open Vl
set_option linter.unusedVariables false
set_option linter.unusedSimpArgs false
/-- 6 ints in a variable -/
def Box6 (w : World) (p : Nat) (x0 x1 x2 x3 x4 x5 : Int) : Prop := p < w.heap.size ∧ w.cell? ⟨p, 0, none⟩ = some (.int .i64 x0) ∧ w.cell? ⟨p, 1, none⟩ = some (.int .i64 x1) ∧ w.cell? ⟨p, 2, none⟩ = some (.int .i64 x2) ∧ w.cell? ⟨p, 3, none⟩ = some (.int .i64 x3) ∧ w.cell? ⟨p, 4, none⟩ = some (.int .i64 x4) ∧ w.cell? ⟨p, 5, none⟩ = some (.int .i64 x5)
theorem box6_new (w : World) (x0 x1 x2 x3 x4 x5 : Int) (ty : TypeId) : Box6 (w.alloc (.cells #[.int .i64 x0, .int .i64 x1, .int .i64 x2, .int .i64 x3, .int .i64 x4, .int .i64 x5] ty)) w.heap.size x0 x1 x2 x3 x4 x5 := ⟨by simp, by simp [go_sem], by simp [go_sem], by simp [go_sem], by simp [go_sem], by simp [go_sem], by simp [go_sem]⟩
theorem Box6.below {w w' : World} {p : Nat} {x0 x1 x2 x3 x4 x5 : Int} (h : Box6 w p x0 x1 x2 x3 x4 x5) (b : Below w.heap.size w w') : Box6 w' p x0 x1 x2 x3 x4 x5 := by
  obtain ⟨hp, h0, h1, h2, h3, h4, h5⟩ := h
  exact ⟨Nat.lt_of_lt_of_le hp b.size, by rw [b.cell (p := ⟨p, 0, none⟩) hp]; exact h0, by rw [b.cell (p := ⟨p, 1, none⟩) hp]; exact h1, by rw [b.cell (p := ⟨p, 2, none⟩) hp]; exact h2, by rw [b.cell (p := ⟨p, 3, none⟩) hp]; exact h3, by rw [b.cell (p := ⟨p, 4, none⟩) hp]; exact h4, by rw [b.cell (p := ⟨p, 5, none⟩) hp]; exact h5⟩
/-- a feed that can be -/
def feOk (a b s e t k : Int) : Bool := decide ((1 ≤ a ∧ a ≤ 4096) ∧ (1 ≤ b ∧ b ≤ a) ∧ stOk s = true ∧ (0 ≤ e ∧ e ≤ 1000000) ∧ (1 ≤ k ∧ k ≤ 64) ∧ (0 ≤ t ∧ t ≤ a - b) ∧ t % b = 0)
theorem fe_of {a b s e t k : Int} (h : feOk a b s e t k = true) : (1 ≤ a ∧ a ≤ 4096) ∧ (1 ≤ b ∧ b ≤ a) ∧ stOk s = true ∧ (0 ≤ e ∧ e ≤ 1000000) ∧ (1 ≤ k ∧ k ≤ 64) ∧ (0 ≤ t ∧ t ≤ a - b) ∧ t % b = 0 := of_decide_eq_true h
set_option maxHeartbeats 1000000 in
theorem sFee_no1 (a b s e t k : Int) (w : World) (ha : bd a) (hb : bd b) (hs : bd s) (he : bd e) (ht : bd t) (hk : bd k)  (g1 : decide (1 ≤ a ∧ a ≤ 4096) = false) :
    Calls Try.prog 11 #[.agg #[.int .i64 a, .int .i64 b, .int .i64 s, .int .i64 e, .int .i64 t, .int .i64 k]] w fun e w' => e = .returned (.bool false) ∧ Below w.heap.size w w' := by
  have Ha := hide ha
  have Hb := hide hb
  have Hs := hide hs
  have He := hide he
  have Ht := hide ht
  have Hk := hide hk
  clear ha hb hs he ht hk
  have G1 := hide g1
  clear g1
  obtain ⟨WA, hWA⟩ : ∃ WA, w.alloc (.cells #[.int .i64 a, .int .i64 b, .int .i64 s, .int .i64 e, .int .i64 t, .int .i64 k] 32) = WA := ⟨_, rfl⟩
  have nWA : Below w.heap.size w WA := hWA ▸ (Below.refl _ _).alloc (Nat.le_refl _) _
  have mWA : Box6 WA w.heap.size a b s e t k := hWA ▸ box6_new _ _ _ _ _ _ _ _
  have BL : Hid (Below w.heap.size w WA) := hide (nWA)
  have KA := hide (mWA)
  clear nWA mWA
  obtain ⟨-, cA0, cA1, cA2, cA3, cA4, cA5⟩ := KA.out
  go_enter Try.func11, Try.ntmps11
  go_wp2_with fail
  refine (gInS a 1 4096 false G1.out _).mono ?_
  rintro e1 w1 ⟨rfl, q1⟩
  replace KA := hide (KA.out.below q1)
  clear cA0 cA1 cA2 cA3 cA4 cA5
  obtain ⟨-, cA0, cA1, cA2, cA3, cA4, cA5⟩ := KA.out
  replace BL := hide (BL.out.trans (q1.mono BL.out.size))
  clear q1
  go_wp2_with fail
  go_ret
  exact ⟨rfl, BL.out⟩
set_option maxHeartbeats 1000000 in
theorem sFee_no2 (a b s e t k : Int) (w : World) (ha : bd a) (hb : bd b) (hs : bd s) (he : bd e) (ht : bd t) (hk : bd k)  (g1 : decide (1 ≤ a ∧ a ≤ 4096) = true) (g2 : decide (1 ≤ b ∧ b ≤ a) = false) :
    Calls Try.prog 11 #[.agg #[.int .i64 a, .int .i64 b, .int .i64 s, .int .i64 e, .int .i64 t, .int .i64 k]] w fun e w' => e = .returned (.bool false) ∧ Below w.heap.size w w' := by
  have Ha := hide ha
  have Hb := hide hb
  have Hs := hide hs
  have He := hide he
  have Ht := hide ht
  have Hk := hide hk
  clear ha hb hs he ht hk
  obtain ⟨a0, a1⟩ : 1 ≤ a ∧ a ≤ 4096 := of_decide_eq_true g1
  have G1 := hide g1
  have G2 := hide g2
  clear g1 g2
  obtain ⟨WA, hWA⟩ : ∃ WA, w.alloc (.cells #[.int .i64 a, .int .i64 b, .int .i64 s, .int .i64 e, .int .i64 t, .int .i64 k] 32) = WA := ⟨_, rfl⟩
  have nWA : Below w.heap.size w WA := hWA ▸ (Below.refl _ _).alloc (Nat.le_refl _) _
  have mWA : Box6 WA w.heap.size a b s e t k := hWA ▸ box6_new _ _ _ _ _ _ _ _
  have BL : Hid (Below w.heap.size w WA) := hide (nWA)
  have KA := hide (mWA)
  clear nWA mWA
  obtain ⟨-, cA0, cA1, cA2, cA3, cA4, cA5⟩ := KA.out
  go_enter Try.func11, Try.ntmps11
  go_wp2_with fail
  refine (gInS a 1 4096 true G1.out _).mono ?_
  rintro e1 w1 ⟨rfl, q1⟩
  replace KA := hide (KA.out.below q1)
  clear cA0 cA1 cA2 cA3 cA4 cA5
  obtain ⟨-, cA0, cA1, cA2, cA3, cA4, cA5⟩ := KA.out
  replace BL := hide (BL.out.trans (q1.mono BL.out.size))
  clear q1
  go_wp2_with fail
  refine (gInS b 1 a false G2.out _).mono ?_
  rintro e1 w2 ⟨rfl, q2⟩
  replace KA := hide (KA.out.below q2)
  clear cA0 cA1 cA2 cA3 cA4 cA5
  obtain ⟨-, cA0, cA1, cA2, cA3, cA4, cA5⟩ := KA.out
  replace BL := hide (BL.out.trans (q2.mono BL.out.size))
  clear q2
  go_wp2_with fail
  go_ret
  exact ⟨rfl, BL.out⟩
set_option maxHeartbeats 1000000 in
theorem sFee_no3 (a b s e t k : Int) (w : World) (ha : bd a) (hb : bd b) (hs : bd s) (he : bd e) (ht : bd t) (hk : bd k)  (g1 : decide (1 ≤ a ∧ a ≤ 4096) = true) (g2 : decide (1 ≤ b ∧ b ≤ a) = true) (g3 : stOk s = false) :
    Calls Try.prog 11 #[.agg #[.int .i64 a, .int .i64 b, .int .i64 s, .int .i64 e, .int .i64 t, .int .i64 k]] w fun e w' => e = .returned (.bool false) ∧ Below w.heap.size w w' := by
  have Ha := hide ha
  have Hb := hide hb
  have Hs := hide hs
  have He := hide he
  have Ht := hide ht
  have Hk := hide hk
  clear ha hb hs he ht hk
  obtain ⟨a0, a1⟩ : 1 ≤ a ∧ a ≤ 4096 := of_decide_eq_true g1
  obtain ⟨b0, b1⟩ : 1 ≤ b ∧ b ≤ a := of_decide_eq_true g2
  have z2 : (b == 0) = false := beq_eq_false_iff_ne.2 (by omega)
  have G1 := hide g1
  have G2 := hide g2
  have G3 := hide g3
  clear g1 g2 g3
  obtain ⟨WA, hWA⟩ : ∃ WA, w.alloc (.cells #[.int .i64 a, .int .i64 b, .int .i64 s, .int .i64 e, .int .i64 t, .int .i64 k] 32) = WA := ⟨_, rfl⟩
  have nWA : Below w.heap.size w WA := hWA ▸ (Below.refl _ _).alloc (Nat.le_refl _) _
  have mWA : Box6 WA w.heap.size a b s e t k := hWA ▸ box6_new _ _ _ _ _ _ _ _
  have BL : Hid (Below w.heap.size w WA) := hide (nWA)
  have KA := hide (mWA)
  clear nWA mWA
  obtain ⟨-, cA0, cA1, cA2, cA3, cA4, cA5⟩ := KA.out
  go_enter Try.func11, Try.ntmps11
  go_wp2_with fail
  refine (gInS a 1 4096 true G1.out _).mono ?_
  rintro e1 w1 ⟨rfl, q1⟩
  replace KA := hide (KA.out.below q1)
  clear cA0 cA1 cA2 cA3 cA4 cA5
  obtain ⟨-, cA0, cA1, cA2, cA3, cA4, cA5⟩ := KA.out
  replace BL := hide (BL.out.trans (q1.mono BL.out.size))
  clear q1
  go_wp2_with fail
  refine (gInS b 1 a true G2.out _).mono ?_
  rintro e1 w2 ⟨rfl, q2⟩
  replace KA := hide (KA.out.below q2)
  clear cA0 cA1 cA2 cA3 cA4 cA5
  obtain ⟨-, cA0, cA1, cA2, cA3, cA4, cA5⟩ := KA.out
  replace BL := hide (BL.out.trans (q2.mono BL.out.size))
  clear q2
  go_wp2_with fail
  refine (stateS s false G3.out _).mono ?_
  rintro e1 w3 ⟨rfl, q3⟩
  replace KA := hide (KA.out.below q3)
  clear cA0 cA1 cA2 cA3 cA4 cA5
  obtain ⟨-, cA0, cA1, cA2, cA3, cA4, cA5⟩ := KA.out
  replace BL := hide (BL.out.trans (q3.mono BL.out.size))
  clear q3
  go_wp2_with fail
  go_ret
  exact ⟨rfl, BL.out⟩
set_option maxHeartbeats 1000000 in
theorem sFee_no4 (a b s e t k : Int) (w : World) (ha : bd a) (hb : bd b) (hs : bd s) (he : bd e) (ht : bd t) (hk : bd k)  (g1 : decide (1 ≤ a ∧ a ≤ 4096) = true) (g2 : decide (1 ≤ b ∧ b ≤ a) = true) (g3 : stOk s = true) (g4 : decide (0 ≤ e ∧ e ≤ 1000000) = false) :
    Calls Try.prog 11 #[.agg #[.int .i64 a, .int .i64 b, .int .i64 s, .int .i64 e, .int .i64 t, .int .i64 k]] w fun e w' => e = .returned (.bool false) ∧ Below w.heap.size w w' := by
  have Ha := hide ha
  have Hb := hide hb
  have Hs := hide hs
  have He := hide he
  have Ht := hide ht
  have Hk := hide hk
  clear ha hb hs he ht hk
  obtain ⟨a0, a1⟩ : 1 ≤ a ∧ a ≤ 4096 := of_decide_eq_true g1
  obtain ⟨b0, b1⟩ : 1 ≤ b ∧ b ≤ a := of_decide_eq_true g2
  have z2 : (b == 0) = false := beq_eq_false_iff_ne.2 (by omega)
  have G1 := hide g1
  have G2 := hide g2
  have G3 := hide g3
  have G4 := hide g4
  clear g1 g2 g3 g4
  obtain ⟨WA, hWA⟩ : ∃ WA, w.alloc (.cells #[.int .i64 a, .int .i64 b, .int .i64 s, .int .i64 e, .int .i64 t, .int .i64 k] 32) = WA := ⟨_, rfl⟩
  have nWA : Below w.heap.size w WA := hWA ▸ (Below.refl _ _).alloc (Nat.le_refl _) _
  have mWA : Box6 WA w.heap.size a b s e t k := hWA ▸ box6_new _ _ _ _ _ _ _ _
  have BL : Hid (Below w.heap.size w WA) := hide (nWA)
  have KA := hide (mWA)
  clear nWA mWA
  obtain ⟨-, cA0, cA1, cA2, cA3, cA4, cA5⟩ := KA.out
  go_enter Try.func11, Try.ntmps11
  go_wp2_with fail
  refine (gInS a 1 4096 true G1.out _).mono ?_
  rintro e1 w1 ⟨rfl, q1⟩
  replace KA := hide (KA.out.below q1)
  clear cA0 cA1 cA2 cA3 cA4 cA5
  obtain ⟨-, cA0, cA1, cA2, cA3, cA4, cA5⟩ := KA.out
  replace BL := hide (BL.out.trans (q1.mono BL.out.size))
  clear q1
  go_wp2_with fail
  refine (gInS b 1 a true G2.out _).mono ?_
  rintro e1 w2 ⟨rfl, q2⟩
  replace KA := hide (KA.out.below q2)
  clear cA0 cA1 cA2 cA3 cA4 cA5
  obtain ⟨-, cA0, cA1, cA2, cA3, cA4, cA5⟩ := KA.out
  replace BL := hide (BL.out.trans (q2.mono BL.out.size))
  clear q2
  go_wp2_with fail
  refine (stateS s true G3.out _).mono ?_
  rintro e1 w3 ⟨rfl, q3⟩
  replace KA := hide (KA.out.below q3)
  clear cA0 cA1 cA2 cA3 cA4 cA5
  obtain ⟨-, cA0, cA1, cA2, cA3, cA4, cA5⟩ := KA.out
  replace BL := hide (BL.out.trans (q3.mono BL.out.size))
  clear q3
  go_wp2_with fail
  refine (gInS e 0 1000000 false G4.out _).mono ?_
  rintro e1 w4 ⟨rfl, q4⟩
  replace KA := hide (KA.out.below q4)
  clear cA0 cA1 cA2 cA3 cA4 cA5
  obtain ⟨-, cA0, cA1, cA2, cA3, cA4, cA5⟩ := KA.out
  replace BL := hide (BL.out.trans (q4.mono BL.out.size))
  clear q4
  go_wp2_with fail
  go_ret
  exact ⟨rfl, BL.out⟩
set_option maxHeartbeats 1000000 in
theorem sFee_no5 (a b s e t k : Int) (w : World) (ha : bd a) (hb : bd b) (hs : bd s) (he : bd e) (ht : bd t) (hk : bd k)  (g1 : decide (1 ≤ a ∧ a ≤ 4096) = true) (g2 : decide (1 ≤ b ∧ b ≤ a) = true) (g3 : stOk s = true) (g4 : decide (0 ≤ e ∧ e ≤ 1000000) = true) (g5 : decide (1 ≤ k ∧ k ≤ 64) = false) :
    Calls Try.prog 11 #[.agg #[.int .i64 a, .int .i64 b, .int .i64 s, .int .i64 e, .int .i64 t, .int .i64 k]] w fun e w' => e = .returned (.bool false) ∧ Below w.heap.size w w' := by
  have Ha := hide ha
  have Hb := hide hb
  have Hs := hide hs
  have He := hide he
  have Ht := hide ht
  have Hk := hide hk
  clear ha hb hs he ht hk
  obtain ⟨a0, a1⟩ : 1 ≤ a ∧ a ≤ 4096 := of_decide_eq_true g1
  obtain ⟨b0, b1⟩ : 1 ≤ b ∧ b ≤ a := of_decide_eq_true g2
  have z2 : (b == 0) = false := beq_eq_false_iff_ne.2 (by omega)
  have G1 := hide g1
  have G2 := hide g2
  have G3 := hide g3
  have G4 := hide g4
  have G5 := hide g5
  clear g1 g2 g3 g4 g5
  obtain ⟨WA, hWA⟩ : ∃ WA, w.alloc (.cells #[.int .i64 a, .int .i64 b, .int .i64 s, .int .i64 e, .int .i64 t, .int .i64 k] 32) = WA := ⟨_, rfl⟩
  have nWA : Below w.heap.size w WA := hWA ▸ (Below.refl _ _).alloc (Nat.le_refl _) _
  have mWA : Box6 WA w.heap.size a b s e t k := hWA ▸ box6_new _ _ _ _ _ _ _ _
  have BL : Hid (Below w.heap.size w WA) := hide (nWA)
  have KA := hide (mWA)
  clear nWA mWA
  obtain ⟨-, cA0, cA1, cA2, cA3, cA4, cA5⟩ := KA.out
  go_enter Try.func11, Try.ntmps11
  go_wp2_with fail
  refine (gInS a 1 4096 true G1.out _).mono ?_
  rintro e1 w1 ⟨rfl, q1⟩
  replace KA := hide (KA.out.below q1)
  clear cA0 cA1 cA2 cA3 cA4 cA5
  obtain ⟨-, cA0, cA1, cA2, cA3, cA4, cA5⟩ := KA.out
  replace BL := hide (BL.out.trans (q1.mono BL.out.size))
  clear q1
  go_wp2_with fail
  refine (gInS b 1 a true G2.out _).mono ?_
  rintro e1 w2 ⟨rfl, q2⟩
  replace KA := hide (KA.out.below q2)
  clear cA0 cA1 cA2 cA3 cA4 cA5
  obtain ⟨-, cA0, cA1, cA2, cA3, cA4, cA5⟩ := KA.out
  replace BL := hide (BL.out.trans (q2.mono BL.out.size))
  clear q2
  go_wp2_with fail
  refine (stateS s true G3.out _).mono ?_
  rintro e1 w3 ⟨rfl, q3⟩
  replace KA := hide (KA.out.below q3)
  clear cA0 cA1 cA2 cA3 cA4 cA5
  obtain ⟨-, cA0, cA1, cA2, cA3, cA4, cA5⟩ := KA.out
  replace BL := hide (BL.out.trans (q3.mono BL.out.size))
  clear q3
  go_wp2_with fail
  refine (gInS e 0 1000000 true G4.out _).mono ?_
  rintro e1 w4 ⟨rfl, q4⟩
  replace KA := hide (KA.out.below q4)
  clear cA0 cA1 cA2 cA3 cA4 cA5
  obtain ⟨-, cA0, cA1, cA2, cA3, cA4, cA5⟩ := KA.out
  replace BL := hide (BL.out.trans (q4.mono BL.out.size))
  clear q4
  go_wp2_with fail
  refine (gInS k 1 64 false G5.out _).mono ?_
  rintro e1 w5 ⟨rfl, q5⟩
  replace KA := hide (KA.out.below q5)
  clear cA0 cA1 cA2 cA3 cA4 cA5
  obtain ⟨-, cA0, cA1, cA2, cA3, cA4, cA5⟩ := KA.out
  replace BL := hide (BL.out.trans (q5.mono BL.out.size))
  clear q5
  go_wp2_with fail
  go_ret
  exact ⟨rfl, BL.out⟩
set_option maxHeartbeats 1000000 in
theorem sFee_no6 (a b s e t k : Int) (w : World) (ha : bd a) (hb : bd b) (hs : bd s) (he : bd e) (ht : bd t) (hk : bd k)  (g1 : decide (1 ≤ a ∧ a ≤ 4096) = true) (g2 : decide (1 ≤ b ∧ b ≤ a) = true) (g3 : stOk s = true) (g4 : decide (0 ≤ e ∧ e ≤ 1000000) = true) (g5 : decide (1 ≤ k ∧ k ≤ 64) = true) (g6 : decide (0 ≤ t ∧ t ≤ (a - b)) = false) :
    Calls Try.prog 11 #[.agg #[.int .i64 a, .int .i64 b, .int .i64 s, .int .i64 e, .int .i64 t, .int .i64 k]] w fun e w' => e = .returned (.bool false) ∧ Below w.heap.size w w' := by
  have Ha := hide ha
  have Hb := hide hb
  have Hs := hide hs
  have He := hide he
  have Ht := hide ht
  have Hk := hide hk
  clear ha hb hs he ht hk
  obtain ⟨a0, a1⟩ : 1 ≤ a ∧ a ≤ 4096 := of_decide_eq_true g1
  obtain ⟨b0, b1⟩ : 1 ≤ b ∧ b ≤ a := of_decide_eq_true g2
  have z2 : (b == 0) = false := beq_eq_false_iff_ne.2 (by omega)
  have G1 := hide g1
  have G2 := hide g2
  have G3 := hide g3
  have G4 := hide g4
  have G5 := hide g5
  have G6 := hide g6
  clear g1 g2 g3 g4 g5 g6
  obtain ⟨WA, hWA⟩ : ∃ WA, w.alloc (.cells #[.int .i64 a, .int .i64 b, .int .i64 s, .int .i64 e, .int .i64 t, .int .i64 k] 32) = WA := ⟨_, rfl⟩
  have nWA : Below w.heap.size w WA := hWA ▸ (Below.refl _ _).alloc (Nat.le_refl _) _
  have mWA : Box6 WA w.heap.size a b s e t k := hWA ▸ box6_new _ _ _ _ _ _ _ _
  have BL : Hid (Below w.heap.size w WA) := hide (nWA)
  have KA := hide (mWA)
  clear nWA mWA
  obtain ⟨-, cA0, cA1, cA2, cA3, cA4, cA5⟩ := KA.out
  go_enter Try.func11, Try.ntmps11
  go_wp2_with fail
  refine (gInS a 1 4096 true G1.out _).mono ?_
  rintro e1 w1 ⟨rfl, q1⟩
  replace KA := hide (KA.out.below q1)
  clear cA0 cA1 cA2 cA3 cA4 cA5
  obtain ⟨-, cA0, cA1, cA2, cA3, cA4, cA5⟩ := KA.out
  replace BL := hide (BL.out.trans (q1.mono BL.out.size))
  clear q1
  go_wp2_with fail
  refine (gInS b 1 a true G2.out _).mono ?_
  rintro e1 w2 ⟨rfl, q2⟩
  replace KA := hide (KA.out.below q2)
  clear cA0 cA1 cA2 cA3 cA4 cA5
  obtain ⟨-, cA0, cA1, cA2, cA3, cA4, cA5⟩ := KA.out
  replace BL := hide (BL.out.trans (q2.mono BL.out.size))
  clear q2
  go_wp2_with fail
  refine (stateS s true G3.out _).mono ?_
  rintro e1 w3 ⟨rfl, q3⟩
  replace KA := hide (KA.out.below q3)
  clear cA0 cA1 cA2 cA3 cA4 cA5
  obtain ⟨-, cA0, cA1, cA2, cA3, cA4, cA5⟩ := KA.out
  replace BL := hide (BL.out.trans (q3.mono BL.out.size))
  clear q3
  go_wp2_with fail
  refine (gInS e 0 1000000 true G4.out _).mono ?_
  rintro e1 w4 ⟨rfl, q4⟩
  replace KA := hide (KA.out.below q4)
  clear cA0 cA1 cA2 cA3 cA4 cA5
  obtain ⟨-, cA0, cA1, cA2, cA3, cA4, cA5⟩ := KA.out
  replace BL := hide (BL.out.trans (q4.mono BL.out.size))
  clear q4
  go_wp2_with fail
  refine (gInS k 1 64 true G5.out _).mono ?_
  rintro e1 w5 ⟨rfl, q5⟩
  replace KA := hide (KA.out.below q5)
  clear cA0 cA1 cA2 cA3 cA4 cA5
  obtain ⟨-, cA0, cA1, cA2, cA3, cA4, cA5⟩ := KA.out
  replace BL := hide (BL.out.trans (q5.mono BL.out.size))
  clear q5
  go_wp2_with fail
  refine (gInS t 0 (a - b) false G6.out _).mono ?_
  rintro e1 w6 ⟨rfl, q6⟩
  replace KA := hide (KA.out.below q6)
  clear cA0 cA1 cA2 cA3 cA4 cA5
  obtain ⟨-, cA0, cA1, cA2, cA3, cA4, cA5⟩ := KA.out
  replace BL := hide (BL.out.trans (q6.mono BL.out.size))
  clear q6
  go_wp2_with fail
  go_ret
  exact ⟨rfl, BL.out⟩
set_option maxHeartbeats 1000000 in
theorem sFee_no7 (a b s e t k : Int) (w : World) (ha : bd a) (hb : bd b) (hs : bd s) (he : bd e) (ht : bd t) (hk : bd k)  (g1 : decide (1 ≤ a ∧ a ≤ 4096) = true) (g2 : decide (1 ≤ b ∧ b ≤ a) = true) (g3 : stOk s = true) (g4 : decide (0 ≤ e ∧ e ≤ 1000000) = true) (g5 : decide (1 ≤ k ∧ k ≤ 64) = true) (g6 : decide (0 ≤ t ∧ t ≤ (a - b)) = true) (g7 : (t % b == 0) = false) :
    Calls Try.prog 11 #[.agg #[.int .i64 a, .int .i64 b, .int .i64 s, .int .i64 e, .int .i64 t, .int .i64 k]] w fun e w' => e = .returned (.bool false) ∧ Below w.heap.size w w' := by
  have Ha := hide ha
  have Hb := hide hb
  have Hs := hide hs
  have He := hide he
  have Ht := hide ht
  have Hk := hide hk
  clear ha hb hs he ht hk
  obtain ⟨a0, a1⟩ : 1 ≤ a ∧ a ≤ 4096 := of_decide_eq_true g1
  obtain ⟨b0, b1⟩ : 1 ≤ b ∧ b ≤ a := of_decide_eq_true g2
  have z2 : (b == 0) = false := beq_eq_false_iff_ne.2 (by omega)
  obtain ⟨t0, t1⟩ : 0 ≤ t ∧ t ≤ a - b := of_decide_eq_true g6
  have m7 : (t % b == 0) = false := g7
  have G1 := hide g1
  have G2 := hide g2
  have G3 := hide g3
  have G4 := hide g4
  have G5 := hide g5
  have G6 := hide g6
  have G7 := hide g7
  clear g1 g2 g3 g4 g5 g6 g7
  obtain ⟨WA, hWA⟩ : ∃ WA, w.alloc (.cells #[.int .i64 a, .int .i64 b, .int .i64 s, .int .i64 e, .int .i64 t, .int .i64 k] 32) = WA := ⟨_, rfl⟩
  have nWA : Below w.heap.size w WA := hWA ▸ (Below.refl _ _).alloc (Nat.le_refl _) _
  have mWA : Box6 WA w.heap.size a b s e t k := hWA ▸ box6_new _ _ _ _ _ _ _ _
  have BL : Hid (Below w.heap.size w WA) := hide (nWA)
  have KA := hide (mWA)
  clear nWA mWA
  obtain ⟨-, cA0, cA1, cA2, cA3, cA4, cA5⟩ := KA.out
  go_enter Try.func11, Try.ntmps11
  go_wp2_with fail
  refine (gInS a 1 4096 true G1.out _).mono ?_
  rintro e1 w1 ⟨rfl, q1⟩
  replace KA := hide (KA.out.below q1)
  clear cA0 cA1 cA2 cA3 cA4 cA5
  obtain ⟨-, cA0, cA1, cA2, cA3, cA4, cA5⟩ := KA.out
  replace BL := hide (BL.out.trans (q1.mono BL.out.size))
  clear q1
  go_wp2_with fail
  refine (gInS b 1 a true G2.out _).mono ?_
  rintro e1 w2 ⟨rfl, q2⟩
  replace KA := hide (KA.out.below q2)
  clear cA0 cA1 cA2 cA3 cA4 cA5
  obtain ⟨-, cA0, cA1, cA2, cA3, cA4, cA5⟩ := KA.out
  replace BL := hide (BL.out.trans (q2.mono BL.out.size))
  clear q2
  go_wp2_with fail
  refine (stateS s true G3.out _).mono ?_
  rintro e1 w3 ⟨rfl, q3⟩
  replace KA := hide (KA.out.below q3)
  clear cA0 cA1 cA2 cA3 cA4 cA5
  obtain ⟨-, cA0, cA1, cA2, cA3, cA4, cA5⟩ := KA.out
  replace BL := hide (BL.out.trans (q3.mono BL.out.size))
  clear q3
  go_wp2_with fail
  refine (gInS e 0 1000000 true G4.out _).mono ?_
  rintro e1 w4 ⟨rfl, q4⟩
  replace KA := hide (KA.out.below q4)
  clear cA0 cA1 cA2 cA3 cA4 cA5
  obtain ⟨-, cA0, cA1, cA2, cA3, cA4, cA5⟩ := KA.out
  replace BL := hide (BL.out.trans (q4.mono BL.out.size))
  clear q4
  go_wp2_with fail
  refine (gInS k 1 64 true G5.out _).mono ?_
  rintro e1 w5 ⟨rfl, q5⟩
  replace KA := hide (KA.out.below q5)
  clear cA0 cA1 cA2 cA3 cA4 cA5
  obtain ⟨-, cA0, cA1, cA2, cA3, cA4, cA5⟩ := KA.out
  replace BL := hide (BL.out.trans (q5.mono BL.out.size))
  clear q5
  go_wp2_with fail
  refine (gInS t 0 (a - b) true G6.out _).mono ?_
  rintro e1 w6 ⟨rfl, q6⟩
  replace KA := hide (KA.out.below q6)
  clear cA0 cA1 cA2 cA3 cA4 cA5
  obtain ⟨-, cA0, cA1, cA2, cA3, cA4, cA5⟩ := KA.out
  replace BL := hide (BL.out.trans (q6.mono BL.out.size))
  clear q6
  go_wp2_with fail
  go_ret
  exact ⟨rfl, BL.out⟩
set_option maxHeartbeats 1000000 in
theorem sFee_yes (a b s e t k : Int) (w : World) (ha : bd a) (hb : bd b) (hs : bd s) (he : bd e) (ht : bd t) (hk : bd k)  (g1 : decide (1 ≤ a ∧ a ≤ 4096) = true) (g2 : decide (1 ≤ b ∧ b ≤ a) = true) (g3 : stOk s = true) (g4 : decide (0 ≤ e ∧ e ≤ 1000000) = true) (g5 : decide (1 ≤ k ∧ k ≤ 64) = true) (g6 : decide (0 ≤ t ∧ t ≤ (a - b)) = true) (g7 : (t % b == 0) = true) :
    Calls Try.prog 11 #[.agg #[.int .i64 a, .int .i64 b, .int .i64 s, .int .i64 e, .int .i64 t, .int .i64 k]] w fun e w' => e = .returned (.bool true) ∧ Below w.heap.size w w' := by
  have Ha := hide ha
  have Hb := hide hb
  have Hs := hide hs
  have He := hide he
  have Ht := hide ht
  have Hk := hide hk
  clear ha hb hs he ht hk
  obtain ⟨a0, a1⟩ : 1 ≤ a ∧ a ≤ 4096 := of_decide_eq_true g1
  obtain ⟨b0, b1⟩ : 1 ≤ b ∧ b ≤ a := of_decide_eq_true g2
  have z2 : (b == 0) = false := beq_eq_false_iff_ne.2 (by omega)
  obtain ⟨t0, t1⟩ : 0 ≤ t ∧ t ≤ a - b := of_decide_eq_true g6
  have m7 : (t % b == 0) = true := g7
  have G1 := hide g1
  have G2 := hide g2
  have G3 := hide g3
  have G4 := hide g4
  have G5 := hide g5
  have G6 := hide g6
  have G7 := hide g7
  clear g1 g2 g3 g4 g5 g6 g7
  obtain ⟨WA, hWA⟩ : ∃ WA, w.alloc (.cells #[.int .i64 a, .int .i64 b, .int .i64 s, .int .i64 e, .int .i64 t, .int .i64 k] 32) = WA := ⟨_, rfl⟩
  have nWA : Below w.heap.size w WA := hWA ▸ (Below.refl _ _).alloc (Nat.le_refl _) _
  have mWA : Box6 WA w.heap.size a b s e t k := hWA ▸ box6_new _ _ _ _ _ _ _ _
  have BL : Hid (Below w.heap.size w WA) := hide (nWA)
  have KA := hide (mWA)
  clear nWA mWA
  obtain ⟨-, cA0, cA1, cA2, cA3, cA4, cA5⟩ := KA.out
  go_enter Try.func11, Try.ntmps11
  go_wp2_with fail
  refine (gInS a 1 4096 true G1.out _).mono ?_
  rintro e1 w1 ⟨rfl, q1⟩
  replace KA := hide (KA.out.below q1)
  clear cA0 cA1 cA2 cA3 cA4 cA5
  obtain ⟨-, cA0, cA1, cA2, cA3, cA4, cA5⟩ := KA.out
  replace BL := hide (BL.out.trans (q1.mono BL.out.size))
  clear q1
  go_wp2_with fail
  refine (gInS b 1 a true G2.out _).mono ?_
  rintro e1 w2 ⟨rfl, q2⟩
  replace KA := hide (KA.out.below q2)
  clear cA0 cA1 cA2 cA3 cA4 cA5
  obtain ⟨-, cA0, cA1, cA2, cA3, cA4, cA5⟩ := KA.out
  replace BL := hide (BL.out.trans (q2.mono BL.out.size))
  clear q2
  go_wp2_with fail
  refine (stateS s true G3.out _).mono ?_
  rintro e1 w3 ⟨rfl, q3⟩
  replace KA := hide (KA.out.below q3)
  clear cA0 cA1 cA2 cA3 cA4 cA5
  obtain ⟨-, cA0, cA1, cA2, cA3, cA4, cA5⟩ := KA.out
  replace BL := hide (BL.out.trans (q3.mono BL.out.size))
  clear q3
  go_wp2_with fail
  refine (gInS e 0 1000000 true G4.out _).mono ?_
  rintro e1 w4 ⟨rfl, q4⟩
  replace KA := hide (KA.out.below q4)
  clear cA0 cA1 cA2 cA3 cA4 cA5
  obtain ⟨-, cA0, cA1, cA2, cA3, cA4, cA5⟩ := KA.out
  replace BL := hide (BL.out.trans (q4.mono BL.out.size))
  clear q4
  go_wp2_with fail
  refine (gInS k 1 64 true G5.out _).mono ?_
  rintro e1 w5 ⟨rfl, q5⟩
  replace KA := hide (KA.out.below q5)
  clear cA0 cA1 cA2 cA3 cA4 cA5
  obtain ⟨-, cA0, cA1, cA2, cA3, cA4, cA5⟩ := KA.out
  replace BL := hide (BL.out.trans (q5.mono BL.out.size))
  clear q5
  go_wp2_with fail
  refine (gInS t 0 (a - b) true G6.out _).mono ?_
  rintro e1 w6 ⟨rfl, q6⟩
  replace KA := hide (KA.out.below q6)
  clear cA0 cA1 cA2 cA3 cA4 cA5
  obtain ⟨-, cA0, cA1, cA2, cA3, cA4, cA5⟩ := KA.out
  replace BL := hide (BL.out.trans (q6.mono BL.out.size))
  clear q6
  go_wp2_with fail
  go_ret
  exact ⟨rfl, BL.out⟩
theorem specFeed (a b s e t k : Int) (w : World) (ha : bd a) (hb : bd b) (hs : bd s) (he : bd e) (ht : bd t) (hk : bd k) :
    Calls Try.prog 11 #[.agg #[.int .i64 a, .int .i64 b, .int .i64 s, .int .i64 e, .int .i64 t, .int .i64 k]] w fun e' w' => e' = .returned (.bool (feOk a b s e t k)) ∧ Below w.heap.size w w' := by
  cases g1 : decide (1 ≤ a ∧ a ≤ 4096)
  · rw [show feOk a b s e t k = false from decide_eq_false (fun h => of_decide_eq_false g1 h.1)]
    exact sFee_no1 a b s e t k w ha hb hs he ht hk g1
  cases g2 : decide (1 ≤ b ∧ b ≤ a)
  · rw [show feOk a b s e t k = false from decide_eq_false (fun h => of_decide_eq_false g2 h.2.1)]
    exact sFee_no2 a b s e t k w ha hb hs he ht hk g1 g2
  cases g3 : stOk s
  · rw [show feOk a b s e t k = false from decide_eq_false (fun h => by rw [h.2.2.1] at g3; exact absurd g3 (by decide))]
    exact sFee_no3 a b s e t k w ha hb hs he ht hk g1 g2 g3
  cases g4 : decide (0 ≤ e ∧ e ≤ 1000000)
  · rw [show feOk a b s e t k = false from decide_eq_false (fun h => of_decide_eq_false g4 h.2.2.2.1)]
    exact sFee_no4 a b s e t k w ha hb hs he ht hk g1 g2 g3 g4
  cases g5 : decide (1 ≤ k ∧ k ≤ 64)
  · rw [show feOk a b s e t k = false from decide_eq_false (fun h => of_decide_eq_false g5 h.2.2.2.2.1)]
    exact sFee_no5 a b s e t k w ha hb hs he ht hk g1 g2 g3 g4 g5
  cases g6 : decide (0 ≤ t ∧ t ≤ (a - b))
  · rw [show feOk a b s e t k = false from decide_eq_false (fun h => of_decide_eq_false g6 h.2.2.2.2.2.1)]
    exact sFee_no6 a b s e t k w ha hb hs he ht hk g1 g2 g3 g4 g5 g6
  cases g7 : (t % b == 0)
  · rw [show feOk a b s e t k = false from decide_eq_false (fun h => by rw [h.2.2.2.2.2.2] at g7; exact absurd g7 (by decide))]
    exact sFee_no7 a b s e t k w ha hb hs he ht hk g1 g2 g3 g4 g5 g6 g7
  rw [show feOk a b s e t k = true from decide_eq_true ⟨of_decide_eq_true g1, of_decide_eq_true g2, g3, of_decide_eq_true g4, of_decide_eq_true g5, of_decide_eq_true g6, beq_iff_eq.1 g7⟩]
  exact sFee_yes a b s e t k w ha hb hs he ht hk g1 g2 g3 g4 g5 g6 g7
theorem gFeedS (a b s e t k : Int) (q : Bool) (ha : bd a) (hb : bd b) (hs : bd s) (he : bd e) (ht : bd t) (hk : bd k) (hq : feOk a b s e t k = q) (w : World) :
    Calls Try.prog 11 #[.agg #[.int .i64 a, .int .i64 b, .int .i64 s, .int .i64 e, .int .i64 t, .int .i64 k]] w fun e w' => e = .returned (.bool q) ∧ Below w.heap.size w w' := by
  rw [← hq]; exact specFeed a b s e t k w ha hb hs he ht hk
set_option maxHeartbeats 1000000 in
theorem iFee_no1 (a b s e t k : Int) (w : World) (ha : bd a) (hb : bd b) (hs : bd s) (he : bd e) (ht : bd t) (hk : bd k)  (g1 : decide (1 ≤ a ∧ a ≤ 4096) = false) :
    Calls Try.prog 15 #[.agg #[.int .i64 a, .int .i64 b, .int .i64 s, .int .i64 e, .int .i64 t, .int .i64 k]] w fun e w' => e = .returned (.bool false) ∧ Below w.heap.size w w' := by
  have Ha := hide ha
  have Hb := hide hb
  have Hs := hide hs
  have He := hide he
  have Ht := hide ht
  have Hk := hide hk
  clear ha hb hs he ht hk
  have G1 := hide g1
  clear g1
  obtain ⟨WA, hWA⟩ : ∃ WA, w.alloc (.cells #[.int .i64 a, .int .i64 b, .int .i64 s, .int .i64 e, .int .i64 t, .int .i64 k] 32) = WA := ⟨_, rfl⟩
  have nWA : Below w.heap.size w WA := hWA ▸ (Below.refl _ _).alloc (Nat.le_refl _) _
  have mWA : Box6 WA w.heap.size a b s e t k := hWA ▸ box6_new _ _ _ _ _ _ _ _
  have BL : Hid (Below w.heap.size w WA) := hide (nWA)
  have KA := hide (mWA)
  clear nWA mWA
  obtain ⟨-, cA0, cA1, cA2, cA3, cA4, cA5⟩ := KA.out
  go_enter Try.func15, Try.ntmps15
  go_wp2_with fail
  refine (inB_one 1 4096 a false _ _ (by first | decide | omega) Ha.out G1.out rfl).mono ?_
  rintro e1 w1 ⟨rfl, q1⟩
  replace KA := hide (KA.out.below q1)
  clear cA0 cA1 cA2 cA3 cA4 cA5
  obtain ⟨-, cA0, cA1, cA2, cA3, cA4, cA5⟩ := KA.out
  replace BL := hide (BL.out.trans (q1.mono BL.out.size))
  clear q1
  go_wp2_with fail
  go_ret
  exact ⟨rfl, BL.out⟩
set_option maxHeartbeats 1000000 in
theorem iFee_no2 (a b s e t k : Int) (w : World) (ha : bd a) (hb : bd b) (hs : bd s) (he : bd e) (ht : bd t) (hk : bd k)  (g1 : decide (1 ≤ a ∧ a ≤ 4096) = true) (g2 : decide (1 ≤ b ∧ b ≤ a) = false) :
    Calls Try.prog 15 #[.agg #[.int .i64 a, .int .i64 b, .int .i64 s, .int .i64 e, .int .i64 t, .int .i64 k]] w fun e w' => e = .returned (.bool false) ∧ Below w.heap.size w w' := by
  have Ha := hide ha
  have Hb := hide hb
  have Hs := hide hs
  have He := hide he
  have Ht := hide ht
  have Hk := hide hk
  clear ha hb hs he ht hk
  obtain ⟨a0, a1⟩ : 1 ≤ a ∧ a ≤ 4096 := of_decide_eq_true g1
  have G1 := hide g1
  have G2 := hide g2
  clear g1 g2
  obtain ⟨WA, hWA⟩ : ∃ WA, w.alloc (.cells #[.int .i64 a, .int .i64 b, .int .i64 s, .int .i64 e, .int .i64 t, .int .i64 k] 32) = WA := ⟨_, rfl⟩
  have nWA : Below w.heap.size w WA := hWA ▸ (Below.refl _ _).alloc (Nat.le_refl _) _
  have mWA : Box6 WA w.heap.size a b s e t k := hWA ▸ box6_new _ _ _ _ _ _ _ _
  have BL : Hid (Below w.heap.size w WA) := hide (nWA)
  have KA := hide (mWA)
  clear nWA mWA
  obtain ⟨-, cA0, cA1, cA2, cA3, cA4, cA5⟩ := KA.out
  go_enter Try.func15, Try.ntmps15
  go_wp2_with fail
  refine (inB_one 1 4096 a true _ _ (by first | decide | omega) Ha.out G1.out rfl).mono ?_
  rintro e1 w1 ⟨rfl, q1⟩
  replace KA := hide (KA.out.below q1)
  clear cA0 cA1 cA2 cA3 cA4 cA5
  obtain ⟨-, cA0, cA1, cA2, cA3, cA4, cA5⟩ := KA.out
  replace BL := hide (BL.out.trans (q1.mono BL.out.size))
  clear q1
  go_wp2_with fail
  refine (inB_one 1 a b false _ _ (by first | decide | omega) Hb.out G2.out rfl).mono ?_
  rintro e1 w2 ⟨rfl, q2⟩
  replace KA := hide (KA.out.below q2)
  clear cA0 cA1 cA2 cA3 cA4 cA5
  obtain ⟨-, cA0, cA1, cA2, cA3, cA4, cA5⟩ := KA.out
  replace BL := hide (BL.out.trans (q2.mono BL.out.size))
  clear q2
  go_wp2_with fail
  go_ret
  exact ⟨rfl, BL.out⟩
set_option maxHeartbeats 1000000 in
theorem iFee_no3 (a b s e t k : Int) (w : World) (ha : bd a) (hb : bd b) (hs : bd s) (he : bd e) (ht : bd t) (hk : bd k)  (g1 : decide (1 ≤ a ∧ a ≤ 4096) = true) (g2 : decide (1 ≤ b ∧ b ≤ a) = true) (g3 : decide (1 ≤ k ∧ k ≤ 64) = false) :
    Calls Try.prog 15 #[.agg #[.int .i64 a, .int .i64 b, .int .i64 s, .int .i64 e, .int .i64 t, .int .i64 k]] w fun e w' => e = .returned (.bool false) ∧ Below w.heap.size w w' := by
  have Ha := hide ha
  have Hb := hide hb
  have Hs := hide hs
  have He := hide he
  have Ht := hide ht
  have Hk := hide hk
  clear ha hb hs he ht hk
  obtain ⟨a0, a1⟩ : 1 ≤ a ∧ a ≤ 4096 := of_decide_eq_true g1
  obtain ⟨b0, b1⟩ : 1 ≤ b ∧ b ≤ a := of_decide_eq_true g2
  have z2 : (b == 0) = false := beq_eq_false_iff_ne.2 (by omega)
  have G1 := hide g1
  have G2 := hide g2
  have G3 := hide g3
  clear g1 g2 g3
  obtain ⟨WA, hWA⟩ : ∃ WA, w.alloc (.cells #[.int .i64 a, .int .i64 b, .int .i64 s, .int .i64 e, .int .i64 t, .int .i64 k] 32) = WA := ⟨_, rfl⟩
  have nWA : Below w.heap.size w WA := hWA ▸ (Below.refl _ _).alloc (Nat.le_refl _) _
  have mWA : Box6 WA w.heap.size a b s e t k := hWA ▸ box6_new _ _ _ _ _ _ _ _
  have BL : Hid (Below w.heap.size w WA) := hide (nWA)
  have KA := hide (mWA)
  clear nWA mWA
  obtain ⟨-, cA0, cA1, cA2, cA3, cA4, cA5⟩ := KA.out
  go_enter Try.func15, Try.ntmps15
  go_wp2_with fail
  refine (inB_one 1 4096 a true _ _ (by first | decide | omega) Ha.out G1.out rfl).mono ?_
  rintro e1 w1 ⟨rfl, q1⟩
  replace KA := hide (KA.out.below q1)
  clear cA0 cA1 cA2 cA3 cA4 cA5
  obtain ⟨-, cA0, cA1, cA2, cA3, cA4, cA5⟩ := KA.out
  replace BL := hide (BL.out.trans (q1.mono BL.out.size))
  clear q1
  go_wp2_with fail
  refine (inB_one 1 a b true _ _ (by first | decide | omega) Hb.out G2.out rfl).mono ?_
  rintro e1 w2 ⟨rfl, q2⟩
  replace KA := hide (KA.out.below q2)
  clear cA0 cA1 cA2 cA3 cA4 cA5
  obtain ⟨-, cA0, cA1, cA2, cA3, cA4, cA5⟩ := KA.out
  replace BL := hide (BL.out.trans (q2.mono BL.out.size))
  clear q2
  go_wp2_with fail
  refine (inB_one 1 64 k false _ _ (by first | decide | omega) Hk.out G3.out rfl).mono ?_
  rintro e1 w3 ⟨rfl, q3⟩
  replace KA := hide (KA.out.below q3)
  clear cA0 cA1 cA2 cA3 cA4 cA5
  obtain ⟨-, cA0, cA1, cA2, cA3, cA4, cA5⟩ := KA.out
  replace BL := hide (BL.out.trans (q3.mono BL.out.size))
  clear q3
  go_wp2_with fail
  go_ret
  exact ⟨rfl, BL.out⟩
set_option maxHeartbeats 1000000 in
theorem iFee_no4 (a b s e t k : Int) (w : World) (ha : bd a) (hb : bd b) (hs : bd s) (he : bd e) (ht : bd t) (hk : bd k)  (g1 : decide (1 ≤ a ∧ a ≤ 4096) = true) (g2 : decide (1 ≤ b ∧ b ≤ a) = true) (g3 : decide (1 ≤ k ∧ k ≤ 64) = true) (g4 : stOk s = false) :
    Calls Try.prog 15 #[.agg #[.int .i64 a, .int .i64 b, .int .i64 s, .int .i64 e, .int .i64 t, .int .i64 k]] w fun e w' => e = .returned (.bool false) ∧ Below w.heap.size w w' := by
  have Ha := hide ha
  have Hb := hide hb
  have Hs := hide hs
  have He := hide he
  have Ht := hide ht
  have Hk := hide hk
  clear ha hb hs he ht hk
  obtain ⟨a0, a1⟩ : 1 ≤ a ∧ a ≤ 4096 := of_decide_eq_true g1
  obtain ⟨b0, b1⟩ : 1 ≤ b ∧ b ≤ a := of_decide_eq_true g2
  have z2 : (b == 0) = false := beq_eq_false_iff_ne.2 (by omega)
  have G1 := hide g1
  have G2 := hide g2
  have G3 := hide g3
  have G4 := hide g4
  clear g1 g2 g3 g4
  obtain ⟨WA, hWA⟩ : ∃ WA, w.alloc (.cells #[.int .i64 a, .int .i64 b, .int .i64 s, .int .i64 e, .int .i64 t, .int .i64 k] 32) = WA := ⟨_, rfl⟩
  have nWA : Below w.heap.size w WA := hWA ▸ (Below.refl _ _).alloc (Nat.le_refl _) _
  have mWA : Box6 WA w.heap.size a b s e t k := hWA ▸ box6_new _ _ _ _ _ _ _ _
  have BL : Hid (Below w.heap.size w WA) := hide (nWA)
  have KA := hide (mWA)
  clear nWA mWA
  obtain ⟨-, cA0, cA1, cA2, cA3, cA4, cA5⟩ := KA.out
  go_enter Try.func15, Try.ntmps15
  go_wp2_with fail
  refine (inB_one 1 4096 a true _ _ (by first | decide | omega) Ha.out G1.out rfl).mono ?_
  rintro e1 w1 ⟨rfl, q1⟩
  replace KA := hide (KA.out.below q1)
  clear cA0 cA1 cA2 cA3 cA4 cA5
  obtain ⟨-, cA0, cA1, cA2, cA3, cA4, cA5⟩ := KA.out
  replace BL := hide (BL.out.trans (q1.mono BL.out.size))
  clear q1
  go_wp2_with fail
  refine (inB_one 1 a b true _ _ (by first | decide | omega) Hb.out G2.out rfl).mono ?_
  rintro e1 w2 ⟨rfl, q2⟩
  replace KA := hide (KA.out.below q2)
  clear cA0 cA1 cA2 cA3 cA4 cA5
  obtain ⟨-, cA0, cA1, cA2, cA3, cA4, cA5⟩ := KA.out
  replace BL := hide (BL.out.trans (q2.mono BL.out.size))
  clear q2
  go_wp2_with fail
  refine (inB_one 1 64 k true _ _ (by first | decide | omega) Hk.out G3.out rfl).mono ?_
  rintro e1 w3 ⟨rfl, q3⟩
  replace KA := hide (KA.out.below q3)
  clear cA0 cA1 cA2 cA3 cA4 cA5
  obtain ⟨-, cA0, cA1, cA2, cA3, cA4, cA5⟩ := KA.out
  replace BL := hide (BL.out.trans (q3.mono BL.out.size))
  clear q3
  go_wp2_with fail
  refine (stateI s false Hs.out G4.out _).mono ?_
  rintro e1 w4 ⟨rfl, q4⟩
  replace KA := hide (KA.out.below q4)
  clear cA0 cA1 cA2 cA3 cA4 cA5
  obtain ⟨-, cA0, cA1, cA2, cA3, cA4, cA5⟩ := KA.out
  replace BL := hide (BL.out.trans (q4.mono BL.out.size))
  clear q4
  go_wp2_with fail
  go_ret
  exact ⟨rfl, BL.out⟩
set_option maxHeartbeats 1000000 in
theorem iFee_no5 (a b s e t k : Int) (w : World) (ha : bd a) (hb : bd b) (hs : bd s) (he : bd e) (ht : bd t) (hk : bd k)  (g1 : decide (1 ≤ a ∧ a ≤ 4096) = true) (g2 : decide (1 ≤ b ∧ b ≤ a) = true) (g3 : decide (1 ≤ k ∧ k ≤ 64) = true) (g4 : stOk s = true) (g5 : decide (0 ≤ e ∧ e ≤ 1000000) = false) :
    Calls Try.prog 15 #[.agg #[.int .i64 a, .int .i64 b, .int .i64 s, .int .i64 e, .int .i64 t, .int .i64 k]] w fun e w' => e = .returned (.bool false) ∧ Below w.heap.size w w' := by
  have Ha := hide ha
  have Hb := hide hb
  have Hs := hide hs
  have He := hide he
  have Ht := hide ht
  have Hk := hide hk
  clear ha hb hs he ht hk
  obtain ⟨a0, a1⟩ : 1 ≤ a ∧ a ≤ 4096 := of_decide_eq_true g1
  obtain ⟨b0, b1⟩ : 1 ≤ b ∧ b ≤ a := of_decide_eq_true g2
  have z2 : (b == 0) = false := beq_eq_false_iff_ne.2 (by omega)
  have G1 := hide g1
  have G2 := hide g2
  have G3 := hide g3
  have G4 := hide g4
  have G5 := hide g5
  clear g1 g2 g3 g4 g5
  obtain ⟨WA, hWA⟩ : ∃ WA, w.alloc (.cells #[.int .i64 a, .int .i64 b, .int .i64 s, .int .i64 e, .int .i64 t, .int .i64 k] 32) = WA := ⟨_, rfl⟩
  have nWA : Below w.heap.size w WA := hWA ▸ (Below.refl _ _).alloc (Nat.le_refl _) _
  have mWA : Box6 WA w.heap.size a b s e t k := hWA ▸ box6_new _ _ _ _ _ _ _ _
  have BL : Hid (Below w.heap.size w WA) := hide (nWA)
  have KA := hide (mWA)
  clear nWA mWA
  obtain ⟨-, cA0, cA1, cA2, cA3, cA4, cA5⟩ := KA.out
  go_enter Try.func15, Try.ntmps15
  go_wp2_with fail
  refine (inB_one 1 4096 a true _ _ (by first | decide | omega) Ha.out G1.out rfl).mono ?_
  rintro e1 w1 ⟨rfl, q1⟩
  replace KA := hide (KA.out.below q1)
  clear cA0 cA1 cA2 cA3 cA4 cA5
  obtain ⟨-, cA0, cA1, cA2, cA3, cA4, cA5⟩ := KA.out
  replace BL := hide (BL.out.trans (q1.mono BL.out.size))
  clear q1
  go_wp2_with fail
  refine (inB_one 1 a b true _ _ (by first | decide | omega) Hb.out G2.out rfl).mono ?_
  rintro e1 w2 ⟨rfl, q2⟩
  replace KA := hide (KA.out.below q2)
  clear cA0 cA1 cA2 cA3 cA4 cA5
  obtain ⟨-, cA0, cA1, cA2, cA3, cA4, cA5⟩ := KA.out
  replace BL := hide (BL.out.trans (q2.mono BL.out.size))
  clear q2
  go_wp2_with fail
  refine (inB_one 1 64 k true _ _ (by first | decide | omega) Hk.out G3.out rfl).mono ?_
  rintro e1 w3 ⟨rfl, q3⟩
  replace KA := hide (KA.out.below q3)
  clear cA0 cA1 cA2 cA3 cA4 cA5
  obtain ⟨-, cA0, cA1, cA2, cA3, cA4, cA5⟩ := KA.out
  replace BL := hide (BL.out.trans (q3.mono BL.out.size))
  clear q3
  go_wp2_with fail
  refine (stateI s true Hs.out G4.out _).mono ?_
  rintro e1 w4 ⟨rfl, q4⟩
  replace KA := hide (KA.out.below q4)
  clear cA0 cA1 cA2 cA3 cA4 cA5
  obtain ⟨-, cA0, cA1, cA2, cA3, cA4, cA5⟩ := KA.out
  replace BL := hide (BL.out.trans (q4.mono BL.out.size))
  clear q4
  go_wp2_with fail
  refine (inB_one 0 1000000 e false _ _ (by first | decide | omega) He.out G5.out rfl).mono ?_
  rintro e1 w5 ⟨rfl, q5⟩
  replace KA := hide (KA.out.below q5)
  clear cA0 cA1 cA2 cA3 cA4 cA5
  obtain ⟨-, cA0, cA1, cA2, cA3, cA4, cA5⟩ := KA.out
  replace BL := hide (BL.out.trans (q5.mono BL.out.size))
  clear q5
  go_wp2_with fail
  go_ret
  exact ⟨rfl, BL.out⟩
set_option maxHeartbeats 1000000 in
theorem iFee_no6 (a b s e t k : Int) (w : World) (ha : bd a) (hb : bd b) (hs : bd s) (he : bd e) (ht : bd t) (hk : bd k)  (g1 : decide (1 ≤ a ∧ a ≤ 4096) = true) (g2 : decide (1 ≤ b ∧ b ≤ a) = true) (g3 : decide (1 ≤ k ∧ k ≤ 64) = true) (g4 : stOk s = true) (g5 : decide (0 ≤ e ∧ e ≤ 1000000) = true) (g6 : decide (0 ≤ t ∧ t ≤ (a - b)) = false) :
    Calls Try.prog 15 #[.agg #[.int .i64 a, .int .i64 b, .int .i64 s, .int .i64 e, .int .i64 t, .int .i64 k]] w fun e w' => e = .returned (.bool false) ∧ Below w.heap.size w w' := by
  have Ha := hide ha
  have Hb := hide hb
  have Hs := hide hs
  have He := hide he
  have Ht := hide ht
  have Hk := hide hk
  clear ha hb hs he ht hk
  obtain ⟨a0, a1⟩ : 1 ≤ a ∧ a ≤ 4096 := of_decide_eq_true g1
  obtain ⟨b0, b1⟩ : 1 ≤ b ∧ b ≤ a := of_decide_eq_true g2
  have z2 : (b == 0) = false := beq_eq_false_iff_ne.2 (by omega)
  have G1 := hide g1
  have G2 := hide g2
  have G3 := hide g3
  have G4 := hide g4
  have G5 := hide g5
  have G6 := hide g6
  clear g1 g2 g3 g4 g5 g6
  obtain ⟨WA, hWA⟩ : ∃ WA, w.alloc (.cells #[.int .i64 a, .int .i64 b, .int .i64 s, .int .i64 e, .int .i64 t, .int .i64 k] 32) = WA := ⟨_, rfl⟩
  have nWA : Below w.heap.size w WA := hWA ▸ (Below.refl _ _).alloc (Nat.le_refl _) _
  have mWA : Box6 WA w.heap.size a b s e t k := hWA ▸ box6_new _ _ _ _ _ _ _ _
  have BL : Hid (Below w.heap.size w WA) := hide (nWA)
  have KA := hide (mWA)
  clear nWA mWA
  obtain ⟨-, cA0, cA1, cA2, cA3, cA4, cA5⟩ := KA.out
  go_enter Try.func15, Try.ntmps15
  go_wp2_with fail
  refine (inB_one 1 4096 a true _ _ (by first | decide | omega) Ha.out G1.out rfl).mono ?_
  rintro e1 w1 ⟨rfl, q1⟩
  replace KA := hide (KA.out.below q1)
  clear cA0 cA1 cA2 cA3 cA4 cA5
  obtain ⟨-, cA0, cA1, cA2, cA3, cA4, cA5⟩ := KA.out
  replace BL := hide (BL.out.trans (q1.mono BL.out.size))
  clear q1
  go_wp2_with fail
  refine (inB_one 1 a b true _ _ (by first | decide | omega) Hb.out G2.out rfl).mono ?_
  rintro e1 w2 ⟨rfl, q2⟩
  replace KA := hide (KA.out.below q2)
  clear cA0 cA1 cA2 cA3 cA4 cA5
  obtain ⟨-, cA0, cA1, cA2, cA3, cA4, cA5⟩ := KA.out
  replace BL := hide (BL.out.trans (q2.mono BL.out.size))
  clear q2
  go_wp2_with fail
  refine (inB_one 1 64 k true _ _ (by first | decide | omega) Hk.out G3.out rfl).mono ?_
  rintro e1 w3 ⟨rfl, q3⟩
  replace KA := hide (KA.out.below q3)
  clear cA0 cA1 cA2 cA3 cA4 cA5
  obtain ⟨-, cA0, cA1, cA2, cA3, cA4, cA5⟩ := KA.out
  replace BL := hide (BL.out.trans (q3.mono BL.out.size))
  clear q3
  go_wp2_with fail
  refine (stateI s true Hs.out G4.out _).mono ?_
  rintro e1 w4 ⟨rfl, q4⟩
  replace KA := hide (KA.out.below q4)
  clear cA0 cA1 cA2 cA3 cA4 cA5
  obtain ⟨-, cA0, cA1, cA2, cA3, cA4, cA5⟩ := KA.out
  replace BL := hide (BL.out.trans (q4.mono BL.out.size))
  clear q4
  go_wp2_with fail
  refine (inB_one 0 1000000 e true _ _ (by first | decide | omega) He.out G5.out rfl).mono ?_
  rintro e1 w5 ⟨rfl, q5⟩
  replace KA := hide (KA.out.below q5)
  clear cA0 cA1 cA2 cA3 cA4 cA5
  obtain ⟨-, cA0, cA1, cA2, cA3, cA4, cA5⟩ := KA.out
  replace BL := hide (BL.out.trans (q5.mono BL.out.size))
  clear q5
  go_wp2_with fail
  refine (inB_one 0 (a - b) t false _ _ (by first | decide | omega) Ht.out G6.out rfl).mono ?_
  rintro e1 w6 ⟨rfl, q6⟩
  replace KA := hide (KA.out.below q6)
  clear cA0 cA1 cA2 cA3 cA4 cA5
  obtain ⟨-, cA0, cA1, cA2, cA3, cA4, cA5⟩ := KA.out
  replace BL := hide (BL.out.trans (q6.mono BL.out.size))
  clear q6
  go_wp2_with fail
  go_ret
  exact ⟨rfl, BL.out⟩
set_option maxHeartbeats 1000000 in
theorem iFee_no7 (a b s e t k : Int) (w : World) (ha : bd a) (hb : bd b) (hs : bd s) (he : bd e) (ht : bd t) (hk : bd k)  (g1 : decide (1 ≤ a ∧ a ≤ 4096) = true) (g2 : decide (1 ≤ b ∧ b ≤ a) = true) (g3 : decide (1 ≤ k ∧ k ≤ 64) = true) (g4 : stOk s = true) (g5 : decide (0 ≤ e ∧ e ≤ 1000000) = true) (g6 : decide (0 ≤ t ∧ t ≤ (a - b)) = true) (g7 : (t % b == 0) = false) :
    Calls Try.prog 15 #[.agg #[.int .i64 a, .int .i64 b, .int .i64 s, .int .i64 e, .int .i64 t, .int .i64 k]] w fun e w' => e = .returned (.bool false) ∧ Below w.heap.size w w' := by
  have Ha := hide ha
  have Hb := hide hb
  have Hs := hide hs
  have He := hide he
  have Ht := hide ht
  have Hk := hide hk
  clear ha hb hs he ht hk
  obtain ⟨a0, a1⟩ : 1 ≤ a ∧ a ≤ 4096 := of_decide_eq_true g1
  obtain ⟨b0, b1⟩ : 1 ≤ b ∧ b ≤ a := of_decide_eq_true g2
  have z2 : (b == 0) = false := beq_eq_false_iff_ne.2 (by omega)
  obtain ⟨t0, t1⟩ : 0 ≤ t ∧ t ≤ a - b := of_decide_eq_true g6
  have m7 : (t % b == 0) = false := g7
  have G1 := hide g1
  have G2 := hide g2
  have G3 := hide g3
  have G4 := hide g4
  have G5 := hide g5
  have G6 := hide g6
  have G7 := hide g7
  clear g1 g2 g3 g4 g5 g6 g7
  obtain ⟨WA, hWA⟩ : ∃ WA, w.alloc (.cells #[.int .i64 a, .int .i64 b, .int .i64 s, .int .i64 e, .int .i64 t, .int .i64 k] 32) = WA := ⟨_, rfl⟩
  have nWA : Below w.heap.size w WA := hWA ▸ (Below.refl _ _).alloc (Nat.le_refl _) _
  have mWA : Box6 WA w.heap.size a b s e t k := hWA ▸ box6_new _ _ _ _ _ _ _ _
  have BL : Hid (Below w.heap.size w WA) := hide (nWA)
  have KA := hide (mWA)
  clear nWA mWA
  obtain ⟨-, cA0, cA1, cA2, cA3, cA4, cA5⟩ := KA.out
  go_enter Try.func15, Try.ntmps15
  go_wp2_with fail
  refine (inB_one 1 4096 a true _ _ (by first | decide | omega) Ha.out G1.out rfl).mono ?_
  rintro e1 w1 ⟨rfl, q1⟩
  replace KA := hide (KA.out.below q1)
  clear cA0 cA1 cA2 cA3 cA4 cA5
  obtain ⟨-, cA0, cA1, cA2, cA3, cA4, cA5⟩ := KA.out
  replace BL := hide (BL.out.trans (q1.mono BL.out.size))
  clear q1
  go_wp2_with fail
  refine (inB_one 1 a b true _ _ (by first | decide | omega) Hb.out G2.out rfl).mono ?_
  rintro e1 w2 ⟨rfl, q2⟩
  replace KA := hide (KA.out.below q2)
  clear cA0 cA1 cA2 cA3 cA4 cA5
  obtain ⟨-, cA0, cA1, cA2, cA3, cA4, cA5⟩ := KA.out
  replace BL := hide (BL.out.trans (q2.mono BL.out.size))
  clear q2
  go_wp2_with fail
  refine (inB_one 1 64 k true _ _ (by first | decide | omega) Hk.out G3.out rfl).mono ?_
  rintro e1 w3 ⟨rfl, q3⟩
  replace KA := hide (KA.out.below q3)
  clear cA0 cA1 cA2 cA3 cA4 cA5
  obtain ⟨-, cA0, cA1, cA2, cA3, cA4, cA5⟩ := KA.out
  replace BL := hide (BL.out.trans (q3.mono BL.out.size))
  clear q3
  go_wp2_with fail
  refine (stateI s true Hs.out G4.out _).mono ?_
  rintro e1 w4 ⟨rfl, q4⟩
  replace KA := hide (KA.out.below q4)
  clear cA0 cA1 cA2 cA3 cA4 cA5
  obtain ⟨-, cA0, cA1, cA2, cA3, cA4, cA5⟩ := KA.out
  replace BL := hide (BL.out.trans (q4.mono BL.out.size))
  clear q4
  go_wp2_with fail
  refine (inB_one 0 1000000 e true _ _ (by first | decide | omega) He.out G5.out rfl).mono ?_
  rintro e1 w5 ⟨rfl, q5⟩
  replace KA := hide (KA.out.below q5)
  clear cA0 cA1 cA2 cA3 cA4 cA5
  obtain ⟨-, cA0, cA1, cA2, cA3, cA4, cA5⟩ := KA.out
  replace BL := hide (BL.out.trans (q5.mono BL.out.size))
  clear q5
  go_wp2_with fail
  refine (inB_one 0 (a - b) t true _ _ (by first | decide | omega) Ht.out G6.out rfl).mono ?_
  rintro e1 w6 ⟨rfl, q6⟩
  replace KA := hide (KA.out.below q6)
  clear cA0 cA1 cA2 cA3 cA4 cA5
  obtain ⟨-, cA0, cA1, cA2, cA3, cA4, cA5⟩ := KA.out
  replace BL := hide (BL.out.trans (q6.mono BL.out.size))
  clear q6
  go_wp2_with fail
  go_ret
  exact ⟨rfl, BL.out⟩
set_option maxHeartbeats 1000000 in
theorem iFee_yes (a b s e t k : Int) (w : World) (ha : bd a) (hb : bd b) (hs : bd s) (he : bd e) (ht : bd t) (hk : bd k)  (g1 : decide (1 ≤ a ∧ a ≤ 4096) = true) (g2 : decide (1 ≤ b ∧ b ≤ a) = true) (g3 : decide (1 ≤ k ∧ k ≤ 64) = true) (g4 : stOk s = true) (g5 : decide (0 ≤ e ∧ e ≤ 1000000) = true) (g6 : decide (0 ≤ t ∧ t ≤ (a - b)) = true) (g7 : (t % b == 0) = true) :
    Calls Try.prog 15 #[.agg #[.int .i64 a, .int .i64 b, .int .i64 s, .int .i64 e, .int .i64 t, .int .i64 k]] w fun e w' => e = .returned (.bool true) ∧ Below w.heap.size w w' := by
  have Ha := hide ha
  have Hb := hide hb
  have Hs := hide hs
  have He := hide he
  have Ht := hide ht
  have Hk := hide hk
  clear ha hb hs he ht hk
  obtain ⟨a0, a1⟩ : 1 ≤ a ∧ a ≤ 4096 := of_decide_eq_true g1
  obtain ⟨b0, b1⟩ : 1 ≤ b ∧ b ≤ a := of_decide_eq_true g2
  have z2 : (b == 0) = false := beq_eq_false_iff_ne.2 (by omega)
  obtain ⟨t0, t1⟩ : 0 ≤ t ∧ t ≤ a - b := of_decide_eq_true g6
  have m7 : (t % b == 0) = true := g7
  have G1 := hide g1
  have G2 := hide g2
  have G3 := hide g3
  have G4 := hide g4
  have G5 := hide g5
  have G6 := hide g6
  have G7 := hide g7
  clear g1 g2 g3 g4 g5 g6 g7
  obtain ⟨WA, hWA⟩ : ∃ WA, w.alloc (.cells #[.int .i64 a, .int .i64 b, .int .i64 s, .int .i64 e, .int .i64 t, .int .i64 k] 32) = WA := ⟨_, rfl⟩
  have nWA : Below w.heap.size w WA := hWA ▸ (Below.refl _ _).alloc (Nat.le_refl _) _
  have mWA : Box6 WA w.heap.size a b s e t k := hWA ▸ box6_new _ _ _ _ _ _ _ _
  have BL : Hid (Below w.heap.size w WA) := hide (nWA)
  have KA := hide (mWA)
  clear nWA mWA
  obtain ⟨-, cA0, cA1, cA2, cA3, cA4, cA5⟩ := KA.out
  go_enter Try.func15, Try.ntmps15
  go_wp2_with fail
  refine (inB_one 1 4096 a true _ _ (by first | decide | omega) Ha.out G1.out rfl).mono ?_
  rintro e1 w1 ⟨rfl, q1⟩
  replace KA := hide (KA.out.below q1)
  clear cA0 cA1 cA2 cA3 cA4 cA5
  obtain ⟨-, cA0, cA1, cA2, cA3, cA4, cA5⟩ := KA.out
  replace BL := hide (BL.out.trans (q1.mono BL.out.size))
  clear q1
  go_wp2_with fail
  refine (inB_one 1 a b true _ _ (by first | decide | omega) Hb.out G2.out rfl).mono ?_
  rintro e1 w2 ⟨rfl, q2⟩
  replace KA := hide (KA.out.below q2)
  clear cA0 cA1 cA2 cA3 cA4 cA5
  obtain ⟨-, cA0, cA1, cA2, cA3, cA4, cA5⟩ := KA.out
  replace BL := hide (BL.out.trans (q2.mono BL.out.size))
  clear q2
  go_wp2_with fail
  refine (inB_one 1 64 k true _ _ (by first | decide | omega) Hk.out G3.out rfl).mono ?_
  rintro e1 w3 ⟨rfl, q3⟩
  replace KA := hide (KA.out.below q3)
  clear cA0 cA1 cA2 cA3 cA4 cA5
  obtain ⟨-, cA0, cA1, cA2, cA3, cA4, cA5⟩ := KA.out
  replace BL := hide (BL.out.trans (q3.mono BL.out.size))
  clear q3
  go_wp2_with fail
  refine (stateI s true Hs.out G4.out _).mono ?_
  rintro e1 w4 ⟨rfl, q4⟩
  replace KA := hide (KA.out.below q4)
  clear cA0 cA1 cA2 cA3 cA4 cA5
  obtain ⟨-, cA0, cA1, cA2, cA3, cA4, cA5⟩ := KA.out
  replace BL := hide (BL.out.trans (q4.mono BL.out.size))
  clear q4
  go_wp2_with fail
  refine (inB_one 0 1000000 e true _ _ (by first | decide | omega) He.out G5.out rfl).mono ?_
  rintro e1 w5 ⟨rfl, q5⟩
  replace KA := hide (KA.out.below q5)
  clear cA0 cA1 cA2 cA3 cA4 cA5
  obtain ⟨-, cA0, cA1, cA2, cA3, cA4, cA5⟩ := KA.out
  replace BL := hide (BL.out.trans (q5.mono BL.out.size))
  clear q5
  go_wp2_with fail
  refine (inB_one 0 (a - b) t true _ _ (by first | decide | omega) Ht.out G6.out rfl).mono ?_
  rintro e1 w6 ⟨rfl, q6⟩
  replace KA := hide (KA.out.below q6)
  clear cA0 cA1 cA2 cA3 cA4 cA5
  obtain ⟨-, cA0, cA1, cA2, cA3, cA4, cA5⟩ := KA.out
  replace BL := hide (BL.out.trans (q6.mono BL.out.size))
  clear q6
  go_wp2_with fail
  go_ret
  exact ⟨rfl, BL.out⟩
theorem implFeed (a b s e t k : Int) (w : World) (ha : bd a) (hb : bd b) (hs : bd s) (he : bd e) (ht : bd t) (hk : bd k) :
    Calls Try.prog 15 #[.agg #[.int .i64 a, .int .i64 b, .int .i64 s, .int .i64 e, .int .i64 t, .int .i64 k]] w fun e' w' => e' = .returned (.bool (feOk a b s e t k)) ∧ Below w.heap.size w w' := by
  cases g1 : decide (1 ≤ a ∧ a ≤ 4096)
  · rw [show feOk a b s e t k = false from decide_eq_false (fun h => of_decide_eq_false g1 h.1)]
    exact iFee_no1 a b s e t k w ha hb hs he ht hk g1
  cases g2 : decide (1 ≤ b ∧ b ≤ a)
  · rw [show feOk a b s e t k = false from decide_eq_false (fun h => of_decide_eq_false g2 h.2.1)]
    exact iFee_no2 a b s e t k w ha hb hs he ht hk g1 g2
  cases g3 : decide (1 ≤ k ∧ k ≤ 64)
  · rw [show feOk a b s e t k = false from decide_eq_false (fun h => of_decide_eq_false g3 h.2.2.2.2.1)]
    exact iFee_no3 a b s e t k w ha hb hs he ht hk g1 g2 g3
  cases g4 : stOk s
  · rw [show feOk a b s e t k = false from decide_eq_false (fun h => by rw [h.2.2.1] at g4; exact absurd g4 (by decide))]
    exact iFee_no4 a b s e t k w ha hb hs he ht hk g1 g2 g3 g4
  cases g5 : decide (0 ≤ e ∧ e ≤ 1000000)
  · rw [show feOk a b s e t k = false from decide_eq_false (fun h => of_decide_eq_false g5 h.2.2.2.1)]
    exact iFee_no5 a b s e t k w ha hb hs he ht hk g1 g2 g3 g4 g5
  cases g6 : decide (0 ≤ t ∧ t ≤ (a - b))
  · rw [show feOk a b s e t k = false from decide_eq_false (fun h => of_decide_eq_false g6 h.2.2.2.2.2.1)]
    exact iFee_no6 a b s e t k w ha hb hs he ht hk g1 g2 g3 g4 g5 g6
  cases g7 : (t % b == 0)
  · rw [show feOk a b s e t k = false from decide_eq_false (fun h => by rw [h.2.2.2.2.2.2] at g7; exact absurd g7 (by decide))]
    exact iFee_no7 a b s e t k w ha hb hs he ht hk g1 g2 g3 g4 g5 g6 g7
  rw [show feOk a b s e t k = true from decide_eq_true ⟨of_decide_eq_true g1, of_decide_eq_true g2, g4, of_decide_eq_true g5, of_decide_eq_true g3, of_decide_eq_true g6, beq_iff_eq.1 g7⟩]
  exact iFee_yes a b s e t k w ha hb hs he ht hk g1 g2 g3 g4 g5 g6 g7
theorem gFeedI (a b s e t k : Int) (q : Bool) (ha : bd a) (hb : bd b) (hs : bd s) (he : bd e) (ht : bd t) (hk : bd k) (hq : feOk a b s e t k = q) (w : World) :
    Calls Try.prog 15 #[.agg #[.int .i64 a, .int .i64 b, .int .i64 s, .int .i64 e, .int .i64 t, .int .i64 k]] w fun e w' => e = .returned (.bool q) ∧ Below w.heap.size w w' := by
  rw [← hq]; exact implFeed a b s e t k w ha hb hs he ht hk
set_option maxHeartbeats 1000000 in
theorem toFeed (a b s e t k : Int) (w : World) :
    Calls Try.prog 13 #[.agg #[.int .i64 a, .int .i64 b, .int .i64 s, .int .i64 e, .int .i64 t, .int .i64 k]] w fun e' w' => e' = .returned (.agg #[.int .i64 a, .int .i64 b, .int .i64 s, .int .i64 e, .int .i64 t, .int .i64 k]) ∧ Below w.heap.size w w' := by
  go_enter Try.func13, Try.ntmps13
  go_wp2
  refine bodyPost_ret (v := .agg #[.int .i64 a, .int .i64 b, .int .i64 s, .int .i64 e, .int .i64 t, .int .i64 k]) (by simp [results, Try.results13, go_sem]) rfl ⟨rfl, ?_⟩
  exact (((Below.refl _ _).alloc (Nat.le_refl _) _).alloc (by simp) _).alloc (by simp; omega) _
set_option maxHeartbeats 1000000 in
theorem eqFeed (a b s e t k : Int) (w : World) :
    Calls Try.prog 17 #[.agg #[.int .i64 a, .int .i64 b, .int .i64 s, .int .i64 e, .int .i64 t, .int .i64 k], .agg #[.int .i64 a, .int .i64 b, .int .i64 s, .int .i64 e, .int .i64 t, .int .i64 k]] w fun e' w' => e' = .returned (.bool true) ∧ Below w.heap.size w w' := by
  go_enter Try.func17, Try.ntmps17
  go_wp2
  go_ret
  exact ⟨rfl, ((Below.refl _ _).alloc (Nat.le_refl _) _).alloc (by simp) _⟩
theorem feed_of {H : Type} {enc : TypeId × Value → H} {w : World} {base : Nat} {spare : Nat → Bool} {held : Bool} {fuel : Nat} {c0 c1 c2 c3 c4 c5 : Value} {x : DataW H × List MemPlace} (h : DataW.trod enc Try.prog w base spare held fuel 26 [c0, c1, c2, c3, c4, c5] = some x) :
    ∃ a b s e t k : Int, (c0 = .int .i64 a ∧ c1 = .int .i64 b ∧ c2 = .int .i64 s ∧ c3 = .int .i64 e ∧ c4 = .int .i64 t ∧ c5 = .int .i64 k) ∧ bd a ∧ bd b ∧ bd s ∧ bd e ∧ bd t ∧ bd k := by
  obtain ⟨y0, n0, q0⟩ := field_of Try.underlying26 h 0 _ rfl 1 (by kernel_rfl)
  have q0 : DataW.trod enc Try.prog w base spare held n0 3 [c0] = some y0 := q0
  obtain ⟨u0, rfl, hu0⟩ := int_of q0
  obtain ⟨y1, n1, q1⟩ := field_of Try.underlying26 h 1 _ rfl 1 (by kernel_rfl)
  have q1 : DataW.trod enc Try.prog w base spare held n1 3 [c1] = some y1 := q1
  obtain ⟨u1, rfl, hu1⟩ := int_of q1
  obtain ⟨y2, n2, q2⟩ := field_of Try.underlying26 h 2 _ rfl 1 (by kernel_rfl)
  have q2 : DataW.trod enc Try.prog w base spare held n2 3 [c2] = some y2 := q2
  obtain ⟨u2, rfl, hu2⟩ := int_of q2
  obtain ⟨y3, n3, q3⟩ := field_of Try.underlying26 h 3 _ rfl 1 (by kernel_rfl)
  have q3 : DataW.trod enc Try.prog w base spare held n3 3 [c3] = some y3 := q3
  obtain ⟨u3, rfl, hu3⟩ := int_of q3
  obtain ⟨y4, n4, q4⟩ := field_of Try.underlying26 h 4 _ rfl 1 (by kernel_rfl)
  have q4 : DataW.trod enc Try.prog w base spare held n4 3 [c4] = some y4 := q4
  obtain ⟨u4, rfl, hu4⟩ := int_of q4
  obtain ⟨y5, n5, q5⟩ := field_of Try.underlying26 h 5 _ rfl 1 (by kernel_rfl)
  have q5 : DataW.trod enc Try.prog w base spare held n5 3 [c5] = some y5 := q5
  obtain ⟨u5, rfl, hu5⟩ := int_of q5
  exact ⟨u0, u1, u2, u3, u4, u5, ⟨rfl, rfl, rfl, rfl, rfl, rfl⟩, hu0, hu1, hu2, hu3, hu4, hu5⟩
theorem feed_at {H : Type} {enc : TypeId × Value → H} {w : World} {base : Nat} {spare : Nat → Bool} {held : Bool} {b0 : Nat} {v : Value} {d : DataW H} {q : List MemPlace} (hv : Value.okWide Try.prog w .any b0 26 v) (h : DataW.Trod enc Try.prog w base spare held 26 v d q) :
    ∃ u0 u1 u2 u3 u4 u5 : Int, v = .agg #[.int .i64 u0, .int .i64 u1, .int .i64 u2, .int .i64 u3, .int .i64 u4, .int .i64 u5] ∧ bd u0 ∧ bd u1 ∧ bd u2 ∧ bd u3 ∧ bd u4 ∧ bd u5 := by
  obtain ⟨cs, rfl, hsz⟩ := okWide_struct Try.underlying26 hv
  have hC : Try.prog.cellsOf 26 = 6 := by kernel_rfl
  obtain ⟨l⟩ := cs
  match l, hsz.trans hC with
  | [c0, c1, c2, c3, c4, c5], _ =>
    obtain ⟨fuel, hf⟩ := h
    obtain ⟨u0, u1, u2, u3, u4, u5, ⟨rfl, rfl, rfl, rfl, rfl, rfl⟩, hu0, hu1, hu2, hu3, hu4, hu5⟩ := feed_of (by simpa [Value.cells] using hf)
    exact ⟨u0, u1, u2, u3, u4, u5, rfl, hu0, hu1, hu2, hu3, hu4, hu5⟩
end Vo
end Go.Proofs.Ytmdgkbmifaajgaa
