/- Calibrate on both sides. -/
import Derived.Test.YtabjpemneimljaaIg
namespace Go.Proofs.Ytabjpemneimljaa
namespace Vo
open Go.ChangeShapes Go.WideShapes Go.ChangeAt Go.RowKit Go.Joins Go.Sort
open Vl
set_option linter.unusedVariables false
set_option linter.unusedSimpArgs false
/-- the least of the first k + 1; the greatest -/
def m1 (S : Nat → Int) : Nat → Int
  | 0 => S 0
  | k + 1 => if S (k + 1) < m1 S k then S (k + 1) else m1 S k
def M1 (S : Nat → Int) : Nat → Int
  | 0 => S 0
  | k + 1 => if M1 S k < S (k + 1) then S (k + 1) else M1 S k
/-- the least of the first k and 0; the greatest -/
def mnP (S : Nat → Int) : Nat → Int
  | 0 => 0
  | k + 1 => if S k < mnP S k then S k else mnP S k
def mxP (S : Nat → Int) : Nat → Int
  | 0 => 0
  | k + 1 => if mxP S k < S k then S k else mxP S k
theorem m1_step {S : Nat → Int} {j : Nat} (h : 1 ≤ j) : m1 S j = if S j < m1 S (j - 1) then S j else m1 S (j - 1) := by
  obtain ⟨k, rfl⟩ : ∃ k, j = k + 1 := ⟨j - 1, by omega⟩
  rfl
theorem M1_step {S : Nat → Int} {j : Nat} (h : 1 ≤ j) : M1 S j = if M1 S (j - 1) < S j then S j else M1 S (j - 1) := by
  obtain ⟨k, rfl⟩ : ∃ k, j = k + 1 := ⟨j - 1, by omega⟩
  rfl
theorem mn_is (S : Nat → Int) : ∀ k, (if 0 < m1 S k then 0 else m1 S k) = mnP S (k + 1)
  | 0 => by
    show (if 0 < S 0 then (0 : Int) else S 0) = if S 0 < 0 then S 0 else 0
    split <;> split <;> omega
  | k + 1 => by
    have ih := mn_is S k
    show (if 0 < (if S (k + 1) < m1 S k then S (k + 1) else m1 S k) then (0 : Int) else (if S (k + 1) < m1 S k then S (k + 1) else m1 S k)) = if S (k + 1) < mnP S (k + 1) then S (k + 1) else mnP S (k + 1)
    rw [← ih]
    split <;> split <;> (try split) <;> (try split) <;> omega
theorem mx_is (S : Nat → Int) : ∀ k, (if M1 S k < 0 then 0 else M1 S k) = mxP S (k + 1)
  | 0 => by
    show (if S 0 < 0 then (0 : Int) else S 0) = if 0 < S 0 then S 0 else 0
    split <;> split <;> omega
  | k + 1 => by
    have ih := mx_is S k
    show (if (if M1 S k < S (k + 1) then S (k + 1) else M1 S k) < 0 then (0 : Int) else (if M1 S k < S (k + 1) then S (k + 1) else M1 S k)) = if mxP S (k + 1) < S (k + 1) then S (k + 1) else mxP S (k + 1)
    rw [← ih]
    split <;> split <;> (try split) <;> (try split) <;> omega
theorem mn_bd {S : Nat → Int} {K : Int} (hK : 0 ≤ K) : ∀ k, (∀ j, j < k → -K ≤ S j ∧ S j ≤ K) → -K ≤ mnP S k ∧ mnP S k ≤ 0
  | 0, _ => ⟨by show -K ≤ 0; omega, by show (0 : Int) ≤ 0; omega⟩
  | k + 1, h => by
    have ih := mn_bd hK k (fun j hj => h j (by omega))
    have := h k (by omega)
    show -K ≤ (if S k < mnP S k then S k else mnP S k) ∧ (if S k < mnP S k then S k else mnP S k) ≤ 0
    split <;> omega
theorem mx_bd {S : Nat → Int} {K : Int} (hK : 0 ≤ K) : ∀ k, (∀ j, j < k → -K ≤ S j ∧ S j ≤ K) → 0 ≤ mxP S k ∧ mxP S k ≤ K
  | 0, _ => ⟨by show (0 : Int) ≤ 0; omega, hK⟩
  | k + 1, h => by
    have ih := mx_bd hK k (fun j hj => h j (by omega))
    have := h k (by omega)
    show 0 ≤ (if mxP S k < S k then S k else mxP S k) ∧ (if mxP S k < S k then S k else mxP S k) ≤ K
    split <;> omega
theorem m1_bd {S : Nat → Int} {K : Int} : ∀ k, (∀ j, j < k + 1 → -K ≤ S j ∧ S j ≤ K) → (-K ≤ m1 S k ∧ m1 S k ≤ K) ∧ (-K ≤ M1 S k ∧ M1 S k ≤ K)
  | 0, h => ⟨h 0 (by omega), h 0 (by omega)⟩
  | k + 1, h => by
    have ih := m1_bd k (fun j hj => h j (by omega))
    have := h (k + 1) (by omega)
    show (-K ≤ (if S (k + 1) < m1 S k then S (k + 1) else m1 S k) ∧ (if S (k + 1) < m1 S k then S (k + 1) else m1 S k) ≤ K) ∧ (-K ≤ (if M1 S k < S (k + 1) then S (k + 1) else M1 S k) ∧ (if M1 S k < S (k + 1) then S (k + 1) else M1 S k) ≤ K)
    constructor <;> split <;> omega
/-- the step of a list's scale -/
def cst (d : Int) : Int := if (d + 254).tdiv 255 < 1 then 1 else (d + 254).tdiv 255
theorem cst_bd {d : Int} (h0 : 0 ≤ d) (h1 : d ≤ 2199023255552) : 1 ≤ cst d ∧ cst d ≤ 2199023255806 := by
  have := tdiv_abs (d + 254) 255
  unfold cst
  split <;> omega
set_option maxHeartbeats 1000000 in
theorem minF (B : Nat) (a : Option Addr) (r cap : Nat) (S : Nat → Int) (w : World) (h : Ints B w a r S) (h0 : 0 < r) (hr : (r : Int) ≤ 1048576) :
    Calls Try.prog 36 #[.slice a r cap] w fun e w' => e = .returned (.int .i64 (m1 S (r - 1))) ∧ w' = w := by
  obtain hz | ⟨b, off, rfl, hb, hc⟩ := h
  · omega
  have HC := hide hc
  have c0 := (hc 0 h0).1
  rw [Nat.add_zero] at c0
  have r0 : decide ((r : Int) < 1) = false := decide_eq_false (by omega)
  have r1 : 0 < (r : Int) := by omega
  clear hc
  go_enter Try.func36, Try.ntmps36
  go_wp2_with fail
  go_loopw [3, 4] (fun m i wx => ∃ j : Nat, 1 ≤ j ∧ j ≤ r ∧ i = .int .i64 j ∧ m = .int .i64 (m1 S (j - 1)) ∧ wx = w) (fun _ i _ => r - (intOf i).toNat)
  case atStart => exact ⟨1, by omega, h0, rfl, rfl, rfl⟩
  case round =>
    obtain ⟨j, hj, hjr, rfl, rfl, rfl⟩ := hrel
    by_cases hlt : j < r
    · have c1 := (HC.out j hlt).1
      have kI : (j : Int) < (r : Int) := by omega
      have ST := hide (m1_step (S := S) hj)
      have EQ : Hid (m1 S (j + 1 - 1) = m1 S j) := hide (by rw [Nat.add_sub_cancel])
      clear c0 r0
      obtain ⟨v, hv⟩ : ∃ v, m1 S (j - 1) = v := ⟨_, rfl⟩
      rw [hv] at ST ⊢
      clear hv
      by_cases c : S j < v
      · have e := hide (show m1 S (j + 1 - 1) = S j by rw [EQ.out, ST.out, if_pos c])
        go_wp2_with fail
        go_roundw
        case rel => exact ⟨j + 1, by omega, by omega, by go_num, by rw [e.out], trivial⟩
        case measure => simp [intOf]; omega
      · have e := hide (show m1 S (j + 1 - 1) = v by rw [EQ.out, ST.out, if_neg c])
        go_wp2_with fail
        go_roundw
        case rel => exact ⟨j + 1, by omega, by omega, by go_num, by rw [e.out], trivial⟩
        case measure => simp [intOf]; omega
    · obtain rfl : j = r := by omega
      have lk : decide ((j : Int) < (j : Int)) = false := decide_eq_false (by omega)
      clear c0 r0
      go_wp2_with fail
      go_ret
      exact ⟨rfl, rfl⟩
set_option maxHeartbeats 1000000 in
theorem maxF (B : Nat) (a : Option Addr) (r cap : Nat) (S : Nat → Int) (w : World) (h : Ints B w a r S) (h0 : 0 < r) (hr : (r : Int) ≤ 1048576) :
    Calls Try.prog 37 #[.slice a r cap] w fun e w' => e = .returned (.int .i64 (M1 S (r - 1))) ∧ w' = w := by
  obtain hz | ⟨b, off, rfl, hb, hc⟩ := h
  · omega
  have HC := hide hc
  have c0 := (hc 0 h0).1
  rw [Nat.add_zero] at c0
  have r0 : decide ((r : Int) < 1) = false := decide_eq_false (by omega)
  have r1 : 0 < (r : Int) := by omega
  clear hc
  go_enter Try.func37, Try.ntmps37
  go_wp2_with fail
  go_loopw [3, 4] (fun m i wx => ∃ j : Nat, 1 ≤ j ∧ j ≤ r ∧ i = .int .i64 j ∧ m = .int .i64 (M1 S (j - 1)) ∧ wx = w) (fun _ i _ => r - (intOf i).toNat)
  case atStart => exact ⟨1, by omega, h0, rfl, rfl, rfl⟩
  case round =>
    obtain ⟨j, hj, hjr, rfl, rfl, rfl⟩ := hrel
    by_cases hlt : j < r
    · have c1 := (HC.out j hlt).1
      have kI : (j : Int) < (r : Int) := by omega
      have ST := hide (M1_step (S := S) hj)
      have EQ : Hid (M1 S (j + 1 - 1) = M1 S j) := hide (by rw [Nat.add_sub_cancel])
      clear c0 r0
      obtain ⟨v, hv⟩ : ∃ v, M1 S (j - 1) = v := ⟨_, rfl⟩
      rw [hv] at ST ⊢
      clear hv
      by_cases c : v < S j
      · have e := hide (show M1 S (j + 1 - 1) = S j by rw [EQ.out, ST.out, if_pos c])
        go_wp2_with fail
        go_roundw
        case rel => exact ⟨j + 1, by omega, by omega, by go_num, by rw [e.out], trivial⟩
        case measure => simp [intOf]; omega
      · have e := hide (show M1 S (j + 1 - 1) = v by rw [EQ.out, ST.out, if_neg c])
        go_wp2_with fail
        go_roundw
        case rel => exact ⟨j + 1, by omega, by omega, by go_num, by rw [e.out], trivial⟩
        case measure => simp [intOf]; omega
    · obtain rfl : j = r := by omega
      have lk : decide ((j : Int) < (j : Int)) = false := decide_eq_false (by omega)
      clear c0 r0
      go_wp2_with fail
      go_ret
      exact ⟨rfl, rfl⟩
/-- a scale in a variable that may be written -/
def BoxW (w : World) (p : Nat) (s z : Int) : Prop := Box2 w p s z ∧ w.frozen? ⟨p, 0, none⟩ = false ∧ w.frozen? ⟨p, 1, none⟩ = false
theorem boxW_new (w : World) (s z : Int) (ty : TypeId) : BoxW (w.alloc (.cells #[.int .i64 s, .int .i64 z] ty)) w.heap.size s z := ⟨box2_new _ _ _ _, by simp [go_sem], by simp [go_sem]⟩
theorem BoxW.below {w w' : World} {p : Nat} {s z : Int} (h : BoxW w p s z) (b : Below w.heap.size w w') : BoxW w' p s z :=
  ⟨h.1.below b, by rw [b.frozen (p := ⟨p, 0, none⟩) h.1.1]; exact h.2.1, by rw [b.frozen (p := ⟨p, 1, none⟩) h.1.1]; exact h.2.2⟩
set_option maxHeartbeats 1000000 in
theorem sCal_no (B : Nat) (a : Option Addr) (r cap : Nat) (S : Nat → Int) (w : World) (hB : B ≤ w.heap.size) (h : Ints B w a r S) (hr : (r : Int) ≤ 1048576) (g : rls r S = false) :
    Calls Try.prog 21 #[.slice a r cap] w fun e w' => e = .returned (.tuple #[.agg #[.int .i64 0, .int .i64 0], .bool false]) ∧ Below w.heap.size w w' := by
  obtain ⟨W0, hW0⟩ : ∃ W0, w.alloc (.cells #[.int .i64 0, .int .i64 0] 25) = W0 := ⟨_, rfl⟩
  have b0 : Below w.heap.size w W0 := hW0 ▸ (Below.refl _ _).alloc (Nat.le_refl _) _
  have y0 : BoxW W0 w.heap.size 0 0 := hW0 ▸ boxW_new _ _ _ _
  have C := hide (realsS B a r cap S W0 (Nat.le_trans hB b0.size) (h.below (b0.mono hB)) hr)
  rw [g] at C
  have BL := hide b0
  have Y := hide y0
  clear b0 y0 h g
  go_enter Try.func21, Try.ntmps21
  go_wp2_with fail
  refine C.out.mono ?_; rintro e1 w1 ⟨rfl, b1⟩
  obtain ⟨⟨-, k0, k1⟩, f0, f1⟩ := Y.out.below b1
  replace BL := hide (BL.out.trans (b1.mono BL.out.size))
  clear b1 Y
  go_wp2_with fail
  exact bodyPost_ret (v := .tuple #[.agg #[.int .i64 0, .int .i64 0], .bool false]) (by simp [results, Try.results21, go_sem, k0, k1]) rfl
    ⟨rfl, (BL.out.setCell (Nat.le_refl _) _).setCell (Nat.le_refl _) _⟩
set_option maxHeartbeats 2000000 in
theorem sCal_yes (B : Nat) (a : Option Addr) (r cap : Nat) (S : Nat → Int) (w : World) (hB : B ≤ w.heap.size) (h : Ints B w a r S) (hr : (r : Int) ≤ 1048576) (g : rls r S = true) (z : Int)
    (hN : ∀ w, Calls Try.prog 42 #[.int .i64 (-mnP S r), .int .i64 (cst (mxP S r - mnP S r))] w fun e w' => e = .returned (.int .i64 z) ∧ Below w.heap.size w w') :
    Calls Try.prog 21 #[.slice a r cap] w fun e w' => e = .returned (.tuple #[.agg #[.int .i64 (cst (mxP S r - mnP S r)), .int .i64 z], .bool true]) ∧ Below w.heap.size w w' := by
  obtain ⟨W0, hW0⟩ : ∃ W0, w.alloc (.cells #[.int .i64 0, .int .i64 0] 25) = W0 := ⟨_, rfl⟩
  have b0 : Below w.heap.size w W0 := hW0 ▸ (Below.refl _ _).alloc (Nat.le_refl _) _
  have y0 : BoxW W0 w.heap.size 0 0 := hW0 ▸ boxW_new _ _ _ _
  have C := hide (realsS B a r cap S W0 (Nat.le_trans hB b0.size) (h.below (b0.mono hB)) hr)
  rw [g] at C
  have HR := hide (show ∀ j, j < r → -1099511627776 ≤ S j ∧ S j ≤ 1099511627776 by
    unfold rls at g
    rw [Bool.and_eq_true] at g
    exact of_decide_eq_true g.1)
  have HN := hide hN
  have H0 := hide (h.below (b0.mono hB))
  have BL := hide b0
  have Y := hide y0
  clear b0 y0 h g hN
  go_enter Try.func21, Try.ntmps21
  go_wp2_with fail
  refine C.out.mono ?_; rintro e1 w1 ⟨rfl, b1⟩
  have Y1 := hide (Y.out.below b1)
  have H := hide (H0.out.below (b1.mono (Nat.le_trans hB BL.out.size)))
  replace BL := hide (BL.out.trans (b1.mono BL.out.size))
  clear b1 Y H0 C
  go_wp2_with fail
  go_loopw [4, 5, 6] (fun l m i wx => ∃ k : Nat, k ≤ r ∧ i = .int .i64 k ∧ l = .int .i64 (mnP S k) ∧ m = .int .i64 (mxP S k) ∧ wx = w1) (fun _ _ i _ => r - (intOf i).toNat)
  case atStart => exact ⟨0, Nat.zero_le _, rfl, rfl, rfl, rfl⟩
  case round =>
    obtain ⟨k, hk, rfl, rfl, rfl, rfl⟩ := hrel
    by_cases hlt : k < r
    · obtain hz | ⟨b, off, rfl, hb, hc⟩ := H.out
      · omega
      have c1 := (hc k hlt).1
      have kI : (k : Int) < (r : Int) := by omega
      have E1 : Hid (mnP S (k + 1) = if S k < mnP S k then S k else mnP S k) := hide rfl
      have E2 : Hid (mxP S (k + 1) = if mxP S k < S k then S k else mxP S k) := hide rfl
      clear hc hb H
      generalize mnP S k = lo at *
      generalize mxP S k = hi at *
      generalize hS : S k = x at *
      by_cases c2 : x < lo
      · have F1 := hide (show mnP S (k + 1) = x by rw [E1.out, if_pos c2])
        by_cases c3 : hi < x
        · have F2 := hide (show mxP S (k + 1) = x by rw [E2.out, if_pos c3])
          go_wp2_with fail
          go_roundw
          case rel => exact ⟨k + 1, by omega, by go_num, by rw [F1.out], by rw [F2.out], trivial⟩
          case measure => simp [intOf]; omega
        · have F2 := hide (show mxP S (k + 1) = hi by rw [E2.out, if_neg c3])
          have c3' : decide (hi < x) = false := decide_eq_false c3
          clear c3
          go_wp2_with fail
          go_roundw
          case rel => exact ⟨k + 1, by omega, by go_num, by rw [F1.out], by rw [F2.out], trivial⟩
          case measure => simp [intOf]; omega
      · have F1 := hide (show mnP S (k + 1) = lo by rw [E1.out, if_neg c2])
        have c2' : decide (x < lo) = false := decide_eq_false c2
        clear c2
        by_cases c3 : hi < x
        · have F2 := hide (show mxP S (k + 1) = x by rw [E2.out, if_pos c3])
          go_wp2_with fail
          go_roundw
          case rel => exact ⟨k + 1, by omega, by go_num, by rw [F1.out], by rw [F2.out], trivial⟩
          case measure => simp [intOf]; omega
        · have F2 := hide (show mxP S (k + 1) = hi by rw [E2.out, if_neg c3])
          have c3' : decide (hi < x) = false := decide_eq_false c3
          clear c3
          go_wp2_with fail
          go_roundw
          case rel => exact ⟨k + 1, by omega, by go_num, by rw [F1.out], by rw [F2.out], trivial⟩
          case measure => simp [intOf]; omega
    · obtain rfl : k = r := by omega
      have lk : decide ((k : Int) < (k : Int)) = false := decide_eq_false (by omega)
      obtain ⟨l0, l1⟩ := mn_bd (K := 1099511627776) (by decide) k HR.out
      obtain ⟨h0, h1⟩ := mx_bd (K := 1099511627776) (by decide) k HR.out
      obtain ⟨⟨-, k0, k1⟩, f0, f1⟩ := Y1.out
      have Y2 := Y1
      clear Y1 H HR
      obtain ⟨lo, hlo⟩ : ∃ lo, mnP S k = lo := ⟨_, rfl⟩
      obtain ⟨hi, hhi⟩ : ∃ hi, mxP S k = hi := ⟨_, rfl⟩
      rw [hlo, hhi] at HN ⊢
      rw [hlo] at l0 l1
      rw [hhi] at h0 h1
      have ELO := hide hlo
      have EHI := hide hhi
      clear hlo hhi
      have t0 : 0 ≤ (hi - lo + 254).tdiv 255 := Int.tdiv_nonneg (by omega) (by omega)
      have t1 : (hi - lo + 254).tdiv 255 ≤ 2199023255806 := by have := tdiv_abs (hi - lo + 254) 255; omega
      by_cases c : (hi - lo + 254).tdiv 255 < 1
      · have e := hide (show cst (hi - lo) = 1 from if_pos c)
        rw [e.out] at HN
        clear k0 k1 f0 f1
        go_wp2_with fail
        refine (HN.out _).mono ?_; rintro e1 w2 ⟨rfl, b2⟩
        obtain ⟨⟨-, k0, k1⟩, f0, f1⟩ := Y2.out.below b2
        have BL2 := hide (BL.out.trans (b2.mono BL.out.size))
        clear b2 Y2
        go_wp2_with fail
        exact bodyPost_ret (v := .tuple #[.agg #[.int .i64 1, .int .i64 z], .bool true]) (by simp [results, Try.results21, go_sem, k0, k1]) rfl
          ⟨by rw [EHI.out, ELO.out, e.out], (BL2.out.setCell (Nat.le_refl _) _).setCell (Nat.le_refl _) _⟩
      · have e := hide (show cst (hi - lo) = (hi - lo + 254).tdiv 255 from if_neg c)
        have c' : decide ((hi - lo + 254).tdiv 255 < 1) = false := decide_eq_false c
        rw [e.out] at HN
        clear k0 k1 f0 f1 c
        go_wp2_with fail
        refine (HN.out _).mono ?_; rintro e1 w2 ⟨rfl, b2⟩
        obtain ⟨⟨-, k0, k1⟩, f0, f1⟩ := Y2.out.below b2
        have BL2 := hide (BL.out.trans (b2.mono BL.out.size))
        clear b2 Y2
        go_wp2_with fail
        exact bodyPost_ret (v := .tuple #[.agg #[.int .i64 ((hi - lo + 254).tdiv 255), .int .i64 z], .bool true]) (by simp [results, Try.results21, go_sem, k0, k1]) rfl
          ⟨by rw [EHI.out, ELO.out, e.out], (BL2.out.setCell (Nat.le_refl _) _).setCell (Nat.le_refl _) _⟩
end Vo
end Go.Proofs.Ytabjpemneimljaa
