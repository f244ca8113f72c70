/- Gradients, and how long they are, on both sides. -/
import Derived.Test.YtflbhlepmjiejaaEb
namespace Go.Proofs.Ytflbhlepmjiejaa
namespace Vo
open Go.ChangeShapes Go.WideShapes Go.ChangeAt Go.RowKit Go.Joins Go.Sort
open Vl
set_option linter.unusedVariables false
set_option linter.unusedSimpArgs false
/-- a gradient -/
def grd (r : Nat) (S : Nat → Int) : Bool := ib (-16777216) 16777216 r S && decide ((r : Int) ≤ 4096)
theorem grd_of {r : Nat} {S : Nat → Int} (h : grd r S = true) : (∀ j, j < r → -16777216 ≤ S j ∧ S j ≤ 16777216) ∧ (r : Int) ≤ 4096 := by
  unfold grd at h
  rw [Bool.and_eq_true] at h
  exact ⟨of_decide_eq_true h.1, of_decide_eq_true h.2⟩
theorem grd_mk {r : Nat} {S : Nat → Int} (h : ∀ j, j < r → -16777216 ≤ S j ∧ S j ≤ 16777216) (h' : (r : Int) ≤ 4096) : grd r S = true := by
  unfold grd ib
  rw [decide_eq_true h, decide_eq_true h']; rfl
theorem grd_same {r : Nat} {S T : Nat → Int} (h : ∀ j, j < r → S j = T j) : grd r S = grd r T := by
  unfold grd ib
  congr 1
  rw [decide_eq_decide]
  exact ⟨fun q i hi => h i hi ▸ q i hi, fun q i hi => (h i hi).symm ▸ q i hi⟩
/-- the sum of the squares -/
def nsum (P : Nat → Int) : Nat → Int
  | 0 => 0
  | k + 1 => nsum P k + P k * P k
theorem sq_bd {x : Int} (h : -16777216 ≤ x ∧ x ≤ 16777216) : 0 ≤ x * x ∧ x * x ≤ 281474976710656 := by
  by_cases c : 0 ≤ x
  · exact ⟨Int.mul_nonneg c c, sq_le c h.2⟩
  · have := sq_le (a := -x) (b := 16777216) (by omega) (by omega)
    rw [Int.neg_mul_neg] at this
    exact ⟨by have := Int.mul_nonneg (a := -x) (b := -x) (by omega) (by omega); rw [Int.neg_mul_neg] at this; exact this, this⟩
theorem nsum_bd {P : Nat → Int} (k : Nat) (h : ∀ j, j < k → -16777216 ≤ P j ∧ P j ≤ 16777216) : 0 ≤ nsum P k ∧ nsum P k ≤ 281474976710656 * (k : Int) := by
  induction k with
  | zero => exact ⟨Int.le_refl _, by show (0 : Int) ≤ _; omega⟩
  | succ k ih =>
    have h1 := ih (fun j hj => h j (by omega))
    have h2 := sq_bd (h k (by omega))
    show 0 ≤ nsum P k + P k * P k ∧ nsum P k + P k * P k ≤ _
    omega
theorem nsum_same {P Q : Nat → Int} (k : Nat) (h : ∀ j, j < k → P j = Q j) : nsum P k = nsum Q k := by
  induction k with
  | zero => rfl
  | succ k ih =>
    show nsum P k + P k * P k = nsum Q k + Q k * Q k
    rw [ih (fun j hj => h j (by omega)), h k (by omega)]
set_option maxHeartbeats 1000000 in
theorem gradS (B : Nat) (a : Option Addr) (r cap : Nat) (S : Nat → Int) (w : World) (hB : B ≤ w.heap.size) (h : Ints B w a r S) (hr : (r : Int) ≤ 1048576) :
    Calls Try.prog 32 #[.slice a r cap] w fun e w' => e = .returned (.bool (grd r S)) ∧ Below w.heap.size w w' := by
  have H := hide h
  clear h
  go_enter Try.func32, Try.ntmps32
  go_wp2_with fail
  go_loopw [3] (fun i wx => ∃ k : Nat, k ≤ r ∧ i = .int .i64 k ∧ (∀ j, j < k → -16777216 ≤ S j ∧ S j ≤ 16777216) ∧ Below w.heap.size w wx) (fun i _ => r - (intOf i).toNat)
  case atStart => exact ⟨0, Nat.zero_le _, rfl, fun j hj => by omega, Below.refl _ _⟩
  case round =>
    obtain ⟨k, hk, rfl, hall, bb⟩ := hrel
    have HA := hide hall
    have BB := hide bb
    clear hall
    by_cases hlt : k < r
    · have HH := H.out.below (bb.mono hB)
      obtain hz | ⟨b, off, rfl, hb, hc⟩ := HH
      · omega
      have c1 := (hc k hlt).1
      have kI : (k : Int) < (r : Int) := by omega
      clear hc bb hb
      by_cases hq : -16777216 ≤ S k ∧ S k ≤ 16777216
      · have C := hide (fun w => gInS (S k) (-16777216) 16777216 true (decide_eq_true hq) w)
        have f := hide (show ∀ j, j < k + 1 → -16777216 ≤ S j ∧ S j ≤ 16777216 from fun j hj => by
          by_cases ej : j = k
          · subst ej; exact hq
          · exact HA.out j (by omega))
        clear hq
        go_wp2_with fail
        refine (C.out _).mono ?_
        rintro e1 w1 ⟨rfl, b1⟩
        go_wp2_with fail
        go_roundw
        case rel => exact ⟨k + 1, by omega, by go_num, f.out, BB.out.trans (b1.mono BB.out.size)⟩
        case measure => simp [intOf]; omega
      · have C := hide (fun w => gInS (S k) (-16777216) 16777216 false (decide_eq_false hq) w)
        have f := hide (show grd r S = false by
          unfold grd
          rw [show ib (-16777216) 16777216 r S = false from decide_eq_false (fun q => hq (q k hlt))]
          rfl)
        clear hq
        go_wp2_with fail
        refine (C.out _).mono ?_
        rintro e1 w1 ⟨rfl, b1⟩
        go_wp2_with fail
        go_ret
        exact ⟨ret_bool f.out.symm, BB.out.trans (b1.mono BB.out.size)⟩
    · obtain rfl : k = r := by omega
      clear bb
      have lk : decide ((k : Int) < (k : Int)) = false := decide_eq_false (by omega)
      have f := hide (show grd k S = decide ((k : Int) ≤ 4096) by
        unfold grd
        rw [show ib (-16777216) 16777216 k S = true from decide_eq_true HA.out, Bool.true_and])
      go_wp2_with fail
      go_ret
      exact ⟨ret_bool f.out.symm, BB.out⟩
theorem gradSb (B : Nat) (a : Option Addr) (r cap : Nat) (S : Nat → Int) (b : Bool) (w : World) (hB : B ≤ w.heap.size) (h : Ints B w a r S) (hr : (r : Int) ≤ 1048576) (hb : grd r S = b) :
    Calls Try.prog 32 #[.slice a r cap] w fun e w' => e = .returned (.bool b) ∧ Below w.heap.size w w' := by
  rw [← hb]; exact gradS B a r cap S w hB h hr
theorem areGradsF (B : Nat) (a : Option Addr) (s cap : Nat) (S : Nat → Int) (w : World) (hB : B ≤ w.heap.size) (h : Ints B w a s S) (hs : (s : Int) ≤ 1048576) :
    Calls Try.prog 60 #[.slice a s cap] w fun e w' => e = .returned (.bool (ib (-16777216) 16777216 s S)) ∧ Below w.heap.size w w' := by
  have C := hide (inBoundsF B a s cap S (-16777216) 16777216 w (by decide) hB h hs)
  clear h hB
  go_enter Try.func60, Try.ntmps60
  go_wp2_with fail
  refine C.out.mono ?_; rintro e1 w1 ⟨rfl, b1⟩
  go_wp2_with fail
  go_ret
  exact ⟨rfl, b1⟩
theorem gradI (B : Nat) (a : Option Addr) (r cap : Nat) (S : Nat → Int) (b : Bool) (w : World) (hB : B ≤ w.heap.size) (h : Ints B w a r S) (hr : (r : Int) ≤ 1048576) (hb : grd r S = b) :
    Calls Try.prog 72 #[.slice a r cap] w fun e w' => e = .returned (.bool b) ∧ Below w.heap.size w w' := by
  rw [← hb]
  have C := hide (areGradsF B a r cap S w hB h hr)
  clear h hB hb
  by_cases c : (r : Int) ≤ 4096
  · have f := hide (show grd r S = ib (-16777216) 16777216 r S by unfold grd; rw [decide_eq_true c, Bool.and_true])
    go_enter Try.func72, Try.ntmps72
    go_wp2_with fail
    refine C.out.mono ?_; rintro e1 w1 ⟨rfl, b1⟩
    go_wp2_with fail
    go_ret
    exact ⟨ret_bool f.out.symm, b1⟩
  · have f := hide (show grd r S = false by unfold grd; rw [decide_eq_false c, Bool.and_false])
    have c' : decide ((r : Int) ≤ 4096) = false := decide_eq_false c
    have c2 : decide (r ≤ 4096) = false := decide_eq_false (by omega)
    clear c
    go_enter Try.func72, Try.ntmps72
    go_wp2_with fail
    go_ret
    exact ⟨ret_bool f.out.symm, Below.refl _ _⟩
set_option maxHeartbeats 1000000 in
theorem sNorm_no (B : Nat) (a : Option Addr) (r cap : Nat) (S : Nat → Int) (w : World) (hB : B ≤ w.heap.size) (h : Ints B w a r S) (hr : (r : Int) ≤ 1048576) (g : grd r S = false)
    (hR : ∀ w, Calls Try.prog 38 #[.int .i64 0] w fun e w' => e = .returned (.int .i64 0) ∧ Below w.heap.size w w') :
    Calls Try.prog 55 #[.slice a r cap] w fun e w' => e = .returned (.int .i64 0) ∧ Below w.heap.size w w' := by
  have r0 : (0 : Int) < (r : Int) := by
    by_cases c : r = 0
    · subst c; rw [grd_mk (fun j hj => by omega) (by decide)] at g; cases g
    · omega
  have r1 : 0 < r := by omega
  have C := hide (gradSb B a r cap S false w hB h hr g)
  have HR := hide hR
  clear h hB g hR
  go_enter Try.func55, Try.ntmps55
  go_wp2_with fail
  go_loopw [3, 4] (fun s i wx => s = .int .i64 0 ∧ i = .int .i64 0 ∧ wx = w) (fun _ _ _ => 0)
  case atStart => exact ⟨rfl, rfl, rfl⟩
  case round =>
    obtain ⟨rfl, rfl, rfl⟩ := hrel
    go_wp2_with fail
    refine C.out.mono ?_
    rintro e1 w1 ⟨rfl, b1⟩
    go_wp2_with fail
    refine (HR.out _).mono ?_
    rintro e1 w2 ⟨rfl, b2⟩
    go_wp2_with fail
    go_ret
    exact ⟨rfl, b1.trans (b2.mono b1.size)⟩
set_option maxHeartbeats 2000000 in
theorem sNorm_yes (B : Nat) (a : Option Addr) (r cap : Nat) (S : Nat → Int) (v : Int) (w : World) (hB : B ≤ w.heap.size) (h : Ints B w a r S) (g : grd r S = true)
    (hR : ∀ w, Calls Try.prog 38 #[.int .i64 (nsum S r)] w fun e w' => e = .returned (.int .i64 v) ∧ Below w.heap.size w w') :
    Calls Try.prog 55 #[.slice a r cap] w fun e w' => e = .returned (.int .i64 v) ∧ Below w.heap.size w w' := by
  obtain ⟨hall, r4⟩ := grd_of g
  have HL := hide hall
  have C := hide (fun w' (b : Below w.heap.size w w') => gradSb B a r cap S true w' (Nat.le_trans hB b.size) (h.below (b.mono hB)) (by omega) g)
  have HR := hide hR
  have H := hide h
  clear h g hR hall
  go_enter Try.func55, Try.ntmps55
  go_wp2_with fail
  go_loopw [3, 4] (fun s i wx => ∃ k : Nat, k ≤ r ∧ s = .int .i64 (nsum S k) ∧ i = .int .i64 k ∧ Below w.heap.size w wx) (fun _ i _ => r - (intOf i).toNat)
  case atStart => exact ⟨0, Nat.zero_le _, rfl, rfl, Below.refl _ _⟩
  case round =>
    obtain ⟨k, hk, rfl, rfl, bb⟩ := hrel
    have BB := hide bb
    by_cases hlt : k < r
    · have kI : (k : Int) < (r : Int) := by omega
      have E1 : Hid (nsum S (k + 1) = nsum S k + S k * S k) := hide rfl
      obtain ⟨d0, d1⟩ := nsum_bd k (fun j hj => HL.out j (by omega))
      obtain ⟨e0, e1⟩ := sq_bd (HL.out k hlt)
      obtain ⟨m, hm⟩ : ∃ m, nsum S k = m := ⟨_, rfl⟩
      rw [hm] at E1 d0 d1 ⊢
      obtain ⟨x, hx⟩ : ∃ x, S k = x := ⟨_, rfl⟩
      have d2 : m ≤ 1152921504606846976 := by omega
      rw [hx] at E1 e0 e1
      have wm : IntKind.i64.wrap (x * x) = x * x := wid (by omega)
      have wa : IntKind.i64.wrap (m + x * x) = m + x * x := wid (by omega)
      clear hm bb d0 d1 d2 e0 e1
      go_wp2_with fail
      refine (C.out _ BB.out).mono ?_
      rintro e1 w1 ⟨rfl, b1⟩
      have B2 := hide (BB.out.trans (b1.mono BB.out.size))
      obtain hz | ⟨b, off, rfl, -, hc⟩ := H.out.below (B2.out.mono hB)
      · omega
      have c1 := (hc k hlt).1
      rw [hx] at c1
      have k1 := cell_regrown c1
      clear hc c1 b1 hx
      go_wp2_with fail
      refine wp_region_quiet_below (by kernel_rfl) (by kernel_rfl) ?_
      repeat (go_big_quiet_step (fail))
      refine wpQuiet_nil ?_
      intro _ hw'
      obtain ⟨⟨dq, osq⟩, hw''⟩ := hw'
      subst hw''
      have H3 := hide (B2.out.trans ((below_regrown w1 dq osq).mono B2.out.size))
      clear k1
      go_wp2_with fail
      go_roundw
      case rel => exact ⟨k + 1, by omega, by rw [E1.out], by go_num, H3.out⟩
      case measure => simp [intOf]; omega
    · obtain rfl : k = r := by omega
      have lk : decide ((k : Int) < (k : Int)) = false := decide_eq_false (by omega)
      clear bb
      go_wp2_with fail
      refine (HR.out _).mono ?_
      rintro e1 w2 ⟨rfl, b2⟩
      go_wp2_with fail
      go_ret
      exact ⟨rfl, BB.out.trans (b2.mono BB.out.size)⟩
theorem iNorm_no (B : Nat) (a : Option Addr) (r cap : Nat) (S : Nat → Int) (w : World) (hB : B ≤ w.heap.size) (h : Ints B w a r S) (hr : (r : Int) ≤ 1048576) (g : grd r S = false) :
    Calls Try.prog 73 #[.slice a r cap] w fun e w' => e = .returned (.int .i64 0) ∧ Below w.heap.size w w' := by
  have C := hide (gradI B a r cap S false w hB h hr g)
  clear h hB g
  go_enter Try.func73, Try.ntmps73
  go_wp2_with fail
  refine C.out.mono ?_
  rintro e1 w1 ⟨rfl, b1⟩
  go_wp2_with fail
  go_ret
  exact ⟨rfl, b1⟩
set_option maxHeartbeats 2000000 in
theorem iNorm_yes (B : Nat) (a : Option Addr) (r cap : Nat) (S : Nat → Int) (v : Int) (w : World) (hB : B ≤ w.heap.size) (h : Ints B w a r S) (g : grd r S = true)
    (hR : ∀ w, Calls Try.prog 75 #[.int .i64 (nsum S r)] w fun e w' => e = .returned (.int .i64 v) ∧ Below w.heap.size w w') :
    Calls Try.prog 73 #[.slice a r cap] w fun e w' => e = .returned (.int .i64 v) ∧ Below w.heap.size w w' := by
  obtain ⟨hall, r4⟩ := grd_of g
  have HL := hide hall
  have C := hide (gradI B a r cap S true w hB h (by omega) g)
  have HR := hide hR
  have H := hide h
  clear h g hR hall
  go_enter Try.func73, Try.ntmps73
  go_wp2_with fail
  refine C.out.mono ?_
  rintro e1 w1 ⟨rfl, b1⟩
  have B1 := hide b1
  have H1 := hide (H.out.below (b1.mono hB))
  clear b1 H
  go_wp2_with fail
  go_loopw [3, 11] (fun s i wx => ∃ k : Nat, k ≤ r ∧ s = .int .i64 (nsum S k) ∧ i = .int .i64 k ∧ wx = w1) (fun _ i _ => r - (intOf i).toNat)
  case atStart => exact ⟨0, Nat.zero_le _, rfl, rfl, rfl⟩
  case round =>
    obtain ⟨k, hk, rfl, rfl, rfl⟩ := hrel
    by_cases hlt : k < r
    · have kI : (k : Int) < (r : Int) := by omega
      have E1 : Hid (nsum S (k + 1) = nsum S k + S k * S k) := hide rfl
      obtain ⟨d0, d1⟩ := nsum_bd k (fun j hj => HL.out j (by omega))
      obtain ⟨e0, e1⟩ := sq_bd (HL.out k hlt)
      obtain ⟨m, hm⟩ : ∃ m, nsum S k = m := ⟨_, rfl⟩
      rw [hm] at E1 d0 d1 ⊢
      obtain hz | ⟨b, off, rfl, -, hc⟩ := H1.out
      · omega
      have c1 := (hc k hlt).1
      obtain ⟨x, hx⟩ : ∃ x, S k = x := ⟨_, rfl⟩
      have d2 : m ≤ 1152921504606846976 := by omega
      rw [hx] at E1 e0 e1 c1
      have wm : IntKind.i64.wrap (x * x) = x * x := wid (by omega)
      have wa : IntKind.i64.wrap (m + x * x) = m + x * x := wid (by omega)
      clear hm d0 d1 d2 e0 e1 hx hc
      go_wp2_with fail
      go_roundw
      case rel => exact ⟨k + 1, by omega, by rw [E1.out], by go_num, trivial⟩
      case measure => simp [intOf]; omega
    · obtain rfl : k = r := by omega
      have lk : decide ((k : Int) < (k : Int)) = false := decide_eq_false (by omega)
      go_wp2_with fail
      refine (HR.out _).mono ?_
      rintro e1 w2 ⟨rfl, b2⟩
      go_wp2_with fail
      go_ret
      exact ⟨rfl, B1.out.trans (b2.mono B1.out.size)⟩
/-- how long a list is: both sides answer one number -/
theorem normBoth (r : Nat) (S : Nat → Int) (hr : (r : Int) ≤ 1048576) : ∃ v : Int, (0 ≤ v ∧ v ≤ 2147483648) ∧ (grd r S = true → IsRt (nsum S r) v) ∧
    (∀ B w a cap, B ≤ w.heap.size → Ints B w a r S → Calls Try.prog 55 #[.slice a r cap] w fun e w' => e = .returned (.int .i64 v) ∧ Below w.heap.size w w') ∧
    (∀ B w a cap, B ≤ w.heap.size → Ints B w a r S → Calls Try.prog 73 #[.slice a r cap] w fun e w' => e = .returned (.int .i64 v) ∧ Below w.heap.size w w') := by
  cases g : grd r S
  · obtain ⟨v, -, hv, hs, -⟩ := rootBoth 0 ⟨by decide, by decide⟩
    obtain rfl : v = 0 := rt_one (hv (by decide) (by decide)) ⟨by decide, by decide, by decide⟩
    exact ⟨0, by omega, fun h => absurd h Bool.false_ne_true, fun B w a cap hB h => sNorm_no B a r cap S w hB h hr g hs, fun B w a cap hB h => iNorm_no B a r cap S w hB h hr g⟩
  · obtain ⟨hall, r4⟩ := grd_of g
    obtain ⟨d0, d1⟩ := nsum_bd r hall
    obtain ⟨v, hv, hq, hs, hi⟩ := rootBoth (nsum S r) ⟨by omega, by omega⟩
    exact ⟨v, hv, fun _ => hq d0 (by omega), fun B w a cap hB h => sNorm_yes B a r cap S v w hB h g hs, fun B w a cap hB h => iNorm_yes B a r cap S v w hB h g hi⟩
end Vo
end Go.Proofs.Ytflbhlepmjiejaa
