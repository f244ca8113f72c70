/- Small numbers: what lies between two bounds, on both sides; scales. -/
import Derived.Test.YtkllbolamgmmaaaVl
import Derived.Lib.QuietBelow
import Derived.BigQuiet
import Derived.BigRegion
import Derived.Deep.RegionHeld3
namespace Go.Proofs.Ytkllbolamgmmaaa
namespace Vo
open Go.ChangeShapes Go.WideShapes Go.ChangeAt Go.RowKit Go.Joins Go.Sort
open Vl
set_option linter.unusedVariables false
set_option linter.unusedSimpArgs false
/-- x brought between l and m -/
def cl (l m x : Int) : Int := if x < l then l else if m < x then m else x
theorem cl_in {l m x : Int} (h : l ≤ x ∧ x ≤ m) : cl l m x = x := by unfold cl; rw [if_neg (by omega), if_neg (by omega)]
theorem cl_lo {l m x : Int} (h : x < l) : cl l m x = l := by unfold cl; rw [if_pos h]
theorem cl_hi {l m x : Int} (hl : l ≤ m) (h : m < x) : cl l m x = m := by unfold cl; rw [if_neg (by omega), if_pos h]
theorem cl_rng {l m : Int} (x : Int) (hl : l ≤ m) : l ≤ cl l m x ∧ cl l m x ≤ m := by unfold cl; split <;> (try split) <;> omega
/-- all of the first r lie between l and m -/
def ib (l m : Int) (r : Nat) (S : Nat → Int) : Bool := decide (∀ i, i < r → l ≤ S i ∧ S i ≤ m)
theorem ib_one (l m x : Int) : ib l m 1 (fun _ => x) = decide (l ≤ x ∧ x ≤ m) := by
  unfold ib
  rw [decide_eq_decide]
  exact ⟨fun h => h 0 (by omega), fun h _ _ => h⟩
theorem ib_two (l m x y : Int) : ib l m 2 (fun i => if i = 0 then x else y) = decide ((l ≤ x ∧ x ≤ m) ∧ (l ≤ y ∧ y ≤ m)) := by
  unfold ib
  rw [decide_eq_decide]
  refine ⟨fun h => ⟨by simpa using h 0 (by omega), by simpa using h 1 (by omega)⟩, fun h i hi => ?_⟩
  show l ≤ (if i = 0 then x else y) ∧ (if i = 0 then x else y) ≤ m
  split
  · exact h.1
  · exact h.2
/-- a scale that can be -/
def scOk (s z : Int) : Bool := decide ((1 ≤ s ∧ s ≤ 1099511627776) ∧ (0 ≤ z ∧ z ≤ 255))
theorem clampF (l m x : Int) (w : World) (hl : l ≤ m) :
    Calls Try.prog 36 #[.int .i64 x, .int .i64 l, .int .i64 m] w fun e w' => e = .returned (.int .i64 (cl l m x)) ∧ w' = w := by
  by_cases c1 : m < x
  · have e := hide (cl_hi hl c1)
    by_cases c2 : l < m
    · clear hl
      go_enter Try.func36, Try.ntmps36
      go_wp2_with fail
      go_ret
      exact ⟨ret_int e.out.symm, rfl⟩
    · obtain rfl : l = m := by omega
      clear hl c2
      go_enter Try.func36, Try.ntmps36
      go_wp2_with fail
      go_ret
      exact ⟨ret_int e.out.symm, rfl⟩
  · by_cases c2 : l < x
    · have e := hide (cl_in (l := l) (m := m) (x := x) ⟨by omega, by omega⟩)
      clear hl
      go_enter Try.func36, Try.ntmps36
      go_wp2_with fail
      go_ret
      exact ⟨ret_int e.out.symm, rfl⟩
    · have e := hide (show cl l m x = l by
        by_cases c3 : x = l
        · rw [cl_in ⟨by omega, by omega⟩, c3]
        · exact cl_lo (by omega))
      clear hl
      go_enter Try.func36, Try.ntmps36
      go_wp2_with fail
      go_ret
      exact ⟨ret_int e.out.symm, rfl⟩
theorem inS (x l m : Int) (w : World) :
    Calls Try.prog 15 #[.int .i64 x, .int .i64 l, .int .i64 m] w fun e w' => e = .returned (.bool (decide (l ≤ x ∧ x ≤ m))) ∧ w' = w := by
  by_cases c1 : l ≤ x
  · have e := hide (show decide (l ≤ x ∧ x ≤ m) = decide (x ≤ m) by rw [decide_eq_decide]; exact ⟨fun h => h.2, fun h => ⟨c1, h⟩⟩)
    go_enter Try.func15, Try.ntmps15
    go_wp2_with fail
    go_ret
    exact ⟨ret_bool e.out.symm, rfl⟩
  · have e := hide (show decide (l ≤ x ∧ x ≤ m) = false from decide_eq_false (fun h => c1 h.1))
    have c1' : decide (l ≤ x) = false := decide_eq_false c1
    clear c1
    go_enter Try.func15, Try.ntmps15
    go_wp2_with fail
    go_ret
    exact ⟨ret_bool e.out.symm, rfl⟩
theorem inB1 (x l m : Int) (P Q : Nat) (w : World) (hl : l ≤ m) (h : w.cell? ⟨P, 0, none⟩ = some (.int .i64 l)) (h' : w.cell? ⟨Q, 0, none⟩ = some (.int .i64 m)) :
    Calls Try.prog 35 #[.int .i64 x, .pointer (some ⟨P, 0, none⟩), .pointer (some ⟨Q, 0, none⟩)] w fun e w' => e = .returned (.bool (!decide (l ≤ x ∧ x ≤ m))) ∧ w' = w := by
  have C := hide (fun w => clampF l m x w hl)
  by_cases c : l ≤ x ∧ x ≤ m
  · have e := hide (cl_in c)
    have f := hide (show (!decide (l ≤ x ∧ x ≤ m)) = false by rw [decide_eq_true c]; rfl)
    clear c hl
    go_enter Try.func35, Try.ntmps35
    go_wp2_with fail
    refine (C.out _).mono ?_; rintro e1 w1 ⟨rfl, rfl⟩
    rw [e.out]
    go_wp2_with fail
    go_ret
    exact ⟨ret_bool f.out.symm, rfl⟩
  · have e := hide (show ∃ z, cl l m x = z ∧ ¬ z = x by
      by_cases c1 : x < l
      · exact ⟨l, cl_lo c1, by omega⟩
      · exact ⟨m, cl_hi hl (by omega), by omega⟩)
    obtain ⟨z, ez, nz⟩ := e.out
    have EZ := hide ez
    have f := hide (show (!decide (l ≤ x ∧ x ≤ m)) = true by rw [decide_eq_false c]; rfl)
    clear c hl e ez
    go_enter Try.func35, Try.ntmps35
    go_wp2_with fail
    refine (C.out _).mono ?_; rintro e1 w1 ⟨rfl, rfl⟩
    rw [EZ.out]
    go_wp2_with fail
    go_ret
    exact ⟨ret_bool (by rw [f.out]; simpa using nz), rfl⟩
set_option maxHeartbeats 1000000 in
theorem inIdx (B : Nat) (a : Option Addr) (s cap : Nat) (S : Nat → Int) (l m : Int) (P Q : Nat) (w : World) (hl : l ≤ m) (h : Ints B w a s S) (hP : w.cell? ⟨P, 0, none⟩ = some (.int .i64 l)) (hQ : w.cell? ⟨Q, 0, none⟩ = some (.int .i64 m)) (hs : (s : Int) ≤ 1048576) :
    Calls Try.prog 44 #[.slice a s cap, .func (.func 35) #[] #[.pointer (some ⟨P, 0, none⟩), .pointer (some ⟨Q, 0, none⟩)]] w fun e w' => ∃ i, e = .returned (.int .i64 i) ∧ decide (0 ≤ i) = !(ib l m s S) ∧ w' = w := by
  have H := hide h
  have C := hide (fun x => inB1 x l m P Q w hl hP hQ)
  clear h hP hQ hl
  go_enter Try.func44, Try.ntmps44
  go_wp2_with fail
  go_loopw [8] (fun i wx => ∃ k : Nat, k ≤ s ∧ i = .int .i64 k ∧ (∀ j, j < k → l ≤ S j ∧ S j ≤ m) ∧ wx = w) (fun i _ => s - (intOf i).toNat)
  case atStart => exact ⟨0, Nat.zero_le _, rfl, fun j hj => by omega, rfl⟩
  case round =>
    obtain ⟨k, hk, rfl, hall, rfl⟩ := hrel
    have HA := hide hall
    clear hall
    by_cases hlt : k < s
    · rcases H.out with h0 | ⟨b, off, rfl, hbB, hc⟩
      · omega
      have c1 := (hc k hlt).1
      have kI : (k : Int) < s := by omega
      clear hc
      by_cases hq : l ≤ S k ∧ S k ≤ m
      · have e := hide (show (!decide (l ≤ S k ∧ S k ≤ m)) = false by rw [decide_eq_true hq]; rfl)
        have f := hide (show ∀ j, j < k + 1 → l ≤ S j ∧ S j ≤ m from fun j hj => by
          by_cases ej : j = k
          · subst ej; exact hq
          · exact HA.out j (by omega))
        clear hq
        go_wp2_with fail
        refine (C.out _).mono ?_
        rintro e1 w1 ⟨rfl, rfl⟩
        rw [e.out]
        go_wp2_with fail
        go_roundw
        case rel => exact ⟨k + 1, by omega, by go_num, f.out, trivial⟩
        case measure => simp [intOf]; omega
      · have e := hide (show (!decide (l ≤ S k ∧ S k ≤ m)) = true by rw [decide_eq_false hq]; rfl)
        have f := hide (show decide ((0 : Int) ≤ (k : Int)) = !(ib l m s S) by
          rw [show ib l m s S = false from decide_eq_false (fun q => hq (q k hlt))]
          simp)
        clear hq
        go_wp2_with fail
        refine (C.out _).mono ?_
        rintro e1 w1 ⟨rfl, rfl⟩
        rw [e.out]
        go_wp2_with fail
        go_ret
        exact ⟨_, rfl, f.out, rfl⟩
    · obtain rfl : k = s := by omega
      have f := hide (show ib l m k S = true from decide_eq_true HA.out)
      go_wp2_with fail
      go_ret
      exact ⟨_, rfl, by rw [f.out]; rfl, rfl⟩
theorem inBoundsF (B : Nat) (a : Option Addr) (s cap : Nat) (S : Nat → Int) (l m : Int) (w : World) (hl : l ≤ m) (hB : B ≤ w.heap.size) (h : Ints B w a s S) (hs : (s : Int) ≤ 1048576) :
    Calls Try.prog 17 #[.int .i64 l, .int .i64 m, .slice a s cap] w fun e w' => e = .returned (.bool (ib l m s S)) ∧ Below w.heap.size w w' := by
  obtain ⟨W1, hW1⟩ : ∃ W1, w.alloc (.cells #[.int .i64 l] 3) = W1 := ⟨_, rfl⟩
  have b1 : Below w.heap.size w W1 := by rw [← hW1]; exact (Below.refl _ _).alloc (Nat.le_refl _) _
  have z1 : W1.heap.size = w.heap.size + 1 := by rw [← hW1]; simp
  have p1 : W1.cell? ⟨w.heap.size, 0, none⟩ = some (.int .i64 l) := by rw [← hW1]; simp [go_sem]
  obtain ⟨W2, hW2⟩ : ∃ W2, W1.alloc (.cells #[.int .i64 m] 3) = W2 := ⟨_, rfl⟩
  have b2 : Below W1.heap.size W1 W2 := by rw [← hW2]; exact (Below.refl _ _).alloc (Nat.le_refl _) _
  have p2 : W2.cell? ⟨w.heap.size + 1, 0, none⟩ = some (.int .i64 m) := by rw [← hW2, ← z1]; simp [go_sem]
  have p3 : W2.cell? ⟨w.heap.size, 0, none⟩ = some (.int .i64 l) := by rw [b2.cell (by rw [z1]; simp)]; exact p1
  have bl : Below w.heap.size w W2 := b1.trans (b2.mono (by omega))
  have H := hide (h.below (bl.mono hB))
  have C := hide (show Calls Try.prog 34 #[.slice a s cap, .func (.func 35) #[] #[.pointer (some ⟨w.heap.size, 0, none⟩), .pointer (some ⟨w.heap.size + 1, 0, none⟩)]] W2 fun e w' => e = .returned (.bool (!(ib l m s S))) ∧ w' = W2 by
    have CI := hide (inIdx B a s cap S l m w.heap.size (w.heap.size + 1) W2 hl H.out p3 p2 hs)
    clear h b1 b2 p1 p2 p3 z1 hW1 hW2 bl H
    go_enter Try.func34, Try.ntmps34
    go_wp2_with fail
    refine CI.out.mono ?_
    rintro e1 w1 ⟨i, rfl, hi, rfl⟩
    have HI := hide hi
    clear hi
    go_wp2_with fail
    go_ret
    exact ⟨by rw [HI.out]; rfl, rfl⟩)
  have BL := hide bl
  have Z1 := z1
  clear h b1 b2 p1 p2 p3 bl H z1
  go_enter Try.func17, Try.ntmps17
  go_wp2_with fail
  refine C.out.mono ?_
  rintro e1 w1 ⟨rfl, rfl⟩
  go_wp2_with fail
  go_ret
  exact ⟨by simp, BL.out⟩
end Vo
end Go.Proofs.Ytkllbolamgmmaaa
