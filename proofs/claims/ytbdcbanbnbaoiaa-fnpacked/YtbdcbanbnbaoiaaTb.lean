/- TensorOk on both sides. -/
import Derived.Test.YtbdcbanbnbaoiaaTa
import Derived.Lib.QuietBelow
namespace Go.Proofs.Ytbdcbanbnbaoiaa
namespace Vo
open Go.ChangeShapes Go.WideShapes Go.ChangeAt Go.RowKit Go.Joins Go.Sort
open Vl Vp
set_option linter.unusedVariables false
set_option linter.unusedSimpArgs false

/-- each of a list is in 0 .. n - 1 -/
def WI (s : Nat) (S : Nat → Int) (n : Int) : Prop := ∀ j, j < s → 0 ≤ S j ∧ S j < n
instance (s : Nat) (S : Nat → Int) (n : Int) : Decidable (WI s S n) := by unfold WI; infer_instance
def wi (s : Nat) (S : Nat → Int) (n : Int) : Bool := decide (WI s S n)
/-- what a tensor is -/
def tok (r s : Nat) (D S : Nat → Int) : Bool := dok r D && decide ((s : Int) = szR D r) && wi s S 2147483647
theorem tok_no1 {r s : Nat} {D S : Nat → Int} (h : dok r D = false) : tok r s D S = false := by unfold tok; rw [h]; rfl
theorem tok_no2 {r s : Nat} {D S : Nat → Int} (h : (s : Int) ≠ szR D r) : tok r s D S = false := by unfold tok; rw [decide_eq_false h]; simp
theorem tok_no3 {r s : Nat} {D S : Nat → Int} {k : Nat} (hk : k < s) (h : S k < 0 ∨ 2147483647 ≤ S k) : tok r s D S = false := by
  unfold tok wi
  rw [decide_eq_false (show ¬ WI s S 2147483647 from fun q => by have := q k hk; omega)]
  simp
theorem tok_yes {r s : Nat} {D S : Nat → Int} (h1 : dok r D = true) (h2 : (s : Int) = szR D r) (h3 : WI s S 2147483647) : tok r s D S = true := by
  unfold tok wi
  rw [h1, decide_eq_true h2, decide_eq_true h3]; rfl
theorem sz_dok {r : Nat} {D : Nat → Int} (h : dok r D = true) : sz r D = szR D r := by
  unfold sz; rw [if_neg (by have := (dok_iff.1 h).1; omega)]
theorem within1 (x n : Int) (P : Nat) (w : World) (h : w.cell? ⟨P, 0, none⟩ = some (.int .i64 n)) :
    Calls Try.prog 42 #[.int .i64 x, .pointer (some ⟨P, 0, none⟩)] w fun e w' => e = .returned (.bool (decide (x < 0) || decide (n ≤ x))) ∧ w' = w := by
  by_cases h0 : x < 0
  · have h0' : decide (x < 0) = true := decide_eq_true h0
    rw [h0', Bool.true_or]
    clear h0
    go_enter Try.func42, Try.ntmps42
    go_wp2_with fail
    go_ret
    exact ⟨rfl, rfl⟩
  · have h0' : decide (x < 0) = false := decide_eq_false h0
    rw [h0', Bool.false_or]
    clear h0
    go_enter Try.func42, Try.ntmps42
    go_wp2_with fail
    go_ret
    exact ⟨rfl, rfl⟩
set_option maxHeartbeats 1000000 in
theorem indexF (B : Nat) (a : Option Addr) (s cap : Nat) (S : Nat → Int) (n : Int) (P : Nat) (w : World) (h : Ints B w a s S) (hP : w.cell? ⟨P, 0, none⟩ = some (.int .i64 n)) (hs : (s : Int) ≤ 1048576) :
    Calls Try.prog 48 #[.slice a s cap, .func (.func 42) #[] #[.pointer (some ⟨P, 0, none⟩)]] w fun e w' => ∃ i, e = .returned (.int .i64 i) ∧ decide (0 ≤ i) = !(wi s S n) ∧ w' = w := by
  have H := hide h
  have HP := hide hP
  clear h hP
  go_enter Try.func48, Try.ntmps48
  go_wp2_with fail
  go_loopw [8] (fun i wx => ∃ k : Nat, k ≤ s ∧ i = .int .i64 k ∧ WI k S n ∧ wx = w) (fun i _ => s - (intOf i).toNat)
  case atStart => exact ⟨0, Nat.zero_le _, rfl, fun j hj => by omega, rfl⟩
  case round =>
    obtain ⟨k, hk, rfl, hall, rfl⟩ := hrel
    have HA := hide hall
    clear hall
    by_cases hlt : k < s
    · rcases H.out with h0 | ⟨b, off, rfl, hbB, hc⟩
      · omega
      have c1 := (hc k hlt).1
      have kI : (k : Int) < s := by omega
      clear hc
      by_cases hq : S k < 0 ∨ n ≤ S k
      · have e := hide (show (decide (S k < 0) || decide (n ≤ S k)) = true by simpa using hq)
        have f := hide (show decide ((0 : Int) ≤ (k : Int)) = !(wi s S n) by
          rw [show wi s S n = false from decide_eq_false (fun q => by have := q k hlt; omega)]
          simp)
        clear hq
        go_wp2_with fail
        refine (within1 _ n P _ HP.out).mono ?_
        rintro e1 w1 ⟨rfl, rfl⟩
        rw [e.out]
        go_wp2_with fail
        go_ret
        exact ⟨_, rfl, f.out, rfl⟩
      · have e := hide (show (decide (S k < 0) || decide (n ≤ S k)) = false by simpa using hq)
        have f := hide (show WI (k + 1) S n from fun j hj => by
          by_cases ej : j = k
          · subst ej; omega
          · exact HA.out j (by omega))
        clear hq
        go_wp2_with fail
        refine (within1 _ n P _ HP.out).mono ?_
        rintro e1 w1 ⟨rfl, rfl⟩
        rw [e.out]
        go_wp2_with fail
        go_roundw
        case rel => exact ⟨k + 1, by omega, by go_num, f.out, trivial⟩
        case measure => simp [intOf]; omega
    · obtain rfl : k = s := by omega
      have f := hide (show wi k S n = true from decide_eq_true HA.out)
      go_wp2_with fail
      go_ret
      exact ⟨_, rfl, by rw [f.out]; rfl, rfl⟩
theorem within (B : Nat) (a : Option Addr) (s cap : Nat) (S : Nat → Int) (n : Int) (w : World) (hB : B ≤ w.heap.size) (h : Ints B w a s S) (hs : (s : Int) ≤ 1048576) :
    Calls Try.prog 23 #[.slice a s cap, .int .i64 n] w fun e w' => e = .returned (.bool (wi s S n)) ∧ Below w.heap.size w w' := by
  have bl : Below w.heap.size w (w.alloc (.cells #[.int .i64 n] 3)) := (Below.refl _ _).alloc (Nat.le_refl _) _
  have H := hide (h.below (bl.mono hB))
  have HP := hide (show (w.alloc (.cells #[.int .i64 n] 3)).cell? ⟨w.heap.size, 0, none⟩ = some (.int .i64 n) by simp [go_sem])
  have BL := hide bl
  have C1 := hide (show Calls Try.prog 41 #[.slice a s cap, .func (.func 42) #[] #[.pointer (some ⟨w.heap.size, 0, none⟩)]] (w.alloc (.cells #[.int .i64 n] 3)) fun e w' => e = .returned (.bool (!(wi s S n))) ∧ w' = w.alloc (.cells #[.int .i64 n] 3) by
    generalize w.alloc (.cells #[.int .i64 n] 3) = W at *
    clear h bl BL
    go_enter Try.func41, Try.ntmps41
    go_wp2_with fail
    refine (indexF B a s cap S n w.heap.size _ H.out HP.out hs).mono ?_
    rintro e1 w1 ⟨i, rfl, hi, rfl⟩
    have HI := hide hi
    clear hi
    go_wp2_with fail
    go_ret
    exact ⟨by rw [HI.out]; rfl, rfl⟩)
  clear h bl
  go_enter Try.func23, Try.ntmps23
  go_wp2_with fail
  refine C1.out.mono ?_
  rintro e1 w1 ⟨rfl, rfl⟩
  go_wp2_with fail
  go_ret
  exact ⟨by simp, BL.out⟩
end Vo
end Go.Proofs.Ytbdcbanbnbaoiaa
