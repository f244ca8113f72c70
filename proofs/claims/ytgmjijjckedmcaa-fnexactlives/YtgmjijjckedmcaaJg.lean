/- What a nest must be: the model's small functions. -/
import Derived.Test.YtgmjijjckedmcaaJf
namespace Go.Proofs.Ytgmjijjckedmcaa
namespace Vo
open Go.ChangeShapes Go.WideShapes Go.ChangeAt Go.RowKit Go.Joins Go.Sort
open Vl Vp
set_option linter.unusedVariables false
set_option linter.unusedSimpArgs false
/-- is it one of the first n? -/
def hasB (n : Nat) (D : Nat → Int) (x : Int) : Bool := decide (∃ i, i < n ∧ D i = x)
/-- the product of lengths; 0 when they are not as they should be -/
def pd (D : Nat → Int) : Nat → Int
  | 0 => 1
  | n + 1 => if pd D n = 0 ∨ D n < 1 ∨ 65536 < pd D n * D n then 0 else pd D n * D n
theorem pd_rng (D : Nat → Int) (n : Nat) : 0 ≤ pd D n ∧ pd D n ≤ 65536 := by
  induction n with
  | zero => unfold pd; omega
  | succ n ih =>
    unfold pd
    split
    · omega
    · rename_i h
      exact ⟨Int.mul_nonneg ih.1 (by omega), by omega⟩
theorem pd_zero {D : Nat → Int} {k m : Nat} (h : pd D k = 0) (hm : k ≤ m) : pd D m = 0 := by
  induction m with
  | zero => rw [show (0 : Nat) = k by omega]; exact h
  | succ m ih =>
    by_cases c : k = m + 1
    · rw [← c]; exact h
    · unfold pd
      rw [if_pos (.inl (ih (by omega)))]
theorem pd_next {D : Nat → Int} {k : Nat} (h : pd D k ≠ 0) (h1 : 1 ≤ D k) (h2 : pd D k * D k ≤ 65536) : pd D (k + 1) = pd D k * D k := by
  show (if pd D k = 0 ∨ D k < 1 ∨ 65536 < pd D k * D k then 0 else pd D k * D k) = _
  rw [if_neg (by omega)]
theorem pd_stop {D : Nat → Int} {k r : Nat} (h : D k < 1 ∨ 65536 < pd D k * D k) (hr : k < r) : pd D r = 0 := by
  refine pd_zero (k := k + 1) ?_ hr
  show (if pd D k = 0 ∨ D k < 1 ∨ 65536 < pd D k * D k then 0 else pd D k * D k) = _
  rw [if_pos (.inr h)]
theorem mul_one_le {p d : Int} (hp : 1 ≤ p) (hd : 0 ≤ d) : d ≤ p * d := by
  have := Int.mul_le_mul_of_nonneg_right hp hd
  omega
theorem pd_each {D : Nat → Int} {r : Nat} (h : pd D r ≠ 0) : ∀ i, i < r → 1 ≤ D i ∧ D i ≤ 65536 := by
  intro i hi
  have h0 : pd D i ≠ 0 := fun c => h (pd_zero c (by omega))
  have hn : ¬ (D i < 1 ∨ 65536 < pd D i * D i) := fun c => h (pd_stop c hi)
  have := pd_rng D i
  have := mul_one_le (p := pd D i) (d := D i) (by omega) (by omega)
  omega
set_option maxHeartbeats 1000000 in
theorem l7Has (B : Nat) (a : Option Addr) (r cap : Nat) (D : Nat → Int) (x : Int) (w : World) (h : Ints B w a r D) (hr : (r : Int) ≤ 1048576) :
    Calls Try.prog 46 #[.slice a r cap, .int .i64 x] w fun e w' => e = .returned (.bool (hasB r D x)) ∧ w' = w := by
  have H := hide h
  clear h
  go_enter Try.func46, Try.ntmps46
  go_wp2_with fail
  go_loopw [5] (fun i wx => ∃ k : Nat, k ≤ r ∧ i = .int .i64 k ∧ (∀ j, j < k → D j ≠ x) ∧ wx = w) (fun i _ => r - (intOf i).toNat)
  case atStart => exact ⟨0, Nat.zero_le _, rfl, fun j hj => by omega, rfl⟩
  case round =>
    obtain ⟨k, hk, rfl, hn, rfl⟩ := hrel
    have HN := hide hn
    clear hn
    by_cases hlt : k < r
    · have kI : (k : Int) < r := by omega
      rcases H.out with h0 | ⟨b, off, rfl, hbB, hc⟩
      · omega
      have c1 := (hc k hlt).1
      clear hc
      by_cases hx : D k = x
      · have e := hide (show hasB r D x = true from decide_eq_true ⟨k, hlt, hx⟩)
        have hx' : (D k == x) = true := by simp [hx]
        clear hx
        go_wp2_with fail
        go_ret
        exact ⟨by rw [e.out]; rfl, rfl⟩
      · have hx' : (D k == x) = false := by simp [hx]
        have HX := hide hx
        clear hx
        go_wp2_with fail
        go_roundw
        all_goals first
          | (simp only [intOf]; omega)
          | (simp [intOf]; omega)
          | exact ⟨k + 1, by omega, by go_num, fun j hj => by
              by_cases c : j = k
              · rw [c]; exact HX.out
              · exact HN.out j (by omega), trivial⟩
    · obtain rfl : k = r := by omega
      have e := hide (show hasB k D x = false from decide_eq_false (by rintro ⟨j, hj, hx⟩; exact HN.out j hj hx))
      go_wp2_with fail
      go_ret
      exact ⟨by rw [e.out]; rfl, rfl⟩
set_option maxHeartbeats 1000000 in
theorem l11Product (B : Nat) (a : Option Addr) (r cap : Nat) (D : Nat → Int) (w : World) (h : Ints B w a r D) (hr : (r : Int) ≤ 1048576) :
    Calls Try.prog 49 #[.slice a r cap] w fun e w' => e = .returned (.int .i64 (pd D r)) ∧ w' = w := by
  have H := hide h
  clear h
  go_enter Try.func49, Try.ntmps49
  go_wp2_with fail
  go_loopw [3, 4] (fun n i wx => ∃ (k : Nat) (p : Int), k ≤ r ∧ i = .int .i64 k ∧ n = .int .i64 p ∧ p = pd D k ∧ 1 ≤ p ∧ p ≤ 65536 ∧ wx = w) (fun _ i _ => r - (intOf i).toNat)
  case atStart => exact ⟨0, 1, Nat.zero_le _, rfl, rfl, rfl, by omega, by omega, rfl⟩
  case round =>
    obtain ⟨k, p, hk, rfl, rfl, hp, p1, p2, rfl⟩ := hrel
    have HP := hide hp
    clear hp
    by_cases hlt : k < r
    · have kI : (k : Int) < r := by omega
      rcases H.out with h0 | ⟨b, off, rfl, hbB, hc⟩
      · omega
      have c1 := (hc k hlt).1
      clear hc
      obtain ⟨d, hd⟩ : ∃ d, D k = d := ⟨_, rfl⟩
      rw [hd] at c1
      have ED := hide hd
      clear hd
      by_cases h1 : d < 1
      · have e := hide (show pd D r = 0 from pd_stop (.inl (by rw [ED.out]; exact h1)) hlt)
        go_wp2_with fail
        go_ret
        exact ⟨by rw [e.out]; rfl, rfl⟩
      have h1' : decide (d < 1) = false := by rw [decide_eq_false_iff_not]; exact h1
      by_cases h2 : 65536 < d
      · have e := hide (show pd D r = 0 from pd_stop (.inr (by rw [ED.out, ← HP.out]; have := mul_one_le (p := p) (d := d) p1 (by omega); omega)) hlt)
        clear h1
        go_wp2_with fail
        go_ret
        exact ⟨by rw [e.out]; rfl, rfl⟩
      have h2' : decide (65536 < d) = false := by rw [decide_eq_false_iff_not]; exact h2
      obtain ⟨m, hm⟩ : ∃ m, p * d = m := ⟨_, rfl⟩
      have m0 : 1 ≤ m := by have := mul_one_le (p := p) (d := d) p1 (by omega); omega
      have m1 : m ≤ 4294967296 := by
        have := Int.mul_le_mul p2 (show d ≤ 65536 by omega) (by omega) (by omega)
        omega
      have hwr : IntKind.i64.wrap (p * d) = m := by rw [hm, IntKind.wrap_i64]; omega
      by_cases h3 : 65536 < m
      · have e := hide (show pd D r = 0 from pd_stop (.inr (by rw [ED.out, ← HP.out, hm]; exact h3)) hlt)
        clear h1 h2 hm
        go_wp2_with fail
        go_ret
        exact ⟨by rw [e.out]; rfl, rfl⟩
      have h3' : decide (65536 < m) = false := by rw [decide_eq_false_iff_not]; exact h3
      have e := hide (show m = pd D (k + 1) by rw [pd_next (by rw [← HP.out]; omega) (by rw [ED.out]; omega) (by rw [← HP.out, ED.out, hm]; omega), ← HP.out, ED.out, hm])
      clear h1 h2 h3 hm
      go_wp2_with fail
      go_roundw
      all_goals first
        | (simp only [intOf]; omega)
        | (simp [intOf]; omega)
        | exact ⟨k + 1, m, by omega, by go_num, rfl, e.out, m0, by have := of_decide_eq_false h3'; omega, trivial⟩
    · obtain rfl : k = r := by omega
      go_wp2_with fail
      go_ret
      exact ⟨by rw [← HP.out]; rfl, rfl⟩
end Vo
end Go.Proofs.Ytgmjijjckedmcaa
