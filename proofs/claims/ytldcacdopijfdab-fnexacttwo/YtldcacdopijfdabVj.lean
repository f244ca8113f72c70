/- Joint on both sides. -/
import Derived.Test.YtldcacdopijfdabVc
namespace Go.Proofs.Ytldcacdopijfdab
namespace Vo
open Go.ChangeShapes Go.WideShapes Go.ChangeAt Go.RowKit Go.Joins
open Vl Vp
set_option linter.unusedVariables false

/-- a length from behind -/
def bk (r : Nat) (D : Nat → Int) (k : Nat) : Int := if r ≤ k then 1 else D (r - 1 - k)
def fits (x y : Int) : Prop := x = y ∨ x = 1 ∨ y = 1
instance (x y : Int) : Decidable (fits x y) := by unfold fits; infer_instance
def jt (r s : Nat) (D E : Nat → Int) : Nat → Int := fun j => max (bk r D (max r s - 1 - j)) (bk s E (max r s - 1 - j))
def JOk (r s : Nat) (D E : Nat → Int) : Prop := dok r D = true ∧ dok s E = true ∧ (∀ k, k < max r s → fits (bk r D k) (bk s E k)) ∧ dok (max r s) (jt r s D E) = true
instance (r s : Nat) (D E : Nat → Int) : Decidable (JOk r s D E) := by unfold JOk; infer_instance
def jn (r s : Nat) (D E : Nat → Int) : Nat := if JOk r s D E then max r s else 0
theorem jn_no {r s : Nat} {D E : Nat → Int} (h : ¬ JOk r s D E) : jn r s D E = 0 := by unfold jn; rw [if_neg h]
theorem jn_yes {r s : Nat} {D E : Nat → Int} (h : JOk r s D E) : jn r s D E = max r s := by unfold jn; rw [if_pos h]
theorem dok_same {r : Nat} {D E : Nat → Int} (h : ∀ j, j < r → D j = E j) : dok r D = dok r E := by unfold dok; rw [sz_same h]
/-- the longer one first: what stands behind the lengths ahead -/
theorem jt_ahead {r s : Nat} {D E : Nat → Int} (h : s ≤ r) {j : Nat} (hj : j < r - s) (hd : 1 ≤ D j) : jt r s D E j = D j := by
  unfold jt bk
  rw [Nat.max_eq_left h, if_neg (by omega), if_pos (by omega), show r - 1 - (r - 1 - j) = j by omega]
  omega
theorem jt_both {r s : Nat} {D E : Nat → Int} (h : s ≤ r) {t : Nat} (ht : t < s) : jt r s D E (r - s + t) = max (D (r - s + t)) (E t) := by
  unfold jt bk
  rw [Nat.max_eq_left h, if_neg (by omega), if_neg (by omega), show r - 1 - (r - 1 - (r - s + t)) = r - s + t by omega, show s - 1 - (r - 1 - (r - s + t)) = t by omega]
theorem fits_ahead {r s : Nat} {D E : Nat → Int} (h : s ≤ r) (hf : ∀ t, t < s → fits (D (r - s + t)) (E t)) : ∀ k, k < max r s → fits (bk r D k) (bk s E k) := by
  intro k hk
  rw [Nat.max_eq_left h] at hk
  unfold bk
  rw [if_neg (by omega)]
  by_cases c : s ≤ k
  · rw [if_pos c]; exact .inr (.inr rfl)
  · rw [if_neg c]
    have := hf (s - 1 - k) (by omega)
    rwa [show r - s + (s - 1 - k) = r - 1 - k by omega] at this
theorem fits_of {r s : Nat} {D E : Nat → Int} (h : s ≤ r) (hf : ∀ k, k < max r s → fits (bk r D k) (bk s E k)) {t : Nat} (ht : t < s) : fits (D (r - s + t)) (E t) := by
  have := hf (s - 1 - t) (by rw [Nat.max_eq_left h]; omega)
  unfold bk at this
  rwa [if_neg (by omega), if_neg (by omega), show r - 1 - (s - 1 - t) = r - s + t by omega, show s - 1 - (s - 1 - t) = t by omega] at this
theorem fits_comm {x y : Int} (h : fits x y) : fits y x := by unfold fits at *; omega
theorem jt_comm (r s : Nat) (D E : Nat → Int) : jt r s D E = jt s r E D := by
  funext j; unfold jt; rw [Nat.max_comm r s, Int.max_comm]
theorem JOk_comm {r s : Nat} {D E : Nat → Int} : JOk r s D E ↔ JOk s r E D := by
  unfold JOk
  rw [jt_comm r s D E, Nat.max_comm r s]
  exact ⟨fun ⟨a, b, c, d⟩ => ⟨b, a, fun k hk => fits_comm (c k hk), d⟩, fun ⟨a, b, c, d⟩ => ⟨b, a, fun k hk => fits_comm (c k hk), d⟩⟩
theorem jn_comm (r s : Nat) (D E : Nat → Int) : jn r s D E = jn s r E D := by
  unfold jn; rw [Nat.max_comm r s]; simp only [JOk_comm (r := r)]
theorem bk_rng {r : Nat} {D : Nat → Int} (h : ∀ j, j < r → 1 ≤ D j ∧ D j ≤ 4096) (k : Nat) : 1 ≤ bk r D k ∧ bk r D k ≤ 4096 := by
  unfold bk
  split
  · omega
  · exact h _ (by omega)
theorem jt_rng {r s : Nat} {D E : Nat → Int} (h : ∀ j, j < r → 1 ≤ D j ∧ D j ≤ 4096) (h' : ∀ j, j < s → 1 ≤ E j ∧ E j ≤ 4096) (j : Nat) : 1 ≤ jt r s D E j ∧ jt r s D E j ≤ 4096 := by
  unfold jt
  have a := bk_rng h (max r s - 1 - j)
  have b := bk_rng h' (max r s - 1 - j)
  omega
/-- the empty list -/
theorem own_empty (B : Nat) (w : World) (a : Option Addr) (D : Nat → Int) : OwnL B w a 0 D := .inl rfl

theorem l3Back (B : Nat) (a : Option Addr) (r cap k : Nat) (D : Nat → Int) (w : World) (h : Ints B w a r D) (hr : (r : Int) ≤ 6) (hk : (k : Int) ≤ 6) :
    Calls Try.prog 68 #[.slice a r cap, .int .i64 k] w fun e w' => e = .returned (.int .i64 (bk r D k)) ∧ w' = w := by
  by_cases c : (r : Int) ≤ k
  · have e := hide (show bk r D k = 1 by unfold bk; rw [if_pos (by omega)])
    clear h
    go_enter Try.func68, Try.ntmps68
    go_wp2_with fail
    go_ret
    exact ⟨ret_int e.out.symm, rfl⟩
  · have c' : decide ((r : Int) ≤ k) = false := by rw [decide_eq_false_iff_not]; exact c
    obtain ⟨m, hm⟩ : ∃ m : Nat, (r : Int) - 1 - k = m := ⟨r - 1 - k, by omega⟩
    have e := hide (show bk r D k = D m by unfold bk; rw [if_neg (by omega)]; congr 1; omega)
    have hlt : m < r := by omega
    have mI : (m : Int) < r := by omega
    rcases h with h0 | ⟨b, off, rfl, hbB, hc⟩
    · omega
    have c1 := (hc m hlt).1
    clear hc c
    go_enter Try.func68, Try.ntmps68
    go_wp2_with fail
    go_ret
    exact ⟨ret_int e.out.symm, rfl⟩
end Vo
end Go.Proofs.Ytldcacdopijfdab
