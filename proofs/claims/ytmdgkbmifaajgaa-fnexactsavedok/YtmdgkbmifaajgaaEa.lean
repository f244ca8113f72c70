/- Rates: schedules that can be, on both sides (written by tools/gen15.py). -/
import Derived.Test.YtmdgkbmifaajgaaEb
namespace Go.Proofs.Ytmdgkbmifaajgaa
namespace Vo
open Go.ChangeShapes Go.WideShapes Go.ChangeAt Go.RowKit Go.Joins Go.Sort
open Vl
set_option linter.unusedVariables false
set_option linter.unusedSimpArgs false
/-- 4 ints in a variable -/
def Box4 (w : World) (p : Nat) (x0 x1 x2 x3 : Int) : Prop := p < w.heap.size ∧ w.cell? ⟨p, 0, none⟩ = some (.int .i64 x0) ∧ w.cell? ⟨p, 1, none⟩ = some (.int .i64 x1) ∧ w.cell? ⟨p, 2, none⟩ = some (.int .i64 x2) ∧ w.cell? ⟨p, 3, none⟩ = some (.int .i64 x3)
theorem box4_new (w : World) (x0 x1 x2 x3 : Int) (ty : TypeId) : Box4 (w.alloc (.cells #[.int .i64 x0, .int .i64 x1, .int .i64 x2, .int .i64 x3] ty)) w.heap.size x0 x1 x2 x3 := ⟨by simp, by simp [go_sem], by simp [go_sem], by simp [go_sem], by simp [go_sem]⟩
theorem Box4.below {w w' : World} {p : Nat} {x0 x1 x2 x3 : Int} (h : Box4 w p x0 x1 x2 x3) (b : Below w.heap.size w w') : Box4 w' p x0 x1 x2 x3 := by
  obtain ⟨hp, h0, h1, h2, h3⟩ := h
  exact ⟨Nat.lt_of_lt_of_le hp b.size, by rw [b.cell (p := ⟨p, 0, none⟩) hp]; exact h0, by rw [b.cell (p := ⟨p, 1, none⟩) hp]; exact h1, by rw [b.cell (p := ⟨p, 2, none⟩) hp]; exact h2, by rw [b.cell (p := ⟨p, 3, none⟩) hp]; exact h3⟩
theorem areStepsF (B : Nat) (a : Option Addr) (s cap : Nat) (S : Nat → Int) (w : World) (hB : B ≤ w.heap.size) (h : Ints B w a s S) (hs : (s : Int) ≤ 1048576) :
    Calls Try.prog 23 #[.slice a s cap] w fun e w' => e = .returned (.bool (ib 0 1000000 s S)) ∧ Below w.heap.size w w' := by
  have C := hide (inBoundsF B a s cap S 0 1000000 w (by decide) hB h hs)
  clear h hB
  go_enter Try.func23, Try.ntmps23
  go_wp2_with fail
  refine C.out.mono ?_; rintro e1 w1 ⟨rfl, b1⟩
  go_wp2_with fail
  go_ret
  exact ⟨rfl, b1⟩
theorem steps_two (x y : Int) (b : Bool) (P : Nat) (w : World) (hx : bd x) (hy : bd y) (hb : decide ((0 ≤ x ∧ x ≤ 1000000) ∧ (0 ≤ y ∧ y ≤ 1000000)) = b) (hP : P = w.heap.size) :
    Calls Try.prog 23 #[.slice (some ⟨P, 0, none⟩) 2 2] (w.alloc (.cells #[.int .i64 x, .int .i64 y] 3)) fun e w' => e = .returned (.bool b) ∧ Below w.heap.size w w' := by
  subst hP
  refine (areStepsF (w.heap.size + 1) _ 2 2 (fun i => if i = 0 then x else y) _ (by simp) (two_new x y w _ hx hy) (by decide)).mono ?_
  rintro e w' ⟨rfl, b1⟩
  exact ⟨by rw [ib_two, hb], ((Below.refl _ _).alloc (Nat.le_refl _) _).trans (b1.mono (by simp))⟩
theorem steps_one (x : Int) (b : Bool) (P : Nat) (w : World) (hx : bd x) (hb : decide (0 ≤ x ∧ x ≤ 1000000) = b) (hP : P = w.heap.size) :
    Calls Try.prog 23 #[.slice (some ⟨P, 0, none⟩) 1 1] (w.alloc (.cells #[.int .i64 x] 3)) fun e w' => e = .returned (.bool b) ∧ Below w.heap.size w w' := by
  subst hP
  refine (areStepsF (w.heap.size + 1) _ 1 1 (fun _ => x) _ (by simp) (one_new x w _ hx) (by decide)).mono ?_
  rintro e w' ⟨rfl, b1⟩
  exact ⟨by rw [ib_one, hb], ((Below.refl _ _).alloc (Nat.le_refl _) _).trans (b1.mono (by simp))⟩
/-- a schedule that can be -/
def schOk (p l m n : Int) : Bool := decide ((0 ≤ l ∧ l ≤ p ∧ p ≤ 16777216) ∧ (0 ≤ m ∧ m ≤ n ∧ n ≤ 1000000))
theorem sch_of {p l m n : Int} (h : schOk p l m n = true) : (0 ≤ l ∧ l ≤ p ∧ p ≤ 16777216) ∧ (0 ≤ m ∧ m ≤ n ∧ n ≤ 1000000) := of_decide_eq_true h
theorem mul_pt {p t : Int} (p0 : 0 ≤ p) (p1 : p ≤ 16777216) (t0 : 0 ≤ t) (t1 : t ≤ 1000001) : 0 ≤ p * t ∧ p * t ≤ 16777232777216 := by
  refine ⟨Int.mul_nonneg p0 t0, ?_⟩
  calc p * t ≤ 16777216 * t := Int.mul_le_mul_of_nonneg_right p1 t0
    _ ≤ 16777232777216 := by omega
/-- what is rounded of at most K times d lies in 0 .. K -/
theorem near_rng {n d K r : Int} (n0 : 0 ≤ n) (d0 : 1 ≤ d) (K0 : 0 ≤ K) (h : n ≤ K * d) (hr : r = if n.tmod d < 0 then Nea.rd (n.tdiv d - 1) (n.tmod d + d) d else Nea.rd (n.tdiv d) (n.tmod d) d) : 0 ≤ r ∧ r ≤ K := by
  have e1 : n.tdiv d = n / d := Int.tdiv_eq_ediv_of_nonneg n0
  have e2 : n.tmod d = n % d := Int.tmod_eq_emod_of_nonneg n0
  have m0 := Int.emod_nonneg n (show d ≠ 0 by omega)
  have q0 : 0 ≤ n / d := Int.ediv_nonneg n0 (by omega)
  have q1 : n / d ≤ K := Int.ediv_le_of_le_mul (by omega) h
  have q2 : n % d = n - n / d * d := by rw [Int.emod_def, Int.mul_comm]
  rw [e1, e2, if_neg (by omega)] at hr
  unfold Nea.rd at hr
  by_cases c : n / d = K
  · have : n % d = 0 := by rw [c] at q2; omega
    rw [this, if_neg (by omega)] at hr
    omega
  · split at hr <;> omega
end Vo
end Go.Proofs.Ytmdgkbmifaajgaa
