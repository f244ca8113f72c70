/- Quantise on both sides (written by tools/gen14.py). -/
import Derived.Test.YtflbhlepmjiejaaIb
namespace Go.Proofs.Ytflbhlepmjiejaa
namespace Vo
open Go.ChangeShapes Go.WideShapes Go.ChangeAt Go.RowKit Go.Joins Go.Sort
open Vl
set_option linter.unusedVariables false
set_option linter.unusedSimpArgs false
/-- a scale in a variable -/
def Box2 (w : World) (p : Nat) (s z : Int) : Prop := p < w.heap.size ∧ w.cell? ⟨p, 0, none⟩ = some (.int .i64 s) ∧ w.cell? ⟨p, 1, none⟩ = some (.int .i64 z)
theorem box2_new (w : World) (s z : Int) (ty : TypeId) : Box2 (w.alloc (.cells #[.int .i64 s, .int .i64 z] ty)) w.heap.size s z := ⟨by simp, by simp [go_sem], by simp [go_sem]⟩
theorem Box2.below {w w' : World} {p : Nat} {s z : Int} (h : Box2 w p s z) (b : Below w.heap.size w w') : Box2 w' p s z :=
  ⟨Nat.lt_of_lt_of_le h.1 b.size, by rw [b.cell (p := ⟨p, 0, none⟩) h.1]; exact h.2.1, by rw [b.cell (p := ⟨p, 1, none⟩) h.1]; exact h.2.2⟩
theorem gInS (x l m : Int) (b : Bool) (hb : decide (l ≤ x ∧ x ≤ m) = b) (w : World) :
    Calls Try.prog 29 #[.int .i64 x, .int .i64 l, .int .i64 m] w fun e w' => e = .returned (.bool b) ∧ Below w.heap.size w w' := by
  rw [← hb]
  refine (inS x l m w).mono ?_
  rintro e w' ⟨rfl, rfl⟩
  exact ⟨rfl, Below.refl _ _⟩
theorem tdiv_abs (n d : Int) : (n.tdiv d).natAbs ≤ n.natAbs := by rw [Int.natAbs_tdiv]; exact Nat.div_le_self _ _
theorem near_bd (n d K : Int) (n0 : -K ≤ n) (n1 : n ≤ K) : -K - 1 ≤ (if n.tmod d < 0 then Nea.rd (n.tdiv d - 1) (n.tmod d + d) d else Nea.rd (n.tdiv d) (n.tmod d) d) ∧ (if n.tmod d < 0 then Nea.rd (n.tdiv d - 1) (n.tmod d + d) d else Nea.rd (n.tdiv d) (n.tmod d) d) ≤ K + 1 := by
  have h := tdiv_abs n d
  unfold Nea.rd
  split <;> split <;> omega
/-- Near on both sides: one number, no farther from 0 than n by more than 1 -/
theorem nearB (n d K : Int) (n0 : -K ≤ n) (n1 : n ≤ K) (K1 : K ≤ 4611686018427387904) (d0 : 1 ≤ d) (d1 : d ≤ 4611686018427387904) : ∃ r : Int, (-K - 1 ≤ r ∧ r ≤ K + 1) ∧
    (r = if n.tmod d < 0 then Nea.rd (n.tdiv d - 1) (n.tmod d + d) d else Nea.rd (n.tdiv d) (n.tmod d) d) ∧
    (∀ w, Calls Try.prog 33 #[.int .i64 n, .int .i64 d] w fun e w' => e = .returned (.int .i64 r) ∧ Below w.heap.size w w') ∧
    (∀ w, Calls Try.prog 68 #[.int .i64 n, .int .i64 d] w fun e w' => e = .returned (.int .i64 r) ∧ Below w.heap.size w w') :=
  ⟨_, near_bd n d K n0 n1, rfl, fun w => (Nea.specNear n d w (by omega) (by omega) d0 d1).mono fun e w' ⟨h1, h2⟩ => ⟨h1, h2 ▸ Below.refl _ _⟩, fun w => Nea.implNear n d w (by omega) (by omega) d0 d1⟩
theorem clipB (l m x : Int) (w : World) :
    Calls Try.prog 37 #[.int .i64 x, .int .i64 l, .int .i64 m] w fun e w' => e = .returned (.int .i64 (cl l m x)) ∧ Below w.heap.size w w' :=
  (clipS l m x w).mono fun e w' ⟨h1, h2⟩ => ⟨h1, h2 ▸ Below.refl _ _⟩
end Vo
end Go.Proofs.Ytflbhlepmjiejaa
