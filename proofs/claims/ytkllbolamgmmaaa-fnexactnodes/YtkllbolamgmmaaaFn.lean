/- Rows of Moves that a law holds against each other. -/
import Derived.Test.YtkllbolamgmmaaaFm
import Derived.Test.YtkllbolamgmmaaaFi
namespace Go.Proofs.Ytkllbolamgmmaaa
namespace Vo
open Go.ChangeShapes Go.WideShapes Go.ChangeAt Go.RowKit Go.Joins Go.Sort
open Vl
set_option linter.unusedVariables false
set_option linter.unusedSimpArgs false
def totC (R : List (List Mov)) : Nat := (R.map List.length).sum
theorem tot_is : ∀ L : List VM, tot L = totC (cnt L)
  | [] => rfl
  | x :: L => by show x.l.length + tot L = _; rw [tot_is L]; simp [totC, cnt]
theorem RowsA.b {R : List (List Mov)} {w w' : World} {e : Ending} (h : RowsA R w e w') : RowsB R w e w' := by
  obtain ⟨g, c, L, e1, h1, h2, h3⟩ := h
  exact ⟨_, c, L, e1, h1, h2, by simp, h3⟩
/-- an answer whose length is told by a letter -/
def RowsN (n : Nat) (R : List (List Mov)) (w : World) (e : Ending) (w' : World) : Prop :=
  ∃ a c L, e = .returned (.slice a n c) ∧ L.length = n ∧ RowsM w.heap.size w' (.slice a n c) L ∧ cnt L = R ∧ Below w.heap.size w w'
theorem RowsB.n {n : Nat} {R : List (List Mov)} (hn : R.length = n) {w w' : World} {e : Ending} (h : RowsB R w e w') : RowsN n R w e w' := by
  obtain ⟨a, c, L, e1, h1, h2, _, h3⟩ := h
  have : L.length = n := by rw [← hn, ← h2, cnt_len]
  rw [this] at e1 h1
  exact ⟨a, c, L, e1, this, h1, h2, h3⟩
theorem RowsM.readN {E n c : Nat} {w : World} {a : Option Addr} {L : List VM} (hn : L.length = n) (h : RowsM E w (.slice a n c) L) : LLM w.heap.size w a L := by
  subst hn
  exact h.read
theorem totC_le {R : List (List Mov)} {m : Nat} (h : ∀ r ∈ R, r.length ≤ m) : totC R ≤ R.length * m := by
  induction R with
  | nil => simp [totC]
  | cons r R ih =>
    have h1 := h r (List.mem_cons_self ..)
    have h2 := ih (fun r hr => h r (List.mem_cons_of_mem _ hr))
    have : totC (r :: R) = r.length + totC R := by simp [totC]
    rw [this, List.length_cons, Nat.succ_mul]
    omega
theorem ring_small (z : Int) : (ringL z).length ≤ 200 ∧ totC (ringL z) ≤ 12800 := by
  have h : ∀ r ∈ ringL z, r.length ≤ 64 := by
    intro r hr
    unfold ringL at hr
    split at hr
    · obtain ⟨j, _, hj⟩ := List.mem_flatMap.1 hr
      obtain ⟨k, _, rfl⟩ := List.mem_map.1 hj
      simp [ringRow]; omega
    · simp at hr
  have hl : (ringL z).length ≤ 200 := by
    unfold ringL
    split
    · rw [ringH_len]; omega
    · simp
  have := totC_le h
  exact ⟨hl, by have := Nat.mul_le_mul_right 64 hl; omega⟩
end Vo
end Go.Proofs.Ytkllbolamgmmaaa
