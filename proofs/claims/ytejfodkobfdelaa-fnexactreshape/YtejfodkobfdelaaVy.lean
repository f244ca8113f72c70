/- Places that are there twice, places that meet: plain, and Twice on the model's side. -/
import Derived.Test.YtejfodkobfdelaaVt
namespace Go.Proofs.Ytejfodkobfdelaa
namespace Vo
open Go.ChangeShapes Go.WideShapes Go.ChangeAt Go.RowKit Go.Joins
open Vl Vp
set_option linter.unusedVariables false

def memB (f : Nat → Int) : Nat → Int → Bool | 0, _ => false | n + 1, x => memB f n x || (f n == x)
def dupB (f : Nat → Int) : Nat → Bool | 0 => false | n + 1 => dupB f n || memB f n (f n)
/-- is one of the first n of g among the first m of f? -/
def metB (f : Nat → Int) (m : Nat) (g : Nat → Int) : Nat → Bool | 0 => false | n + 1 => metB f m g n || memB f m (g n)
theorem dupB_mono {f : Nat → Int} {n m : Nat} (h : dupB f n = true) (hm : n ≤ m) : dupB f m = true := by
  induction m with
  | zero => obtain rfl : n = 0 := by omega
            exact h
  | succ m ih =>
    by_cases e : n = m + 1
    · rw [← e]; exact h
    · simp only [dupB]; rw [ih (by omega)]; rfl
theorem metB_mono {f g : Nat → Int} {k n m : Nat} (h : metB f k g n = true) (hm : n ≤ m) : metB f k g m = true := by
  induction m with
  | zero => obtain rfl : n = 0 := by omega
            exact h
  | succ m ih =>
    by_cases e : n = m + 1
    · rw [← e]; exact h
    · simp only [metB]; rw [ih (by omega)]; rfl
/-- a row of flags of one's own -/
def Bw (w : World) (g n : Nat) (f : Nat → Bool) : Prop := ∀ t, t < n → w.cell? ⟨g, t, none⟩ = some (.bool (f t)) ∧ w.frozen? ⟨g, t, none⟩ = false
theorem Bw.below {B : Nat} {w w' : World} {g n : Nat} {f : Nat → Bool} (h : Bw w g n f) (hb : Below B w w') (hg : g < B) : Bw w' g n f := fun t ht =>
  ⟨(hb.cell (p := ⟨g, t, none⟩) hg).trans (h t ht).1, (hb.frozen (p := ⟨g, t, none⟩) hg).trans (h t ht).2⟩
theorem Bw.same {w : World} {g n : Nat} {f f' : Nat → Bool} (h : Bw w g n f) (e : ∀ t, t < n → f' t = f t) : Bw w g n f' := fun t ht => by rw [e t ht]; exact h t ht
theorem Bw.set {w : World} {g n : Nat} {f : Nat → Bool} (h : Bw w g n f) (j : Nat) : Bw (w.setCell ⟨g, j, none⟩ (.bool true)) g n (fun t => f t || (j == t)) := by
  intro t ht
  rw [World.frozen?_setCell]
  by_cases c : t = j
  · subst c
    rw [World.cell?_setCell_same _ _ _ (h t ht).1]
    refine ⟨by simp, (h t ht).2⟩
  · rw [World.cell?_setCell_other _ _ _ _ (by intro e; cases e; exact c rfl)]
    dsimp only
    rw [show (j == t) = false by rw [beq_eq_false_iff_ne]; omega, Bool.or_false]
    exact h t ht
theorem bw_new (w : World) (n : Nat) (ty : TypeId) : Bw (w.alloc (.cells (madeCells #[.bool false] n) ty)) w.heap.size n (fun _ => false) := by
  intro t ht
  refine ⟨?_, ?_⟩
  · rw [World.cell?_alloc_at _ _ _ _ rfl]
    simp [madeCells, ht, Nat.mod_one]
  · simp [go_sem]
theorem memB_step (f : Nat → Int) (k j : Nat) (hj : f k = j) (t : Nat) : memB f (k + 1) t = (memB f k t || (j == t)) := by
  simp only [memB]; rw [hj]; congr 1
  rw [Bool.eq_iff_iff]; simp; omega
/-- the k-th place, as a number of the list -/
def plcN (D S : Nat → Int) (r : Nat) (o : Int) : Nat → Int := fun k => o + rel D S r k

def cntS (r s : Nat) (D S : Nat → Int) (o n : Int) : Nat := if vok r s D S o n = true then (szR D r).toNat else 0
theorem cntS_no {r s : Nat} {D S : Nat → Int} {o n : Int} (h : vok r s D S o n = false) : cntS r s D S o n = 0 := by unfold cntS; rw [h]; simp
theorem cntS_yes {r s : Nat} {D S : Nat → Int} {o n : Int} (h : vok r s D S o n = true) : ((cntS r s D S o n : Nat) : Int) = szR D r := by unfold cntS; rw [if_pos h]; have := (szR_rng D r).1; omega
end Vo
end Go.Proofs.Ytejfodkobfdelaa
