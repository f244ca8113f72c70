/- CacheOk of the program. -/
import Derived.Test.YtdenfcckmpkomaaLze
namespace Go.Proofs.Ytdenfcckmpkomaa
namespace Vo
open Go.ChangeShapes Go.WideShapes Go.ChangeAt Go.RowKit Go.Joins Go.Sort
open Vl Vp
set_option linter.unusedVariables false
set_option linter.unusedSimpArgs false
theorem rowsA_same {n : Nat} {L L' : Nat → LV} (h : LSame n L L') : decide (RowsA n L') = decide (RowsA n L) := by
  refine decide_eq_decide.2 ⟨fun q i hi => ?_, fun q i hi => ?_⟩
  · have := q i hi
    rwa [(h i hi).1, (h i hi).2, (h 0 (by omega)).1] at this
  · rw [(h i hi).1, (h i hi).2, (h 0 (by omega)).1]
    exact q i hi
theorem cacheB_same {n m : Nat} {L L' M M' : Nat → LV} (h : LSame n L L') (h' : LSame m M M') : cacheB n m L' M' = cacheB n m L M := by
  unfold cacheB; rw [rowsA_same h, rowsA_same h']
theorem LLen.same {n : Nat} {L L' : Nat → LV} {z : Int} (h : LLen n L z) (hs : LSame n L L') : LLen n L' z := fun i hi => by rw [(hs i hi).1]; exact h i hi
theorem LSame.both {n : Nat} {L A B : Nat → LV} (h : LSame n L A) (h' : LSame n L B) : ∀ i, i < n → (B i).r = (A i).r ∧ ∀ j, j < (A i).r → (A i).D j = (B i).D j := fun i hi => ⟨by rw [(h i hi).1, (h' i hi).1], fun j _ => by rw [(h i hi).2, (h' i hi).2]⟩
set_option maxHeartbeats 1000000 in
theorem cacheOk (B : Nat) (a b : Option Addr) (n m cap dap : Nat) (L M : Nat → LV) (w : World) (hB : B ≤ w.heap.size) (h : LL B w a n L) (h' : LL B w b m M) (hn : (n : Int) ≤ 1048576) (hm : (m : Int) ≤ 1048576) (hl : LLen n L 1048576) (hl' : LLen m M 1048576) :
    Calls Try.prog 29 #[.agg #[.slice a n cap, .slice b m dap]] w fun e w' => e = .returned (.bool (cacheB n m L M)) ∧ Below w.heap.size w w' := by
  have bl : Below w.heap.size w (w.alloc (.cells #[.slice a n cap, .slice b m dap] 47)) := (Below.refl _ _).alloc (Nat.le_refl _) _
  have BL := hide bl
  have H := hide (h.below (bl.mono hB))
  have H' := hide (h'.below (bl.mono hB))
  have HL := hide hl
  have HL' := hide hl'
  clear h h' hl hl' bl
  by_cases e0 : n = m
  rotate_left
  · have ez := hide (show cacheB n m L M = false by unfold cacheB; rw [decide_eq_false e0]; simp)
    have e0' : ((n : Int) == (m : Int)) = false := beq_eq_false_iff_ne.2 (by omega)
    clear e0
    go_enter Try.func29, Try.ntmps29
    go_wp2_with fail
    go_ret
    exact ⟨by rw [ez.out]; rfl, BL.out⟩
  have e0' : ((n : Int) == (m : Int)) = true := beq_iff_eq.2 (by omega)
  have E0 := hide e0
  clear e0
  by_cases e2 : n ≤ 4096
  rotate_left
  · have ez := hide (show cacheB n m L M = false by unfold cacheB; rw [decide_eq_false e2]; simp)
    have e2' : decide ((n : Int) ≤ 4096) = false := decide_eq_false (by omega)
    have e2'' : decide (n ≤ 4096) = false := decide_eq_false (by omega)
    clear e2
    go_enter Try.func29, Try.ntmps29
    go_wp2_with fail
    go_ret
    exact ⟨by rw [ez.out]; rfl, BL.out⟩
  have e2' : decide ((n : Int) ≤ 4096) = true := decide_eq_true (by omega)
  have e2'' : decide (n ≤ 4096) = true := decide_eq_true (by omega)
  have E2 := hide e2
  clear e2
  cases eB : decide (RowsA n L) with
  | false =>
    have ez := hide (show cacheB n m L M = false by unfold cacheB; rw [eB]; simp)
    have EB := hide eB
    clear eB
    go_enter Try.func29, Try.ntmps29
    go_wp2_with fail
    refine (rowsOk B a n cap L _ (by simp; omega) H.out hn HL.out).mono ?_
    rintro e w1 ⟨rfl, b1⟩
    rw [EB.out]
    have B1 := hide (BL.out.trans (b1.mono (by simp)))
    clear b1
    go_wp2_with fail
    go_ret
    exact ⟨by rw [ez.out]; rfl, B1.out⟩
  | true =>
    have ez := hide (show cacheB n m L M = decide (RowsA m M) by
      unfold cacheB
      rw [eB, decide_eq_true E0.out, decide_eq_true E2.out]; simp)
    have EB := hide eB
    clear eB
    go_enter Try.func29, Try.ntmps29
    go_wp2_with fail
    refine (rowsOk B a n cap L _ (by simp; omega) H.out hn HL.out).mono ?_
    rintro e w1 ⟨rfl, b1⟩
    rw [EB.out]
    have hc1 := old_cells b1
    have c10 := fun i => hc1 w.heap.size i (by simp)
    have B1 := hide (BL.out.trans (b1.mono (by simp)))
    have H1 := hide (H'.out.below (b1.mono (by simp; omega)))
    have z1 : w.heap.size < w1.heap.size := by have := b1.size; simp at this; omega
    clear b1 hc1
    go_wp2_with fail
    refine (rowsOk B b m dap M _ (by omega) H1.out hm HL'.out).mono ?_
    rintro e w2 ⟨rfl, b2⟩
    have B2 := hide (B1.out.trans (b2.mono B1.out.size))
    clear b2
    go_wp2_with fail
    go_ret
    exact ⟨by rw [ez.out]; rfl, B2.out⟩
end Vo
end Go.Proofs.Ytdenfcckmpkomaa
