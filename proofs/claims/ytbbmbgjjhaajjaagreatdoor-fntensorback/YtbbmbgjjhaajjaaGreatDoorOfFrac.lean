/- OfFrac on both sides: the quotient of the parts, or 0 where the fraction can't be. -/
import Derived.Test.YtbbmbgjjhaajjaaGreatDoorPow
import Derived.Test.YtbbmbgjjhaajjaaGreatDoorFrac
namespace Go.Proofs.YtbbmbgjjhaajjaaGreatDoor
namespace Base
open Go.ChangeShapes Go.WideShapes Go.ChangeAt Go.RowKit
set_option linter.unusedVariables false

theorem okB_bd {n d : Int} (h : okB n d = true) : 1 ≤ d ∧ d ≤ 32767 ∧ -32767 ≤ n ∧ n ≤ 32767 := by
  unfold okB at h; rw [decide_eq_true_eq] at h; omega


theorem implOfFracNo (n d : Int) (w : World) (h : okB n d = false) :
    Calls Tryz.prog 90 #[.agg #[.int .i64 n, .int .i64 d]] w fun e w' => e = .returned (.int .i64 0) ∧ Below w.heap.size w w' := by
  go_enter Tryz.func90, Tryz.ntmps90
  go_wp2_with fail
  refine (implFracOk _ _ _).mono ?_; rintro e w1 ⟨rfl, b1⟩
  go_wp2_with fail
  go_ret
  exact ⟨rfl, ((Below.refl _ _).alloc (Nat.le_refl _) _).trans (b1.mono (by simp))⟩
theorem implOfFracYes (n d : Int) (w : World) (h : okB n d = true) :
    Calls Tryz.prog 90 #[.agg #[.int .i64 n, .int .i64 d]] w fun e w' => e = .returned (.int .i64 ((n % 2147483647 * Num.pw (d % 2147483647) 2147483645) % 2147483647)) ∧ Below w.heap.size w w' := by
  obtain ⟨d0, d1, n0, n1⟩ := okB_bd h
  go_enter Tryz.func90, Tryz.ntmps90
  go_wp2_with fail
  refine (implFracOk _ _ _).mono ?_; rintro e w1 ⟨rfl, b1⟩
  have k0 : w1.cell? ⟨w.heap.size, 0, none⟩ = some (.int .i64 n) := by
    rw [b1.cell (p := ⟨w.heap.size, 0, none⟩) (by simp)]; simp [go_sem]
  have k1 : w1.cell? ⟨w.heap.size, 1, none⟩ = some (.int .i64 d) := by
    rw [b1.cell (p := ⟨w.heap.size, 1, none⟩) (by simp)]; simp [go_sem]
  go_wp2_with fail
  refine (implOver _ _ _ (by omega) (by omega) (by omega) (by omega)).mono ?_; rintro e w2 ⟨rfl, rfl⟩
  go_wp2_with fail
  go_ret
  exact ⟨rfl, ((Below.refl _ _).alloc (Nat.le_refl _) _).trans (b1.mono (by simp))⟩

end Base
end Go.Proofs.YtbbmbgjjhaajjaaGreatDoor
