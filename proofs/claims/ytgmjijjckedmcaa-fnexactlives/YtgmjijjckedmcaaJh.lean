/- What a nest must be: the model's steps, accesses, kernels. -/
import Derived.Test.YtgmjijjckedmcaaJg
namespace Go.Proofs.Ytgmjijjckedmcaa
namespace Vo
open Go.ChangeShapes Go.WideShapes Go.ChangeAt Go.RowKit Go.Joins Go.Sort
open Vl Vp
set_option linter.unusedVariables false
set_option linter.unusedSimpArgs false
/-- a step that can stand behind i others, where there are n loads -/
def stp (c : CV) (i : Nat) (n : Int) : Prop :=
  (c.x = 1 ∧ 0 ≤ c.y ∧ c.y < n ∧ c.z = 0) ∨ (c.x = 2 ∧ 0 ≤ c.y ∧ c.y < 2147483647 ∧ c.z = 0) ∨ (3 ≤ c.x ∧ c.x ≤ 5 ∧ 0 ≤ c.y ∧ c.y < i ∧ 0 ≤ c.z ∧ c.z < i) ∨ (6 ≤ c.x ∧ c.x ≤ 9 ∧ 0 ≤ c.y ∧ c.y < i ∧ c.z = 0)
instance (c : CV) (i : Nat) (n : Int) : Decidable (stp c i n) := by unfold stp; infer_instance
/-- a reckoning that can be -/
def CdOk (cn : Nat) (CC : Nat → CV) (n : Int) : Prop := 1 ≤ cn ∧ cn ≤ 60 ∧ ∀ i, i < cn → stp (CC i) i n
instance (cn : Nat) (CC : Nat → CV) (n : Int) : Decidable (CdOk cn CC n) := by unfold CdOk; infer_instance
set_option maxRecDepth 100000 in
set_option maxHeartbeats 8000000 in
theorem l11Code (B : Nat) (a : Option Addr) (cn cap : Nat) (CC : Nat → CV) (n : Int) (w : World) (hB : B ≤ w.heap.size) (h : LC B w a cn CC) (hr : (cn : Int) ≤ 1048576) (n0 : 0 ≤ n) (n1 : n ≤ 1048576) :
    Calls Try.prog 78 #[.slice a cn cap, .int .i64 n] w fun e w' => e = .returned (.bool (decide (CdOk cn CC n))) ∧ Below w.heap.size w w' := by
  have H := hide h
  clear h
  go_enter Try.func78, Try.ntmps78
  by_cases c1 : (cn : Int) < 1
  · have e := hide (show ¬ CdOk cn CC n from fun q => by have := q.1; omega)
    go_wp2_with fail
    go_ret
    exact ⟨by rw [decide_eq_false e.out]; rfl, Below.refl _ _⟩
  have c1' : decide ((cn : Int) < 1) = false := by rw [decide_eq_false_iff_not]; exact c1
  by_cases c2 : 60 < (cn : Int)
  · have e := hide (show ¬ CdOk cn CC n from fun q => by have := q.2.1; omega)
    clear c1
    go_wp2_with fail
    go_ret
    exact ⟨by rw [decide_eq_false e.out]; rfl, Below.refl _ _⟩
  have c2' : decide (60 < (cn : Int)) = false := by rw [decide_eq_false_iff_not]; exact c2
  have u1 : 1 ≤ cn := by omega
  have u2 : cn ≤ 60 := by omega
  clear c1 c2
  go_wp2_with fail
  go_loopw [5] (fun i wx => ∃ k : Nat, k ≤ cn ∧ i = .int .i64 k ∧ (∀ j, j < k → stp (CC j) j n) ∧ Below w.heap.size w wx) (fun i _ => cn - (intOf i).toNat)
  case atStart => exact ⟨0, Nat.zero_le _, rfl, fun j hj => by omega, Below.refl _ _⟩
  case round =>
    obtain ⟨X, rfl⟩ : ∃ X, X = wr := ⟨_, rfl⟩
    obtain ⟨k, hk, rfl, hs, hby⟩ := hrel
    have HS := hide hs
    have HBY := hide hby
    clear hs hby
    by_cases hlt : k < cn
    case neg =>
      obtain rfl : k = cn := by omega
      have e := hide (show CdOk k CC n from ⟨u1, u2, HS.out⟩)
      go_wp2_with fail
      go_ret
      exact ⟨by rw [decide_eq_true e.out]; rfl, HBY.out⟩
    have kI : (k : Int) < cn := by omega
    rcases H.out.below (HBY.out.mono hB) with q0 | ⟨blk, off, rfl, hbk, hc⟩
    · omega
    obtain ⟨p0, p1, p2, _⟩ := hc k hlt
    obtain ⟨⟨x, y, z⟩, hC⟩ : ∃ c, CC k = c := ⟨_, rfl⟩
    rw [hC] at p0 p1 p2
    dsimp only at p0 p1 p2
    have EC := hide hC
    clear hc hC
    by_cases x1 : x = 1
    · subst x1
      by_cases y0 : 0 ≤ y
      case neg =>
        have y0' : decide (0 ≤ y) = false := by rw [decide_eq_false_iff_not]; exact y0
        have e := hide (show ¬ CdOk cn CC n from fun q => absurd (q.2.2 k hlt) (by rw [EC.out]; unfold stp; dsimp only; omega))
        clear y0; go_wp2_with fail
        go_ret
        exact ⟨by rw [decide_eq_false e.out]; rfl, HBY.out.alloc HBY.out.size _⟩
      by_cases y1 : y < n
      case neg =>
        have y1' : decide (y < n) = false := by rw [decide_eq_false_iff_not]; exact y1
        have e := hide (show ¬ CdOk cn CC n from fun q => absurd (q.2.2 k hlt) (by rw [EC.out]; unfold stp; dsimp only; omega))
        clear y1; go_wp2_with fail
        go_ret
        exact ⟨by rw [decide_eq_false e.out]; rfl, HBY.out.alloc HBY.out.size _⟩
      by_cases z1 : z = 0
      case neg =>
        have z1' : (z == 0) = false := by simp [z1]
        have e := hide (show ¬ CdOk cn CC n from fun q => absurd (q.2.2 k hlt) (by rw [EC.out]; unfold stp; dsimp only; omega))
        clear z1; go_wp2_with fail
        go_ret
        exact ⟨by rw [decide_eq_false e.out]; rfl, HBY.out.alloc HBY.out.size _⟩
      have e := hide (show stp (CC k) k n by rw [EC.out]; unfold stp; dsimp only; omega)
      go_wp2_with fail
      go_roundw
      all_goals first
        | (simp only [intOf]; omega)
        | (simp [intOf]; omega)
        | exact ⟨k + 1, by omega, by go_num, fun j hj => by
            by_cases c : j = k
            · rw [c]; exact e.out
            · exact HS.out j (by omega), HBY.out.alloc HBY.out.size _⟩
    have x1' : (x == 1) = false := by simp [x1]
    by_cases x2 : x = 2
    · subst x2
      by_cases y0 : 0 ≤ y
      case neg =>
        have y0' : decide (0 ≤ y) = false := by rw [decide_eq_false_iff_not]; exact y0
        have e := hide (show ¬ CdOk cn CC n from fun q => absurd (q.2.2 k hlt) (by rw [EC.out]; unfold stp; dsimp only; omega))
        clear y0; go_wp2_with fail
        go_ret
        exact ⟨by rw [decide_eq_false e.out]; rfl, HBY.out.alloc HBY.out.size _⟩
      by_cases y1 : y < 2147483647
      case neg =>
        have y1' : decide (y < 2147483647) = false := by rw [decide_eq_false_iff_not]; exact y1
        have e := hide (show ¬ CdOk cn CC n from fun q => absurd (q.2.2 k hlt) (by rw [EC.out]; unfold stp; dsimp only; omega))
        clear y1; go_wp2_with fail
        go_ret
        exact ⟨by rw [decide_eq_false e.out]; rfl, HBY.out.alloc HBY.out.size _⟩
      by_cases z1 : z = 0
      case neg =>
        have z1' : (z == 0) = false := by simp [z1]
        have e := hide (show ¬ CdOk cn CC n from fun q => absurd (q.2.2 k hlt) (by rw [EC.out]; unfold stp; dsimp only; omega))
        clear z1; go_wp2_with fail
        go_ret
        exact ⟨by rw [decide_eq_false e.out]; rfl, HBY.out.alloc HBY.out.size _⟩
      have e := hide (show stp (CC k) k n by rw [EC.out]; unfold stp; dsimp only; omega)
      go_wp2_with fail
      go_roundw
      all_goals first
        | (simp only [intOf]; omega)
        | (simp [intOf]; omega)
        | exact ⟨k + 1, by omega, by go_num, fun j hj => by
            by_cases c : j = k
            · rw [c]; exact e.out
            · exact HS.out j (by omega), HBY.out.alloc HBY.out.size _⟩
    have x2' : (x == 2) = false := by simp [x2]
    by_cases x3 : x = 3
    · subst x3
      by_cases y0 : 0 ≤ y
      case neg =>
        have y0' : decide (0 ≤ y) = false := by rw [decide_eq_false_iff_not]; exact y0
        have e := hide (show ¬ CdOk cn CC n from fun q => absurd (q.2.2 k hlt) (by rw [EC.out]; unfold stp; dsimp only; omega))
        clear y0; go_wp2_with fail
        go_ret
        exact ⟨by rw [decide_eq_false e.out]; rfl, HBY.out.alloc HBY.out.size _⟩
      by_cases y1 : y < (k : Int)
      case neg =>
        have y1' : decide (y < (k : Int)) = false := by rw [decide_eq_false_iff_not]; exact y1
        have e := hide (show ¬ CdOk cn CC n from fun q => absurd (q.2.2 k hlt) (by rw [EC.out]; unfold stp; dsimp only; omega))
        clear y1; go_wp2_with fail
        go_ret
        exact ⟨by rw [decide_eq_false e.out]; rfl, HBY.out.alloc HBY.out.size _⟩
      by_cases z0 : 0 ≤ z
      case neg =>
        have z0' : decide (0 ≤ z) = false := by rw [decide_eq_false_iff_not]; exact z0
        have e := hide (show ¬ CdOk cn CC n from fun q => absurd (q.2.2 k hlt) (by rw [EC.out]; unfold stp; dsimp only; omega))
        clear z0; go_wp2_with fail
        go_ret
        exact ⟨by rw [decide_eq_false e.out]; rfl, HBY.out.alloc HBY.out.size _⟩
      by_cases z1 : z < (k : Int)
      case neg =>
        have z1' : decide (z < (k : Int)) = false := by rw [decide_eq_false_iff_not]; exact z1
        have e := hide (show ¬ CdOk cn CC n from fun q => absurd (q.2.2 k hlt) (by rw [EC.out]; unfold stp; dsimp only; omega))
        clear z1; go_wp2_with fail
        go_ret
        exact ⟨by rw [decide_eq_false e.out]; rfl, HBY.out.alloc HBY.out.size _⟩
      have e := hide (show stp (CC k) k n by rw [EC.out]; unfold stp; dsimp only; omega)
      go_wp2_with fail
      go_roundw
      all_goals first
        | (simp only [intOf]; omega)
        | (simp [intOf]; omega)
        | exact ⟨k + 1, by omega, by go_num, fun j hj => by
            by_cases c : j = k
            · rw [c]; exact e.out
            · exact HS.out j (by omega), HBY.out.alloc HBY.out.size _⟩
    have x3' : (x == 3) = false := by simp [x3]
    by_cases x4 : x = 4
    · subst x4
      by_cases y0 : 0 ≤ y
      case neg =>
        have y0' : decide (0 ≤ y) = false := by rw [decide_eq_false_iff_not]; exact y0
        have e := hide (show ¬ CdOk cn CC n from fun q => absurd (q.2.2 k hlt) (by rw [EC.out]; unfold stp; dsimp only; omega))
        clear y0; go_wp2_with fail
        go_ret
        exact ⟨by rw [decide_eq_false e.out]; rfl, HBY.out.alloc HBY.out.size _⟩
      by_cases y1 : y < (k : Int)
      case neg =>
        have y1' : decide (y < (k : Int)) = false := by rw [decide_eq_false_iff_not]; exact y1
        have e := hide (show ¬ CdOk cn CC n from fun q => absurd (q.2.2 k hlt) (by rw [EC.out]; unfold stp; dsimp only; omega))
        clear y1; go_wp2_with fail
        go_ret
        exact ⟨by rw [decide_eq_false e.out]; rfl, HBY.out.alloc HBY.out.size _⟩
      by_cases z0 : 0 ≤ z
      case neg =>
        have z0' : decide (0 ≤ z) = false := by rw [decide_eq_false_iff_not]; exact z0
        have e := hide (show ¬ CdOk cn CC n from fun q => absurd (q.2.2 k hlt) (by rw [EC.out]; unfold stp; dsimp only; omega))
        clear z0; go_wp2_with fail
        go_ret
        exact ⟨by rw [decide_eq_false e.out]; rfl, HBY.out.alloc HBY.out.size _⟩
      by_cases z1 : z < (k : Int)
      case neg =>
        have z1' : decide (z < (k : Int)) = false := by rw [decide_eq_false_iff_not]; exact z1
        have e := hide (show ¬ CdOk cn CC n from fun q => absurd (q.2.2 k hlt) (by rw [EC.out]; unfold stp; dsimp only; omega))
        clear z1; go_wp2_with fail
        go_ret
        exact ⟨by rw [decide_eq_false e.out]; rfl, HBY.out.alloc HBY.out.size _⟩
      have e := hide (show stp (CC k) k n by rw [EC.out]; unfold stp; dsimp only; omega)
      go_wp2_with fail
      go_roundw
      all_goals first
        | (simp only [intOf]; omega)
        | (simp [intOf]; omega)
        | exact ⟨k + 1, by omega, by go_num, fun j hj => by
            by_cases c : j = k
            · rw [c]; exact e.out
            · exact HS.out j (by omega), HBY.out.alloc HBY.out.size _⟩
    have x4' : (x == 4) = false := by simp [x4]
    by_cases x5 : x = 5
    · subst x5
      by_cases y0 : 0 ≤ y
      case neg =>
        have y0' : decide (0 ≤ y) = false := by rw [decide_eq_false_iff_not]; exact y0
        have e := hide (show ¬ CdOk cn CC n from fun q => absurd (q.2.2 k hlt) (by rw [EC.out]; unfold stp; dsimp only; omega))
        clear y0; go_wp2_with fail
        go_ret
        exact ⟨by rw [decide_eq_false e.out]; rfl, HBY.out.alloc HBY.out.size _⟩
      by_cases y1 : y < (k : Int)
      case neg =>
        have y1' : decide (y < (k : Int)) = false := by rw [decide_eq_false_iff_not]; exact y1
        have e := hide (show ¬ CdOk cn CC n from fun q => absurd (q.2.2 k hlt) (by rw [EC.out]; unfold stp; dsimp only; omega))
        clear y1; go_wp2_with fail
        go_ret
        exact ⟨by rw [decide_eq_false e.out]; rfl, HBY.out.alloc HBY.out.size _⟩
      by_cases z0 : 0 ≤ z
      case neg =>
        have z0' : decide (0 ≤ z) = false := by rw [decide_eq_false_iff_not]; exact z0
        have e := hide (show ¬ CdOk cn CC n from fun q => absurd (q.2.2 k hlt) (by rw [EC.out]; unfold stp; dsimp only; omega))
        clear z0; go_wp2_with fail
        go_ret
        exact ⟨by rw [decide_eq_false e.out]; rfl, HBY.out.alloc HBY.out.size _⟩
      by_cases z1 : z < (k : Int)
      case neg =>
        have z1' : decide (z < (k : Int)) = false := by rw [decide_eq_false_iff_not]; exact z1
        have e := hide (show ¬ CdOk cn CC n from fun q => absurd (q.2.2 k hlt) (by rw [EC.out]; unfold stp; dsimp only; omega))
        clear z1; go_wp2_with fail
        go_ret
        exact ⟨by rw [decide_eq_false e.out]; rfl, HBY.out.alloc HBY.out.size _⟩
      have e := hide (show stp (CC k) k n by rw [EC.out]; unfold stp; dsimp only; omega)
      go_wp2_with fail
      go_roundw
      all_goals first
        | (simp only [intOf]; omega)
        | (simp [intOf]; omega)
        | exact ⟨k + 1, by omega, by go_num, fun j hj => by
            by_cases c : j = k
            · rw [c]; exact e.out
            · exact HS.out j (by omega), HBY.out.alloc HBY.out.size _⟩
    have x5' : (x == 5) = false := by simp [x5]
    by_cases x6 : x = 6
    · subst x6
      by_cases y0 : 0 ≤ y
      case neg =>
        have y0' : decide (0 ≤ y) = false := by rw [decide_eq_false_iff_not]; exact y0
        have e := hide (show ¬ CdOk cn CC n from fun q => absurd (q.2.2 k hlt) (by rw [EC.out]; unfold stp; dsimp only; omega))
        clear y0; go_wp2_with fail
        go_ret
        exact ⟨by rw [decide_eq_false e.out]; rfl, HBY.out.alloc HBY.out.size _⟩
      by_cases y1 : y < (k : Int)
      case neg =>
        have y1' : decide (y < (k : Int)) = false := by rw [decide_eq_false_iff_not]; exact y1
        have e := hide (show ¬ CdOk cn CC n from fun q => absurd (q.2.2 k hlt) (by rw [EC.out]; unfold stp; dsimp only; omega))
        clear y1; go_wp2_with fail
        go_ret
        exact ⟨by rw [decide_eq_false e.out]; rfl, HBY.out.alloc HBY.out.size _⟩
      by_cases z1 : z = 0
      case neg =>
        have z1' : (z == 0) = false := by simp [z1]
        have e := hide (show ¬ CdOk cn CC n from fun q => absurd (q.2.2 k hlt) (by rw [EC.out]; unfold stp; dsimp only; omega))
        clear z1; go_wp2_with fail
        go_ret
        exact ⟨by rw [decide_eq_false e.out]; rfl, HBY.out.alloc HBY.out.size _⟩
      have e := hide (show stp (CC k) k n by rw [EC.out]; unfold stp; dsimp only; omega)
      go_wp2_with fail
      go_roundw
      all_goals first
        | (simp only [intOf]; omega)
        | (simp [intOf]; omega)
        | exact ⟨k + 1, by omega, by go_num, fun j hj => by
            by_cases c : j = k
            · rw [c]; exact e.out
            · exact HS.out j (by omega), HBY.out.alloc HBY.out.size _⟩
    have x6' : (x == 6) = false := by simp [x6]
    by_cases x7 : x = 7
    · subst x7
      by_cases y0 : 0 ≤ y
      case neg =>
        have y0' : decide (0 ≤ y) = false := by rw [decide_eq_false_iff_not]; exact y0
        have e := hide (show ¬ CdOk cn CC n from fun q => absurd (q.2.2 k hlt) (by rw [EC.out]; unfold stp; dsimp only; omega))
        clear y0; go_wp2_with fail
        go_ret
        exact ⟨by rw [decide_eq_false e.out]; rfl, HBY.out.alloc HBY.out.size _⟩
      by_cases y1 : y < (k : Int)
      case neg =>
        have y1' : decide (y < (k : Int)) = false := by rw [decide_eq_false_iff_not]; exact y1
        have e := hide (show ¬ CdOk cn CC n from fun q => absurd (q.2.2 k hlt) (by rw [EC.out]; unfold stp; dsimp only; omega))
        clear y1; go_wp2_with fail
        go_ret
        exact ⟨by rw [decide_eq_false e.out]; rfl, HBY.out.alloc HBY.out.size _⟩
      by_cases z1 : z = 0
      case neg =>
        have z1' : (z == 0) = false := by simp [z1]
        have e := hide (show ¬ CdOk cn CC n from fun q => absurd (q.2.2 k hlt) (by rw [EC.out]; unfold stp; dsimp only; omega))
        clear z1; go_wp2_with fail
        go_ret
        exact ⟨by rw [decide_eq_false e.out]; rfl, HBY.out.alloc HBY.out.size _⟩
      have e := hide (show stp (CC k) k n by rw [EC.out]; unfold stp; dsimp only; omega)
      go_wp2_with fail
      go_roundw
      all_goals first
        | (simp only [intOf]; omega)
        | (simp [intOf]; omega)
        | exact ⟨k + 1, by omega, by go_num, fun j hj => by
            by_cases c : j = k
            · rw [c]; exact e.out
            · exact HS.out j (by omega), HBY.out.alloc HBY.out.size _⟩
    have x7' : (x == 7) = false := by simp [x7]
    by_cases x8 : x = 8
    · subst x8
      by_cases y0 : 0 ≤ y
      case neg =>
        have y0' : decide (0 ≤ y) = false := by rw [decide_eq_false_iff_not]; exact y0
        have e := hide (show ¬ CdOk cn CC n from fun q => absurd (q.2.2 k hlt) (by rw [EC.out]; unfold stp; dsimp only; omega))
        clear y0; go_wp2_with fail
        go_ret
        exact ⟨by rw [decide_eq_false e.out]; rfl, HBY.out.alloc HBY.out.size _⟩
      by_cases y1 : y < (k : Int)
      case neg =>
        have y1' : decide (y < (k : Int)) = false := by rw [decide_eq_false_iff_not]; exact y1
        have e := hide (show ¬ CdOk cn CC n from fun q => absurd (q.2.2 k hlt) (by rw [EC.out]; unfold stp; dsimp only; omega))
        clear y1; go_wp2_with fail
        go_ret
        exact ⟨by rw [decide_eq_false e.out]; rfl, HBY.out.alloc HBY.out.size _⟩
      by_cases z1 : z = 0
      case neg =>
        have z1' : (z == 0) = false := by simp [z1]
        have e := hide (show ¬ CdOk cn CC n from fun q => absurd (q.2.2 k hlt) (by rw [EC.out]; unfold stp; dsimp only; omega))
        clear z1; go_wp2_with fail
        go_ret
        exact ⟨by rw [decide_eq_false e.out]; rfl, HBY.out.alloc HBY.out.size _⟩
      have e := hide (show stp (CC k) k n by rw [EC.out]; unfold stp; dsimp only; omega)
      go_wp2_with fail
      go_roundw
      all_goals first
        | (simp only [intOf]; omega)
        | (simp [intOf]; omega)
        | exact ⟨k + 1, by omega, by go_num, fun j hj => by
            by_cases c : j = k
            · rw [c]; exact e.out
            · exact HS.out j (by omega), HBY.out.alloc HBY.out.size _⟩
    have x8' : (x == 8) = false := by simp [x8]
    by_cases x9 : x = 9
    · subst x9
      by_cases y0 : 0 ≤ y
      case neg =>
        have y0' : decide (0 ≤ y) = false := by rw [decide_eq_false_iff_not]; exact y0
        have e := hide (show ¬ CdOk cn CC n from fun q => absurd (q.2.2 k hlt) (by rw [EC.out]; unfold stp; dsimp only; omega))
        clear y0; go_wp2_with fail
        go_ret
        exact ⟨by rw [decide_eq_false e.out]; rfl, HBY.out.alloc HBY.out.size _⟩
      by_cases y1 : y < (k : Int)
      case neg =>
        have y1' : decide (y < (k : Int)) = false := by rw [decide_eq_false_iff_not]; exact y1
        have e := hide (show ¬ CdOk cn CC n from fun q => absurd (q.2.2 k hlt) (by rw [EC.out]; unfold stp; dsimp only; omega))
        clear y1; go_wp2_with fail
        go_ret
        exact ⟨by rw [decide_eq_false e.out]; rfl, HBY.out.alloc HBY.out.size _⟩
      by_cases z1 : z = 0
      case neg =>
        have z1' : (z == 0) = false := by simp [z1]
        have e := hide (show ¬ CdOk cn CC n from fun q => absurd (q.2.2 k hlt) (by rw [EC.out]; unfold stp; dsimp only; omega))
        clear z1; go_wp2_with fail
        go_ret
        exact ⟨by rw [decide_eq_false e.out]; rfl, HBY.out.alloc HBY.out.size _⟩
      have e := hide (show stp (CC k) k n by rw [EC.out]; unfold stp; dsimp only; omega)
      go_wp2_with fail
      go_roundw
      all_goals first
        | (simp only [intOf]; omega)
        | (simp [intOf]; omega)
        | exact ⟨k + 1, by omega, by go_num, fun j hj => by
            by_cases c : j = k
            · rw [c]; exact e.out
            · exact HS.out j (by omega), HBY.out.alloc HBY.out.size _⟩
    have x9' : (x == 9) = false := by simp [x9]
    have e := hide (show ¬ CdOk cn CC n from fun q => absurd (q.2.2 k hlt) (by rw [EC.out]; unfold stp; dsimp only; omega))
    clear x1 x2 x3 x4 x5 x6 x7 x8 x9; go_wp2_with fail
    go_ret
    exact ⟨by rw [decide_eq_false e.out]; rfl, HBY.out.alloc HBY.out.size _⟩
end Vo
end Go.Proofs.Ytgmjijjckedmcaa
