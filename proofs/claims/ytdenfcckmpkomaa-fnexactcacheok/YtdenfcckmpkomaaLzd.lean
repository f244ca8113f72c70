/- CacheOk: the program, the model. -/
import Derived.Test.YtdenfcckmpkomaaLzb
import Derived.Deep.RegionHeld3
namespace Go.Proofs.Ytdenfcckmpkomaa
namespace Vo
open Go.ChangeShapes Go.WideShapes Go.ChangeAt Go.RowKit Go.Joins Go.Sort
open Vl Vp
set_option linter.unusedVariables false
set_option linter.unusedSimpArgs false
theorem rowsA_no {n : Nat} {L : Nat → LV} {k : Nat} (hk : k < n) (h : (L k).r = (L 0).r → rowB (L k).r (L k).D = false) : decide (RowsA n L) = false :=
  decide_eq_false (fun q => by have := h (q k hk).1; rw [(q k hk).2] at this; exact Bool.noConfusion this)
theorem rowsA_up {k : Nat} {L : Nat → LV} (h : RowsA k L) (h1 : (L k).r = (L 0).r) (h2 : rowB (L k).r (L k).D = true) : RowsA (k + 1) L := fun i hi => by
  by_cases c : i = k
  · subst c; exact ⟨h1, h2⟩
  · exact h i (by omega)
set_option maxHeartbeats 1000000 in
theorem l5RowsOk (B : Nat) (a : Option Addr) (n cap : Nat) (L : Nat → LV) (w : World) (hB : B ≤ w.heap.size) (h : LL B w a n L) (hn : (n : Int) ≤ 1048576) (hl : LLen n L 1048576) :
    Calls Try.prog 60 #[.slice a n cap] w fun e w' => e = .returned (.bool (decide (RowsA n L) && decide ((n : Int) ≤ 4096))) ∧ Below w.heap.size w w' := by
  have H := hide h
  have HL := hide hl
  clear h hl
  go_enter Try.func60, Try.ntmps60
  go_wp2_with fail
  go_loopw [3] (fun i wx => ∃ k : Nat, k ≤ n ∧ i = .int .i64 k ∧ RowsA k L ∧ Below w.heap.size w wx) (fun i _ => n - (intOf i).toNat)
  case atStart => exact ⟨0, Nat.zero_le _, rfl, fun j hj => by omega, Below.refl _ _⟩
  case round =>
    obtain ⟨X, rfl⟩ : ∃ X, X = wr := ⟨_, rfl⟩
    obtain ⟨k, hk, rfl, hall, hby⟩ := hrel
    have HA := hide hall
    have HBY := hide hby
    clear hall hby
    by_cases hlt : k < n
    · have kI : (k : Int) < n := by omega
      have nI : (0 : Int) < n := by omega
      rcases H.out.below (HBY.out.mono hB) with q0 | ⟨blk, off, rfl, hbk, hc⟩
      · omega
      obtain ⟨c0, i0⟩ := hc k hlt
      have c1 := (hc 0 (by omega)).1
      rw [Nat.add_zero] at c1
      have lk := HL.out k hlt
      have CR := hide (fun q => l5RowOk B (L k).a (L k).r (L k).cap (L k).D (X.drewN q) (i0.below (below_draws _ _ _)) lk)
      clear hc i0 lk
      by_cases e0 : (L k).r = (L 0).r
      rotate_left
      · have ez := hide (rowsA_no hlt (fun e => absurd e e0))
        have e0' : (((L k).r : Int) != ((L 0).r : Int)) = true := bne_iff_ne.2 (by omega)
        clear e0
        go_wp2_with fail
        go_quiet (fail)
        go_wp2_with fail
        go_ret
        exact ⟨by rw [ez.out]; rfl, HBY.out.trans (below_draws _ _ _)⟩
      have E0 := hide e0
      have e0' : (((L k).r : Int) != ((L 0).r : Int)) = false := by rw [e0]; simp
      clear e0
      cases eB : rowB (L k).r (L k).D with
      | false =>
        have ez := hide (rowsA_no hlt (fun _ => eB))
        have CR2 := hide (show ∀ q, Calls Try.prog 97 #[.slice (L k).a (L k).r (L k).cap] (X.drewN q) fun e w' => e = .returned (.bool false) ∧ w' = X.drewN q from fun q => by have := CR.out q; rwa [eB] at this)
        clear eB CR
        go_wp2_with fail
        go_quiet (first | (go_at_call 97; exact Calls.quiet_of_same (CR2.out _)))
        go_wp2_with fail
        go_ret
        exact ⟨by rw [ez.out]; rfl, HBY.out.trans (below_draws _ _ _)⟩
      | true =>
        have ez := hide (rowsA_up HA.out E0.out eB)
        have CR2 := hide (show ∀ q, Calls Try.prog 97 #[.slice (L k).a (L k).r (L k).cap] (X.drewN q) fun e w' => e = .returned (.bool true) ∧ w' = X.drewN q from fun q => by have := CR.out q; rwa [eB] at this)
        clear eB CR
        go_wp2_with fail
        go_quiet (first | (go_at_call 97; exact Calls.quiet_of_same (CR2.out _)))
        go_wp2_with fail
        go_roundw
        all_goals first
          | (simp only [intOf]; omega)
          | (simp [intOf]; omega)
          | exact ⟨k + 1, by omega, by go_num, ez.out, HBY.out.trans (below_draws _ _ _)⟩
    · obtain rfl : k = n := by omega
      have ez := hide (show decide (RowsA k L) = true from decide_eq_true HA.out)
      go_wp2_with fail
      go_ret
      exact ⟨by rw [ez.out]; simp, HBY.out⟩
end Vo
end Go.Proofs.Ytdenfcckmpkomaa
