/- FracOk on both sides: small parts and no common divisor. The parts lie in new memory: nothing that was there turns. -/
import Derived.Test.YtbbmbgjjhaajjaaGreatDoorBase
import Derived.Deep.QuietTactic
import Derived.BigQuiet
import Derived.WalkSmall
namespace Go.Proofs.YtbbmbgjjhaajjaaGreatDoor
namespace Base
open Go.ChangeShapes Go.WideShapes Go.ChangeAt Go.RowKit
set_option linter.unusedVariables false

/-- n over d can be: small parts, no common divisor -/
def okB (n d : Int) : Bool := decide (1 ≤ d ∧ d ≤ 32767 ∧ -32767 ≤ n ∧ n ≤ 32767 ∧ Int.gcd d n = 1)
theorem okB_out {n d : Int} (h : d < 1 ∨ 32767 < d ∨ n < -32767 ∨ 32767 < n) : false = okB n d := by
  unfold okB; symm; rw [decide_eq_false_iff_not]; omega
theorem okB_in {n d : Int} (h1 : 1 ≤ d) (h2 : d ≤ 32767) (h3 : -32767 ≤ n) (h4 : n ≤ 32767) : decide (Int.gcd d n = 1) = okB n d := by
  unfold okB; simp only [h1, h2, h3, h4, true_and]

theorem bcell {W w1 : World} (hb : Below W.heap.size W w1) : (∀ b o, b < W.heap.size → w1.cell? ⟨b, o, none⟩ = W.cell? ⟨b, o, none⟩) ∧ (∀ b o, b < W.heap.size → w1.frozen? ⟨b, o, none⟩ = W.frozen? ⟨b, o, none⟩) :=
  ⟨fun b o h => hb.cell (p := ⟨b, o, none⟩) h, fun b o h => hb.frozen (p := ⟨b, o, none⟩) h⟩


theorem lowest (n d : Int) (w : World) (n0 : -32767 ≤ n) (n1 : n ≤ 32767) (d0 : -32767 ≤ d) (d1 : d ≤ 32767) :
    Calls Tryz.prog 95 #[.agg #[.int .i64 n, .int .i64 d]] w fun e w' => e = .returned (.bool (decide (Int.gcd d n = 1))) ∧ Below w.heap.size w w' := by
  go_enter Tryz.func95, Tryz.ntmps95
  go_wp2_with fail
  go_quiet (fail)
  go_wp2_with fail
  go_loopw [3, 4] (fun a b w' => ∃ x y : Int, -32767 ≤ x ∧ x ≤ 32767 ∧ -32767 ≤ y ∧ y ≤ 32767 ∧ a = .int .i64 x ∧ b = .int .i64 y ∧ Hid (Int.gcd x y = Int.gcd d n) ∧ Below w.heap.size w w') (fun _ b _ => (intOf b).natAbs)
  case atStart => exact ⟨d, n, d0, d1, n0, n1, rfl, rfl, rfl, below_drewN ((Below.refl _ _).alloc (Nat.le_refl _) _) _⟩
  case round =>
    obtain ⟨x, y, x0, x1, y0, y1, rfl, rfl, hg, hw⟩ := hrel
    by_cases hy : y = 0
    · subst hy
      have e : Hid (decide (x.natAbs = 1) = decide (Int.gcd d n = 1)) := by
        show _ = _
        rw [← hg.out, Int.gcd_zero_right]
      clear hg
      go_wp2_with fail
      · go_ret
        exact ⟨ret_bool (by rw [← e.out]; subst x; rfl), hw⟩
      · go_ret
        exact ⟨ret_bool (by rw [← e.out, Bool.eq_iff_iff]; simp; omega), hw⟩
    · have z1 : (y == 0) = false := beq_eq_false_iff_ne.2 hy
      have z2 : (y != 0) = true := by rw [bne_iff_ne]; exact hy
      have r := Num.tmod_lt x y hy
      have r0 : -32767 ≤ x.tmod y := by omega
      have r1 : x.tmod y ≤ 32767 := by omega
      have e : Hid (Int.gcd y (x.tmod y) = Int.gcd d n) := by
        show _ = _
        rw [Num.gcd_tmod, hg.out]
      clear hg
      go_wp2_with fail
      go_quiet (fail)
      go_wp2_with fail
      go_roundw
      case rel => exact ⟨y, x.tmod y, y0, y1, r0, r1, rfl, rfl, e, below_drewN hw _⟩
      case measure => simp only [intOf]; exact r


theorem implFracOk (n d : Int) (w : World) :
    Calls Tryz.prog 81 #[.agg #[.int .i64 n, .int .i64 d]] w fun e w' => e = .returned (.bool (okB n d)) ∧ Below w.heap.size w w' := by
  by_cases h1 : d < 1
  · have e := hide (okB_out (n := n) (d := d) (by omega))
    go_enter Tryz.func81, Tryz.ntmps81
    go_wp2
    go_ret
    exact ⟨ret_bool e.out, (Below.refl _ _).alloc (Nat.le_refl _) _⟩
  · by_cases h2 : 32767 < d
    · have e := hide (okB_out (n := n) (d := d) (by omega))
      go_enter Tryz.func81, Tryz.ntmps81
      go_wp2
      go_ret
      exact ⟨ret_bool e.out, (Below.refl _ _).alloc (Nat.le_refl _) _⟩
    · by_cases h3 : n < -32767
      · have e := hide (okB_out (n := n) (d := d) (by omega))
        go_enter Tryz.func81, Tryz.ntmps81
        go_wp2
        go_ret
        exact ⟨ret_bool e.out, (Below.refl _ _).alloc (Nat.le_refl _) _⟩
      · by_cases h4 : 32767 < n
        · have e := hide (okB_out (n := n) (d := d) (by omega))
          go_enter Tryz.func81, Tryz.ntmps81
          go_wp2
          go_ret
          exact ⟨ret_bool e.out, (Below.refl _ _).alloc (Nat.le_refl _) _⟩
        · have e := hide (okB_in (n := n) (d := d) (by omega) (by omega) (by omega) (by omega))
          go_enter Tryz.func81, Tryz.ntmps81
          go_wp2_with fail
          refine (lowest n d _ (by omega) (by omega) (by omega) (by omega)).mono ?_; rintro e w' ⟨rfl, hb⟩
          go_wp2_with fail
          go_ret
          exact ⟨ret_bool e.out, ((Below.refl _ _).alloc (Nat.le_refl _) _).trans (hb.mono (by simp))⟩


end Base
end Go.Proofs.YtbbmbgjjhaajjaaGreatDoor
