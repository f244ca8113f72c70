/- Place on both sides. -/
import Derived.Test.YtgcialbchmbgkaaVt
namespace Go.Proofs.Ytgcialbchmbgkaa
namespace Vo
open Go.ChangeShapes Go.WideShapes Go.ChangeAt Go.RowKit Go.Joins
open Vl Vp
set_option linter.unusedVariables false

def IOk (r : Nat) (D : Nat → Int) (q : Nat) (I : Nat → Int) : Prop := q = r ∧ ∀ j, j < r → 0 ≤ I j ∧ I j < D j
instance (r : Nat) (D : Nat → Int) (q : Nat) (I : Nat → Int) : Decidable (IOk r D q I) := by unfold IOk; infer_instance
def iok (r : Nat) (D : Nat → Int) (q : Nat) (I : Nat → Int) : Bool := decide (IOk r D q I)
theorem iok_iff {r : Nat} {D : Nat → Int} {q : Nat} {I : Nat → Int} : iok r D q I = true ↔ IOk r D q I := by unfold iok; simp
theorem iok_no {r : Nat} {D : Nat → Int} {q : Nat} {I : Nat → Int} (h : ¬ IOk r D q I) : iok r D q I = false := by unfold iok; simp [h]
def plc (r s : Nat) (D S : Nat → Int) (o n : Int) (q : Nat) (I : Nat → Int) : Int := if vok r s D S o n = true ∧ iok r D q I = true then o + sm I S q else -1

set_option maxHeartbeats 1000000 in
theorem l3IndexOk (B : Nat) (a b : Option Addr) (r q cap dap : Nat) (D I : Nat → Int) (w : World) (h : Ints B w a r D) (h' : Ints B w b q I) (hr : (r : Int) ≤ 1048576) (hs : (q : Int) ≤ 1048576) :
    Calls Try.prog 64 #[.slice a r cap, .slice b q dap] w fun e w' => e = .returned (.bool (iok r D q I)) ∧ Below w.heap.size w w' := by
  have H := hide h
  have H' := hide h'
  clear h h'
  by_cases hqr : q ≠ r
  · have hqr' : ((q : Int) != (r : Int)) = true := by rw [bne_iff_ne]; omega
    have e := hide (iok_no (r := r) (D := D) (q := q) (I := I) (fun v => hqr v.1))
    clear hqr
    go_enter Try.func64, Try.ntmps64
    go_wp2_with fail
    go_ret
    exact ⟨ret_bool e.out.symm, Below.refl _ _⟩
  obtain rfl : q = r := by omega
  clear hqr
  go_enter Try.func64, Try.ntmps64
  go_wp2_with fail
  go_loopw [5] (fun i wx => ∃ k : Nat, k ≤ q ∧ i = .int .i64 k ∧ (∀ j, j < k → 0 ≤ I j ∧ I j < D j) ∧ ∃ m, wx = w.drewN m) (fun i _ => q - (intOf i).toNat)
  case atStart => exact ⟨0, Nat.zero_le _, rfl, fun _ h => by omega, 0, rfl⟩
  case round =>
    obtain ⟨k, hk, rfl, hall, m, rfl⟩ := hrel
    have HAll := hide hall
    clear hall
    by_cases hlt : k < q
    · rcases H.out with h0 | ⟨ba, offa, rfl, hbB, hc⟩
      · omega
      rcases H'.out with h0 | ⟨bb, offb, rfl, hbB', hc'⟩
      · omega
      have c1 := (hc k hlt).1
      have c2 := (hc' k hlt).1
      have kI : (k : Int) < q := by omega
      clear hc hc'
      by_cases q1 : I k < 0
      · have q1' : decide (I k < 0) = true := by rw [decide_eq_true_iff]; exact q1
        have e := hide (iok_no (r := q) (D := D) (q := q) (I := I) (fun v => by have := (v.2 k hlt).1; omega))
        clear q1
        go_wp2_with fail
        go_quiet (fail)
        go_wp2_with fail
        go_ret
        exact ⟨ret_bool e.out.symm, below_drewN (below_drewN (Below.refl _ _) _) _⟩
      · have q1' : decide (I k < 0) = false := by rw [decide_eq_false_iff_not]; exact q1
        by_cases q2 : D k ≤ I k
        · have q2' : decide (D k ≤ I k) = true := by rw [decide_eq_true_iff]; exact q2
          have e := hide (iok_no (r := q) (D := D) (q := q) (I := I) (fun v => by have := (v.2 k hlt).2; omega))
          clear q1 q2
          go_wp2_with fail
          go_quiet (fail)
          go_wp2_with fail
          go_ret
          exact ⟨ret_bool e.out.symm, below_drewN (below_drewN (Below.refl _ _) _) _⟩
        · have q2' : decide (D k ≤ I k) = false := by rw [decide_eq_false_iff_not]; exact q2
          have hq := hide (show 0 ≤ I k ∧ I k < D k by omega)
          clear q1 q2
          go_wp2_with fail
          go_quiet (fail)
          go_wp2_with fail
          go_roundw
          case rel =>
            refine ⟨k + 1, by omega, by go_num, fun j hj => ?_, _, rfl⟩
            by_cases e : j = k
            · rw [e]; exact hq.out
            · exact HAll.out j (by omega)
          case measure => simp [intOf]; omega
    · obtain rfl : k = q := by omega
      have e := hide (show iok k D k I = true from iok_iff.2 ⟨rfl, HAll.out⟩)
      go_wp2_with fail
      go_ret
      exact ⟨ret_bool e.out.symm, below_drewN (Below.refl _ _) _⟩
end Vo
end Go.Proofs.Ytgcialbchmbgkaa
