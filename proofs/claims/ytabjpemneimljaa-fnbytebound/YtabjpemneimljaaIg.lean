/- Lists of reals and of bytes on the model's side; the least and the greatest of a list; Calibrate on both sides. -/
import Derived.Test.YtabjpemneimljaaIe
namespace Go.Proofs.Ytabjpemneimljaa
namespace Vo
open Go.ChangeShapes Go.WideShapes Go.ChangeAt Go.RowKit Go.Joins Go.Sort
open Vl
set_option linter.unusedVariables false
set_option linter.unusedSimpArgs false
/-- reals, at least one, not too many -/
def rls (r : Nat) (S : Nat → Int) : Bool := ib (-1099511627776) 1099511627776 r S && decide (0 < (r : Int) ∧ (r : Int) ≤ 4096)
/-- bytes, not too many -/
def bys (r : Nat) (S : Nat → Int) : Bool := ib 0 255 r S && decide ((r : Int) ≤ 4096)
set_option maxHeartbeats 1000000 in
theorem realsS (B : Nat) (a : Option Addr) (r cap : Nat) (S : Nat → Int) (w : World) (hB : B ≤ w.heap.size) (h : Ints B w a r S) (hr : (r : Int) ≤ 1048576) :
    Calls Try.prog 43 #[.slice a r cap] w fun e w' => e = .returned (.bool (rls r S)) ∧ Below w.heap.size w w' := by
  have H := hide h
  clear h
  go_enter Try.func43, Try.ntmps43
  go_wp2_with fail
  go_loopw [3] (fun i wx => ∃ k : Nat, k ≤ r ∧ i = .int .i64 k ∧ (∀ j, j < k → -1099511627776 ≤ S j ∧ S j ≤ 1099511627776) ∧ Below w.heap.size w wx) (fun i _ => r - (intOf i).toNat)
  case atStart => exact ⟨0, Nat.zero_le _, rfl, fun j hj => by omega, Below.refl _ _⟩
  case round =>
    obtain ⟨k, hk, rfl, hall, bb⟩ := hrel
    have HA := hide hall
    have BB := hide bb
    clear hall
    by_cases hlt : k < r
    · have HH := H.out.below (bb.mono hB)
      obtain hz | ⟨b, off, rfl, hb, hc⟩ := HH
      · omega
      have c1 := (hc k hlt).1
      have kI : (k : Int) < (r : Int) := by omega
      clear hc bb hb
      by_cases hq : -1099511627776 ≤ S k ∧ S k ≤ 1099511627776
      · have C := hide (fun w => gRealS (S k) true (decide_eq_true hq) w)
        have f := hide (show ∀ j, j < k + 1 → -1099511627776 ≤ S j ∧ S j ≤ 1099511627776 from fun j hj => by
          by_cases ej : j = k
          · subst ej; exact hq
          · exact HA.out j (by omega))
        clear hq
        go_wp2_with fail
        refine (C.out _).mono ?_
        rintro e1 w1 ⟨rfl, b1⟩
        go_wp2_with fail
        go_roundw
        case rel => exact ⟨k + 1, by omega, by go_num, f.out, BB.out.trans (b1.mono BB.out.size)⟩
        case measure => simp [intOf]; omega
      · have C := hide (fun w => gRealS (S k) false (decide_eq_false hq) w)
        have f := hide (show rls r S = false by
          unfold rls
          rw [show ib (-1099511627776) 1099511627776 r S = false from decide_eq_false (fun q => hq (q k hlt))]
          rfl)
        clear hq
        go_wp2_with fail
        refine (C.out _).mono ?_
        rintro e1 w1 ⟨rfl, b1⟩
        go_wp2_with fail
        go_ret
        exact ⟨ret_bool f.out.symm, BB.out.trans (b1.mono BB.out.size)⟩
    · obtain rfl : k = r := by omega
      clear bb
      have lk : decide ((k : Int) < (k : Int)) = false := decide_eq_false (by omega)
      by_cases h0 : 0 < (k : Int)
      · have f := hide (show rls k S = decide ((k : Int) ≤ 4096) by
          unfold rls
          rw [show ib (-1099511627776) 1099511627776 k S = true from decide_eq_true HA.out, Bool.true_and, decide_eq_decide]
          exact ⟨fun h => h.2, fun h => ⟨h0, h⟩⟩)
        go_wp2_with fail
        go_ret
        exact ⟨ret_bool f.out.symm, BB.out⟩
      · obtain rfl : k = 0 := by omega
        have f := hide (show rls 0 S = false by
          unfold rls
          rw [decide_eq_false (p := 0 < ((0 : Nat) : Int) ∧ ((0 : Nat) : Int) ≤ 4096) (fun h => h0 h.1), Bool.and_false])
        clear h0 lk
        go_wp2_with fail
        go_ret
        exact ⟨ret_bool f.out.symm, BB.out⟩
end Vo
end Go.Proofs.Ytabjpemneimljaa
