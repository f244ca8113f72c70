/- Forms: rows of texts that are compared. -/
import Derived.Test.YtcmfglhjlifobaaPh
namespace Go.Proofs.Ytcmfglhjlifobaa
namespace Vo
open Go.ChangeShapes Go.WideShapes Go.ChangeAt Go.RowKit Go.Joins Go.Sort
open Vl Vp
set_option linter.unusedVariables false
set_option linter.unusedSimpArgs false
set_option maxRecDepth 100000 in
/-- two rows of the same texts -/
theorem eqStrings (B : Nat) (a a' : Option Addr) (n cap cap' : Nat) (T : Nat → ByteArray) (w : World) (h : StL B w a n T) (h' : StL B w a' n T) (hn : (n : Int) ≤ 1048577) :
    Calls Try.prog 7 #[.slice a n cap, .slice a' n cap'] w fun e w' => e = .returned (.bool true) ∧ Below w.heap.size w w' := by
  have H := hide h
  have H' := hide h'
  clear h h'
  have en : ((n : Int) == (n : Int)) = true := beq_self_eq_true _
  go_enter Try.func7, Try.ntmps7
  go_wp2_with fail
  go_loopw [5] (fun i wx => ∃ t : Nat, t ≤ n ∧ i = .int .i64 (t : Int) ∧ ∃ k, wx = w.drewN k) (fun i _ => n - (intOf i).toNat)
  case atStart => exact ⟨0, Nat.zero_le _, rfl, 0, rfl⟩
  case round =>
    obtain ⟨t, ht, rfl, k, rfl⟩ := hrel
    by_cases htl : t < n
    · have tI : (t : Int) < n := by omega
      rcases H.out with q | ⟨b, o, rfl, hb, hc⟩
      · omega
      rcases H'.out with q | ⟨b', o', rfl, hb', hc'⟩
      · omega
      have ct := hc t htl
      have ct' := hc' t htl
      have be : ((T t).toList == (T t).toList) = true := (Lib.bytes_beq_iff _ _).2 rfl
      clear hc hc'
      generalize T t = x at ct ct' be
      go_wp2_with fail
      go_quiet (fail)
      go_wp2_with fail
      go_roundw
      case rel => exact ⟨t + 1, by omega, by go_num, _, rfl⟩
      case measure => simp [intOf]; omega
    · have tI : decide ((t : Int) < (n : Int)) = false := decide_eq_false (by omega)
      have tI' : decide (t < n) = false := decide_eq_false (by omega)
      clear htl
      go_wp2_with fail
      go_ret
      exact ⟨rfl, below_drewN (Below.refl _ _) _⟩
end Vo
end Go.Proofs.Ytcmfglhjlifobaa
