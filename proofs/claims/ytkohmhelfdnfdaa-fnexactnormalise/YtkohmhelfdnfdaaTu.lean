/- The model's l5Sum. -/
import Derived.Test.YtkohmhelfdnfdaaTs
namespace Go.Proofs.Ytkohmhelfdnfdaa
namespace Vo
open Go.ChangeShapes Go.WideShapes Go.ChangeAt Go.RowKit Go.Joins Go.Sort
open Vl Vp Vr
set_option linter.unusedVariables false
set_option linter.unusedSimpArgs false
theorem l5Sum (g len cap : Nat) (L : Nat → Int) (w : World) (hr : Rw w g len L) (hL : WI len L 2147483647) (hlen : (len : Int) ≤ 4096) :
    Calls Try.prog 45 #[.slice (some ⟨g, 0, none⟩) len cap] w fun e w' => e = .returned (.int .i64 (scanS L len)) ∧ w' = w := by
  have HL := hide hL
  have RL := hide hr
  clear hL hr
  go_enter Try.func45, Try.ntmps45
  go_wp2_with fail
  go_loopw [3, 4] (fun v i wx => ∃ t : Nat, t ≤ len ∧ i = .int .i64 t ∧ v = .int .i64 (scanS L t) ∧ wx = w) (fun _ i _ => len - (intOf i).toNat)
  case atStart => exact ⟨0, Nat.zero_le _, rfl, rfl, rfl⟩
  case round =>
    obtain ⟨t, ht, rfl, rfl, hw⟩ := hrel
    subst hw
    by_cases hlt : t < len
    · have tI : (t : Int) < len := by omega
      obtain ⟨c1, f1, _⟩ := RL.out t hlt
      have b1 := HL.out t hlt
      have b2 := scanS_rng L t
      go_wp2_with fail
      refine (Base.specPlus (scanS L t) (L t) _ (by omega) (by omega) (by omega) (by omega)).mono ?_
      rintro e w1 ⟨rfl, rfl⟩
      go_wp2_with fail
      go_roundw
      case rel => exact ⟨t + 1, by omega, by go_num, rfl, by first | rfl | trivial⟩
      case measure => simp [intOf]; omega
    · obtain rfl : t = len := by omega
      go_wp2_with fail
      go_ret
      exact ⟨rfl, by first | rfl | trivial⟩
end Vo
end Go.Proofs.Ytkohmhelfdnfdaa
