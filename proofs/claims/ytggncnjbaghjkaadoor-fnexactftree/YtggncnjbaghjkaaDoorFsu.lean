/- Sums of lists of floats, in order: both sides. -/
import Derived.Test.YtggncnjbaghjkaaDoorAdd
import Derived.Test.YtggncnjbaghjkaaDoorVl
namespace Go.Proofs.YtggncnjbaghjkaaDoor
namespace FlV
open Go.ChangeShapes Go.WideShapes Go.ChangeAt Go.RowKit Go.Joins
open Flo (hide ret_int ret_bool)
set_option linter.unusedVariables false
/-- a sum that both sides return -/
def IsAdd (add : Int → Int → Int) : Prop :=
  ∀ a b, (∀ w, Calls Tryd.prog 6 #[.int .i64 a, .int .i64 b] w fun e w' => e = .returned (.int .i64 (add a b)) ∧ Below w.heap.size w w') ∧
    (∀ w, SV w → Calls Tryd.prog 7 #[.int .i64 a, .int .i64 b] w fun e w' => e = .returned (.int .i64 (add a b)) ∧ Below w.heap.size w w')
theorem addFun : ∃ add, IsAdd add := ⟨fun a b => Classical.choose (addBoth a b), fun a b => Classical.choose_spec (addBoth a b)⟩
def sumR (add : Int → Int → Int) (D : Nat → Int) : Nat → Int
  | 0 => 0
  | k + 1 => add (sumR add D k) (D k)
theorem specFSum (add : Int → Int → Int) (hadd : IsAdd add) (B : Nat) (a : Option Addr) (r cap : Nat) (D : Nat → Int) (w : World) (h : Vl.Ints B w a r D) (hB : B ≤ w.heap.size) (hr : (r : Int) ≤ 1048576) :
    Calls Tryd.prog 8 #[.slice a r cap] w fun e w' => e = .returned (.int .i64 (sumR add D r)) ∧ Below w.heap.size w w' := by
  have HA := hide (fun x y w => (hadd x y).1 w)
  have H := hide h
  clear h hadd
  go_enter Tryd.func8, Tryd.ntmps8
  go_wp2_with fail
  go_loopw [3, 4] (fun s i wx => ∃ j : Nat, j ≤ r ∧ s = .int .i64 (sumR add D j) ∧ i = .int .i64 (j : Int) ∧ Below w.heap.size w wx) (fun _ i _ => r - (intOf i).toNat)
  case atStart => exact ⟨0, by omega, rfl, rfl, Below.refl _ _⟩
  case round =>
    obtain ⟨j, hj, rfl, rfl, bb⟩ := hrel
    by_cases hlt : j < r
    · have HH := H.out.below (bb.mono hB)
      obtain hz | ⟨b, off, rfl, hb, hc⟩ := HH
      · omega
      · obtain ⟨c1, c2⟩ := hc j hlt
        have BB := hide bb
        have jr : (j : Int) < (r : Int) := by omega
        have hn : sumR add D (j + 1) = add (sumR add D j) (D j) := rfl
        have HN := hide hn
        clear hc bb hn H hb
        generalize hsj : sumR add D j = sj at *
        generalize hdj : D j = dj at *
        go_wp2_with fail
        refine (HA.out _ _ _).mono ?_; rintro e' w1 ⟨rfl, b1⟩
        go_wp2_with fail
        go_roundw
        case rel => exact ⟨j + 1, by omega, by rw [HN.out], by go_num, BB.out.trans (b1.mono BB.out.size)⟩
        case measure => simp [intOf]; omega
    · obtain rfl : j = r := by omega
      have hlt' : decide ((j : Int) < (j : Int)) = false := decide_eq_false (by omega)
      clear H hlt
      go_wp2_with fail
      go_ret
      exact ⟨rfl, bb⟩
theorem fSum (add : Int → Int → Int) (hadd : IsAdd add) (B : Nat) (a : Option Addr) (r cap : Nat) (D : Nat → Int) (w : World) (hv : SV w) (h : Vl.Ints B w a r D) (hB : B ≤ w.heap.size) (hr : (r : Int) ≤ 1048576) :
    Calls Tryd.prog 10 #[.slice a r cap] w fun e w' => e = .returned (.int .i64 (sumR add D r)) ∧ Below w.heap.size w w' := by
  have HA := hide (fun x y w => (hadd x y).2 w)
  have H := hide h
  have HV := hide hv
  obtain ⟨v0, v1⟩ := hv.cells
  clear h hadd hv
  go_enter Tryd.func10, Tryd.ntmps10
  go_wp2_with fail
  refine (FlP.zeroS 0 _ (by decide) (by decide)).mono ?_; rintro e' w0 ⟨rfl, b0⟩
  clear v0 v1
  go_wp2_with fail
  go_loopw [3, 10] (fun s i wx => ∃ j : Nat, j ≤ r ∧ s = .int .i64 (sumR add D j) ∧ i = .int .i64 (j : Int) ∧ Below w.heap.size w wx) (fun _ i _ => r - (intOf i).toNat)
  case atStart => exact ⟨0, by omega, rfl, rfl, b0⟩
  case round =>
    obtain ⟨j, hj, rfl, rfl, bb⟩ := hrel
    by_cases hlt : j < r
    · have HH := H.out.below (bb.mono hB)
      obtain hz | ⟨b, off, rfl, hb, hc⟩ := HH
      · omega
      · obtain ⟨c1, c2⟩ := hc j hlt
        have BB := hide bb
        have HV1 := hide (HV.out.below bb)
        have jr : (j : Int) < (r : Int) := by omega
        have hn : sumR add D (j + 1) = add (sumR add D j) (D j) := rfl
        have HN := hide hn
        clear hc bb hn H hb HV
        generalize hsj : sumR add D j = sj at *
        generalize hdj : D j = dj at *
        go_wp2_with fail
        refine (HA.out _ _ _ HV1.out).mono ?_; rintro e' w1 ⟨rfl, b1⟩
        go_wp2_with fail
        go_roundw
        case rel => exact ⟨j + 1, by omega, by rw [HN.out], by go_num, BB.out.trans (b1.mono BB.out.size)⟩
        case measure => simp [intOf]; omega
    · obtain rfl : j = r := by omega
      have hlt' : decide ((j : Int) < (j : Int)) = false := decide_eq_false (by omega)
      clear H hlt HV
      go_wp2_with fail
      go_ret
      exact ⟨rfl, bb⟩
end FlV
end Go.Proofs.YtggncnjbaghjkaaDoor
