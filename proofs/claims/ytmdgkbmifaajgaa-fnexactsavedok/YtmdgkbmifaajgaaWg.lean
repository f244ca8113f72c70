/- The told generator on both sides (written by tools/gen16.py). -/
import Derived.Test.YtmdgkbmifaajgaaIe
namespace Go.Proofs.Ytmdgkbmifaajgaa
namespace Vo
open Go.ChangeShapes Go.WideShapes Go.ChangeAt Go.RowKit Go.Joins Go.Sort
open Vl
set_option linter.unusedVariables false
set_option linter.unusedSimpArgs false
theorem wid (x : Int) (h : -9223372036854775808 ≤ x ∧ x ≤ 9223372036854775807) : IntKind.i64.wrap x = x := by rw [IntKind.wrap_i64]; omega
/-- the next state -/
def stn (s : Int) : Int := (1664525 * s + 1013904223) % 4294967296
theorem stn_rng (s : Int) : 0 ≤ stn s ∧ stn s ≤ 4294967295 := by unfold stn; omega
/-- a state that can be -/
def stOk (s : Int) : Bool := decide (0 ≤ s ∧ s ≤ 4294967295)
/-- a number below n, by the next state -/
def blw (s n : Int) : Int := stn s * n / 4294967296
theorem mul_st {s n : Int} (n0 : 0 ≤ n) (n1 : n ≤ 2147483648) : 0 ≤ stn s * n ∧ stn s * n ≤ 9223372034707292160 := by
  obtain ⟨a, b⟩ := stn_rng s
  refine ⟨Int.mul_nonneg a n0, ?_⟩
  calc stn s * n ≤ 4294967295 * n := Int.mul_le_mul_of_nonneg_right b n0
    _ ≤ 9223372034707292160 := by omega
theorem blw_rng {s n : Int} (n0 : 1 ≤ n) (n1 : n ≤ 2147483648) : 0 ≤ blw s n ∧ blw s n < n := by
  obtain ⟨a, b⟩ := stn_rng s
  obtain ⟨c, d⟩ := mul_st (s := s) (n := n) (by omega) n1
  unfold blw
  have : stn s * n ≤ 4294967295 * n := Int.mul_le_mul_of_nonneg_right b (by omega)
  omega
theorem mask32 (n : Int) : bits .and .i64 n 4294967295 = n % 4294967296 := by
  have key : (BitVec.ofInt 64 n &&& BitVec.ofInt 64 4294967295).toNat = (n % ((2 ^ 64 : Nat) : Int)).toNat % 2 ^ 32 := by
    rw [BitVec.toNat_and, BitVec.toNat_ofInt, show (BitVec.ofInt 64 4294967295).toNat = 2 ^ 32 - 1 by decide, Nat.and_two_pow_sub_one_eq_mod]
  show IntKind.i64.wrap ((BitVec.ofInt 64 n &&& BitVec.ofInt 64 4294967295).toNat : Nat) = n % 4294967296
  rw [key, IntKind.wrap_i64]
  omega
theorem st_wid {s : Int} : IntKind.i64.wrap (stn s) = stn s := wid _ (by have := stn_rng s; omega)
theorem u32_id {s : Int} (h : 0 ≤ s ∧ s ≤ 4294967295) : IntKind.u32.wrap s = s := by rw [IntKind.wrap_u32]; omega
theorem u32_next (s : Int) : IntKind.u32.wrap (IntKind.u32.wrap (1664525 * s) + 1013904223) = stn s := by
  rw [IntKind.wrap_u32, IntKind.wrap_u32]; unfold stn; omega
theorem stateS (s : Int) (b : Bool) (hb : stOk s = b) (w : World) :
    Calls Try.prog 20 #[.int .i64 s] w fun e w' => e = .returned (.bool b) ∧ Below w.heap.size w w' := by
  by_cases c1 : 0 ≤ s
  · have e := hide (show decide (s < 4294967296) = b by rw [← hb]; unfold stOk; rw [decide_eq_decide]; omega)
    clear hb
    go_enter Try.func20, Try.ntmps20
    go_wp2_with fail
    go_ret
    exact ⟨ret_bool e.out, Below.refl _ _⟩
  · have e := hide (show false = b by rw [← hb]; unfold stOk; rw [decide_eq_false]; omega)
    have c1' : decide (0 ≤ s) = false := decide_eq_false c1
    clear c1 hb
    go_enter Try.func20, Try.ntmps20
    go_wp2_with fail
    go_ret
    exact ⟨ret_bool e.out, Below.refl _ _⟩
theorem stateI (s : Int) (b : Bool) (hs : bd s) (hb : stOk s = b) (w : World) :
    Calls Try.prog 25 #[.int .i64 s] w fun e w' => e = .returned (.bool b) ∧ Below w.heap.size w w' := by
  have C := hide (fun w => inB_one 0 4294967295 s b _ w (by decide) hs hb rfl)
  clear hb hs
  go_enter Try.func25, Try.ntmps25
  go_wp2_with fail
  refine (C.out _).mono ?_; rintro e1 w1 ⟨rfl, b1⟩
  go_wp2_with fail
  go_ret
  exact ⟨rfl, b1⟩
end Vo
end Go.Proofs.Ytmdgkbmifaajgaa
