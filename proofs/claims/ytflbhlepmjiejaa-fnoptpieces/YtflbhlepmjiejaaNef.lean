/- What FnNear draws, and what Near and Shift answer there: at most half a unit off, and whole multiples back. -/
import Derived.Test.YtflbhlepmjiejaaDraw
import Derived.Test.YtflbhlepmjiejaaNea
namespace Go.Proofs.Ytflbhlepmjiejaa
namespace Nef
open Go.ChangeShapes Go.WideShapes Go.ChangeAt Go.RowKit Go.Joins Base
set_option linter.unusedVariables false
theorem mask10 (n : Int) : bits .and .i64 n 1023 = n % 1024 := by
  have h : (BitVec.ofInt 64 1023).toNat = 2 ^ 10 - 1 := by decide
  have key : (BitVec.ofInt 64 n &&& BitVec.ofInt 64 1023).toNat = (n % ((2 ^ 64 : Nat) : Int)).toNat % 2 ^ 10 := by
    rw [BitVec.toNat_and, BitVec.toNat_ofInt, h, Nat.and_two_pow_sub_one_eq_mod]
  show IntKind.i64.wrap ((BitVec.ofInt 64 n &&& BitVec.ofInt 64 1023).toNat : Nat) = n % 1024
  rw [key, IntKind.wrap_i64]
  omega
theorem mask16 (n : Int) : bits .and .i64 n 65535 = n % 65536 := by
  have h : (BitVec.ofInt 64 65535).toNat = 2 ^ 16 - 1 := by decide
  have key : (BitVec.ofInt 64 n &&& BitVec.ofInt 64 65535).toNat = (n % ((2 ^ 64 : Nat) : Int)).toNat % 2 ^ 16 := by
    rw [BitVec.toNat_and, BitVec.toNat_ofInt, h, Nat.and_two_pow_sub_one_eq_mod]
  show IntKind.i64.wrap ((BitVec.ofInt 64 n &&& BitVec.ofInt 64 65535).toNat : Nat) = n % 65536
  rw [key, IntKind.wrap_i64]
  omega

theorem l1Once (B : Nat) (p : Nat) (a : Option Addr) (len cap : Nat) (n : Int) (w : World) (hc : Cur B w p a len cap) (n0 : 1 ≤ n) (n1 : n ≤ 2147483648) :
    Calls Try.prog 40 #[.pointer (some ⟨p, 0, none⟩), .int .i64 n] w fun e w' => ∃ b : Bool, e = .returned (.bool b) ∧ Cur B w' p a len cap ∧ w.grownBy w' (some p) := by
  have hc := Base.hide hc
  go_enter Try.func40, Try.ntmps40
  go_wp2_with fail
  refine (l1Below B p a len cap _ _ hc.out (by omega) (by omega)).mono ?_; rintro e w1 ⟨x, x0, x1, rfl, d1, g1⟩
  go_wp2_with fail
  go_ret
  exact ⟨_, rfl, d1, g1⟩
def AbsIs (x y : Int) : Prop := (y = x ∨ y = -x) ∧ 0 ≤ y
theorem atByte (a : Option Addr) (len cap : Nat) (i : Nat) (B : Nat) (w : World) (hc : Base.Code B w a len) (hi : i < 4) :
    Calls Try.prog 9 #[.slice a len cap, .int .i64 (i : Int)] w fun e w' => ∃ z, 0 ≤ z ∧ z ≤ 255 ∧ e = .returned (.int .i64 z) ∧ w' = w := by
  obtain ⟨l0, hc⟩ := hc
  have l1 : (len : Int) ≤ 9223372036854775807 := by omega
  have hi' : (i : Int) < 4 := by omega
  by_cases c : i < len
  · rcases hc with h0 | ⟨b, off, rfl, hB, hcell⟩
    · omega
    · obtain ⟨z, hz, z0, z1⟩ := hcell i c
      have c1 : (i : Int) < (len : Int) := by omega
      clear hcell hB l0
      go_enter Try.func9, Try.ntmps9
      go_wp2
      go_ret
      exact ⟨z, z0, z1, rfl, rfl⟩
  · have c1 : decide ((i : Int) < (len : Int)) = false := decide_eq_false (by omega)
    have hmod : Int.tmod ((i : Int) * 37) 251 = (i : Int) * 37 % 251 := Int.tmod_eq_emod_of_nonneg (by omega)
    have c2 : decide (i < len) = false := decide_eq_false c
    have c3 : len ≤ i := by omega
    clear hc
    go_enter Try.func9, Try.ntmps9
    go_wp2
    go_ret
    exact ⟨(i : Int) * 37 % 251, by omega, by omega, by first | rfl | exact Nea.ret_int (by omega), rfl⟩

/-- the rounded quotient, as the program answers it -/
def nr (n d : Int) : Int := if n.tmod d < 0 then Nea.rd (n.tdiv d - 1) (n.tmod d + d) d else Nea.rd (n.tdiv d) (n.tmod d) d
theorem nr_is (n d : Int) (d0 : 1 ≤ d) : ∃ q r : Int, n = q * d + r ∧ 0 ≤ r ∧ r < d ∧ nr n d = Nea.rd q r d := by
  have e := Int.mul_tdiv_add_tmod n d
  have m1 := Int.tmod_lt_of_pos n (by omega : 0 < d)
  have m2 : -d < n.tmod d := by
    have := Int.tmod_lt_of_pos (-n) (by omega : 0 < d)
    rw [Int.neg_tmod] at this; omega
  unfold nr
  by_cases h : n.tmod d < 0
  · rw [if_pos h]
    refine ⟨_, _, ?_, ?_, ?_, rfl⟩
    · rw [Int.sub_mul, Int.mul_comm]; omega
    · omega
    · omega
  · rw [if_neg h]
    refine ⟨_, _, ?_, ?_, ?_, rfl⟩
    · rw [Int.mul_comm]; omega
    · omega
    · omega
/-- at most half a unit off -/
theorem nr_off (n d : Int) (d0 : 1 ≤ d) : 2 * (n - nr n d * d) ≤ d ∧ -d ≤ 2 * (n - nr n d * d) := by
  obtain ⟨q, r, hn, r0, r1, hr⟩ := nr_is n d d0
  rw [hr]
  unfold Nea.rd
  split
  · rename_i h
    rw [Int.add_mul, Int.one_mul]
    generalize q * d = z at *
    omega
  · rename_i h
    generalize q * d = z at *
    omega
/-- a whole multiple comes back -/
theorem nr_mul (m d : Int) (d0 : 1 ≤ d) : nr (m * d) d = m := by
  have h1 : (m * d).tmod d = 0 := Int.mul_tmod_left m d
  have h2 : (m * d).tdiv d = m := Int.mul_tdiv_cancel m (by omega)
  unfold nr
  rw [h1, h2, if_neg (by omega)]
  unfold Nea.rd
  rw [if_neg (by omega)]
theorem nr_bd (n d : Int) (d0 : 1 ≤ d) (n0 : -1152921504606846976 ≤ n) (n1 : n ≤ 1152921504606846976) (d1 : d ≤ 1073741824) :
    -1152921504606846978 ≤ nr n d ∧ nr n d ≤ 1152921504606846978 ∧ -2000000000000000000 ≤ nr n d * d ∧ nr n d * d ≤ 2000000000000000000 := by
  have h := nr_off n d d0
  obtain ⟨q, r, hn, r0, r1, hr⟩ := nr_is n d d0
  have b2 : -1152921504606846976 - 1073741824 ≤ nr n d * d ∧ nr n d * d ≤ 1152921504606846976 + 1073741824 := by
    generalize nr n d * d = z at *; omega
  have q0 : -1152921504606846977 ≤ q ∧ q ≤ 1152921504606846976 := by
    constructor
    · rcases Int.lt_or_le q (-1152921504606846977) with hq | hq
      · have : q * d ≤ q * 1 := by
          have := Int.mul_le_mul_of_nonpos_left (a := q) (b := d) (c := 1) (by omega) (by omega)
          exact this
        have hd : q * d < -1152921504606846976 - d + 1 := by
          have h5 : (q + 1) * d ≤ (q + 1) * 1 := Int.mul_le_mul_of_nonpos_left (by omega) (by omega)
          rw [Int.add_mul, Int.one_mul] at h5
          omega
        omega
      · exact hq
    · rcases Int.lt_or_le 1152921504606846976 q with hq | hq
      · have : q * 1 ≤ q * d := Int.mul_le_mul_of_nonneg_left (by omega) (by omega)
        omega
      · exact hq
  refine ⟨?_, ?_, by omega, by omega⟩ <;> (rw [hr]; unfold Nea.rd; split <;> omega)

theorem nearF (n d : Int) (w : World) (n0 : -9223372036854775808 ≤ n) (n1 : n ≤ 9223372036854775807) (d0 : 1 ≤ d) (d1 : d ≤ 4611686018427387904) :
    Calls Try.prog 68 #[.int .i64 n, .int .i64 d] w fun e w' => e = .returned (.int .i64 (nr n d)) ∧ Below w.heap.size w w' := Nea.implNear n d w n0 n1 d0 d1
theorem pow_i (k : Nat) (h : k ≤ 19) : (1 : Int) ≤ 2 ^ k ∧ (2 : Int) ^ k ≤ 524288 := by
  have h1 : (2 : Nat) ^ k ≤ 2 ^ 19 := Nat.pow_le_pow_right (by omega) h
  have h2 : 1 ≤ (2 : Nat) ^ k := Nat.two_pow_pos k
  have h3 : (((2 : Nat) ^ k : Nat) : Int) ≤ ((2 ^ 19 : Nat) : Int) := Int.ofNat_le.2 h1
  have h4 : ((1 : Nat) : Int) ≤ (((2 : Nat) ^ k : Nat) : Int) := Int.ofNat_le.2 h2
  rw [Int.natCast_pow] at h3 h4
  exact ⟨h4, h3⟩
end Nef
end Go.Proofs.Ytflbhlepmjiejaa
