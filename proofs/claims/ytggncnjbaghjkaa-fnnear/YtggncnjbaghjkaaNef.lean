/- What FnNear draws, and what Near and Shift answer there: at most half a unit off, and whole multiples back. -/
import Derived.Test.YtggncnjbaghjkaaDraw
import Derived.Test.YtggncnjbaghjkaaNea
namespace Go.Proofs.Ytggncnjbaghjkaa
namespace Nef
open Go.ChangeShapes Go.WideShapes Go.ChangeAt Go.RowKit Go.Joins Base
set_option linter.unusedVariables false
theorem mask10 (n : Int) : bits .and .i64 n 1023 = n % 1024 := by
  have h : (BitVec.ofInt 64 1023).toNat = 2 ^ 10 - 1 := by decide
  have key : (BitVec.ofInt 64 n &&& BitVec.ofInt 64 1023).toNat = (n % ((2 ^ 64 : Nat) : Int)).toNat % 2 ^ 10 := by
    rw [BitVec.toNat_and, BitVec.toNat_ofInt, h, Nat.and_two_pow_sub_one_eq_mod]
  show IntKind.i64.wrap ((BitVec.ofInt 64 n &&& BitVec.ofInt 64 1023).toNat : Nat) = n % 1024
  rw [key, IntKind.wrap_i64]
  omega
theorem mask16 (n : Int) : bits .and .i64 n 65535 = n % 65536 := by
  have h : (BitVec.ofInt 64 65535).toNat = 2 ^ 16 - 1 := by decide
  have key : (BitVec.ofInt 64 n &&& BitVec.ofInt 64 65535).toNat = (n % ((2 ^ 64 : Nat) : Int)).toNat % 2 ^ 16 := by
    rw [BitVec.toNat_and, BitVec.toNat_ofInt, h, Nat.and_two_pow_sub_one_eq_mod]
  show IntKind.i64.wrap ((BitVec.ofInt 64 n &&& BitVec.ofInt 64 65535).toNat : Nat) = n % 65536
  rw [key, IntKind.wrap_i64]
  omega

theorem l2Whole (B : Nat) (p : Nat) (a : Option Addr) (len cap : Nat) (w : World) (hc : Cur B w p a len cap) :
    Calls Try.prog 11 #[.pointer (some ⟨p, 0, none⟩)] w fun e w' => Drawn B p a len cap (-9223372036854775808) 9223372036854775807 w e w' := by
  have hc := Base.hide hc
  have mk := mask10
  go_enter Try.func11, Try.ntmps11
  go_wp2_with fail
  refine (l1Below B p a len cap _ _ hc.out (by omega) (by omega)).mono ?_; rintro e w0 ⟨n, n0, n1, rfl, d0, g0⟩
  go_wp2_with fail
  refine (l1Below B p a len cap _ _ d0 (by omega) (by omega)).mono ?_; rintro e w1 ⟨x, x0, x1, rfl, d1, g1⟩
  have g1 := g0.trans g1
  clear d0 g0
  by_cases h0 : x = 0
  · have z0 : (x == 0) = true := beq_iff_eq.2 h0
    have hlt := d1.lt
    have hl := laid_ints w1 [16777216, 16777217, 16777219, 33554434, 33554438, 9223372036854775807, -9223372036854775808, 4611686018427387904, 4611686293305294848, 4611686843061108736, -4611686018427387904] 3 (-9223372036854775808) 9223372036854775807 (by decide)
    have d2 := d1.alloc (.cells (([16777216, 16777217, 16777219, 33554434, 33554438, 9223372036854775807, -9223372036854775808, 4611686018427387904, 4611686293305294848, 4611686843061108736, -4611686018427387904] : List Int).map (Value.int .i64)).toArray 3)
    clear h0
    go_wp2_with fail
    refine (l1PickInt B p a len cap w1.heap.size 11 (-9223372036854775808) 9223372036854775807 _ d2 (by omega) (by omega) (by omega) hl).mono ?_; rintro e w2 ⟨y, y0, y1, rfl, d3, g3⟩
    clear d1 d2 hl
    go_wp2_with fail
    go_ret
    exact ⟨_, y0, y1, rfl, d3, (Lib.grownBy_allocR g1 _).trans g3⟩
  · have z0 : (x == 0) = false := beq_eq_false_iff_ne.2 h0
    by_cases h1 : x = 1
    · have z1 : (x == 1) = true := beq_iff_eq.2 h1
      clear h0 h1
      go_wp2_with fail
      go_ret
      exact ⟨(n - 536870912) * 8589934592, by omega, by omega, by first | rfl | exact Nea.ret_int (by simp only [wrap64]; omega), d1, g1⟩
    · have z1 : (x == 1) = false := beq_eq_false_iff_ne.2 h1
      by_cases h2 : x = 2
      · have z2 : (x == 2) = true := beq_iff_eq.2 h2
        clear h0 h1 h2
        go_wp2_with fail
        go_ret
        exact ⟨_, by omega, by omega, rfl, d1, g1⟩
      · have z2 : (x == 2) = false := beq_eq_false_iff_ne.2 h2
        clear h0 h1 h2
        go_wp2_with fail
        go_ret
        exact ⟨_, by omega, by omega, rfl, d1, g1⟩
theorem l1Once (B : Nat) (p : Nat) (a : Option Addr) (len cap : Nat) (n : Int) (w : World) (hc : Cur B w p a len cap) (n0 : 1 ≤ n) (n1 : n ≤ 2147483648) :
    Calls Try.prog 13 #[.pointer (some ⟨p, 0, none⟩), .int .i64 n] w fun e w' => ∃ b : Bool, e = .returned (.bool b) ∧ Cur B w' p a len cap ∧ w.grownBy w' (some p) := by
  have hc := Base.hide hc
  go_enter Try.func13, Try.ntmps13
  go_wp2_with fail
  refine (l1Below B p a len cap _ _ hc.out (by omega) (by omega)).mono ?_; rintro e w1 ⟨x, x0, x1, rfl, d1, g1⟩
  go_wp2_with fail
  go_ret
  exact ⟨_, rfl, d1, g1⟩
theorem drawNear (a : Option Addr) (len cap : Nat) (w : World) (hc : Base.Code w.heap.size w a len) (hlen : len ≤ 1048576) :
    Calls Try.prog 5 #[.slice a len cap] w fun e w' => DrawnTwo w e w' := by
  have HC := Base.hide hc
  clear hc
  go_enter Try.func5, Try.ntmps5
  go_wp2_with fail
  refine (l1New a len cap _ HC.out hlen).mono ?_; rintro e w1 ⟨rfl, d1, b1⟩
  go_wp2_with fail
  refine (l2Whole _ _ a len cap _ d1).mono ?_; rintro e w2 ⟨x, x0, x1, rfl, d2, g2⟩
  go_wp2_with fail
  refine (l1Below _ _ a len cap _ _ d2 (by omega) (by omega)).mono ?_; rintro e w3 ⟨r, r0, r1, rfl, d3, g3⟩
  go_wp2_with fail
  refine (l1Once _ _ a len cap _ _ d3 (by omega) (by omega)).mono ?_; rintro e w5 ⟨b, rfl, d5, g5⟩
  have gg := (g2.trans g3).trans g5
  have hlt := d5.lt
  have hl := laid_ints w5 [0, -1, 4611686018427387904, 4611686018427387905, 4611686018427387903, 3] 3 (-9223372036854775808) 9223372036854775807 (by decide)
  have d6 := d5.alloc (.cells (([0, -1, 4611686018427387904, 4611686018427387905, 4611686018427387903, 3] : List Int).map (Value.int .i64)).toArray 3)
  clear d2 d3 d5 g2 g3 g5
  cases b
  · go_wp2_with fail
    have bb := b1.trans (d1.below gg)
    clear d1 gg hl d6 HC
    go_ret2
    exact ⟨x, 1 + r, x0, x1, by omega, by omega, rfl, bb⟩
  · go_wp2_with fail
    refine (l1PickInt _ _ a len cap w5.heap.size 6 (-9223372036854775808) 9223372036854775807 _ d6 (by omega) (by omega) (by omega) hl).mono ?_; rintro e w6 ⟨y, y0, y1, rfl, d7, g7⟩
    have bb := b1.trans (d1.below ((Lib.grownBy_allocR gg _).trans g7))
    clear d1 d6 d7 hl g7 gg HC
    go_wp2_with fail
    go_ret2
    exact ⟨x, y, x0, x1, y0, y1, rfl, bb⟩
def AbsIs (x y : Int) : Prop := (y = x ∨ y = -x) ∧ 0 ≤ y
theorem absF (x : Int) (w : World) (x0 : -9223372036854775807 ≤ x) (x1 : x ≤ 9223372036854775807) :
    Calls Try.prog 7 #[.int .i64 x] w fun e w' => ∃ y : Int, AbsIs x y ∧ e = .returned (.int .i64 y) ∧ w' = w := by
  by_cases c : x < 0
  · go_enter Try.func7, Try.ntmps7
    go_wp2_with fail
    go_ret
    exact ⟨-x, ⟨.inr rfl, by omega⟩, by first | rfl | exact Nea.ret_int (by simp only [wrap64]; omega), rfl⟩
  · have c1 : decide (x < 0) = false := decide_eq_false c
    go_enter Try.func7, Try.ntmps7
    go_wp2_with fail
    go_ret
    exact ⟨x, ⟨.inl rfl, by omega⟩, rfl, rfl⟩
theorem atByte (a : Option Addr) (len cap : Nat) (i : Nat) (B : Nat) (w : World) (hc : Base.Code B w a len) (hi : i < 4) :
    Calls Try.prog 8 #[.slice a len cap, .int .i64 (i : Int)] w fun e w' => ∃ z, 0 ≤ z ∧ z ≤ 255 ∧ e = .returned (.int .i64 z) ∧ w' = w := by
  obtain ⟨l0, hc⟩ := hc
  have l1 : (len : Int) ≤ 9223372036854775807 := by omega
  have hi' : (i : Int) < 4 := by omega
  by_cases c : i < len
  · rcases hc with h0 | ⟨b, off, rfl, hB, hcell⟩
    · omega
    · obtain ⟨z, hz, z0, z1⟩ := hcell i c
      have c1 : (i : Int) < (len : Int) := by omega
      clear hcell hB l0
      go_enter Try.func8, Try.ntmps8
      go_wp2
      go_ret
      exact ⟨z, z0, z1, rfl, rfl⟩
  · have c1 : decide ((i : Int) < (len : Int)) = false := decide_eq_false (by omega)
    have hmod : Int.tmod ((i : Int) * 37) 251 = (i : Int) * 37 % 251 := Int.tmod_eq_emod_of_nonneg (by omega)
    have c2 : decide (i < len) = false := decide_eq_false c
    have c3 : len ≤ i := by omega
    clear hc
    go_enter Try.func8, Try.ntmps8
    go_wp2
    go_ret
    exact ⟨(i : Int) * 37 % 251, by omega, by omega, by first | rfl | exact Nea.ret_int (by omega), rfl⟩

/-- the rounded quotient, as the program answers it -/
def nr (n d : Int) : Int := if n.tmod d < 0 then Nea.rd (n.tdiv d - 1) (n.tmod d + d) d else Nea.rd (n.tdiv d) (n.tmod d) d
theorem nr_is (n d : Int) (d0 : 1 ≤ d) : ∃ q r : Int, n = q * d + r ∧ 0 ≤ r ∧ r < d ∧ nr n d = Nea.rd q r d := by
  have e := Int.mul_tdiv_add_tmod n d
  have m1 := Int.tmod_lt_of_pos n (by omega : 0 < d)
  have m2 : -d < n.tmod d := by
    have := Int.tmod_lt_of_pos (-n) (by omega : 0 < d)
    rw [Int.neg_tmod] at this; omega
  unfold nr
  by_cases h : n.tmod d < 0
  · rw [if_pos h]
    refine ⟨_, _, ?_, ?_, ?_, rfl⟩
    · rw [Int.sub_mul, Int.mul_comm]; omega
    · omega
    · omega
  · rw [if_neg h]
    refine ⟨_, _, ?_, ?_, ?_, rfl⟩
    · rw [Int.mul_comm]; omega
    · omega
    · omega
/-- at most half a unit off -/
theorem nr_off (n d : Int) (d0 : 1 ≤ d) : 2 * (n - nr n d * d) ≤ d ∧ -d ≤ 2 * (n - nr n d * d) := by
  obtain ⟨q, r, hn, r0, r1, hr⟩ := nr_is n d d0
  rw [hr]
  unfold Nea.rd
  split
  · rename_i h
    rw [Int.add_mul, Int.one_mul]
    generalize q * d = z at *
    omega
  · rename_i h
    generalize q * d = z at *
    omega
/-- a whole multiple comes back -/
theorem nr_mul (m d : Int) (d0 : 1 ≤ d) : nr (m * d) d = m := by
  have h1 : (m * d).tmod d = 0 := Int.mul_tmod_left m d
  have h2 : (m * d).tdiv d = m := Int.mul_tdiv_cancel m (by omega)
  unfold nr
  rw [h1, h2, if_neg (by omega)]
  unfold Nea.rd
  rw [if_neg (by omega)]
theorem nr_bd (n d : Int) (d0 : 1 ≤ d) (n0 : -1152921504606846976 ≤ n) (n1 : n ≤ 1152921504606846976) (d1 : d ≤ 1073741824) :
    -1152921504606846978 ≤ nr n d ∧ nr n d ≤ 1152921504606846978 ∧ -2000000000000000000 ≤ nr n d * d ∧ nr n d * d ≤ 2000000000000000000 := by
  have h := nr_off n d d0
  obtain ⟨q, r, hn, r0, r1, hr⟩ := nr_is n d d0
  have b2 : -1152921504606846976 - 1073741824 ≤ nr n d * d ∧ nr n d * d ≤ 1152921504606846976 + 1073741824 := by
    generalize nr n d * d = z at *; omega
  have q0 : -1152921504606846977 ≤ q ∧ q ≤ 1152921504606846976 := by
    constructor
    · rcases Int.lt_or_le q (-1152921504606846977) with hq | hq
      · have : q * d ≤ q * 1 := by
          have := Int.mul_le_mul_of_nonpos_left (a := q) (b := d) (c := 1) (by omega) (by omega)
          exact this
        have hd : q * d < -1152921504606846976 - d + 1 := by
          have h5 : (q + 1) * d ≤ (q + 1) * 1 := Int.mul_le_mul_of_nonpos_left (by omega) (by omega)
          rw [Int.add_mul, Int.one_mul] at h5
          omega
        omega
      · exact hq
    · rcases Int.lt_or_le 1152921504606846976 q with hq | hq
      · have : q * 1 ≤ q * d := Int.mul_le_mul_of_nonneg_left (by omega) (by omega)
        omega
      · exact hq
  refine ⟨?_, ?_, by omega, by omega⟩ <;> (rw [hr]; unfold Nea.rd; split <;> omega)

theorem nearF (n d : Int) (w : World) (n0 : -9223372036854775808 ≤ n) (n1 : n ≤ 9223372036854775807) (d0 : 1 ≤ d) (d1 : d ≤ 4611686018427387904) :
    Calls Try.prog 6 #[.int .i64 n, .int .i64 d] w fun e w' => e = .returned (.int .i64 (nr n d)) ∧ Below w.heap.size w w' := Nea.implNear n d w n0 n1 d0 d1
theorem pow_i (k : Nat) (h : k ≤ 19) : (1 : Int) ≤ 2 ^ k ∧ (2 : Int) ^ k ≤ 524288 := by
  have h1 : (2 : Nat) ^ k ≤ 2 ^ 19 := Nat.pow_le_pow_right (by omega) h
  have h2 : 1 ≤ (2 : Nat) ^ k := Nat.two_pow_pos k
  have h3 : (((2 : Nat) ^ k : Nat) : Int) ≤ ((2 ^ 19 : Nat) : Int) := Int.ofNat_le.2 h1
  have h4 : ((1 : Nat) : Int) ≤ (((2 : Nat) ^ k : Nat) : Int) := Int.ofNat_le.2 h2
  rw [Int.natCast_pow] at h3 h4
  exact ⟨h4, h3⟩
theorem shiftF (m : Int) (k : Nat) (w : World) (m0 : 0 ≤ m) (m1 : m < 65536) (hk : k ≤ 19) :
    Calls Try.prog 9 #[.int .i64 (m * 2 ^ k), .int .i64 (k : Int)] w fun e w' => e = .returned (.int .i64 m) ∧ Below w.heap.size w w' := by
  obtain ⟨p1, p2⟩ := pow_i k hk
  have b1 : 0 ≤ m * 2 ^ k := Int.mul_nonneg m0 (by omega)
  have b2 : m * 2 ^ k ≤ 65536 * 524288 := Int.mul_le_mul (by omega) p2 (by omega) (by omega)
  have e1 := nr_mul m (2 ^ k) p1
  have H := Base.hide (fun w => nearF (m * 2 ^ k) (2 ^ k) w (by omega) (by omega) p1 (by omega))
  rw [e1] at H
  have c1 : decide ((k : Int) < 0) = false := decide_eq_false (by omega)
  have c2 : decide ((62 : Int) < (k : Int)) = false := decide_eq_false (by omega)
  have km : min k 64 = k := by omega
  have wr : IntKind.i64.wrap ((2 : Int) ^ k) = 2 ^ k := by rw [IntKind.wrap_i64]; generalize (2 : Int) ^ k = z at *; omega
  have wr2 : wrap64 ((2 : Int) ^ k) = 2 ^ k := by simp only [wrap64]; generalize (2 : Int) ^ k = z at *; omega
  have k0 : (0 : Int) ≤ (k : Int) := Int.natCast_nonneg _
  have k1 : (k : Int) ≤ 62 := by omega
  clear e1 p1 p2 b1 b2
  go_enter Try.func9, Try.ntmps9
  go_wp2_with fail
  refine (H.out _).mono ?_; rintro e w1 ⟨rfl, b1⟩
  go_wp2_with fail
  go_ret
  exact ⟨rfl, b1⟩
end Nef
end Go.Proofs.Ytggncnjbaghjkaa
