/- What the laws on floats draw. -/
import Derived.Test.YtmghmcnihiepiaaDoorSid
namespace Go.Proofs.YtmghmcnihiepiaaDoor
namespace FlV
open Go.ChangeShapes Go.WideShapes Go.ChangeAt Go.RowKit Go.Joins
open Base (Cur Drawn DrawnTwo l1Byte l1Below l1PickInt laid_ints l1New)
open Flo (hide ret_int ret_bool)
set_option linter.unusedVariables false
theorem bits_bd (o : BinOp) (x y : Int) (h : ∃ z : Int, bits o .i64 x y = IntKind.i64.wrap z) : -9223372036854775808 ≤ bits o .i64 x y ∧ bits o .i64 x y ≤ 9223372036854775807 := by
  obtain ⟨z, hz⟩ := h
  rw [hz, IntKind.wrap_i64]; omega
theorem below32 (B : Nat) (p : Nat) (a : Option Addr) (len cap : Nat) (w : World) (hc : Cur B w p a len cap) :
    Calls Tryd.prog 41 #[.pointer (some ⟨p, 0, none⟩), .int .i64 4294967296] w fun e w' => Drawn B p a len cap 0 4294967295 w e w' := by
  have hc := hide hc
  go_enter Tryd.func41, Tryd.ntmps41
  go_wp2_with fail
  refine (l1Byte B p a len cap _ hc.out).mono ?_; rintro e w1 ⟨x, x0, x1, rfl, d1, g1⟩
  go_wp2_with fail
  refine (l1Byte B p a len cap _ d1).mono ?_; rintro e w2 ⟨y, y0, y1, rfl, d2, g2⟩
  go_wp2_with fail
  refine (l1Byte B p a len cap _ d2).mono ?_; rintro e w3 ⟨z, z0, z1, rfl, d3, g3⟩
  go_wp2_with fail
  refine (l1Byte B p a len cap _ d3).mono ?_; rintro e w4 ⟨v, v0, v1, rfl, d4, g4⟩
  clear d1 d2 d3
  go_wp2_with fail
  go_ret
  exact ⟨_, by omega, by omega, rfl, d4, ((g1.trans g2).trans g3).trans g4⟩
theorem specSmall (n : Int) (n0 : -500 ≤ n) (n1 : n ≤ 499) : ∃ r : Int, 0 ≤ r ∧ r ≤ 4294967295 ∧ ∀ w, Calls Tryd.prog 52 #[.int .i64 n] w fun e w' => e = .returned (.int .i64 r) ∧ w' = w := by
  by_cases c : n < 0
  · obtain ⟨N, hN⟩ := Int.eq_ofNat_of_zero_le (by omega : 0 ≤ -n)
    have f1 := Rnd.fl_le 23 255 (N * 2 ^ 149) 1 _ (show ((255 * 2 ^ 23 : Nat) : Int) = 2139095040 by decide)
    have f0 : (0 : Int) ≤ (Rnd.fl 23 255 (N * 2 ^ 149) 1 : Nat) := Int.natCast_nonneg _
    refine ⟨2147483648 + (Rnd.fl 23 255 (N * 2 ^ 149) 1 : Nat), by omega, by omega, fun w => ?_⟩
    have c0 : (n == -9223372036854775808) = false := by rw [beq_eq_false_iff_ne]; omega
    have HS := hide (fun w => specNat N w (by omega))
    have wN' : wrap64 (N : Int) = (N : Int) := by simp only [wrap64]; omega
    have hneg : -n = (N : Int) := hN
    clear hN
    generalize ((Rnd.fl 23 255 (N * 2 ^ 149) 1 : Nat) : Int) = f at *
    go_enter Tryd.func52, Tryd.ntmps52
    go_wp2_with fail
    refine (HS.out _).mono ?_; rintro e w1 ⟨rfl, rfl⟩
    go_wp2_with fail
    go_ret
    exact ⟨ret_int (by omega), rfl⟩
  · obtain ⟨N, rfl⟩ := Int.eq_ofNat_of_zero_le (by omega : 0 ≤ n)
    have f1 := Rnd.fl_le 23 255 (N * 2 ^ 149) 1 _ (show ((255 * 2 ^ 23 : Nat) : Int) = 2139095040 by decide)
    have f0 : (0 : Int) ≤ (Rnd.fl 23 255 (N * 2 ^ 149) 1 : Nat) := Int.natCast_nonneg _
    exact ⟨_, f0, by omega, fun w => specNat N w (by omega)⟩
theorem specNegB (a : Int) (a0 : -9223372036854775808 ≤ a) (a1 : a ≤ 9223372036854775807) : ∃ r : Int, -9223372036854775808 ≤ r ∧ r ≤ 9223372036854775807 ∧ ∀ w, Calls Tryd.prog 42 #[.int .i64 a] w fun e w' => e = .returned (.int .i64 r) ∧ Below w.heap.size w w' := by
  rcases num_or a with h | ⟨s, h⟩
  · refine ⟨2143289344, by omega, by omega, fun w => ?_⟩
    go_enter Tryd.func42, Tryd.ntmps42
    go_wp2_with fail
    refine (FlM.openBad a _ h).mono ?_; rintro e w1 ⟨b, x, y, rfl, b1⟩
    go_wp2_with fail
    go_ret
    exact ⟨rfl, b1.alloc b1.size _⟩
  · obtain ⟨c, hx, hc⟩ := neg_bits a s h
    obtain ⟨_, _, p0, p1, _⟩ := h.bd
    refine ⟨c, by omega, by omega, fun w => ?_⟩
    go_enter Tryd.func42, Tryd.ntmps42
    go_wp2_with fail
    refine (openNum a s _ h).mono ?_; rintro e w1 ⟨k, y, z, hk, rfl, b1⟩
    go_wp2_with fail
    go_ret
    exact ⟨rfl, b1.alloc b1.size _⟩
theorem grown_below {w w' w'' : World} {p : Nat} (h : w.grownBy w' (some p)) (hb : Below w'.heap.size w' w'') : w.grownBy w'' (some p) := by
  obtain ⟨h1, h2, h3, h4, h5⟩ := h
  refine ⟨hb.os.trans h1, hb.tape.trans h2, hb.output.trans h3, Nat.le_trans h4 hb.size, fun k hk hn => ?_⟩
  rw [hb.block k (by omega)]
  exact h5 k hk hn
set_option maxHeartbeats 2000000 in
theorem l2Float (B : Nat) (p : Nat) (a : Option Addr) (len cap : Nat) (w : World) (hc : Cur B w p a len cap) :
    Calls Tryd.prog 40 #[.pointer (some ⟨p, 0, none⟩)] w fun e w' => Drawn B p a len cap (-1) 8589934592 w e w' := by
  have hc := hide hc
  go_enter Tryd.func40, Tryd.ntmps40
  go_wp2_with fail
  refine (l1Below B p a len cap _ _ hc.out (by omega) (by omega)).mono ?_; rintro e w0 ⟨n, n0, n1, rfl, d0, g0⟩
  go_wp2_with fail
  refine (l1Below B p a len cap _ _ d0 (by omega) (by omega)).mono ?_; rintro e w1 ⟨x, x0, x1, rfl, d1, g1⟩
  have g1 := g0.trans g1
  clear d0 g0 hc
  by_cases h0 : x = 0
  · have z0 : (x == 0) = true := beq_iff_eq.2 h0
    have hlt := d1.lt
    have hl := laid_ints w1 [0, 2147483648, 1, 8388607, 8388608, 2139095039, 2139095040, 4286578688, 2143289344, 2143289345, 2139095041, 4294967295, -1, 4294967296] 3 (-1) 8589934592 (by decide)
    have d2 := d1.alloc (.cells (([0, 2147483648, 1, 8388607, 8388608, 2139095039, 2139095040, 4286578688, 2143289344, 2143289345, 2139095041, 4294967295, -1, 4294967296] : List Int).map (Value.int .i64)).toArray 3)
    clear h0
    go_wp2_with fail
    refine (l1PickInt B p a len cap w1.heap.size 14 (-1) 8589934592 _ d2 (by omega) (by omega) (by omega) hl).mono ?_; rintro e w2 ⟨y, y0, y1, rfl, d3, g3⟩
    clear d1 d2 hl
    go_wp2_with fail
    go_ret
    exact ⟨_, y0, y1, rfl, d3, (Lib.grownBy_allocR g1 _).trans g3⟩
  have z0 : (x == 0) = false := beq_eq_false_iff_ne.2 h0
  by_cases h1 : x = 1
  · have z1 : (x == 1) = true := beq_iff_eq.2 h1
    clear h0 h1
    go_wp2_with fail
    refine (below32 B p a len cap _ d1).mono ?_; rintro e w2 ⟨y, y0, y1, rfl, d2, g2⟩
    clear d1
    go_wp2_with fail
    go_ret
    exact ⟨_, by omega, by omega, rfl, d2, g1.trans g2⟩
  have z1 : (x == 1) = false := beq_eq_false_iff_ne.2 h1
  by_cases h2 : x = 2
  · have z2 : (x == 2) = true := beq_iff_eq.2 h2
    clear h0 h1 h2
    go_wp2_with fail
    refine (l1Below B p a len cap _ _ d1 (by omega) (by omega)).mono ?_; rintro e w2 ⟨y, y0, y1, rfl, d2, g2⟩
    go_wp2_with fail
    refine (l1Below B p a len cap _ _ d2 (by omega) (by omega)).mono ?_; rintro e w3 ⟨v, v0, v1, rfl, d3, g3⟩
    clear d1 d2
    go_wp2_with fail
    go_ret
    exact ⟨_, by omega, by omega, rfl, d3, (g1.trans g2).trans g3⟩
  have z2 : (x == 2) = false := beq_eq_false_iff_ne.2 h2
  by_cases h3 : x = 3
  · have z3 : (x == 3) = true := beq_iff_eq.2 h3
    clear h0 h1 h2 h3
    go_wp2_with fail
    refine (l1Below B p a len cap _ _ d1 (by omega) (by omega)).mono ?_; rintro e w2 ⟨y, y0, y1, rfl, d2, g2⟩
    obtain ⟨r, r0, r1, hr⟩ := specSmall (y - 500) (by omega) (by omega)
    have HR := hide hr
    clear d1 hr
    go_wp2_with fail
    refine (HR.out _).mono ?_; rintro e w3 ⟨rfl, rfl⟩
    go_wp2_with fail
    go_ret
    exact ⟨_, by omega, by omega, rfl, d2, g1.trans g2⟩
  have z3 : (x == 3) = false := beq_eq_false_iff_ne.2 h3
  by_cases h4 : x = 4
  · have z4 : (x == 4) = true := beq_iff_eq.2 h4
    clear h0 h1 h2 h3 h4
    go_wp2_with fail
    refine (l1Below B p a len cap _ _ d1 (by omega) (by omega)).mono ?_; rintro e w2 ⟨y, y0, y1, rfl, d2, g2⟩
    have hlt := d2.lt
    have hl := laid_ints w2 [0, 1, 8388607, 4194304, 4194303] 3 0 8388607 (by decide)
    have d3 := d2.alloc (.cells (([0, 1, 8388607, 4194304, 4194303] : List Int).map (Value.int .i64)).toArray 3)
    clear d1
    go_wp2_with fail
    refine (l1PickInt B p a len cap w2.heap.size 5 0 8388607 _ d3 (by omega) (by omega) (by omega) hl).mono ?_; rintro e w3 ⟨v, v0, v1, rfl, d4, g4⟩
    clear d2 d3 hl
    go_wp2_with fail
    go_ret
    exact ⟨_, by omega, by omega, rfl, d4, (Lib.grownBy_allocR (g1.trans g2) _).trans g4⟩
  have z4 : (x == 4) = false := beq_eq_false_iff_ne.2 h4
  clear h0 h1 h2 h3 h4
  go_wp2_with fail
  refine (l1Below B p a len cap _ _ d1 (by omega) (by omega)).mono ?_; rintro e w2 ⟨y, y0, y1, rfl, d2, g2⟩
  go_wp2_with fail
  refine (l1Below B p a len cap _ _ d2 (by omega) (by omega)).mono ?_; rintro e w3 ⟨v, v0, v1, rfl, d3, g3⟩
  clear d1 d2
  go_wp2_with fail
  go_ret
  exact ⟨_, by omega, by omega, rfl, d3, (g1.trans g2).trans g3⟩
set_option maxHeartbeats 2000000 in
theorem twoFloats (a : Option Addr) (len cap : Nat) (w : World) (hc : Base.Code w.heap.size w a len) (hlen : len ≤ 1048576) :
    Calls Tryd.prog 23 #[.slice a len cap] w fun e w' => DrawnTwo w e w' := by
  have HC := hide hc
  clear hc
  go_enter Tryd.func23, Tryd.ntmps23
  go_wp2_with fail
  refine (l1New a len cap _ HC.out hlen).mono ?_; rintro e w1 ⟨rfl, d1, b1⟩
  go_wp2_with fail
  refine (l2Float _ _ a len cap _ d1).mono ?_; rintro e w2 ⟨x, x0, x1, rfl, d2, g2⟩
  go_wp2_with fail
  refine (l2Float _ _ a len cap _ d2).mono ?_; rintro e w3 ⟨y, y0, y1, rfl, d3, g3⟩
  go_wp2_with fail
  refine (l1Below _ _ a len cap _ _ d3 (by omega) (by omega)).mono ?_; rintro e w4 ⟨k, k0, k1, rfl, d4, g4⟩
  have bb := b1.trans (d1.below ((g2.trans g3).trans g4))
  clear d1 d2 d3 d4 g2 g3 g4 b1 HC
  obtain ⟨r, r0, r1, hr⟩ := specNegB x (by omega) (by omega)
  have HR := hide hr
  clear hr
  by_cases h0 : k = 0
  · have z0 : (k == 0) = true := beq_iff_eq.2 h0
    clear h0
    go_wp2_with fail
    refine (HR.out _).mono ?_; rintro e w5 ⟨rfl, b5⟩
    go_wp2_with fail
    go_ret2
    exact ⟨x, r, by omega, by omega, r0, r1, rfl, bb.trans (b5.mono bb.size)⟩
  have z0 : (k == 0) = false := beq_eq_false_iff_ne.2 h0
  by_cases h1 : k = 1
  · have z1 : (k == 1) = true := beq_iff_eq.2 h1
    have hb := bits_bd .xor r 1 ⟨_, rfl⟩
    obtain ⟨q, hq⟩ : ∃ q, bits .xor .i64 r 1 = q := ⟨_, rfl⟩
    rw [hq] at hb
    clear h0 h1
    go_wp2_with fail
    refine (HR.out _).mono ?_; rintro e w5 ⟨rfl, b5⟩
    go_wp2_with fail
    go_ret2
    exact ⟨x, q, by omega, by omega, hb.1, hb.2, rfl, bb.trans (b5.mono bb.size)⟩
  have z1 : (k == 1) = false := beq_eq_false_iff_ne.2 h1
  by_cases h2 : k = 2
  · have z2 : (k == 2) = true := beq_iff_eq.2 h2
    clear h0 h1 h2 HR
    go_wp2_with fail
    go_ret2
    exact ⟨x, x - 209715200, by omega, by omega, by omega, by omega, rfl, bb⟩
  have z2 : (k == 2) = false := beq_eq_false_iff_ne.2 h2
  clear h0 h1 h2 HR
  go_wp2_with fail
  go_ret2
  exact ⟨x, y, by omega, by omega, by omega, by omega, rfl, bb⟩
theorem drawFAdd (a : Option Addr) (len cap : Nat) (w : World) (hc : Base.Code w.heap.size w a len) (hlen : len ≤ 1048576) :
    Calls Tryd.prog 10 #[.slice a len cap] w fun e w' => DrawnTwo w e w' := by
  have HC := hide hc
  clear hc
  go_enter Tryd.func10, Tryd.ntmps10
  go_wp2_with fail
  refine (twoFloats a len cap _ HC.out hlen).mono ?_; rintro e w1 ⟨x, y, x0, x1, y0, y1, rfl, bb⟩
  go_wp2_with fail
  go_ret2
  exact ⟨x, y, x0, x1, y0, y1, rfl, bb⟩
end FlV
end Go.Proofs.YtmghmcnihiepiaaDoor
