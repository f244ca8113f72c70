/- Factors: powers of two, by counting bits. -/
import Derived.Test.YtflbhlepmjiejaaIe
import Derived.Test.YtflbhlepmjiejaaEkp
namespace Go.Proofs.Ytflbhlepmjiejaa
namespace Vo
open Go.ChangeShapes Go.WideShapes Go.ChangeAt Go.RowKit Go.Joins Go.Sort
open Vl
set_option linter.unusedVariables false
set_option linter.unusedSimpArgs false
theorem andU (a c : Nat) (ha : a < 18446744073709551616) (hc : c < 18446744073709551616) : bits .and .u64 (a : Int) (c : Int) = ((a &&& c : Nat) : Int) := by
  have key : (BitVec.ofInt 64 (a : Int) &&& BitVec.ofInt 64 (c : Int)).toNat = a &&& c := by
    rw [BitVec.toNat_and, BitVec.toNat_ofInt, BitVec.toNat_ofInt]
    congr 1 <;> omega
  show IntKind.u64.wrap ((BitVec.ofInt 64 (a : Int) &&& BitVec.ofInt 64 (c : Int)).toNat : Nat) = _
  rw [key, IntKind.wrap_u64]
  have : a &&& c ≤ a := Nat.and_le_left
  omega
theorem andI (a c : Nat) (ha : a < 9223372036854775808) (hc : c < 9223372036854775808) : bits .and .i64 (a : Int) (c : Int) = ((a &&& c : Nat) : Int) := by
  have key : (BitVec.ofInt 64 (a : Int) &&& BitVec.ofInt 64 (c : Int)).toNat = a &&& c := by
    rw [BitVec.toNat_and, BitVec.toNat_ofInt, BitVec.toNat_ofInt]
    congr 1 <;> omega
  show IntKind.i64.wrap ((BitVec.ofInt 64 (a : Int) &&& BitVec.ofInt 64 (c : Int)).toNat : Nat) = _
  rw [key, IntKind.wrap_i64]
  have : a &&& c ≤ a := Nat.and_le_left
  omega
theorem wU (a : Nat) : IntKind.u64.wrap (a : Int) = ((a % 18446744073709551616 : Nat) : Int) := by rw [IntKind.wrap_u64]; omega
set_option maxHeartbeats 1000000 in
theorem ones64W (x B1 B2 A1 B3 B4 A2 C3 A3 A4 A5 A6 A7 R : Int) (w : World)
    (h1 : bits .and .u64 (x / 2) 6148914691236517205 = B1) (h2 : bits .and .u64 x 6148914691236517205 = B2) (h3 : IntKind.u64.wrap (B1 + B2) = A1)
    (h4 : bits .and .u64 (A1 / 4) 3689348814741910323 = B3) (h5 : bits .and .u64 A1 3689348814741910323 = B4) (h6 : IntKind.u64.wrap (B3 + B4) = A2)
    (h7 : IntKind.u64.wrap (A2 / 16 + A2) = C3) (h8 : bits .and .u64 C3 1085102592571150095 = A3) (h9 : IntKind.u64.wrap (A3 + A3 / 256) = A4) (h10 : IntKind.u64.wrap (A4 + A4 / 65536) = A5) (h11 : IntKind.u64.wrap (A5 + A5 / 4294967296) = A6)
    (h12 : IntKind.i64.wrap A6 = A7) (h13 : bits .and .i64 A7 127 = R) :
    Calls Try.prog 58 #[.int .u64 x] w fun e w' => e = .returned (.int .i64 R) ∧ w' = w := by
  go_enter Try.func58, Try.ntmps58
  go_wp2_with fail
  go_ret
  exact ⟨rfl, rfl⟩
theorem on4_le (y : Nat) : on4 y ≤ 2 * y := Nat.le_trans (Nat.mod_le _ _) (by omega)
theorem on5_le (y : Nat) : on5 y ≤ 2 * y := Nat.le_trans (Nat.mod_le _ _) (by omega)
theorem on6_le (y : Nat) : on6 y ≤ 2 * y := Nat.le_trans (Nat.mod_le _ _) (by omega)
theorem on3_le (n : Nat) : on3 n ≤ 1085102592571150095 := Nat.and_le_right
theorem ones64 (n : Nat) (w : World) (h : n ≤ 65536) :
    Calls Try.prog 58 #[.int .u64 (n : Int)] w fun e w' => e = .returned (.int .i64 (onN n : Int)) ∧ w' = w := by
  have l1 : on1 n < 18446744073709551616 := Nat.mod_lt _ (by decide)
  have l2 : on2 (on1 n) < 18446744073709551616 := Nat.mod_lt _ (by decide)
  have l3 := on3_le (on2 (on1 n))
  have cst : ∀ (a b : Nat), ((a : Int) / (b : Int)) = ((a / b : Nat) : Int) := fun a b => by omega
  refine ones64W (n : Int) ((n / 2 &&& 6148914691236517205 : Nat) : Int) ((n &&& 6148914691236517205 : Nat) : Int) (on1 n : Int) ((on1 n / 4 &&& 3689348814741910323 : Nat) : Int) ((on1 n &&& 3689348814741910323 : Nat) : Int) (on2 (on1 n) : Int)
    (((on2 (on1 n) / 16 + on2 (on1 n)) % 18446744073709551616 : Nat) : Int) (on3 (on2 (on1 n)) : Int) (on4 (on3 (on2 (on1 n))) : Int) (on5 (on4 (on3 (on2 (on1 n)))) : Int) (on6 (on5 (on4 (on3 (on2 (on1 n))))) : Int) (on6 (on5 (on4 (on3 (on2 (on1 n))))) : Int) (onN n : Int) w ?_ ?_ ?_ ?_ ?_ ?_ ?_ ?_ ?_ ?_ ?_ ?_ ?_
  · exact andU (n / 2) 6148914691236517205 (by omega) (by decide)
  · exact andU n 6148914691236517205 (by omega) (by decide)
  · rw [← Int.natCast_add, wU]; rfl
  · exact andU (on1 n / 4) 3689348814741910323 (by omega) (by decide)
  · exact andU (on1 n) 3689348814741910323 (by omega) (by decide)
  · rw [← Int.natCast_add, wU]; rfl
  · generalize on2 (on1 n) = y at *
    rw [show ((y : Int) / 16 + (y : Int)) = ((y / 16 + y : Nat) : Int) by omega, wU]
  · exact andU _ 1085102592571150095 (Nat.mod_lt _ (by decide)) (by decide)
  · generalize on3 (on2 (on1 n)) = y at *
    rw [show ((y : Int) + (y : Int) / 256) = ((y + y / 256 : Nat) : Int) by omega, wU]; rfl
  · generalize on4 (on3 (on2 (on1 n))) = y at *
    rw [show ((y : Int) + (y : Int) / 65536) = ((y + y / 65536 : Nat) : Int) by omega, wU]; rfl
  · generalize on5 (on4 (on3 (on2 (on1 n)))) = y at *
    rw [show ((y : Int) + (y : Int) / 4294967296) = ((y + y / 4294967296 : Nat) : Int) by omega, wU]; rfl
  · have : on6 (on5 (on4 (on3 (on2 (on1 n))))) < 9223372036854775808 := by
      have := on4_le (on3 (on2 (on1 n)))
      have := on5_le (on4 (on3 (on2 (on1 n))))
      have := on6_le (on5 (on4 (on3 (on2 (on1 n)))))
      omega
    rw [IntKind.wrap_i64]
    omega
  · have : on6 (on5 (on4 (on3 (on2 (on1 n))))) < 9223372036854775808 := by
      have := on4_le (on3 (on2 (on1 n)))
      have := on5_le (on4 (on3 (on2 (on1 n))))
      have := on6_le (on5 (on4 (on3 (on2 (on1 n)))))
      omega
    exact andI _ 127 this (by decide)
theorem onesC (n : Nat) (w : World) (h : n ≤ 65536) :
    Calls Try.prog 46 #[.int .u64 (n : Int)] w fun e w' => e = .returned (.int .i64 (onN n : Int)) ∧ w' = w := by
  have C := hide (ones64 n w h)
  generalize (n : Int) = x at *
  go_enter Try.func46, Try.ntmps46
  go_wp2_with fail
  refine C.out.mono ?_
  rintro e w1 ⟨rfl, rfl⟩
  go_wp2_with fail
  go_ret
  exact ⟨rfl, rfl⟩
/-- a factor -/
def fac (f : Int) : Bool := decide (1 ≤ f ∧ f ≤ 65536) && pwN f.toNat
theorem isFactorF (f : Int) (b : Bool) (hf : bd f) (hb : fac f = b) (w : World) :
    Calls Try.prog 24 #[.int .i64 f] w fun e w' => e = .returned (.bool b) ∧ Below w.heap.size w w' := by
  have HF := hide hf
  clear hf
  cases g : decide (1 ≤ f ∧ f ≤ 65536)
  · have HB := hide (show b = false by rw [← hb]; unfold fac; rw [g]; rfl)
    have G := hide g
    clear g hb
    go_enter Try.func24, Try.ntmps24
    go_wp2_with fail
    refine (inB_one 1 65536 f false _ _ (by decide) HF.out G.out rfl).mono ?_; rintro e1 w1 ⟨rfl, b1⟩
    go_wp2_with fail
    go_ret
    exact ⟨ret_bool HB.out.symm, b1⟩
  · have HB := hide (show b = pwN f.toNat by rw [← hb]; unfold fac; rw [g]; rfl)
    have G := hide g
    obtain ⟨f0, f1⟩ := of_decide_eq_true g
    have C := hide (fun w => show Calls Try.prog 46 #[.int .u64 f] w fun e w' => e = .returned (.int .i64 (onN f.toNat : Int)) ∧ w' = w from by
      have := onesC f.toNat w (by omega)
      rw [show ((f.toNat : Nat) : Int) = f by omega] at this
      exact this)
    have E := hide (show ((onN f.toNat : Int) == 1) = b by
      rw [HB.out, ← chk_n f.toNat (by omega)]
      cases q : Nat.beq (onN f.toNat) 1
      · rw [beq_eq_false_iff_ne]
        intro h
        have : onN f.toNat = 1 := by omega
        rw [this] at q
        exact absurd q (by decide)
      · rw [beq_iff_eq]
        have : onN f.toNat = 1 := Nat.eq_of_beq_eq_true q
        omega)
    obtain ⟨y, hy⟩ : ∃ y, (onN f.toNat : Int) = y := ⟨_, rfl⟩
    rw [hy] at E C
    clear g hb hy HB
    go_enter Try.func24, Try.ntmps24
    go_wp2_with fail
    refine (inB_one 1 65536 f true _ _ (by decide) HF.out G.out rfl).mono ?_; rintro e1 w1 ⟨rfl, b1⟩
    go_wp2_with fail
    refine (C.out _).mono ?_; rintro e1 w2 ⟨rfl, rfl⟩
    go_wp2_with fail
    go_ret
    exact ⟨ret_bool E.out, b1⟩
end Vo
end Go.Proofs.Ytflbhlepmjiejaa
