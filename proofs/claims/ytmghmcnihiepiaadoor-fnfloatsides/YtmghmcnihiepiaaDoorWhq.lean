/- Whole numbers as floats: sums, products, quotients and back, and the bytes that a law draws them from. -/
import Derived.Test.YtmghmcnihiepiaaDoorWhp
import Derived.Test.YtmghmcnihiepiaaDoorDraw
namespace Go.Proofs.YtmghmcnihiepiaaDoor
namespace FlV
open Go.ChangeShapes Go.WideShapes Go.ChangeAt Go.RowKit Go.Joins
open Flo (hide ret_int ret_bool)
set_option linter.unusedVariables false
def sg (k : Int) : Int := if k < 0 then 1 else 0
theorem sg_or (k : Int) : sg k = 0 ∨ sg k = 1 := by unfold sg; split <;> omega
theorem back_sg (m : Int) : (if sg m = 1 then -(m.natAbs : Int) else (m.natAbs : Int)) = m := by
  unfold sg; by_cases c : m < 0 <;> simp [c] <;> omega
theorem prod_sg (m n s3 : Int) (h : s3 = 1 ↔ sg m ≠ sg n) : (if s3 = 1 then -((m.natAbs * n.natAbs : Nat) : Int) else ((m.natAbs * n.natAbs : Nat) : Int)) = m * n := by
  have e : ((m.natAbs * n.natAbs : Nat) : Int) = (m.natAbs : Int) * (n.natAbs : Int) := by rw [Int.natCast_mul]
  rw [e]
  unfold sg at h
  by_cases c1 : m < 0 <;> by_cases c2 : n < 0 <;> simp [c1, c2] at h <;> simp only [h, if_true, if_false]
  · rw [show (m.natAbs : Int) = -m by omega, show (n.natAbs : Int) = -n by omega, Int.neg_mul_neg]
  · rw [show (m.natAbs : Int) = -m by omega, show (n.natAbs : Int) = n by omega, Int.neg_mul, Int.neg_neg]
  · rw [show (m.natAbs : Int) = m by omega, show (n.natAbs : Int) = -n by omega, Int.mul_neg, Int.neg_neg]
  · rw [show (m.natAbs : Int) = m by omega, show (n.natAbs : Int) = n by omega]
theorem toIntR (m : Int) (w : World) (hv : SV w) (m0 : -4096 ≤ m) (m1 : m ≤ 4096) : Calls Tryd.prog 17 #[.int .i64 (rp m)] w fun e w' => e = .returned (.int .i64 m) ∧ Below w.heap.size w w' := by
  have h := toIntW (sg m) m.natAbs w hv (by omega) (by have := sg_or m; omega) (by have := sg_or m; omega)
  rw [back_sg] at h
  exact h
theorem mulR (m n : Int) (m0 : -2048 ≤ m) (m1 : m ≤ 2048) (n0 : -2048 ≤ n) (n1 : n ≤ 2048) : ∃ P, (∀ w, SV w → Calls Tryd.prog 13 #[.int .i64 (rp m), .int .i64 (rp n)] w fun e w' => e = .returned (.int .i64 P) ∧ Below w.heap.size w w') ∧
    (∀ w, SV w → Calls Tryd.prog 17 #[.int .i64 P] w fun e w' => e = .returned (.int .i64 (m * n)) ∧ Below w.heap.size w w') ∧
    (n ≠ 0 → ∃ Q, (∀ w, SV w → Calls Tryd.prog 18 #[.int .i64 P, .int .i64 (rp n)] w fun e w' => e = .returned (.int .i64 Q) ∧ Below w.heap.size w w') ∧
      (∀ w, SV w → Calls Tryd.prog 17 #[.int .i64 Q] w fun e w' => e = .returned (.int .i64 m) ∧ Below w.heap.size w w')) := by
  obtain ⟨s3, hx, t0, t1, hs⟩ := xor_s (sg m) (sg n) (sg_or m) (sg_or n)
  have hMN : m.natAbs * n.natAbs ≤ 2048 * 2048 := Nat.mul_le_mul (by omega) (by omega)
  refine ⟨wd s3 (m.natAbs * n.natAbs), fun w hv => mulW (sg m) (sg n) s3 m.natAbs n.natAbs w hv (sg_or m) (sg_or n) hx t0 t1 (by omega) (by omega), fun w hv => ?_, fun hn => ?_⟩
  · have h := toIntW s3 (m.natAbs * n.natAbs) w hv (by omega) t0 t1
    rw [prod_sg m n s3 hs] at h
    exact h
  · obtain ⟨s4, hx4, u0, u1, hs4⟩ := xor_s s3 (sg n) (by omega) (sg_or n)
    refine ⟨wd s4 m.natAbs, fun w hv => divW s3 (sg n) s4 m.natAbs n.natAbs w hv (by omega) (sg_or n) hx4 u0 u1 (by omega) (by omega) (by omega), fun w hv => ?_⟩
    have h := toIntW s4 m.natAbs w hv (by omega) u0 u1
    have e : s4 = sg m := by have := sg_or m; have := sg_or n; omega
    rw [e, back_sg] at h
    rw [e]
    exact h
theorem atW (a : Option Addr) (len cap : Nat) (i : Nat) (B : Nat) (w : World) (hc : Base.Code B w a len) (hi : i < 4) :
    Calls Tryd.prog 16 #[.slice a len cap, .int .i64 (i : Int)] w fun e w' => ∃ z, 0 ≤ z ∧ z ≤ 255 ∧ e = .returned (.int .i64 z) ∧ w' = w := by
  obtain ⟨l0, hc⟩ := hc
  have l1 : (len : Int) ≤ 9223372036854775807 := by omega
  have hi' : (i : Int) < 4 := by omega
  by_cases c : i < len
  · rcases hc with h0 | ⟨b, off, rfl, hB, hcell⟩
    · omega
    · obtain ⟨z, hz, z0, z1⟩ := hcell i c
      have c1 : (i : Int) < (len : Int) := by omega
      clear hcell hB l0
      go_enter Tryd.func16, Tryd.ntmps16
      go_wp2
      go_ret
      exact ⟨z, z0, z1, rfl, rfl⟩
  · have c1 : decide ((i : Int) < (len : Int)) = false := decide_eq_false (by omega)
    have hmod : Int.tmod ((i : Int) * 37) 251 = (i : Int) * 37 % 251 := Int.tmod_eq_emod_of_nonneg (by omega)
    have c2 : decide (i < len) = false := decide_eq_false c
    have c3 : len ≤ i := by omega
    clear hc
    go_enter Tryd.func16, Tryd.ntmps16
    go_wp2
    go_ret
    exact ⟨(i : Int) * 37 % 251, by omega, by omega, by first | rfl | exact ret_int (by omega), rfl⟩
end FlV
end Go.Proofs.YtmghmcnihiepiaaDoor
