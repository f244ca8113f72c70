/- A half made a float and back: less halves are less floats; the bytes that the law draws by. -/
import Derived.Test.YteoogkcjcfnniaaDoorBck
import Derived.Test.YteoogkcjcfnniaaDoorLes
import Derived.Test.YteoogkcjcfnniaaDoorDraw
namespace Go.Proofs.YteoogkcjcfnniaaDoor
namespace FlV
open Go.ChangeShapes Go.WideShapes Go.ChangeAt Go.RowKit Go.Joins
open Flo (hide ret_int ret_bool)
set_option linter.unusedVariables false

/-- a half's size in units of the least one -/
def val (m : Nat) (e : Int) : Nat := m * 2 ^ (e + 24).toNat
theorem val_lt (a b e f : Int) (m n : Nat) (ha : FlP.FinH a 0 m e) (hb : FlP.FinH b 0 n f) (h : a < b) : val m e < val n f := by
  obtain ⟨_, _, ha, _, m1, e0, e1, hc⟩ := ha
  obtain ⟨_, _, hb, _, n1, f0, f1, hd⟩ := hb
  unfold val
  by_cases c : e = f
  · subst c
    exact Nat.mul_lt_mul_of_pos_right (by omega) (Nat.two_pow_pos _)
  · have hlt : e < f := by omega
    have n2 : 1024 ≤ n := by omega
    have e2 : (f + 24).toNat = (e + 24).toNat + 1 + (f - e - 1).toNat := by omega
    have h1 : m * 2 ^ (e + 24).toNat < 2048 * 2 ^ (e + 24).toNat := Nat.mul_lt_mul_of_pos_right (by omega) (Nat.two_pow_pos _)
    have h2 : 2048 * 2 ^ (e + 24).toNat = 1024 * 2 ^ ((e + 24).toNat + 1) := by rw [Nat.pow_succ]; omega
    have h3 : 1024 * 2 ^ ((e + 24).toNat + 1) ≤ n * 2 ^ (f + 24).toNat := by
      rw [e2]
      exact Nat.mul_le_mul n2 (Nat.pow_le_pow_right (by omega) (by omega))
    omega
theorem up_lt (a b e f : Int) (m n : Nat) (ha : FlP.FinH a 0 m e) (hb : FlP.FinH b 0 n f) (h : a < b) : up m e < up n f := by
  have hv := val_lt a b e f m n ha hb h
  obtain ⟨La, _⟩ := half_bl a 0 e m ha
  obtain ⟨Lb, _⟩ := half_bl b 0 f n hb
  have e0 := ha.2.2.2.2.2.1
  have f0 := hb.2.2.2.2.2.1
  have n0 : n ≠ 0 := by
    intro h0; subst h0; unfold val at hv; rw [Nat.zero_mul] at hv; omega
  obtain ⟨q1, q2⟩ := mant_bd n n0 (by omega)
  have Ln := Rnd.bl_pos n n0
  by_cases m0 : m = 0
  · unfold up
    rw [if_pos m0, if_neg n0]
    generalize ((n * 2 ^ (24 - Rnd.bl n) : Nat) : Int) = z at *
    omega
  · obtain ⟨p1, p2⟩ := mant_bd m m0 (by omega)
    have Lm := Rnd.bl_pos m m0
    have bm : Rnd.bl (val m e) = Rnd.bl m + (e + 24).toNat := Rnd.bl_mul m _ m0
    have bn : Rnd.bl (val n f) = Rnd.bl n + (f + 24).toNat := Rnd.bl_mul n _ n0
    have hle : Rnd.bl (val m e) ≤ Rnd.bl (val n f) := Rnd.bl_le_of _ _ (Nat.lt_trans hv (Rnd.bl_lt _))
    unfold up
    rw [if_neg m0, if_neg n0]
    by_cases c : Rnd.bl (val m e) = Rnd.bl (val n f)
    · have hk : m * 2 ^ (24 - Rnd.bl m) < n * 2 ^ (24 - Rnd.bl n) := by
        have e1 : m * 2 ^ (24 - Rnd.bl m) * 2 ^ Rnd.bl (val m e) = val m e * 2 ^ 24 := by
          rw [bm]; unfold val; rw [Nat.mul_assoc, ← Nat.pow_add, Nat.mul_assoc, ← Nat.pow_add]; congr 2; omega
        have e2 : n * 2 ^ (24 - Rnd.bl n) * 2 ^ Rnd.bl (val m e) = val n f * 2 ^ 24 := by
          rw [c, bn]; unfold val; rw [Nat.mul_assoc, ← Nat.pow_add, Nat.mul_assoc, ← Nat.pow_add]; congr 2; omega
        have h3 : val m e * 2 ^ 24 < val n f * 2 ^ 24 := Nat.mul_lt_mul_of_pos_right hv (Nat.two_pow_pos 24)
        rw [← e1, ← e2] at h3
        exact Nat.lt_of_mul_lt_mul_right h3
      have hki := Int.ofNat_lt.2 hk
      generalize ((m * 2 ^ (24 - Rnd.bl m) : Nat) : Int) = y at *
      generalize ((n * 2 ^ (24 - Rnd.bl n) : Nat) : Int) = z at *
      omega
    · generalize ((m * 2 ^ (24 - Rnd.bl m) : Nat) : Int) = y at *
      generalize ((n * 2 ^ (24 - Rnd.bl n) : Nat) : Int) = z at *
      omega
theorem half_of (h : Int) (h0 : 0 ≤ h) (h1 : h < 31744) : ∃ (m : Nat) (e : Int), FlP.FinH h 0 m e ∧ FlP.FinH (h + 32768) 1 m e := by
  by_cases c : h < 1024
  · refine ⟨h.toNat, -24, ?_, ?_⟩ <;> unfold FlP.FinH <;> omega
  · refine ⟨(h % 1024 + 1024).toNat, h / 1024 - 25, ?_, ?_⟩ <;> unfold FlP.FinH <;> omega
theorem atByte (a : Option Addr) (len cap : Nat) (i : Nat) (B : Nat) (w : World) (hc : Base.Code B w a len) (hi : i < 4) :
    Calls Tryd.prog 10 #[.slice a len cap, .int .i64 (i : Int)] w fun e w' => ∃ z, 0 ≤ z ∧ z ≤ 255 ∧ e = .returned (.int .i64 z) ∧ w' = w := by
  obtain ⟨l0, hc⟩ := hc
  have l1 : (len : Int) ≤ 9223372036854775807 := by omega
  have hi' : (i : Int) < 4 := by omega
  by_cases c : i < len
  · rcases hc with h0 | ⟨b, off, rfl, hB, hcell⟩
    · omega
    · obtain ⟨z, hz, z0, z1⟩ := hcell i c
      have c1 : (i : Int) < (len : Int) := by omega
      clear hcell hB l0
      go_enter Tryd.func10, Tryd.ntmps10
      go_wp2
      go_ret
      exact ⟨z, z0, z1, rfl, rfl⟩
  · have c1 : decide ((i : Int) < (len : Int)) = false := decide_eq_false (by omega)
    have hmod : Int.tmod ((i : Int) * 37) 251 = (i : Int) * 37 % 251 := Int.tmod_eq_emod_of_nonneg (by omega)
    have c2 : decide (i < len) = false := decide_eq_false c
    have c3 : len ≤ i := by omega
    clear hc
    go_enter Tryd.func10, Tryd.ntmps10
    go_wp2
    go_ret
    exact ⟨(i : Int) * 37 % 251, by omega, by omega, by first | rfl | exact ret_int (by omega), rfl⟩

end FlV
end Go.Proofs.YteoogkcjcfnniaaDoor
