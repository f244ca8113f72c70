/- A half made a float and back: what the numbers are. -/
import Derived.Test.YteoogkcjcfnniaaDoorFlW
namespace Go.Proofs.YteoogkcjcfnniaaDoor
namespace FlV
open Go.ChangeShapes Go.WideShapes Go.ChangeAt Go.RowKit Go.Joins
open Flo (hide ret_int ret_bool)
set_option linter.unusedVariables false

theorem fl_up (m E : Nat) (m0 : m ≠ 0) (L : Rnd.bl m ≤ 24) (hE : 24 ≤ Rnd.bl m + E) : Rnd.fl 23 255 (m * 2 ^ E) 1 = min ((Rnd.bl m + E - 24) * 2 ^ 23 + m * 2 ^ (24 - Rnd.bl m)) (255 * 2 ^ 23) := by
  unfold Rnd.fl
  rw [Nat.div_one, Rnd.bl_mul m E m0, show 23 + 1 = 24 from rfl, Nat.one_mul]
  have : m * 2 ^ E = m * 2 ^ (24 - Rnd.bl m) * 2 ^ (Rnd.bl m + E - 24) := by
    rw [Nat.mul_assoc, ← Nat.pow_add]; congr 2; omega
  rw [this, Rnd.ne_exact _ _ (Nat.two_pow_pos _)]
theorem fl_down0 (m : Nat) (L : Rnd.bl m ≤ 11) : Rnd.fl 10 31 (m * 2 ^ 0) 1 = min m (31 * 2 ^ 10) := by
  unfold Rnd.fl
  rw [Nat.pow_zero, Nat.mul_one, Nat.div_one, show Rnd.bl m - (10 + 1) = 0 by omega, Nat.zero_mul, Nat.zero_add, Nat.pow_zero]
  have := Rnd.ne_exact m 1 (by decide)
  rw [Nat.mul_one] at this ⊢
  rw [this]
theorem fl_down (m E : Nat) (m0 : m ≠ 0) (L : Rnd.bl m = 11) : Rnd.fl 10 31 (m * 2 ^ E) 1 = min (E * 2 ^ 10 + m) (31 * 2 ^ 10) := by
  unfold Rnd.fl
  rw [Nat.div_one, Rnd.bl_mul m E m0, L, show 11 + E - (10 + 1) = E by omega, Nat.one_mul, Rnd.ne_exact _ _ (Nat.two_pow_pos _)]

/-- what a half's size is as a float's bits -/
def up (m : Nat) (e : Int) : Int := if m = 0 then 0 else (e + 149 - (24 - Rnd.bl m : Nat)) * 8388608 + ((m * 2 ^ (24 - Rnd.bl m) : Nat) : Int)

theorem half_bl (a s e : Int) (m : Nat) (h : FlP.FinH a s m e) : Rnd.bl m ≤ 11 ∧ (e ≠ -24 → Rnd.bl m = 11) := by
  have m1 : (m : Int) < 2048 := h.2.2.2.2.1
  have h2 : m < 2 ^ 11 := Int.ofNat_lt.1 (by rw [show ((2 ^ 11 : Nat) : Int) = 2048 by decide]; exact m1)
  have L := Rnd.bl_le_of m 11 h2
  refine ⟨L, fun he => ?_⟩
  have hc := h.2.2.2.2.2.2.2
  have h3 : 2 ^ 10 ≤ m := Int.ofNat_le.1 (by rw [show ((2 ^ 10 : Nat) : Int) = 1024 by decide]; omega)
  have := Rnd.le_bl_of m 10 h3
  omega
theorem mant_bd (m : Nat) (m0 : m ≠ 0) (L : Rnd.bl m ≤ 24) : (8388608 : Int) ≤ ((m * 2 ^ (24 - Rnd.bl m) : Nat) : Int) ∧ ((m * 2 ^ (24 - Rnd.bl m) : Nat) : Int) < 16777216 := by
  have L0 := Rnd.bl_pos m m0
  constructor
  · have := Nat.mul_le_mul_right (2 ^ (24 - Rnd.bl m)) (Rnd.bl_le m m0)
    rw [← Nat.pow_add, show Rnd.bl m - 1 + (24 - Rnd.bl m) = 23 by omega] at this
    have := Int.ofNat_le.2 this
    rw [show ((2 ^ 23 : Nat) : Int) = 8388608 by decide] at this; exact this
  · have := Nat.mul_lt_mul_of_pos_right (Rnd.bl_lt m) (Nat.two_pow_pos (24 - Rnd.bl m))
    rw [← Nat.pow_add, show Rnd.bl m + (24 - Rnd.bl m) = 24 by omega] at this
    have := Int.ofNat_lt.2 this
    rw [show ((2 ^ 24 : Nat) : Int) = 16777216 by decide] at this; exact this
/-- the float is a float, with the half's sign and worth -/
theorem up_fin (a s e : Int) (m : Nat) (h : FlP.FinH a s m e) : ∃ (m' : Nat) (e' : Int), FlP.Fin (s * 2147483648 + up m e) s m' e' ∧ ((m = 0 ∧ m' = 0 ∧ e' = -149) ∨ (m ≠ 0 ∧ m' = m * 2 ^ (24 - Rnd.bl m) ∧ e' = e - ((24 - Rnd.bl m : Nat) : Int))) := by
  obtain ⟨L, _⟩ := half_bl a s e m h
  obtain ⟨s0, s1, _, _, m1, e0, e1, hc⟩ := h
  by_cases m0 : m = 0
  · subst m0
    refine ⟨0, -149, ?_, .inl ⟨rfl, rfl, rfl⟩⟩
    unfold FlP.Fin up
    rw [if_pos rfl]
    omega
  · obtain ⟨b1, b2⟩ := mant_bd m m0 (by omega)
    have L0 := Rnd.bl_pos m m0
    refine ⟨m * 2 ^ (24 - Rnd.bl m), e - ((24 - Rnd.bl m : Nat) : Int), ?_, .inr ⟨m0, rfl, rfl⟩⟩
    unfold FlP.Fin up
    rw [if_neg m0]
    generalize ((m * 2 ^ (24 - Rnd.bl m) : Nat) : Int) = z at *
    omega
theorem implOfHalf (a : Int) (r : Int) (w : World) (hv : SV w) (hh : HV w) (hT : ∀ w, Calls Tryd.prog 24 #[.agg #[.int .u8 5, .int .u8 10], .int .i64 a, .agg #[.int .u8 8, .int .u8 23]] w fun e w' => e = .returned (.int .i64 r) ∧ Below w.heap.size w w') :
    Calls Tryd.prog 12 #[.int .i64 a] w fun e w' => e = .returned (.int .i64 r) ∧ Below w.heap.size w w' := by
  obtain ⟨v0, v1⟩ := hv.cells
  obtain ⟨v2, v3⟩ := hh.cells
  have HT := hide hT
  clear hT hv hh
  go_enter Tryd.func12, Tryd.ntmps12
  go_wp2_with fail
  refine (HT.out _).mono ?_; rintro e w1 ⟨rfl, b1⟩
  go_wp2_with fail
  go_ret
  exact ⟨rfl, b1⟩
theorem implHalfOf (a : Int) (r : Int) (w : World) (hv : SV w) (hh : HV w) (hT : ∀ w, Calls Tryd.prog 24 #[.agg #[.int .u8 8, .int .u8 23], .int .i64 a, .agg #[.int .u8 5, .int .u8 10]] w fun e w' => e = .returned (.int .i64 r) ∧ Below w.heap.size w w') :
    Calls Tryd.prog 11 #[.int .i64 a] w fun e w' => e = .returned (.int .i64 r) ∧ Below w.heap.size w w' := by
  obtain ⟨v0, v1⟩ := hv.cells
  obtain ⟨v2, v3⟩ := hh.cells
  have HT := hide hT
  clear hT hv hh
  go_enter Tryd.func11, Tryd.ntmps11
  go_wp2_with fail
  refine (HT.out _).mono ?_; rintro e w1 ⟨rfl, b1⟩
  go_wp2_with fail
  go_ret
  exact ⟨rfl, b1⟩
theorem ofHalfV (a s e : Int) (m : Nat) (w : World) (h : FlP.FinH a s m e) (hv : SV w) (hh : HV w) :
    Calls Tryd.prog 12 #[.int .i64 a] w fun e' w' => e' = .returned (.int .i64 (s * 2147483648 + up m e)) ∧ Below w.heap.size w w' := by
  have hf := half_bl a s e m h
  have hfin := h
  obtain ⟨s0, s1, _, _, m1, e0, e1, hc⟩ := h
  refine implOfHalf a _ w hv hh (fun w => turnFinHS a s m e _ w hfin (by omega) (fun w => ?_))
  by_cases m0 : m = 0
  · subst m0
    have := FlR.roundZeroS s e w s0 s1
    unfold up; rw [if_pos rfl, Int.add_zero]; exact this
  · have L0 := Rnd.bl_pos m m0
    have hr := FlR.roundS s e m (m * 2 ^ (e + 149).toNat) 1 0 (e + 149).toNat w s0 s1 (by decide) (by omega) m0 (by omega) (by omega) (by omega) (.inl ⟨by rw [Nat.pow_zero, Nat.mul_one, Nat.one_mul, Nat.mul_div_cancel _ (Nat.two_pow_pos _)], by rw [Nat.pow_zero, Nat.mul_one, Nat.one_mul, Nat.mul_mod_left]⟩)
    have hu : ((Rnd.fl 23 255 (m * 2 ^ (e + 149).toNat) 1 : Nat) : Int) = up m e := by
      rw [fl_up m _ m0 (by omega) (by omega), Rnd.min_int, Int.natCast_add, Int.natCast_mul (Rnd.bl m + (e + 149).toNat - 24) (2 ^ 23), show ((2 ^ 23 : Nat) : Int) = 8388608 by decide, show ((255 * 2 ^ 23 : Nat) : Int) = 2139095040 by decide]
      obtain ⟨b1, b2⟩ := mant_bd m m0 (by omega)
      unfold up
      rw [if_neg m0]
      generalize ((m * 2 ^ (24 - Rnd.bl m) : Nat) : Int) = z at *
      omega
    rw [hu] at hr
    exact hr
theorem halfOfV (a s e : Int) (m : Nat) (w : World) (h : FlP.FinH a s m e) (hv : SV w) (hh : HV w) :
    Calls Tryd.prog 11 #[.int .i64 (s * 2147483648 + up m e)] w fun e w' => e = .returned (.int .i64 a) ∧ Below w.heap.size w w' := by
  obtain ⟨L, L11⟩ := half_bl a s e m h
  obtain ⟨m', e', hf, hm⟩ := up_fin a s e m h
  obtain ⟨s0, s1, ha, _, m1, e0, e1, hc⟩ := h
  refine implHalfOf _ _ w hv hh (fun w => turnFinSH _ s m' e' _ w hf hf.2.2.2.2.1 (fun w => ?_))
  rcases hm with ⟨rfl, rfl, rfl⟩ | ⟨m0, rfl, rfl⟩
  · have := FlR.roundZeroH s (-149) w s0 s1
    rw [show a = s * 32768 by omega]; exact this
  · have L0 := Rnd.bl_pos m m0
    obtain ⟨b1, b2⟩ := mant_bd m m0 (by omega)
    have hr := FlR.roundH s (e - ((24 - Rnd.bl m : Nat) : Int)) (m * 2 ^ (24 - Rnd.bl m)) (m * 2 ^ (e + 24).toNat) 1 (24 - Rnd.bl m) (e + 24).toNat w s0 s1 (by decide) (by omega) (by intro h0; rw [h0] at b1; omega) (by omega) (by omega) (by omega)
      (.inl ⟨by rw [Nat.one_mul, Nat.mul_assoc, Nat.mul_comm (2 ^ (e + 24).toNat), ← Nat.mul_assoc, Nat.mul_div_cancel _ (Nat.two_pow_pos _)], by rw [Nat.one_mul, Nat.mul_assoc, Nat.mul_comm (2 ^ (e + 24).toNat), ← Nat.mul_assoc, Nat.mul_mod_left]⟩)
    have hd : s * 32768 + ((Rnd.fl 10 31 (m * 2 ^ (e + 24).toNat) 1 : Nat) : Int) = a := by
      by_cases c : e = -24
      · subst c
        rw [show (-24 + 24 : Int).toNat = 0 from rfl, fl_down0 m L, Rnd.min_int, show ((31 * 2 ^ 10 : Nat) : Int) = 31744 by decide]
        omega
      · rw [fl_down m _ m0 (L11 c), Rnd.min_int, Int.natCast_add, Int.natCast_mul (e + 24).toNat (2 ^ 10), show ((2 ^ 10 : Nat) : Int) = 1024 by decide, show ((31 * 2 ^ 10 : Nat) : Int) = 31744 by decide]
        omega
    rw [hd] at hr
    exact hr

end FlV
end Go.Proofs.YteoogkcjcfnniaaDoor
