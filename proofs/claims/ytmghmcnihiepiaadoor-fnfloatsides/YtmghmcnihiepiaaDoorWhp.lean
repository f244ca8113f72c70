/- Whole numbers as floats: what the program's FOfInt, FToInt, FAdd, FMul, FDiv, FLess answer there. -/
import Derived.Test.YtmghmcnihiepiaaDoorWho
import Derived.Test.YtmghmcnihiepiaaDoorAdd
import Derived.Test.YtmghmcnihiepiaaDoorFlT
import Derived.Test.YtmghmcnihiepiaaDoorFlY
import Derived.Test.YtmghmcnihiepiaaDoorFlI
import Derived.Test.YtmghmcnihiepiaaDoorLes
import Derived.Test.YtmghmcnihiepiaaDoorMul
import Derived.Test.YtmghmcnihiepiaaDoorDiv
namespace Go.Proofs.YtmghmcnihiepiaaDoor
namespace FlV
open Go.ChangeShapes Go.WideShapes Go.ChangeAt Go.RowKit Go.Joins
open Flo (hide ret_int ret_bool)
set_option linter.unusedVariables false
/-- a whole number's float, its sign told -/
def wd (s : Int) (N : Nat) : Int := s * 2147483648 + (fw N : Nat)
/-- a whole number's float -/
def rp (k : Int) : Int := wd (if k < 0 then 1 else 0) k.natAbs
theorem fin_wd (s : Int) (N : Nat) (hN : N < 16777216) (s0 : 0 ≤ s) (s1 : s ≤ 1) : FlP.Fin (wd s N) s (fm N : Nat) (fe N) := fin_fw N s hN s0 s1
/-- the parts of a finite float, whichever it is -/
theorem splitW (a s x : Int) (m : Nat) (h : FlP.Fin a s m x) : ∃ k : Int, ((k = 0 ∧ m = 0 ∧ x = -149) ∨ (k = 1 ∧ m ≠ 0)) ∧ ∀ w, Calls Tryd.prog 24 #[.agg #[.int .u8 8, .int .u8 23], .int .i64 a] w fun e w' => e = .returned (.agg #[.int .u8 k, .int .u8 s, .int .i16 x, .int .u32 (m : Int)]) ∧ Below w.heap.size w w' := by
  by_cases m0 : m = 0
  · subst m0
    have e1 : x = -149 := by unfold FlP.Fin at h; omega
    subst e1
    exact ⟨0, .inl ⟨rfl, rfl, rfl⟩, fun w => splitZero a s (-149) w h⟩
  · exact ⟨1, .inr ⟨rfl, m0⟩, fun w => splitFin a s m x w h (by omega)⟩
theorem roundN (s : Int) (N t : Nat) (E : Int) (w : World) (s0 : 0 ≤ s) (s1 : s ≤ 1) (hN : N ≠ 0) (ht : t ≤ 149) (hE : E = -(t : Int)) (h64 : ((N * 2 ^ t : Nat) : Int) ≤ 18446744073709551615) :
    Calls Tryd.prog 29 #[.agg #[.int .u8 8, .int .u8 23], .int .u8 s, .int .u64 ((N * 2 ^ t : Nat) : Int), .int .i64 E] w fun e w' => e = .returned (.int .i64 (wd s N)) ∧ Below w.heap.size w w' := by
  have hp : 0 < 2 ^ (149 - t) := Nat.two_pow_pos _
  have e : N * 2 ^ 149 * 2 ^ 0 = N * 2 ^ t * (1 * 2 ^ (149 - t)) := by
    rw [Nat.one_mul, Nat.pow_zero, Nat.mul_one, Nat.mul_assoc, ← Nat.pow_add, show t + (149 - t) = 149 by omega]
  have m0 : N * 2 ^ t ≠ 0 := Nat.ne_of_gt (Nat.mul_pos (by omega) (Nat.two_pow_pos _))
  exact FlR.roundS s E (N * 2 ^ t) (N * 2 ^ 149) 1 0 (149 - t) w s0 s1 (by decide) (by omega) m0 h64 (by omega) (by omega) (.inl ⟨by rw [e, Nat.mul_div_cancel _ (by omega)], by rw [e, Nat.mul_mod_left]⟩)
theorem ofIntW (k : Int) (w : World) (hv : SV w) (h0 : -16777215 ≤ k) (h1 : k ≤ 16777215) : Calls Tryd.prog 12 #[.int .i64 k] w fun e w' => e = .returned (.int .i64 (rp k)) ∧ Below w.heap.size w w' := by
  by_cases c : k < 0
  · obtain ⟨N, hN⟩ := Int.eq_ofNat_of_zero_le (by omega : 0 ≤ -k)
    have hr : rp k = 1 * 2147483648 + (Rnd.fl 23 255 (N * 2 ^ 149) 1 : Nat) := by unfold rp wd; rw [if_pos c, show k.natAbs = N by omega]; rfl
    rw [hr]
    have HI := hide (fun w => implNat N 1 w (by decide) (by decide) (by omega))
    have wr : IntKind.u64.wrap (-IntKind.u64.wrap k) = (N : Int) := by simp [IntKind.wrap, IntKind.bits, IntKind.signed]; omega
    obtain ⟨v0, v1⟩ := hv.cells
    clear hN hv hr
    generalize ((Rnd.fl 23 255 (N * 2 ^ 149) 1 : Nat) : Int) = f at *
    go_enter Tryd.func12, Tryd.ntmps12
    go_wp2_with fail
    refine (HI.out _).mono ?_; rintro e w1 ⟨rfl, b1⟩
    go_wp2_with fail
    go_ret
    exact ⟨ret_int (by omega), b1⟩
  · obtain ⟨N, rfl⟩ := Int.eq_ofNat_of_zero_le (by omega : 0 ≤ k)
    have hr : rp (N : Int) = (Rnd.fl 23 255 (N * 2 ^ 149) 1 : Nat) := by unfold rp wd; rw [if_neg c]; show 0 * 2147483648 + ((fw N : Nat) : Int) = _; rw [Int.zero_mul, Int.zero_add]; rfl
    rw [hr]
    have c1 : decide ((N : Int) < 0) = false := decide_eq_false c
    obtain ⟨v0, v1⟩ := hv.cells
    have HI := hide (fun w => implNat N 0 w (by decide) (by decide) (by omega))
    clear hr hv c
    generalize ((Rnd.fl 23 255 (N * 2 ^ 149) 1 : Nat) : Int) = f at *
    go_enter Tryd.func12, Tryd.ntmps12
    go_wp2_with fail
    refine (HI.out _).mono ?_; rintro e w1 ⟨rfl, b1⟩
    go_wp2_with fail
    go_ret
    exact ⟨ret_int (by omega), b1⟩
theorem wh_fw (N : Nat) (hN : N < 16777216) : wh (fm N) (fe N) = N := by
  by_cases h0 : N = 0
  · subst h0
    rw [fm_zero, fe_zero]
    unfold wh
    rw [if_neg (by omega), if_neg (by omega), Rnd.ne_zero]
  · obtain ⟨h1, h2, h3, h4, h5⟩ := fw_is N hN h0
    rw [fe_pos h0]
    unfold wh
    rw [if_neg (by omega)]
    by_cases c : Rnd.bl N = 24
    · rw [if_pos (by omega), show ((Rnd.bl N : Int) - 24).toNat = 0 by omega]
      unfold fm; rw [c]; simp
    · rw [if_neg (by omega), show (-((Rnd.bl N : Int) - 24)).toNat = 24 - Rnd.bl N by omega]
      unfold fm
      exact Rnd.ne_exact _ _ (Nat.two_pow_pos _)
theorem toIntW (s : Int) (N : Nat) (w : World) (hv : SV w) (hN : N < 16777216) (s0 : 0 ≤ s) (s1 : s ≤ 1) : Calls Tryd.prog 17 #[.int .i64 (wd s N)] w fun e w' => e = .returned (.int .i64 (if s = 1 then -(N : Int) else N)) ∧ Below w.heap.size w w' := by
  have hf := fin_wd s N hN s0 s1
  obtain ⟨k, hk, hS⟩ := splitW _ s _ _ hf
  have hk2 : (k == 2) = false := by rw [beq_eq_false_iff_ne]; omega
  have hk3 : (k == 3) = false := by rw [beq_eq_false_iff_ne]; omega
  have sc : s = 0 ∨ s = 1 := by omega
  obtain ⟨v0, v1⟩ := hv.cells
  have HC := hide hS
  have HS := hide (fun w => sizeFin k s (fe N) (fm N : Nat) (fm N) w rfl hf.2.2.2.2.1 hf.2.2.2.2.2.1 hf.2.2.2.2.2.2.1 hf.2.2.2.2.2.2.2 hk2)
  rw [wh_fw N hN, show min (N : Int) 4611686018427387904 = (N : Int) by omega] at HS
  have n0 : (0 : Int) ≤ (N : Int) := Int.natCast_nonneg _
  have n1 : (N : Int) < 16777216 := by omega
  generalize wd s N = a at *
  clear hf hk hS hv hk2
  generalize (N : Int) = z at *
  generalize ((fm N : Nat) : Int) = y at *
  generalize fe N = x at *
  rcases sc with rfl | rfl
  all_goals
    go_enter Tryd.func17, Tryd.ntmps17
    go_wp2_with fail
    refine (HC.out _).mono ?_; rintro e' w1 ⟨rfl, b1⟩
    go_wp2_with fail
    refine (HS.out _).mono ?_; rintro e' w2 ⟨rfl, b2⟩
    go_wp2_with fail
    go_ret
    exact ⟨ret_int (by simp), (b1.alloc b1.size _).trans (b2.mono (b1.alloc b1.size _).size)⟩
/-- sums of finite floats, the program's -/
theorem implAddFin (a b s1 x1 s2 x2 s : Int) (m1 m2 p1 p2 V : Nat) (fa : FlP.Fin a s1 m1 x1) (fb : FlP.Fin b s2 m2 x2) (hp1 : x1 + 149 = (p1 : Int)) (hp2 : x2 + 149 = (p2 : Int))
    (hV : (s1 = s2 ∧ s = s1 ∧ V = m1 * 2 ^ p1 + m2 * 2 ^ p2) ∨ (s1 ≠ s2 ∧ m2 * 2 ^ p2 < m1 * 2 ^ p1 ∧ s = s1 ∧ V = m1 * 2 ^ p1 - m2 * 2 ^ p2) ∨ (s1 ≠ s2 ∧ m1 * 2 ^ p1 < m2 * 2 ^ p2 ∧ s = s2 ∧ V = m2 * 2 ^ p2 - m1 * 2 ^ p1) ∨ (s1 ≠ s2 ∧ m1 * 2 ^ p1 = m2 * 2 ^ p2 ∧ s = 0 ∧ V = 0)) (w : World) (hv : SV w) :
    Calls Tryd.prog 11 #[.int .i64 a, .int .i64 b] w fun e w' => e = .returned (.int .i64 (s * 2147483648 + (Rnd.fl 23 255 V 1 : Nat))) ∧ Below w.heap.size w w' := by
  obtain ⟨k1, hk1, hA⟩ := splitW a s1 x1 m1 fa
  obtain ⟨k2, hk2, hB⟩ := splitW b s2 x2 m2 fb
  obtain ⟨sa0, sa1, _, a0, a1, ea0, ea1, _⟩ := fa
  obtain ⟨sb0, sb1, _, b0, b1, eb0, eb1, _⟩ := fb
  have sa : s1 = 0 ∨ s1 = 1 := by omega
  have sb : s2 = 0 ∨ s2 = 1 := by omega
  have imp := fun s3 r A B S hc => addWalk a b k1 s1 x1 m1 k2 s2 x2 m2 s3 r A B S w hv hA hB hc
  by_cases hz : m1 = 0 ∧ m2 = 0
  · obtain ⟨z1, z2⟩ := hz
    rw [z1, z2] at hV
    have hV0 : V = 0 := by rcases hV with h | h | h | h <;> simp at h <;> omega
    obtain ⟨s3, hx, hs3⟩ : ∃ s3 : Int, bits .and .u8 s1 s2 = s3 ∧ s3 = s := by
      rcases hV with ⟨h, h', _⟩ | ⟨_, h, _⟩ | ⟨_, h, _⟩ | ⟨h, _, h', _⟩
      · rcases sa with rfl | rfl <;> subst h <;> subst h'
        · exact ⟨0, by decide, rfl⟩
        · exact ⟨1, by decide, rfl⟩
      · simp at h
      · simp at h
      · subst h'
        rcases sa with rfl | rfl <;> rcases sb with rfl | rfl
        · exact absurd rfl h
        · exact ⟨0, by decide, rfl⟩
        · exact ⟨0, by decide, rfl⟩
        · exact absurd rfl h
    have t01 : 0 ≤ s ∧ s ≤ 1 := by rcases hV with h | h | h | h <;> omega
    rw [hV0, Rnd.fl_zero]
    exact imp s3 _ (fun _ => 0) (fun _ => 0) (fun _ => 0) (.inr (.inr (.inr (.inr (.inr (.inr (.inl ⟨by omega, by omega, hx, by omega, by omega, by rw [hs3]; simp⟩)))))))
  · obtain ⟨A, hAl, hAv, hAc⟩ := Wid.wideF k1 s1 x1 m1 p1 sa hp1 (by omega) (by omega)
    obtain ⟨B, hBl, hBv, hBc⟩ := Wid.wideF k2 s2 x2 m2 p2 sb hp2 (by omega) (by omega)
    have nz : 0 < m1 * 2 ^ p1 + m2 * 2 ^ p2 := by
      by_cases h : m1 = 0
      · have : 0 < m2 * 2 ^ p2 := Nat.mul_pos (by omega) (Nat.two_pow_pos _)
        omega
      · have : 0 < m1 * 2 ^ p1 := Nat.mul_pos (by omega) (Nat.two_pow_pos _)
        omega
    have key := sumSign _ _ _ _ V s1 s2 s (mag_lt m1 p1 (by omega) (by omega)) (mag_lt m2 p2 (by omega) (by omega)) hAv hBv nz hV
    rw [← Wid.val_plus A B hAl hBl] at key
    have hCl : ∀ t, Wid.cS A B t < 2 ^ 64 := fun t => Nat.mod_lt _ (by decide)
    have hR := fun w hv => Wid.roundWide (Wid.cS A B) hCl s V w hv key
    exact imp 0 _ (fun t => (A t : Nat)) (fun t => (B t : Nat)) (fun t => (Wid.cS A B t : Nat)) (.inr (.inr (.inr (.inr (.inr (.inr (.inr ⟨by omega, hAc, hBc, fun w => Wid.plusF A B hAl hBl w, hR⟩)))))))
theorem addW (m n : Int) (w : World) (hv : SV w) (m0 : -4096 ≤ m) (m1 : m ≤ 4096) (n0 : -4096 ≤ n) (n1 : n ≤ 4096) : Calls Tryd.prog 11 #[.int .i64 (rp m), .int .i64 (rp n)] w fun e w' => e = .returned (.int .i64 (rp (m + n))) ∧ Below w.heap.size w w' := by
  obtain ⟨p1, hp1, _, v1⟩ := fm_val m.natAbs (by omega)
  obtain ⟨p2, hp2, _, v2⟩ := fm_val n.natAbs (by omega)
  have fa := fin_wd (if m < 0 then 1 else 0) m.natAbs (by omega) (by split <;> omega) (by split <;> omega)
  have fb := fin_wd (if n < 0 then 1 else 0) n.natAbs (by omega) (by split <;> omega) (by split <;> omega)
  refine implAddFin (rp m) (rp n) _ _ _ _ (if m + n < 0 then 1 else 0) _ _ p1 p2 ((m + n).natAbs * 2 ^ 149) fa fb hp1 hp2 ?_ w hv
  rw [v1, v2, ← Nat.add_mul, ← Nat.sub_mul, ← Nat.sub_mul]
  have hpos : 0 < 2 ^ 149 := Nat.two_pow_pos _
  have lt_iff : ∀ x y : Nat, x * 2 ^ 149 < y * 2 ^ 149 ↔ x < y := fun x y => Nat.mul_lt_mul_right hpos
  have eq_iff : ∀ x y : Nat, x * 2 ^ 149 = y * 2 ^ 149 ↔ x = y := fun x y => Nat.mul_left_inj (by omega)
  have z_iff : ∀ x : Nat, x * 2 ^ 149 = 0 ↔ x = 0 := fun x => by rw [Nat.mul_eq_zero]; omega
  rw [lt_iff, lt_iff, eq_iff, eq_iff, eq_iff, eq_iff, z_iff]
  clear lt_iff eq_iff z_iff hpos v1 v2 hp1 hp2 fa fb
  obtain ⟨M, hM, dM⟩ : ∃ M : Nat, m.natAbs = M ∧ ((m < 0 ∧ m = -(M : Int)) ∨ (0 ≤ m ∧ m = (M : Int))) := ⟨_, rfl, by omega⟩
  obtain ⟨N, hN, dN⟩ : ∃ N : Nat, n.natAbs = N ∧ ((n < 0 ∧ n = -(N : Int)) ∨ (0 ≤ n ∧ n = (N : Int))) := ⟨_, rfl, by omega⟩
  obtain ⟨K, hK, dK⟩ : ∃ K : Nat, (m + n).natAbs = K ∧ ((m + n < 0 ∧ m + n = -(K : Int)) ∨ (0 ≤ m + n ∧ m + n = (K : Int))) := ⟨_, rfl, by omega⟩
  rw [hM, hN, hK]
  clear hM hN hK
  by_cases c1 : m < 0
  · by_cases c2 : n < 0
    · rw [if_pos c1, if_pos c2, if_pos (by omega)]
      exact .inl ⟨rfl, rfl, by omega⟩
    · rw [if_pos c1, if_neg c2]
      rcases Nat.lt_trichotomy M N with h | h | h
      · rw [if_neg (by omega)]; exact .inr (.inr (.inl ⟨by decide, h, rfl, by omega⟩))
      · rw [if_neg (by omega)]; exact .inr (.inr (.inr ⟨by decide, h, rfl, by omega⟩))
      · rw [if_pos (by omega)]; exact .inr (.inl ⟨by decide, h, rfl, by omega⟩)
  · by_cases c2 : n < 0
    · rw [if_neg c1, if_pos c2]
      rcases Nat.lt_trichotomy M N with h | h | h
      · rw [if_pos (by omega)]; exact .inr (.inr (.inl ⟨by decide, h, rfl, by omega⟩))
      · rw [if_neg (by omega)]; exact .inr (.inr (.inr ⟨by decide, h, rfl, by omega⟩))
      · rw [if_neg (by omega)]; exact .inr (.inl ⟨by decide, h, rfl, by omega⟩)
    · rw [if_neg c1, if_neg c2, if_neg (by omega)]
      exact .inl ⟨rfl, rfl, by omega⟩
theorem xor_s (s1 s2 : Int) (h1 : s1 = 0 ∨ s1 = 1) (h2 : s2 = 0 ∨ s2 = 1) : ∃ s3 : Int, bits .xor .u8 s1 s2 = s3 ∧ 0 ≤ s3 ∧ s3 ≤ 1 ∧ (s3 = 1 ↔ s1 ≠ s2) := by
  rcases h1 with rfl | rfl <;> rcases h2 with rfl | rfl
  · exact ⟨0, by decide, by decide, by decide, by decide⟩
  · exact ⟨1, by decide, by decide, by decide, by decide⟩
  · exact ⟨1, by decide, by decide, by decide, by decide⟩
  · exact ⟨0, by decide, by decide, by decide, by decide⟩
theorem mulW (s1 s2 s3 : Int) (M N : Nat) (w : World) (hv : SV w) (h1 : s1 = 0 ∨ s1 = 1) (h2 : s2 = 0 ∨ s2 = 1) (hx : bits .xor .u8 s1 s2 = s3) (t0 : 0 ≤ s3) (t1 : s3 ≤ 1) (hM : M ≤ 2048) (hN : N ≤ 2048) :
    Calls Tryd.prog 13 #[.int .i64 (wd s1 M), .int .i64 (wd s2 N)] w fun e w' => e = .returned (.int .i64 (wd s3 (M * N))) ∧ Below w.heap.size w w' := by
  have fa := fin_wd s1 M (by omega) (by omega) (by omega)
  have fb := fin_wd s2 N (by omega) (by omega) (by omega)
  obtain ⟨k1, hk1, hA⟩ := splitW _ _ _ _ fa
  obtain ⟨k2, hk2, hB⟩ := splitW _ _ _ _ fb
  obtain ⟨_, _, _, a0, a1, ea0, ea1, _⟩ := fa
  obtain ⟨_, _, _, b0, b1, eb0, eb1, _⟩ := fb
  have p1 : (fm M : Int) * (fm N : Int) ≤ 281474976710656 := by
    have h1 : (fm M : Int) * (fm N : Int) ≤ 16777216 * (fm N : Int) := Int.mul_le_mul_of_nonneg_right (by omega) b0
    omega
  have p0 : 0 ≤ (fm M : Int) * (fm N : Int) := Int.mul_nonneg a0 b0
  have fin : ∀ r, (∀ w, Calls Tryd.prog 29 #[.agg #[.int .u8 8, .int .u8 23], .int .u8 s3, .int .u64 ((fm M : Int) * (fm N : Int)), .int .i64 (fe M + fe N)] w fun e w' => e = .returned (.int .i64 r) ∧ Below w.heap.size w w') →
      Calls Tryd.prog 13 #[.int .i64 (wd s1 M), .int .i64 (wd s2 N)] w fun e w' => e = .returned (.int .i64 r) ∧ Below w.heap.size w w' := by
    intro r hR
    refine mulWalk _ _ k1 s1 (fe M) (fm M) k2 s2 (fe N) (fm N) s3 _ _ r w hv hA hB (.inr (.inr (.inr (.inr (.inr ⟨by omega, by omega, hx, ?_, ?_, ?_, ?_, ?_, ?_, hR⟩)))))
    · simp [IntKind.wrap, IntKind.bits, IntKind.signed]; omega
    · simp [IntKind.wrap, IntKind.bits, IntKind.signed]; omega
    · generalize (fm M : Int) * (fm N : Int) = z at *
      simp [IntKind.wrap, IntKind.bits, IntKind.signed]; omega
    · rw [IntKind.wrap_i64]; omega
    · rw [IntKind.wrap_i64]; omega
    · rw [IntKind.wrap_i64]; omega
  refine fin _ (fun w => ?_)
  by_cases hz : M = 0 ∨ N = 0
  · have e1 : (fm M : Int) * (fm N : Int) = 0 := by
      rcases hz with h | h
      · rw [h, fm_zero]; simp
      · rw [h, fm_zero]; simp
    have e2 : M * N = 0 := Nat.mul_eq_zero.2 hz
    rw [e1, e2]
    exact (FlR.roundZeroS s3 _ w t0 t1).mono fun e w' ⟨h1, h2⟩ => ⟨h1.trans (ret_int (by unfold wd; rw [fw_zero]; simp)), h2⟩
  · have hM0 : M ≠ 0 := by omega
    have hN0 : N ≠ 0 := by omega
    obtain ⟨_, _, _, l1, l2⟩ := fw_is M (by omega) hM0
    obtain ⟨_, _, _, l3, l4⟩ := fw_is N (by omega) hN0
    have e1 : (fm M : Int) * (fm N : Int) = ((M * N * 2 ^ (24 - Rnd.bl M + (24 - Rnd.bl N)) : Nat) : Int) := by
      rw [← Int.natCast_mul]
      congr 1
      unfold fm
      rw [Nat.pow_add]
      simp only [Nat.mul_assoc, Nat.mul_left_comm]
    rw [e1]
    refine roundN s3 (M * N) _ _ w t0 t1 (Nat.ne_of_gt (Nat.mul_pos (by omega) (by omega))) (by omega) (by rw [fe_pos hM0, fe_pos hN0]; omega) ?_
    rw [← e1]; omega
theorem lessW (m n : Int) (w : World) (hv : SV w) (m0 : -4096 ≤ m) (m1 : m ≤ 4096) (n0 : -4096 ≤ n) (n1 : n ≤ 4096) : Calls Tryd.prog 14 #[.int .i64 (rp m), .int .i64 (rp n)] w fun e w' => e = .returned (.bool (decide (m < n))) ∧ Below w.heap.size w w' := by
  have fa := fin_wd (if m < 0 then 1 else 0) m.natAbs (by omega) (by split <;> omega) (by split <;> omega)
  have fb := fin_wd (if n < 0 then 1 else 0) n.natAbs (by omega) (by split <;> omega) (by split <;> omega)
  obtain ⟨k1, hk1, hA⟩ := splitW _ _ _ _ fa
  obtain ⟨k2, hk2, hB⟩ := splitW _ _ _ _ fb
  refine lessWalk (rp m) (rp n) k1 _ _ _ k2 _ _ _ _ w hv hA hB (.inr (.inr ⟨by rw [beq_eq_false_iff_ne]; omega, by rw [beq_eq_false_iff_ne]; omega, .inr ⟨_, _, fa⟩, .inr ⟨_, _, fb⟩, ?_⟩))
  have q1 := fw_iff (a := m.natAbs) (b := n.natAbs) (by omega) (by omega)
  have q2 := fw_iff (a := n.natAbs) (b := m.natAbs) (by omega) (by omega)
  have z1 : m.natAbs = 0 → fw m.natAbs = 0 := fun h => by rw [h, fw_zero]
  have z2 : n.natAbs = 0 → fw n.natAbs = 0 := fun h => by rw [h, fw_zero]
  have y1 : m.natAbs ≠ 0 → 0 < fw m.natAbs := fun h => by have := fw_lt (a := 0) (b := m.natAbs) (by omega) (by omega); omega
  have y2 : n.natAbs ≠ 0 → 0 < fw n.natAbs := fun h => by have := fw_lt (a := 0) (b := n.natAbs) (by omega) (by omega); omega
  unfold rank rp wd
  rw [decide_eq_decide]
  by_cases c1 : m < 0 <;> by_cases c2 : n < 0 <;> simp only [c1, c2, if_true, if_false] <;> simp <;> omega
theorem divW (s1 s2 s3 : Int) (M N : Nat) (w : World) (hv : SV w) (h1 : s1 = 0 ∨ s1 = 1) (h2 : s2 = 0 ∨ s2 = 1) (hx : bits .xor .u8 s1 s2 = s3) (t0 : 0 ≤ s3) (t1 : s3 ≤ 1) (hM : M ≤ 2048) (hN : N ≤ 2048) (n0 : N ≠ 0) :
    Calls Tryd.prog 18 #[.int .i64 (wd s1 (M * N)), .int .i64 (wd s2 N)] w fun e w' => e = .returned (.int .i64 (wd s3 M)) ∧ Below w.heap.size w w' := by
  have hMN : M * N ≤ 2048 * 2048 := Nat.mul_le_mul hM hN
  have fa := fin_wd s1 (M * N) (by omega) (by omega) (by omega)
  have fb := fin_wd s2 N (by omega) (by omega) (by omega)
  obtain ⟨k1, hk1, hA⟩ := splitW _ _ _ _ fa
  obtain ⟨k2, hk2, hB⟩ := splitW _ _ _ _ fb
  obtain ⟨_, _, _, a0, a1, ea0, ea1, _⟩ := fa
  obtain ⟨_, _, _, b0, b1, eb0, eb1, _⟩ := fb
  obtain ⟨_, g1, g2, l3, l4⟩ := fw_is N (by omega) n0
  have fN0 : fm N ≠ 0 := by omega
  have wr : ∀ z : Int, 0 ≤ z → z < 18446744073709551616 → IntKind.u64.wrap z = z := by
    intro z h0 h1; simp [IntKind.wrap, IntKind.bits, IntKind.signed]; omega
  by_cases hz : M = 0
  · have e2 : M * N = 0 := by rw [hz]; simp
    rw [e2, hz]
    rw [e2] at hA hk1 ea0 ea1
    rw [fm_zero] at hA hk1
    refine divWalk _ _ k1 s1 (fe 0) ((0 : Nat) : Int) k2 s2 (fe N) (fm N) s3 0 (fe 0 - fe N - 64) (fe 0 - fe N) 64 0 0 0 _ false w hv hA hB
      (.inr (.inr (.inr (.inr (.inr ⟨by omega, by omega, hx, by omega, by omega, rfl, wr _ (by omega) (by omega), by omega, rfl, by decide, rfl, by simp; rfl, by simp, rfl, rfl, ?_, ?_, ?_, ?_, by decide, by omega, ?_⟩)))))
    · rw [IntKind.wrap_i64]; omega
    · rw [IntKind.wrap_i64]; omega
    · rw [IntKind.wrap_i64]; omega
    · rw [IntKind.wrap_i64]; omega
    · intro w
      exact (FlR.roundZeroS s3 _ w t0 t1).mono fun e w' ⟨h1, h2⟩ => ⟨h1.trans (ret_int (by unfold wd; rw [fw_zero]; simp)), h2⟩
  · have hMN0 : M * N ≠ 0 := Nat.ne_of_gt (Nat.mul_pos (by omega) (by omega))
    obtain ⟨_, g3, g4, l1, l2⟩ := fw_is (M * N) (by omega) hMN0
    have b24 : Rnd.bl (fm (M * N)) = 24 := Rnd.bl_eq _ 24 (by omega) (by exact g3) (by exact g4)
    have hbl : Lib.bitLen (fm (M * N)) = 24 := by rw [Rnd.bl_lib _ (Nat.lt_trans (show fm (M * N) < 2 ^ 24 from g4) (by decide)), b24]
    have hle : Rnd.bl N ≤ Rnd.bl (M * N) := bl_mono (Nat.le_mul_of_pos_left N (by omega))
    obtain ⟨t, ht⟩ : ∃ t, t = 40 + (24 - Rnd.bl (M * N)) - (24 - Rnd.bl N) := ⟨_, rfl⟩
    have e1 : fm (M * N) * 2 ^ 40 = fm N * (M * 2 ^ t) := by
      unfold fm
      have : M * N * 2 ^ (24 - Rnd.bl (M * N)) * 2 ^ 40 = M * N * (2 ^ (24 - Rnd.bl N) * 2 ^ t) := by
        rw [Nat.mul_assoc, ← Nat.pow_add, ← Nat.pow_add, show 24 - Rnd.bl (M * N) + 40 = 24 - Rnd.bl N + t by omega]
      rw [this]
      simp only [Nat.mul_assoc, Nat.mul_left_comm]
    have hi64 : fm (M * N) * 2 ^ 40 < 18446744073709551616 := by
      have := Nat.mul_lt_mul_of_pos_right g4 (Nat.two_pow_pos 40)
      exact Nat.lt_of_lt_of_le this (by decide)
    have hq : M * 2 ^ t ≤ fm (M * N) * 2 ^ 40 := by rw [e1]; exact Nat.le_mul_of_pos_left _ (by omega)
    have hi0 : (0 : Int) ≤ ((fm (M * N) * 2 ^ 40 : Nat) : Int) := Int.natCast_nonneg _
    refine divWalk _ _ k1 s1 (fe (M * N)) (fm (M * N)) k2 s2 (fe N) (fm N) s3 ((M * 2 ^ t : Nat) : Int) (-(t : Int)) (fe (M * N) - fe N) 40 ((fm (M * N) * 2 ^ 40 : Nat) : Int) ((M * 2 ^ t : Nat) : Int) 0 _ false w hv hA hB
      (.inr (.inr (.inr (.inr (.inr ⟨by omega, by omega, hx, by omega, by omega, wr _ (by omega) (by omega), wr _ (by omega) (by omega), by omega, ?_, by decide, ?_, ?_, ?_, rfl, rfl, ?_, ?_, ?_, ?_, hi0, by omega, fun w => roundN s3 M t _ w t0 t1 hz (by omega) rfl (by omega)⟩)))))
    · rw [Int.toNat_natCast, hbl]; rfl
    · show IntKind.u64.wrap ((fm (M * N) : Int) * 2 ^ 40) = _
      have e : ((fm (M * N) : Int) * 2 ^ 40) = ((fm (M * N) * 2 ^ 40 : Nat) : Int) := by rw [Int.natCast_mul]; rfl
      rw [e]; exact wr _ hi0 (by omega)
    · rw [Int.tdiv_eq_ediv_of_nonneg hi0, ← Int.natCast_ediv, e1, Nat.mul_div_cancel_left _ (by omega)]
      exact wr _ (Int.natCast_nonneg _) (by omega)
    · rw [← Int.natCast_emod, e1, Nat.mul_mod_right]; rfl
    · rw [IntKind.wrap_i64]; omega
    · rw [IntKind.wrap_i64]; omega
    · rw [IntKind.wrap_i64]; omega
    · rw [IntKind.wrap_i64, fe_pos hMN0, fe_pos n0]; omega
end FlV
end Go.Proofs.YtmghmcnihiepiaaDoor
