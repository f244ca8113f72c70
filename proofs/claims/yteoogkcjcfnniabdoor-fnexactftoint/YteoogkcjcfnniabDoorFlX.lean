/- Rounded numbers: FToInt on both sides. -/
import Derived.Test.YteoogkcjcfnniabDoorFlT
namespace Go.Proofs.YteoogkcjcfnniabDoor
namespace FlV
open Go.ChangeShapes Go.WideShapes Go.ChangeAt Go.RowKit Go.Joins
open Flo (hide ret_int ret_bool)
set_option linter.unusedVariables false

theorem hf_ne0 (m k : Nat) (hk : 1 ≤ k) : Flo.hf m k false = Rnd.ne m (2 ^ k) := by
  rw [FlM.hf_ne m k false hk]
  have := Rnd.ne_scale m (2 ^ k) 2 (by decide)
  rw [← this, Nat.pow_succ, Nat.mul_comm 2 m]; rfl
theorem wh_bd (m : Nat) (e : Int) (m1 : (m : Int) < 16777216) : (0 : Int) ≤ ((wh m e : Nat) : Int) := Int.natCast_nonneg _
theorem specToFin (s : Int) (a e : Int) (m : Nat) (w : World) (h : FlP.Fin a s m e) :
    Calls Tryd.prog 11 #[.int .i64 a] w fun e' w' => e' = .returned (.int .i64 (if s = 1 then -(min ((wh m e : Nat) : Int) 4611686018427387904) else min ((wh m e : Nat) : Int) 4611686018427387904)) ∧ Below w.heap.size w w' := by
  have s0 : 0 ≤ s := h.1
  have s1 : s ≤ 1 := h.2.1
  have m1 : (m : Int) < 16777216 := h.2.2.2.2.1
  have e0 := h.2.2.2.2.2.1
  have e1 := h.2.2.2.2.2.2.1
  have HH := hide h
  have sc : s = 0 ∨ s = 1 := by omega
  clear h
  have w0 : (0 : Int) ≤ ((wh m e : Nat) : Int) := Int.natCast_nonneg _
  obtain ⟨N, hN⟩ : ∃ N : Int, ((wh m e : Nat) : Int) = N := ⟨_, rfl⟩
  rw [hN] at w0 ⊢
  by_cases c9 : 39 ≤ e
  · have eN : N = 4611686018427387904 := by rw [← hN]; unfold wh; rw [if_pos c9]; rfl
    subst eN
    have c0 : decide (e < 0) = false := decide_eq_false (by omega)
    have c1 : decide (e < 39) = false := decide_eq_false (by omega)
    clear hN m1
    rcases sc with rfl | rfl
    all_goals
      go_enter Tryd.func11, Tryd.ntmps11
      go_wp2_with fail
      refine (FlM.openFin a _ m e _ HH.out).mono ?_; rintro e' w1 ⟨rfl, b1⟩
      go_wp2_with fail
      go_ret
      exact ⟨ret_int (by decide), b1.alloc b1.size _⟩
  · have c1 : decide (e < 39) = true := decide_eq_true (by omega)
    by_cases ce : e < 0
    · obtain ⟨k, hk⟩ := Int.eq_ofNat_of_zero_le (by omega : 0 ≤ -e)
      have hw : wh m e = Rnd.ne m (2 ^ k) := by unfold wh; rw [if_neg c9, if_neg (by omega), hk, Int.toNat_natCast]
      have N1 : N ≤ 16777216 := by
        rw [← hN, hw]
        have hne : Rnd.ne m (2 ^ k) ≤ m + 1 := Nat.le_trans (Rnd.ne_le _ _) (by have := Nat.div_le_self m (2 ^ k); omega)
        have := Int.ofNat_le.2 hne; omega
      have HF : Hid (∀ w, Calls Tryd.prog 26 #[.int .i64 (m : Int), .int .i64 (k : Int), .bool false] w fun e w' => e = .returned (.int .i64 N) ∧ w' = w) := by
        intro w
        rw [← hN, hw]
        by_cases k6 : k ≤ 62
        · rw [← hf_ne0 m k (by omega)]
          exact Flo.half m k false w (by omega) (by omega) k6
        · have hz : Rnd.ne m (2 ^ k) = 0 := by
            rw [← hf_ne0 m k (by omega)]
            exact FlM.hf_far m k false (Int.ofNat_lt.1 (by rw [show ((2 ^ 62 : Nat) : Int) = 4611686018427387904 by decide]; omega)) (by omega)
          rw [hz]
          exact Flo.halfOver m k false w (by omega)
      have kk : -e = (k : Int) := hk
      have mn : decide (4611686018427387904 < N) = false := decide_eq_false (by omega)
      have mm := hide (show min N 4611686018427387904 = N by omega)
      clear hN hw hk c9 m1
      rcases sc with rfl | rfl
      all_goals
        go_enter Tryd.func11, Tryd.ntmps11
        go_wp2_with fail
        refine (FlM.openFin a _ m e _ HH.out).mono ?_; rintro e' w1 ⟨rfl, b1⟩
        go_wp2_with fail
        refine (HF.out _).mono ?_; rintro e' w2 ⟨rfl, rfl⟩
        go_wp2_with fail
        go_ret
        exact ⟨ret_int (by rw [mm.out] <;> simp), b1.alloc b1.size _⟩
    · obtain ⟨j, rfl⟩ := Int.eq_ofNat_of_zero_le (by omega : 0 ≤ e)
      have hw : wh m (j : Int) = m * 2 ^ j := by unfold wh; rw [if_neg c9, if_pos (by omega), Int.toNat_natCast]
      have c0 : decide ((j : Int) < 0) = false := decide_eq_false (by omega)
      have N1 : N < 4611686018427387904 := by
        rw [← hN, hw]
        have m2 : m < 2 ^ 24 := Int.ofNat_lt.1 (by rw [show ((2 ^ 24 : Nat) : Int) = 16777216 by decide]; exact m1)
        have h1 : m * 2 ^ j < 2 ^ 24 * 2 ^ j := Nat.mul_lt_mul_of_pos_right m2 (Nat.two_pow_pos j)
        have h2 : 2 ^ 24 * 2 ^ j ≤ 2 ^ 62 := by rw [← Nat.pow_add]; exact Nat.pow_le_pow_right (by omega) (by omega)
        have := Int.ofNat_lt.2 (Nat.lt_of_lt_of_le h1 h2)
        rw [show ((2 ^ 62 : Nat) : Int) = 4611686018427387904 by decide] at this
        exact this
      have hmul : (m : Int) * 2 ^ j = N := by rw [← hN, hw, Int.natCast_mul, Int.natCast_pow]; rfl
      have jm : min j 64 = j := by omega
      have jm2 : min (j % 18446744073709551616) 64 = j := by omega
      have wr : wrap64 N = N := by simp only [wrap64]; omega
      have wr2 : IntKind.i64.wrap N = N := by rw [IntKind.wrap_i64]; omega
      have jw : (j : Int) % 18446744073709551616 = (j : Int) := by omega
      have mn : decide (4611686018427387904 < N) = false := decide_eq_false (by omega)
      have mm := hide (show min N 4611686018427387904 = N by omega)
      clear hN hw c9 ce m1
      rcases sc with rfl | rfl
      all_goals
        go_enter Tryd.func11, Tryd.ntmps11
        go_wp2_with fail
        refine (FlM.openFin a _ m _ _ HH.out).mono ?_; rintro e' w1 ⟨rfl, b1⟩
        go_wp2_with fail
        go_ret
        exact ⟨ret_int (by rw [mm.out] <;> simp), b1.alloc b1.size _⟩
theorem toIntBoth (a : Int) : ∃ r, (∀ w, Calls Tryd.prog 11 #[.int .i64 a] w fun e w' => e = .returned (.int .i64 r) ∧ Below w.heap.size w w') ∧
    (∀ w, SV w → Calls Tryd.prog 12 #[.int .i64 a] w fun e w' => e = .returned (.int .i64 r) ∧ Below w.heap.size w w') := by
  rcases FlP.kinds a with h | ⟨s, h⟩ | ⟨s, m, e, h⟩
  · refine ⟨0, fun w => ?_, fun w hv => ?_⟩
    · go_enter Tryd.func11, Tryd.ntmps11
      go_wp2_with fail
      refine (FlM.openBad a _ h).mono ?_; rintro e w1 ⟨b, x, y, rfl, b1⟩
      go_wp2_with fail
      go_ret
      exact ⟨rfl, b1.alloc b1.size _⟩
    · obtain ⟨v0, v1⟩ := hv.cells
      go_enter Tryd.func12, Tryd.ntmps12
      go_wp2_with fail
      refine (splitBad a _ h).mono ?_; rintro e w1 ⟨x, y, z, rfl, b1⟩
      go_wp2_with fail
      go_ret
      exact ⟨rfl, b1.alloc b1.size _⟩
  · have s0 : 0 ≤ s := h.1
    have s1 : s ≤ 1 := h.2.1
    have sc : s = 0 ∨ s = 1 := by omega
    refine ⟨if s = 1 then -4611686018427387904 else 4611686018427387904, fun w => ?_, fun w hv => ?_⟩
    · rcases sc with rfl | rfl
      all_goals
        go_enter Tryd.func11, Tryd.ntmps11
        go_wp2_with fail
        refine (FlM.openInfC a _ _ h).mono ?_; rintro e w1 ⟨rfl, b1⟩
        go_wp2_with fail
        go_ret
        exact ⟨ret_int (by decide), b1.alloc b1.size _⟩
    · obtain ⟨v0, v1⟩ := hv.cells
      rcases sc with rfl | rfl
      all_goals
        go_enter Tryd.func12, Tryd.ntmps12
        go_wp2_with fail
        refine (splitInf a _ _ h).mono ?_; rintro e w1 ⟨rfl, b1⟩
        go_wp2_with fail
        refine (sizeInf _ _ _ _).mono ?_; rintro e w2 ⟨rfl, b2⟩
        go_wp2_with fail
        go_ret
        exact ⟨ret_int (by decide), (b1.alloc b1.size _).trans (b2.mono (b1.alloc b1.size _).size)⟩
  · have s0 : 0 ≤ s := h.1
    have s1 : s ≤ 1 := h.2.1
    have m0 : 0 ≤ m := h.2.2.2.1
    have m1 : m < 16777216 := h.2.2.2.2.1
    have e0 := h.2.2.2.2.2.1
    have e1 := h.2.2.2.2.2.2.1
    have hc := h.2.2.2.2.2.2.2
    obtain ⟨M, rfl⟩ := Int.eq_ofNat_of_zero_le m0
    refine ⟨_, fun w => specToFin s a e M w h, fun w hv => ?_⟩
    have sc : s = 0 ∨ s = 1 := by omega
    obtain ⟨v0, v1⟩ := hv.cells
    have HH := hide h
    have w0 : (0 : Int) ≤ ((wh M e : Nat) : Int) := Int.natCast_nonneg _
    have HS := hide (fun k s w hk => sizeFin k s e (M : Int) M w rfl m1 e0 e1 hc hk)
    have n0 : 0 ≤ min ((wh M e : Nat) : Int) 4611686018427387904 := by omega
    have n1 : min ((wh M e : Nat) : Int) 4611686018427387904 ≤ 4611686018427387904 := by omega
    generalize min ((wh M e : Nat) : Int) 4611686018427387904 = N at *
    clear hv h hc w0 m1 m0
    rcases sc with rfl | rfl
    all_goals
      go_enter Tryd.func12, Tryd.ntmps12
      go_wp2_with fail
      refine (splitFinS a _ M e _ HH.out).mono ?_; rintro e' w1 ⟨k, hk3, hk2, rfl, b1⟩
      go_wp2_with fail
      refine (HS.out k _ _ hk2).mono ?_; rintro e' w2 ⟨rfl, b2⟩
      go_wp2_with fail
      go_ret
      exact ⟨ret_int (by simp), (b1.alloc b1.size _).trans (b2.mono (b1.alloc b1.size _).size)⟩

end FlV
end Go.Proofs.YteoogkcjcfnniabDoor
