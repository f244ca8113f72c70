/- Rounded numbers: floats made whole numbers. -/
import Derived.Test.YtmghmcnihiepiaaDoorFlY
import Derived.Lib.QuietBelow
namespace Go.Proofs.YtmghmcnihiepiaaDoor
namespace FlV
open Go.ChangeShapes Go.WideShapes Go.ChangeAt Go.RowKit Go.Joins
open Flo (hide ret_int ret_bool)
set_option linter.unusedVariables false

theorem up_eq2 (m j : Nat) (hj : j ≤ 64) (h : ((m * 2 ^ j : Nat) : Int) ≤ 9223372036854775807) : wrap64 (IntKind.u64.wrap ((m : Int) * 2 ^ min j 64)) = ((m * 2 ^ j : Nat) : Int) := by
  have e : ((m : Int) * 2 ^ min j 64) = ((m * 2 ^ j : Nat) : Int) := by
    rw [Nat.min_eq_left hj, Int.natCast_mul, Int.natCast_pow]; rfl
  have h0 : (0 : Int) ≤ ((m * 2 ^ j : Nat) : Int) := Int.natCast_nonneg _
  rw [e]
  generalize ((m * 2 ^ j : Nat) : Int) = z at *
  rw [show IntKind.u64.wrap z = z by simp [IntKind.wrap, IntKind.bits, IntKind.signed]; omega]
  simp only [wrap64]; omega
theorem nwUp2 (m j : Nat) (w : World) (hj : j ≤ 64) (h : ((m * 2 ^ j : Nat) : Int) ≤ 9223372036854775807) : Calls Tryd.prog 48 #[.int .u64 m, .int .i64 j] w fun e w' => e = .returned (.int .i64 ((m * 2 ^ j : Nat) : Int)) ∧ Below w.heap.size w w' := by
  have c : decide (0 ≤ (j : Int)) = true := decide_eq_true (by omega)
  have hh := hide (up_eq2 m j hj h)
  clear h
  go_enter Tryd.func48, Tryd.ntmps48
  go_wp2_with fail
  go_ret
  exact ⟨ret_int (by have := hh.out; rw [Nat.min_eq_left hj] at this; exact this), Below.refl _ _⟩

/-- what a float's size is as a whole number -/
def wh (m : Nat) (e : Int) : Nat := if 39 ≤ e then 4611686018427387904 else if 0 ≤ e then m * 2 ^ e.toNat else Rnd.ne m (2 ^ (-e).toNat)

theorem sizeInf (s y z : Int) (w : World) : Calls Tryd.prog 32 #[.agg #[.int .u8 2, .int .u8 s, .int .i16 y, .int .u32 z]] w fun e w' => e = .returned (.int .i64 4611686018427387904) ∧ Below w.heap.size w w' := by
  have bW := below_alloc1 w (.cells #[.int .u8 2, .int .u8 s, .int .i16 y, .int .u32 z] 34)
  go_enter Tryd.func32, Tryd.ntmps32
  go_wp2_with fail
  go_quiet (fail)
  go_wp2_with fail
  go_ret
  exact ⟨rfl, bW.trans (below_draws _ _ _)⟩
/-- the walk: each number under a name -/
theorem sizeWalk (k s y z L t r out : Int) (w : World) (z0 : 0 ≤ z) (z1 : z ≤ 4294967295) (hk : (k == 2) = false) (hL : (Lib.bitLen z.toNat : Int) = L)
    (hy : IntKind.i64.wrap y = y) (ht : IntKind.i64.wrap (y + L) = t) (hz : IntKind.u64.wrap z = z) (hc : decide (63 < t) = false) (ho : min r 4611686018427387904 = out)
    (hN : ∀ w, Calls Tryd.prog 48 #[.int .u64 z, .int .i64 y] w fun e w' => e = .returned (.int .i64 r) ∧ Below w.heap.size w w') :
    Calls Tryd.prog 32 #[.agg #[.int .u8 k, .int .u8 s, .int .i16 y, .int .u32 z]] w fun e w' => e = .returned (.int .i64 out) ∧ Below w.heap.size w w' := by
  have c0 : (w.alloc (.cells #[.int .u8 k, .int .u8 s, .int .i16 y, .int .u32 z] 34)).cell? ⟨w.heap.size, 0, none⟩ = some (.int .u8 k) := by simp [go_sem]
  have c2 : (w.alloc (.cells #[.int .u8 k, .int .u8 s, .int .i16 y, .int .u32 z] 34)).cell? ⟨w.heap.size, 2, none⟩ = some (.int .i16 y) := by simp [go_sem]
  have c3 : (w.alloc (.cells #[.int .u8 k, .int .u8 s, .int .i16 y, .int .u32 z] 34)).cell? ⟨w.heap.size, 3, none⟩ = some (.int .u32 z) := by simp [go_sem]
  have bW := below_alloc1 w (.cells #[.int .u8 k, .int .u8 s, .int .i16 y, .int .u32 z] 34)
  have HN := hide hN
  clear hN
  go_enter Tryd.func32, Tryd.ntmps32
  go_wp2_with fail
  generalize hW : w.alloc (.cells #[.int .u8 k, .int .u8 s, .int .i16 y, .int .u32 z] 34) = W at *
  have k0 := cell_regrown c0
  have k2 := cell_regrown c2
  have k3 := cell_regrown c3
  have HL := hide (fun q os => Calls.regrown_of (d := q) (os := os) (w := W) ((Tryd.bits_Len32 z _ z0 z1).mono fun e w' ⟨h1, h2⟩ => ⟨h1.trans (by rw [hL]), h2 ▸ Below.refl _ _⟩))
  clear hW c0 c2 c3
  refine wp_region_quiet_below (by kernel_rfl) (by kernel_rfl) ?_
  repeat (quiet_step (first | (go_at_call 49; exact HL.out _ _)))
  refine wpQuiet_nil ?_
  intro _ hw'
  obtain ⟨⟨dq, osq⟩, hw''⟩ := hw'
  subst hw''
  have c2 := k2 dq osq
  have c3 := k3 dq osq
  have bW2 : Below w.heap.size w (Sort.grow (redrawn W dq) osq) := bW.trans ((below_regrown W dq osq).mono bW.size)
  clear k0 k2 k3 HL bW
  generalize Sort.grow (redrawn W dq) osq = W2 at *
  go_wp2_with fail
  refine (HN.out _).mono ?_; rintro e w2 ⟨rfl, b2⟩
  go_wp2_with fail
  go_ret
  exact ⟨rfl, bW2.trans (b2.mono bW2.size)⟩
/-- the same where it is too great -/
theorem sizeBig (k s y z L t : Int) (w : World) (z0 : 0 ≤ z) (z1 : z ≤ 4294967295) (hk : (k == 2) = false) (hL : (Lib.bitLen z.toNat : Int) = L)
    (hy : IntKind.i64.wrap y = y) (ht : IntKind.i64.wrap (y + L) = t) (hc : decide (63 < t) = true) :
    Calls Tryd.prog 32 #[.agg #[.int .u8 k, .int .u8 s, .int .i16 y, .int .u32 z]] w fun e w' => e = .returned (.int .i64 4611686018427387904) ∧ Below w.heap.size w w' := by
  have c0 : (w.alloc (.cells #[.int .u8 k, .int .u8 s, .int .i16 y, .int .u32 z] 34)).cell? ⟨w.heap.size, 0, none⟩ = some (.int .u8 k) := by simp [go_sem]
  have c2 : (w.alloc (.cells #[.int .u8 k, .int .u8 s, .int .i16 y, .int .u32 z] 34)).cell? ⟨w.heap.size, 2, none⟩ = some (.int .i16 y) := by simp [go_sem]
  have c3 : (w.alloc (.cells #[.int .u8 k, .int .u8 s, .int .i16 y, .int .u32 z] 34)).cell? ⟨w.heap.size, 3, none⟩ = some (.int .u32 z) := by simp [go_sem]
  have bW := below_alloc1 w (.cells #[.int .u8 k, .int .u8 s, .int .i16 y, .int .u32 z] 34)
  go_enter Tryd.func32, Tryd.ntmps32
  go_wp2_with fail
  generalize hW : w.alloc (.cells #[.int .u8 k, .int .u8 s, .int .i16 y, .int .u32 z] 34) = W at *
  have k0 := cell_regrown c0
  have k2 := cell_regrown c2
  have k3 := cell_regrown c3
  have HL := hide (fun q os => Calls.regrown_of (d := q) (os := os) (w := W) ((Tryd.bits_Len32 z _ z0 z1).mono fun e w' ⟨h1, h2⟩ => ⟨h1.trans (by rw [hL]), h2 ▸ Below.refl _ _⟩))
  clear hW c0 c2 c3
  refine wp_region_quiet_below (by kernel_rfl) (by kernel_rfl) ?_
  repeat (quiet_step (first | (go_at_call 49; exact HL.out _ _)))
  refine wpQuiet_nil ?_
  intro _ hw'
  obtain ⟨⟨dq, osq⟩, hw''⟩ := hw'
  subst hw''
  have c2 := k2 dq osq
  have c3 := k3 dq osq
  have bW2 : Below w.heap.size w (Sort.grow (redrawn W dq) osq) := bW.trans ((below_regrown W dq osq).mono bW.size)
  clear k0 k2 k3 HL bW
  generalize Sort.grow (redrawn W dq) osq = W2 at *
  go_wp2_with fail
  go_ret
  exact ⟨rfl, bW2⟩
theorem sizeFin (k s y z : Int) (m : Nat) (w : World) (hz : z = (m : Int)) (m1 : (m : Int) < 16777216) (y0 : -149 ≤ y) (y1 : y ≤ 104) (hy : y = -149 ∨ 8388608 ≤ (m : Int)) (hk : (k == 2) = false) :
    Calls Tryd.prog 32 #[.agg #[.int .u8 k, .int .u8 s, .int .i16 y, .int .u32 z]] w fun e w' => e = .returned (.int .i64 (min ((wh m y : Nat) : Int) 4611686018427387904)) ∧ Below w.heap.size w w' := by
  subst hz
  have m2 : m < 2 ^ 24 := Int.ofNat_lt.1 (by rw [show ((2 ^ 24 : Nat) : Int) = 16777216 by decide]; exact m1)
  have m3 : m < 2 ^ 64 := Nat.lt_trans m2 (by decide)
  have L1 := Rnd.bl_le_of m 24 m2
  have hL := Rnd.bl_lib m m3
  have L0 : -149 < y → Rnd.bl m = 24 := by
    intro h
    have h23 : 2 ^ 23 ≤ m := Int.ofNat_le.1 (by rw [show ((2 ^ 23 : Nat) : Int) = 8388608 by decide]; omega)
    have := Rnd.le_bl_of m 23 h23
    omega
  by_cases c : 39 < y
  · -- great: the walk ends at once
    have t0 : decide (63 < y + 24) = true := decide_eq_true (by omega)
    have e1 : ((wh m y : Nat) : Int) = 4611686018427387904 := by unfold wh; rw [if_pos (by omega)]; rfl
    rw [e1]
    have HL0 := L0 (by omega)
    exact sizeBig k s y m 24 (y + 24) w (by omega) (by omega) hk (by rw [Int.toNat_natCast, hL, HL0]; rfl) (by rw [IntKind.wrap_i64]; omega) (by rw [IntKind.wrap_i64]; omega) t0
  · have key : ∀ r : Nat, min (r : Int) 4611686018427387904 = min ((wh m y : Nat) : Int) 4611686018427387904 → (∀ w, Calls Tryd.prog 48 #[.int .u64 (m : Int), .int .i64 y] w fun e w' => e = .returned (.int .i64 (r : Int)) ∧ Below w.heap.size w w') →
        Calls Tryd.prog 32 #[.agg #[.int .u8 k, .int .u8 s, .int .i16 y, .int .u32 (m : Int)]] w fun e w' => e = .returned (.int .i64 (min ((wh m y : Nat) : Int) 4611686018427387904)) ∧ Below w.heap.size w w' := by
      intro r hr hN
      exact sizeWalk k s y m (Rnd.bl m : Nat) (y + (Rnd.bl m : Nat)) r _ w (by omega) (by omega) hk (by rw [Int.toNat_natCast, hL]) (by rw [IntKind.wrap_i64]; omega) (by rw [IntKind.wrap_i64]; omega) (by simp [IntKind.wrap, IntKind.bits, IntKind.signed]; omega)
        (decide_eq_false (by omega)) hr hN
    by_cases c0 : 0 ≤ y
    · obtain ⟨j, rfl⟩ := Int.eq_ofNat_of_zero_le c0
      have hj : j ≤ 39 := by omega
      have hlt : m * 2 ^ j < 2 ^ 63 := by
        have h1 : m * 2 ^ j < 2 ^ 24 * 2 ^ j := Nat.mul_lt_mul_of_pos_right m2 (Nat.two_pow_pos j)
        have h2 : 2 ^ 24 * 2 ^ j ≤ 2 ^ 63 := by rw [← Nat.pow_add]; exact Nat.pow_le_pow_right (by omega) (by omega)
        exact Nat.lt_of_lt_of_le h1 h2
      have hltI : ((m * 2 ^ j : Nat) : Int) < 9223372036854775808 := by
        have := Int.ofNat_lt.2 hlt
        rw [show ((2 ^ 63 : Nat) : Int) = 9223372036854775808 by decide] at this
        exact this
      refine key (m * 2 ^ j) ?_ (fun w => nwUp2 m j w (by omega) (by omega))
      by_cases c9 : j = 39
      · subst c9
        have h23 : 2 ^ 23 ≤ m := Int.ofNat_le.1 (by rw [show ((2 ^ 23 : Nat) : Int) = 8388608 by decide]; omega)
        have hge : 2 ^ 62 ≤ m * 2 ^ 39 := by
          have := Nat.mul_le_mul_right (2 ^ 39) h23
          rw [← Nat.pow_add] at this; exact this
        have hgeI : (4611686018427387904 : Int) ≤ ((m * 2 ^ 39 : Nat) : Int) := by
          have := Int.ofNat_le.2 hge
          rw [show ((2 ^ 62 : Nat) : Int) = 4611686018427387904 by decide] at this
          exact this
        have e1 : ((wh m ((39 : Nat) : Int) : Nat) : Int) = 4611686018427387904 := by unfold wh; rw [if_pos (by omega)]; rfl
        rw [e1, Int.min_eq_right hgeI]; rfl
      · have e1 : wh m (j : Int) = m * 2 ^ j := by unfold wh; rw [if_neg (by omega), if_pos (by omega), Int.toNat_natCast]
        rw [e1]
    · obtain ⟨q, hq⟩ := Int.eq_ofNat_of_zero_le (by omega : 0 ≤ -y)
      have e1 : wh m y = Rnd.ne m (2 ^ q) := by unfold wh; rw [if_neg (by omega), if_neg (by omega), hq, Int.toNat_natCast]
      have hne : Rnd.ne m (2 ^ q) ≤ m + 1 := Nat.le_trans (Rnd.ne_le _ _) (by have := Nat.div_le_self m (2 ^ q); omega)
      have hneI : ((Rnd.ne m (2 ^ q) : Nat) : Int) ≤ (m : Int) + 1 := by have := Int.ofNat_le.2 hne; omega
      obtain rfl : y = -(q : Int) := by omega
      refine key (Rnd.ne m (2 ^ q)) (by rw [e1]) (fun w => ?_)
      by_cases q6 : q ≤ 64
      · exact FlR.nwDown m q w (by omega) (by omega) q6 (by omega)
      · have hz : Rnd.ne m (2 ^ q) = 0 := Rnd.ne_small _ _ (by
          have h1 : 2 * m < 2 * 2 ^ 64 := by omega
          have h2 : 2 * 2 ^ 64 ≤ 2 ^ q := by
            rw [show 2 * 2 ^ 64 = 2 ^ 65 by decide]; exact Nat.pow_le_pow_right (by omega) (by omega)
          exact Nat.lt_of_lt_of_le h1 h2)
        rw [hz]
        exact FlR.nwFar m _ w (by omega)

end FlV
end Go.Proofs.YtmghmcnihiepiaaDoor
