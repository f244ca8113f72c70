/- Rounded numbers, the program's side: a value rounded to a float. -/
import Derived.Test.YtmghmcnihiepiaaDoorFlR
import Derived.WalkKit
import Derived.ProofKit
import Derived.Lib.QuietBelow
namespace Go.Proofs.YtmghmcnihiepiaaDoor
namespace FlR
open Go.ChangeShapes Go.WideShapes Go.ChangeAt Go.RowKit Go.Joins
open Flo (hide ret_int ret_bool)
set_option linter.unusedVariables false

set_option maxHeartbeats 400000 in
/-- the walk alone: every number on its way under a name -/
theorem roundWalkS (s e t z u U r S out : Int) (m L : Nat) (w : World) (s0 : 0 ≤ s) (s1 : s ≤ 1) (m0 : ((m : Int) == 0) = false) (m1 : (m : Int) ≤ 18446744073709551615) (hL : Lib.bitLen m = L)
    (hmax : max (IntKind.i64.wrap (IntKind.i64.wrap (IntKind.i64.wrap (e + (L : Int)) - IntKind.i64.wrap 23) - 1)) (-149) = t)
    (hz : IntKind.i64.wrap (e - t) = z) (hv : IntKind.i64.wrap (t + 149) = u) (hv2 : IntKind.i64.wrap (u * 8388608) = U) (hv3 : IntKind.i64.wrap (U + r) = S)
    (ho : bits .or .i64 (s * 2147483648) (min S 2139095040) = out)
    (hN : ∀ w, Calls Tryd.prog 48 #[.int .u64 m, .int .i64 z] w fun e w' => e = .returned (.int .i64 r) ∧ Below w.heap.size w w') :
    Calls Tryd.prog 29 #[.agg #[.int .u8 8, .int .u8 23], .int .u8 s, .int .u64 m, .int .i64 e] w fun e w' => e = .returned (.int .i64 out) ∧ Below w.heap.size w w' := by
  have c0 : (w.alloc (.cells #[.int .u8 8, .int .u8 23] 36)).cell? ⟨w.heap.size, 0, none⟩ = some (.int .u8 8) := by simp [go_sem]
  have c1 : (w.alloc (.cells #[.int .u8 8, .int .u8 23] 36)).cell? ⟨w.heap.size, 1, none⟩ = some (.int .u8 23) := by simp [go_sem]
  have bW := below_alloc1 w (.cells #[.int .u8 8, .int .u8 23] 36)
  have HNN := hide hN
  clear hN
  go_enter Tryd.func29, Tryd.ntmps29
  go_wp2_with fail
  generalize hW : w.alloc (.cells #[.int .u8 8, .int .u8 23] 36) = W at *
  have k0 := cell_regrown c0
  have k1 := cell_regrown c1
  have HL := hide (fun q os => Calls.regrown_of (d := q) (os := os) (w := W) ((Tryd.bits_Len64 (m : Int) _ (by omega) m1).mono fun e w' ⟨h1, h2⟩ => ⟨h1.trans (by rw [Int.toNat_natCast, hL]), h2 ▸ Below.refl _ _⟩))
  have HW := hide (fun q os => Calls.regrown_of (d := q) (os := os) (w := W) (FlP.lowestS _))
  clear hW c0 c1
  refine wp_region_quiet_below (by kernel_rfl) (by kernel_rfl) ?_
  repeat (quiet_step (first | (go_at_call 47; exact HL.out _ _) | (go_at_call 43; exact HW.out _ _)))
  refine wpQuiet_nil ?_
  intro _ hw'
  obtain ⟨⟨dq, osq⟩, hw''⟩ := hw'
  subst hw''
  clear hmax
  go_wp2_with fail
  have c0 := k0 dq osq
  have c1 := k1 dq osq
  have bW2 : Below w.heap.size w (Sort.grow (redrawn W dq) osq) := bW.trans ((below_regrown W dq osq).mono bW.size)
  clear k0 k1 HL HW bW
  generalize Sort.grow (redrawn W dq) osq = W2 at *
  have k0 := cell_regrown c0
  have k1 := cell_regrown c1
  have HW := hide (fun q os => Calls.regrown_of (d := q) (os := os) (w := W2) (FlP.lowestS _))
  have HN2 := hide (fun q os => Calls.regrown_of (d := q) (os := os) (w := W2) (HNN.out _))
  clear c0 c1 HNN
  refine wp_region_quiet_below (by kernel_rfl) (by kernel_rfl) ?_
  repeat (quiet_step (first | (go_at_call 43; exact HW.out _ _) | (go_at_call 48; exact HN2.out _ _)))
  refine wpQuiet_nil ?_
  intro _ hw'
  obtain ⟨⟨dq2, osq2⟩, hw''⟩ := hw'
  subst hw''
  clear hz hv hv2 hv3
  go_wp2_with fail
  have c0 := k0 dq2 osq2
  have c1 := k1 dq2 osq2
  have bW3 : Below w.heap.size w (Sort.grow (redrawn W2 dq2) osq2) := bW2.trans ((below_regrown W2 dq2 osq2).mono bW2.size)
  clear k0 k1 HN2 HW bW2
  generalize Sort.grow (redrawn W2 dq2) osq2 = W3 at *
  have k0 := cell_regrown c0
  have k1 := cell_regrown c1
  have HZ := hide (fun q os => Calls.regrown_of (d := q) (os := os) (w := W3) (FlP.zeroS s _ s0 s1))
  have HI := hide (fun q os => Calls.regrown_of (d := q) (os := os) (w := W3) (inf0S _))
  clear c0 c1
  refine wp_region_quiet_below (by kernel_rfl) (by kernel_rfl) ?_
  repeat (quiet_step (first | (go_at_call 25; exact HZ.out _ _) | (go_at_call 30; exact HI.out _ _)))
  refine wpQuiet_nil ?_
  intro _ hw'
  obtain ⟨⟨dq3, osq3⟩, hw''⟩ := hw'
  subst hw''
  go_wp2_with fail
  go_ret
  exact ⟨rfl, bW3.trans ((below_regrown W3 dq3 osq3).mono bW3.size)⟩
theorem roundS (s e : Int) (m a b j1 j2 : Nat) (w : World) (s0 : 0 ≤ s) (s1 : s ≤ 1) (hb : 0 < b) (he : e = -149 + (j2 : Int) - j1) (m0 : m ≠ 0) (m1 : (m : Int) ≤ 18446744073709551615) (e0 : -1000 ≤ e) (e1 : e ≤ 1000)
    (hm : (m = a * 2 ^ j1 / (b * 2 ^ j2) ∧ a * 2 ^ j1 % (b * 2 ^ j2) = 0) ∨ (m = 2 * (a * 2 ^ j1 / (b * 2 ^ j2) / 2) + 1 ∧ a * 2 ^ j1 % (b * 2 ^ j2) ≠ 0 ∧ 26 ≤ Rnd.bl (a * 2 ^ j1 / (b * 2 ^ j2)))) :
    Calls Tryd.prog 29 #[.agg #[.int .u8 8, .int .u8 23], .int .u8 s, .int .u64 m, .int .i64 e] w fun e w' => e = .returned (.int .i64 (s * 2147483648 + (Rnd.fl 23 255 a b : Nat))) ∧ Below w.heap.size w w' := by
  have m2 : m < 2 ^ 64 := by
    have : ((2 ^ 64 : Nat) : Int) = 18446744073709551616 := by decide
    exact Int.ofNat_lt.1 (by rw [this]; omega)
  have L1 : Rnd.bl m ≤ 64 := Rnd.bl_le_of m 64 m2
  have hq0 : a * 2 ^ j1 / (b * 2 ^ j2) ≠ 0 := by
    rcases hm with ⟨h, _⟩ | ⟨_, _, h⟩
    · rw [← h]; exact m0
    · intro h0; rw [h0, Rnd.bl_zero] at h; omega
  have hLq : Rnd.bl (a * 2 ^ j1 / (b * 2 ^ j2)) = Rnd.bl m := by
    rcases hm with ⟨h, _⟩ | ⟨h, _, _⟩
    · rw [← h]
    · rw [h, Rnd.bl_or _ hq0]
  have hu := Rnd.unit_eq 23 a b j1 j2 hb hq0
  rw [hLq, show 23 + 1 = 24 from rfl] at hu
  have f1 := (Rnd.ne_fills 23 a b hb).1
  have fe := Rnd.fl_int 23 255 a b
  have p23 : ((2 ^ 23 : Nat) : Int) = 8388608 := by decide
  have p24 : ((2 ^ (23 + 1) : Nat) : Int) = 16777216 := by decide
  have pT : ((255 * 2 ^ 23 : Nat) : Int) = 2139095040 := by decide
  rw [p23, pT] at fe
  have g1 := Int.ofNat_le.2 f1
  rw [p24] at g1
  rw [show 23 + 1 = 24 from rfl] at fe g1
  have hr1 : ∀ J, Rnd.bl (a / b) - 24 + j1 + J = j2 → Rnd.ne a (b * 2 ^ (Rnd.bl (a / b) - 24)) = m * 2 ^ J := by
    intro J hJ
    rcases hm with ⟨h, hx⟩ | ⟨h, hx, hk⟩
    · rw [Rnd.ne_up a b j1 j2 _ hb (by omega) hx, ← h]
      congr 2; omega
    · rw [hLq] at hk; omega
  have hr2 : ∀ k, 1 ≤ k → Rnd.bl (a / b) - 24 + j1 = j2 + k → Rnd.ne a (b * 2 ^ (Rnd.bl (a / b) - 24)) = Rnd.ne m (2 ^ k) := by
    intro k k1 hk
    have hB : 0 < b * 2 ^ j2 := Nat.mul_pos hb (Nat.two_pow_pos _)
    rw [Rnd.ne_down a b j1 j2 _ k hk]
    rcases hm with ⟨h, hx⟩ | ⟨h, hx, hk2⟩
    · have e1 := Nat.div_add_mod (a * 2 ^ j1) (b * 2 ^ j2)
      rw [hx, Nat.add_zero, ← h, Nat.mul_comm] at e1
      rw [← e1, Nat.mul_comm (b * 2 ^ j2) (2 ^ k), Rnd.ne_scale _ _ _ hB]
    · rw [hLq] at hk2
      rw [Rnd.ne_or _ _ k hB (by omega) hx, ← h]
  clear f1 p23 p24 pT hm hLq hq0
  generalize Rnd.bl (a / b) - 24 = u at *
  generalize hr : Rnd.ne a (b * 2 ^ u) = r at *
  rw [fe]
  clear fe hr
  have uI : (e + (Rnd.bl m : Int) - 24 < -149 ∧ u = 0) ∨ (e + (Rnd.bl m : Int) - 24 = -149 + (u : Int)) := by omega
  have u1 : (u : Int) ≤ 2300 := by omega
  have r0 : (0 : Int) ≤ (r : Int) := Int.natCast_nonneg _
  have Lb : (Rnd.bl m : Int) ≤ 64 := by omega
  have key : ∀ z : Int, e - (-149 + (u : Int)) = z → (∀ w, Calls Tryd.prog 48 #[.int .u64 m, .int .i64 z] w fun e w' => e = .returned (.int .i64 r) ∧ Below w.heap.size w w') →
      Calls Tryd.prog 29 #[.agg #[.int .u8 8, .int .u8 23], .int .u8 s, .int .u64 m, .int .i64 e] w fun e w' => e = .returned (.int .i64 (s * 2147483648 + min ((u : Int) * 8388608 + (r : Int)) 2139095040)) ∧ Below w.heap.size w w' := by
    intro z hz hN
    clear hu hr1 hr2 he
    refine roundWalkS s e (-149 + (u : Int)) z u ((u : Int) * 8388608) r ((u : Int) * 8388608 + (r : Int)) _ m (Lib.bitLen m) w s0 s1 (by rw [beq_eq_false_iff_ne]; omega) m1 rfl ?_ ?_ ?_ ?_ ?_ (or31 s _ s0 s1 ?_ ?_) hN
    · rw [Rnd.bl_lib m m2]
      simp only [IntKind.wrap_i64]; omega
    · rw [← hz, IntKind.wrap_i64]; omega
    · rw [IntKind.wrap_i64]; omega
    · rw [IntKind.wrap_i64]; omega
    · rw [IntKind.wrap_i64]; omega
    · omega
    · omega
  by_cases c : u + j1 ≤ j2
  · have h := hr1 (j2 - (u + j1)) (by omega)
    refine key ((j2 - (u + j1) : Nat) : Int) (by omega) (fun w => ?_)
    rw [h]
    exact nwUp m _ w (by rw [← h]; exact Int.le_trans g1 (by decide))
  · have h := hr2 (u + j1 - j2) (by omega) (by omega)
    by_cases k6 : u + j1 - j2 ≤ 64
    · refine key (-((u + j1 - j2 : Nat) : Int)) (by omega) (fun w => ?_)
      rw [h]
      exact nwDown m _ w m1 (by omega) k6 (by rw [← h]; exact Int.le_trans g1 (by decide))
    · refine key _ rfl (fun w => ?_)
      have hz : Rnd.ne m (2 ^ (u + j1 - j2)) = 0 := Rnd.ne_small _ _ (by
        have h1 : 2 * m < 2 * 2 ^ 64 := by omega
        have h2 : 2 * 2 ^ 64 ≤ 2 ^ (u + j1 - j2) := by
          rw [show 2 * 2 ^ 64 = 2 ^ 65 by decide]; exact Nat.pow_le_pow_right (by omega) (by omega)
        exact Nat.lt_of_lt_of_le h1 h2)
      rw [h, hz]
      exact nwFar m _ w (by omega)
theorem roundZeroS (s e : Int) (w : World) (s0 : 0 ≤ s) (s1 : s ≤ 1) :
    Calls Tryd.prog 29 #[.agg #[.int .u8 8, .int .u8 23], .int .u8 s, .int .u64 0, .int .i64 e] w fun e w' => e = .returned (.int .i64 (s * 2147483648)) ∧ Below w.heap.size w w' := by
  go_enter Tryd.func29, Tryd.ntmps29
  go_wp2_with fail
  refine (FlP.zeroS s _ s0 s1).mono ?_; rintro e' w1 ⟨rfl, b1⟩
  go_wp2_with fail
  go_ret
  exact ⟨rfl, (below_alloc1 _ _).trans (b1.mono (by simp))⟩

end FlR
end Go.Proofs.YtmghmcnihiepiaaDoor
