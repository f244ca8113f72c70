/- Rounded numbers, the model's side: a value put together as a half. -/
import Derived.Test.YteoogkcjcfnniaaDoorFlM
import Derived.Test.YteoogkcjcfnniaaDoorClH
import Derived.WalkKit
import Derived.ProofKit
namespace Go.Proofs.YteoogkcjcfnniaaDoor
namespace FlM
open Go.ChangeShapes Go.WideShapes Go.ChangeAt Go.RowKit Go.Joins
open Flo (hide ret_int ret_bool)
set_option linter.unusedVariables false

theorem closeH (neg more : Bool) (a b j1 j2 m : Nat) (e : Int) (w : World) (hb : 0 < b) (he : e = -24 + (j2 : Int) - j1) (hm : m = a * 2 ^ j1 / (b * 2 ^ j2)) (hs : more = decide (a * 2 ^ j1 % (b * 2 ^ j2) ≠ 0))
    (m0 : m ≠ 0) (m1 : (m : Int) < 4611686018427387904) (hk : more = true → 12 ≤ Rnd.bl m) (e0 : -1000 ≤ e) (e1 : e ≤ 1000) :
    Calls Tryd.prog 43 #[.bool neg, .int .i64 m, .int .i64 e, .bool more, .int .i64 10, .int .i64 15, .int .i64 31] w fun e w' => e = .returned (.int .i64 (Rnd.fl 10 31 a b : Nat)) ∧ w' = w := by
  have m2 : m < 2 ^ 62 := by
    have : ((2 ^ 62 : Nat) : Int) = 4611686018427387904 := by decide
    omega
  have L1 : Rnd.bl m ≤ 62 := Rnd.bl_le_of m 62 m2
  have L0 := Rnd.bl_pos m m0
  have hu := Rnd.unit_eq 10 a b j1 j2 hb (by rw [← hm]; exact m0)
  rw [← hm] at hu
  obtain ⟨f1, f2⟩ := Rnd.ne_fills 10 a b hb
  have fe := fl_int 10 31 a b
  have p23 : ((2 ^ 10 : Nat) : Int) = 1024 := by decide
  have p24 : ((2 ^ (10 + 1) : Nat) : Int) = 2048 := by decide
  have pT : ((31 * 2 ^ 10 : Nat) : Int) = 31744 := by decide
  rw [p23, pT] at fe
  rw [show 10 + 1 = 11 from rfl] at hu fe f1 f2 p24
  have g1 := Int.ofNat_le.2 f1
  rw [p24] at g1
  have g2 : ∀ h : ((Rnd.ne a (b * 2 ^ (Rnd.bl (a / b) - 11)) : Nat) : Int) < 1024, Rnd.bl (a / b) - 11 = 0 := fun h => f2 (Int.ofNat_lt.1 (by rw [p23]; exact h))
  clear f1 f2 p23 p24 pT
  have hr1 : ∀ J, Rnd.bl (a / b) - 11 + j1 + J = j2 → more = false → Rnd.ne a (b * 2 ^ (Rnd.bl (a / b) - 11)) = m * 2 ^ J := by
    intro J hJ hmo
    have hx : a * 2 ^ j1 % (b * 2 ^ j2) = 0 := by
      rw [hmo] at hs
      have := of_decide_eq_false hs.symm
      omega
    rw [Rnd.ne_up a b j1 j2 _ hb (by omega) hx, ← hm]
    congr 2; omega
  have hr2 : ∀ k, 1 ≤ k → Rnd.bl (a / b) - 11 + j1 = j2 + k → Rnd.ne a (b * 2 ^ (Rnd.bl (a / b) - 11)) = Flo.hf m k more := by
    intro k k1 hk
    rw [Rnd.ne_down a b j1 j2 _ k hk, Rnd.ne_sticky _ _ k (Nat.mul_pos hb (Nat.two_pow_pos _)) k1, ← hm, hf_ne m k more k1]
    congr 2
    by_cases c : a * 2 ^ j1 % (b * 2 ^ j2) = 0
    · rw [if_pos c, hs, decide_eq_false (by omega)]; rfl
    · rw [if_neg c, hs, decide_eq_true c]; rfl
  generalize Rnd.bl (a / b) - 11 = u at *
  generalize Rnd.ne a (b * 2 ^ u) = r at *
  rw [fe]
  have key : ∀ (J : Nat) (K : Int), e - (J : Int) ≤ -24 + (u : Int) → (J = 0 ∨ e - (J : Int) = -24 + (u : Int)) → ((m * 2 ^ J : Nat) : Int) ≤ 4611686018427387904 → K = -24 + (u : Int) - (e - (J : Int)) →
      (∀ w, Calls Tryd.prog 47 #[.int .i64 ((m * 2 ^ J : Nat) : Int), .int .i64 K, .bool more] w fun e w' => e = .returned (.int .i64 r) ∧ w' = w) →
      Calls Tryd.prog 43 #[.bool neg, .int .i64 m, .int .i64 e, .bool more, .int .i64 10, .int .i64 15, .int .i64 31] w fun e w' => e = .returned (.int .i64 (min ((u : Int) * 1024 + (r : Int)) 31744)) ∧ w' = w := by
    intro J K h1 h2 h3 h4 h5
    refine closeRawH neg more m (Rnd.bl m) u r J e K _ w rfl (by omega) (by omega) e0 e1 (by clear h1 h2 h3 h4 fe g1 g2 hr1 hr2 hm hs hk; omega) h1 h2 h3 h4 g1 (fun h => ?_) (fun h => ?_) h5
    · rw [g2 h]
      clear h1 h2 h3 h4 fe g2 hr1 hr2 hm hs hk hu
      omega
    · rw [Int.add_comm]
  by_cases c : u + j1 ≤ j2
  · have hmo : more = false := by
      cases more
      · rfl
      · have := hk rfl; omega
    have hr := hr1 (j2 - (u + j1)) (by omega) hmo
    refine key (j2 - (u + j1)) 0 (by omega) (by omega) (by rw [← hr]; exact Int.le_trans g1 (by decide)) (by omega) (fun w => ?_)
    have := Flo.halfNone ((m * 2 ^ (j2 - (u + j1)) : Nat) : Int) 0 more w (by omega)
    rw [hr]; exact this
  · have hr := hr2 (u + j1 - j2) (by omega) (by omega)
    refine key 0 ((u + j1 - j2 : Nat) : Int) (by omega) (by omega) (by rw [Nat.pow_zero, Nat.mul_one]; omega) (by omega) (fun w => ?_)
    rw [Nat.pow_zero, Nat.mul_one]
    by_cases k6 : u + j1 - j2 ≤ 62
    · have := Flo.half m (u + j1 - j2) more w (by omega) (by omega) k6
      rw [hr]; exact this
    · rw [hr, hf_far m _ more m2 (by omega)]
      exact Flo.halfOver m _ more w (by omega)
theorem closeZeroH (neg : Bool) (e : Int) (w : World) (e0 : -1000 ≤ e) (e1 : e ≤ 1000) :
    Calls Tryd.prog 43 #[.bool neg, .int .i64 0, .int .i64 e, .bool false, .int .i64 10, .int .i64 15, .int .i64 31] w fun e w' => e = .returned (.int .i64 0) ∧ w' = w := by
  have key : ∀ (u J : Nat) (K : Int), (e - 11 < -24 ∧ u = 0 ∨ e - 11 = -24 + (u : Int)) → e - (J : Int) ≤ -24 + (u : Int) → (J = 0 ∨ e - (J : Int) = -24 + (u : Int)) → K = -24 + (u : Int) - (e - (J : Int)) →
      Calls Tryd.prog 43 #[.bool neg, .int .i64 0, .int .i64 e, .bool false, .int .i64 10, .int .i64 15, .int .i64 31] w fun e w' => e = .returned (.int .i64 0) ∧ w' = w := by
    intro u J K hu h1 h2 h4
    refine closeRawH neg false 0 0 u 0 J e K 0 w rfl (by omega) (by decide) e0 e1 (by simpa using hu) h1 h2 (by simp) h4 (by decide) (fun h => rfl) (fun h => by omega) (fun w => ?_)
    rw [Nat.zero_mul]
    by_cases c : K ≤ 0
    · exact Flo.halfNone _ K false w c
    · by_cases k6 : K ≤ 62
      · have := Flo.half 0 K.toNat false w (by decide) (by omega) (by omega)
        rw [show ((K.toNat : Nat) : Int) = K by omega, show Flo.hf 0 K.toNat false = 0 by unfold Flo.hf; simp] at this
        exact this
      · exact Flo.halfOver _ K false w (by omega)
  by_cases c : e - 11 < -24
  · by_cases c2 : e ≤ -24
    · exact key 0 0 _ (by omega) (by omega) (by omega) rfl
    · exact key 0 (e - (-24)).toNat _ (by omega) (by omega) (by omega) rfl
  · exact key (e - 11 - (-24)).toNat 11 _ (by omega) (by omega) (by omega) rfl

end FlM
end Go.Proofs.YteoogkcjcfnniaaDoor
