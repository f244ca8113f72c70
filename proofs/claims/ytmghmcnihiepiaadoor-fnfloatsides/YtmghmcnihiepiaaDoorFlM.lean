/- Rounded numbers, the model's side: a float taken apart and put together. -/
import Derived.Test.YtmghmcnihiepiaaDoorRows
import Derived.Test.YtmghmcnihiepiaaDoorFlP
import Derived.Test.YtmghmcnihiepiaaDoorClS
import Derived.WalkKit
import Derived.ProofKit
import Derived.OpenShut
import Derived.Below
import Derived.Lib.SmallJoins
import Derived.Deep.QuietTactic
import Derived.BigQuiet
import Derived.WalkSmall
import Derived.WalkSpells
namespace Go.Proofs.YtmghmcnihiepiaaDoor
namespace FlM
open Go.ChangeShapes Go.WideShapes Go.ChangeAt Go.RowKit Go.Joins
open Flo (hide ret_int ret_bool)
set_option linter.unusedVariables false

theorem openBig (a : Int) (w : World) (h : a < 0 ∨ 4294967295 < a) :
    Calls Tryd.prog 34 #[.int .i64 a] w fun e w' => e = .returned (.agg #[.int .i64 2, .bool false, .int .i64 0, .int .i64 0]) ∧ Below w.heap.size w w' := by
  rcases h with h | h
  · go_enter Tryd.func34, Tryd.ntmps34
    go_wp2_with fail
    exact bodyPost_ret (v := .agg #[.int .i64 2, .bool false, .int .i64 0, .int .i64 0]) (by simp [results, Tryd.results34, go_sem]) rfl ⟨rfl, below_alloc1 _ _⟩
  · have c : decide (a < 0) = false := decide_eq_false (by omega)
    go_enter Tryd.func34, Tryd.ntmps34
    go_wp2_with fail
    exact bodyPost_ret (v := .agg #[.int .i64 2, .bool false, .int .i64 0, .int .i64 0]) (by simp [results, Tryd.results34, go_sem]) rfl ⟨rfl, below_alloc1 _ _⟩
theorem openNan (a s f : Int) (w : World) (d1 : a / 2147483648 = s) (d2 : a % 8388608 = f) (d3 : a / 8388608 % 256 = 255) (s0 : 0 ≤ s) (s1 : s ≤ 1) (hf : f ≠ 0) :
    Calls Tryd.prog 34 #[.int .i64 a] w fun e w' => e = .returned (.agg #[.int .i64 2, .bool (s == 1), .int .i64 0, .int .i64 0]) ∧ Below w.heap.size w w' := by
  have m8 := Flo.mask8
  have m23 := Flo.mask23
  have c0 : decide (a < 0) = false := decide_eq_false (by omega)
  have c1 : decide (4294967295 < a) = false := decide_eq_false (by omega)
  have c3 : (f != 0) = true := by rw [bne_iff_ne]; exact hf
  clear hf
  go_enter Tryd.func34, Tryd.ntmps34
  go_wp2_with fail
  exact bodyPost_ret (v := .agg #[.int .i64 2, .bool (s == 1), .int .i64 0, .int .i64 0]) (by simp [results, Tryd.results34, go_sem]) rfl ⟨rfl, below_alloc2 _ _ _⟩
theorem openInf (a s : Int) (w : World) (d1 : a / 2147483648 = s) (d2 : a % 8388608 = 0) (d3 : a / 8388608 % 256 = 255) (s0 : 0 ≤ s) (s1 : s ≤ 1) :
    Calls Tryd.prog 34 #[.int .i64 a] w fun e w' => e = .returned (.agg #[.int .i64 1, .bool (s == 1), .int .i64 0, .int .i64 0]) ∧ Below w.heap.size w w' := by
  have m8 := Flo.mask8
  have m23 := Flo.mask23
  have c0 : decide (a < 0) = false := decide_eq_false (by omega)
  have c1 : decide (4294967295 < a) = false := decide_eq_false (by omega)
  go_enter Tryd.func34, Tryd.ntmps34
  go_wp2_with fail
  exact bodyPost_ret (v := .agg #[.int .i64 1, .bool (s == 1), .int .i64 0, .int .i64 0]) (by simp [results, Tryd.results34, go_sem]) rfl ⟨rfl, below_alloc2 _ _ _⟩
theorem openSub (a s f : Int) (w : World) (d1 : a / 2147483648 = s) (d2 : a % 8388608 = f) (d3 : a / 8388608 % 256 = 0) (s0 : 0 ≤ s) (s1 : s ≤ 1) :
    Calls Tryd.prog 34 #[.int .i64 a] w fun e w' => e = .returned (.agg #[.int .i64 0, .bool (s == 1), .int .i64 f, .int .i64 (-149)]) ∧ Below w.heap.size w w' := by
  have m8 := Flo.mask8
  have m23 := Flo.mask23
  have c0 : decide (a < 0) = false := decide_eq_false (by omega)
  have c1 : decide (4294967295 < a) = false := decide_eq_false (by omega)
  go_enter Tryd.func34, Tryd.ntmps34
  go_wp2_with fail
  exact bodyPost_ret (v := .agg #[.int .i64 0, .bool (s == 1), .int .i64 f, .int .i64 (-149)]) (by simp [results, Tryd.results34, go_sem]) rfl ⟨rfl, below_alloc2 _ _ _⟩
theorem openNorm (a s f E : Int) (w : World) (d1 : a / 2147483648 = s) (d2 : a % 8388608 = f) (d3 : a / 8388608 % 256 = E) (s0 : 0 ≤ s) (s1 : s ≤ 1) (E0 : 1 ≤ E) (E1 : E < 255) :
    Calls Tryd.prog 34 #[.int .i64 a] w fun e w' => e = .returned (.agg #[.int .i64 0, .bool (s == 1), .int .i64 (f + 8388608), .int .i64 (E - 150)]) ∧ Below w.heap.size w w' := by
  have m8 := Flo.mask8
  have m23 := Flo.mask23
  have c0 : decide (a < 0) = false := decide_eq_false (by omega)
  have c1 : decide (4294967295 < a) = false := decide_eq_false (by omega)
  have c2 : (E == 255) = false := by rw [beq_eq_false_iff_ne]; omega
  have c3 : (E == 0) = false := by rw [beq_eq_false_iff_ne]; omega
  go_enter Tryd.func34, Tryd.ntmps34
  go_wp2_with fail
  exact bodyPost_ret (v := .agg #[.int .i64 0, .bool (s == 1), .int .i64 (f + 8388608), .int .i64 (E - 150)]) (by simp [results, Tryd.results34, go_sem]) rfl ⟨rfl, below_alloc2 _ _ _⟩
theorem openBad (a : Int) (w : World) (h : FlP.Bad a) :
    Calls Tryd.prog 34 #[.int .i64 a] w fun e w' => ∃ b x y, e = .returned (.agg #[.int .i64 2, .bool b, .int .i64 x, .int .i64 y]) ∧ Below w.heap.size w w' := by
  unfold FlP.Bad at h
  by_cases c : a < 0 ∨ 4294967295 < a
  · exact (openBig a w c).mono fun e w' ⟨h1, h2⟩ => ⟨_, _, _, h1, h2⟩
  · exact (openNan a (a / 2147483648) (a % 8388608) w rfl rfl (by omega) (by omega) (by omega) (by omega)).mono fun e w' ⟨h1, h2⟩ => ⟨_, _, _, h1, h2⟩
theorem openInfC (a s : Int) (w : World) (h : FlP.Inf a s) :
    Calls Tryd.prog 34 #[.int .i64 a] w fun e w' => e = .returned (.agg #[.int .i64 1, .bool (s == 1), .int .i64 0, .int .i64 0]) ∧ Below w.heap.size w w' := by
  unfold FlP.Inf at h
  exact openInf a s w (by omega) (by omega) (by omega) (by omega) (by omega)
theorem openFin (a s m e : Int) (w : World) (h : FlP.Fin a s m e) :
    Calls Tryd.prog 34 #[.int .i64 a] w fun e' w' => e' = .returned (.agg #[.int .i64 0, .bool (s == 1), .int .i64 m, .int .i64 e]) ∧ Below w.heap.size w w' := by
  unfold FlP.Fin at h
  by_cases c : m < 8388608
  · obtain rfl : e = -149 := by omega
    exact openSub a s m w (by omega) (by omega) (by omega) (by omega) (by omega)
  · have := openNorm a s (m - 8388608) (e + 150) w (by omega) (by omega) (by omega) (by omega) (by omega) (by omega) (by omega)
    rw [show m - 8388608 + 8388608 = m by omega, show e + 150 - 150 = e by omega] at this
    exact this
theorem sign (b : Bool) (s : Int) (w : World) (s0 : 0 ≤ s) (s1 : s ≤ 1) (hb : b = (s == 1)) : Calls Tryd.prog 37 #[.bool b] w fun e w' => e = .returned (.int .i64 s) ∧ w' = w := by
  have : s = 0 ∨ s = 1 := by omega
  subst hb
  clear s0 s1
  rcases this with rfl | rfl
  all_goals
    go_enter Tryd.func37, Tryd.ntmps37
    go_wp2_with fail
    go_ret
    exact ⟨rfl, rfl⟩
theorem infinity (b : Bool) (s : Int) (w : World) (s0 : 0 ≤ s) (s1 : s ≤ 1) (hb : b = (s == 1)) : Calls Tryd.prog 35 #[.bool b] w fun e w' => e = .returned (.int .i64 (2139095040 + s * 2147483648)) ∧ w' = w := by
  have hb' := hide hb
  clear hb
  go_enter Tryd.func35, Tryd.ntmps35
  go_wp2_with fail
  refine (sign b s _ s0 s1 hb'.out).mono ?_; rintro e w1 ⟨rfl, rfl⟩
  go_wp2_with fail
  go_ret
  exact ⟨rfl, rfl⟩

theorem hf_ne (m k : Nat) (more : Bool) (hk : 1 ≤ k) : Flo.hf m k more = Rnd.ne (2 * m + (if more then 1 else 0)) (2 ^ (k + 1)) := by
  obtain ⟨q, rfl⟩ : ∃ q, k = q + 1 := ⟨k - 1, by omega⟩
  have hP := Nat.two_pow_pos q
  have e2 : 2 ^ (q + 1 + 1) = 4 * 2 ^ q := by rw [Nat.pow_succ, Nat.pow_succ]; omega
  have hd := Nat.div_add_mod m (2 ^ q)
  have hr := Nat.mod_lt m hP
  have eS : ∀ s, s ≤ 1 → (2 * m + s) / (4 * 2 ^ q) = m / 2 ^ q / 2 := by
    intro s hs
    rw [show 4 * 2 ^ q = 2 * (2 ^ q * 2) by omega, ← Nat.div_div_eq_div_mul, show (2 * m + s) / 2 = m by omega, ← Nat.div_div_eq_div_mul]
  have eM : ∀ s, s ≤ 1 → (2 * m + s) % (4 * 2 ^ q) = 2 * (m % 2 ^ q + 2 ^ q * (m / 2 ^ q % 2)) + s := by
    intro s hs
    rw [show 4 * 2 ^ q = 2 * (2 ^ q * 2) by omega, Nat.mod_mul, show (2 * m + s) / 2 = m by omega, Nat.mod_mul]
    omega
  unfold Flo.hf Rnd.ne
  simp only [show q + 1 - 1 = q by omega, e2]
  cases more
  · simp only [Bool.false_eq_true, if_false, false_or]
    rw [eS 0 (by omega), eM 0 (by omega)]
    generalize m % 2 ^ q = r at *
    generalize m / 2 ^ q = t at *
    generalize 2 ^ q = P at *
    have ht : t % 2 = 0 ∨ t % 2 = 1 := by omega
    rcases ht with ht | ht
    · rw [ht, Nat.mul_zero, if_neg (by omega), if_neg (by omega)]
    · rw [ht, Nat.mul_one]
      by_cases c : r ≠ 0 ∨ t / 2 % 2 = 1
      · rw [if_pos (by omega), if_pos (by omega)]
      · rw [if_neg (by omega), if_neg (by omega)]
  · simp only [if_true]
    rw [eS 1 (by omega), eM 1 (by omega)]
    generalize m % 2 ^ q = r at *
    generalize m / 2 ^ q = t at *
    generalize 2 ^ q = P at *
    have ht : t % 2 = 0 ∨ t % 2 = 1 := by omega
    rcases ht with ht | ht
    · rw [ht, Nat.mul_zero, if_neg (by omega), if_neg (by omega)]
    · rw [ht, Nat.mul_one, if_pos (by simp), if_pos (by omega)]
theorem min_int (x y : Nat) : ((min x y : Nat) : Int) = min (x : Int) (y : Int) := by omega
theorem fl_int (frac top a b : Nat) : ((Rnd.fl frac top a b : Nat) : Int) = min (((Rnd.bl (a / b) - (frac + 1) : Nat) : Int) * ((2 ^ frac : Nat) : Int) + ((Rnd.ne a (b * 2 ^ (Rnd.bl (a / b) - (frac + 1))) : Nat) : Int)) ((top * 2 ^ frac : Nat) : Int) := by
  unfold Rnd.fl
  rw [min_int, Int.natCast_add, Int.natCast_mul]
theorem fl_le (frac top a b : Nat) (T : Int) (h : ((top * 2 ^ frac : Nat) : Int) = T) : ((Rnd.fl frac top a b : Nat) : Int) ≤ T := by
  rw [fl_int, h]; exact Int.min_le_right _ _
theorem hf_far (m k : Nat) (more : Bool) (hm : m < 2 ^ 62) (hk : 62 < k) : Flo.hf m k more = 0 := by
  unfold Flo.hf
  have : m / 2 ^ (k - 1) = 0 := Nat.div_eq_of_lt (Nat.lt_of_lt_of_le hm (Nat.pow_le_pow_right (by omega) (by omega)))
  simp only [this]
  rw [if_neg (by omega)]

theorem closeS (neg more : Bool) (a b j1 j2 m : Nat) (e : Int) (w : World) (hb : 0 < b) (he : e = -149 + (j2 : Int) - j1) (hm : m = a * 2 ^ j1 / (b * 2 ^ j2)) (hs : more = decide (a * 2 ^ j1 % (b * 2 ^ j2) ≠ 0))
    (m0 : m ≠ 0) (m1 : (m : Int) < 4611686018427387904) (hk : more = true → 25 ≤ Rnd.bl m) (e0 : -1000 ≤ e) (e1 : e ≤ 1000) :
    Calls Tryd.prog 50 #[.bool neg, .int .i64 m, .int .i64 e, .bool more, .int .i64 23, .int .i64 127, .int .i64 255] w fun e w' => e = .returned (.int .i64 (Rnd.fl 23 255 a b : Nat)) ∧ w' = w := by
  have m2 : m < 2 ^ 62 := by
    have : ((2 ^ 62 : Nat) : Int) = 4611686018427387904 := by decide
    omega
  have L1 : Rnd.bl m ≤ 62 := Rnd.bl_le_of m 62 m2
  have L0 := Rnd.bl_pos m m0
  have hu := Rnd.unit_eq 23 a b j1 j2 hb (by rw [← hm]; exact m0)
  rw [← hm] at hu
  obtain ⟨f1, f2⟩ := Rnd.ne_fills 23 a b hb
  have fe := fl_int 23 255 a b
  have p23 : ((2 ^ 23 : Nat) : Int) = 8388608 := by decide
  have p24 : ((2 ^ (23 + 1) : Nat) : Int) = 16777216 := by decide
  have pT : ((255 * 2 ^ 23 : Nat) : Int) = 2139095040 := by decide
  rw [p23, pT] at fe
  rw [show 23 + 1 = 24 from rfl] at hu fe f1 f2 p24
  have g1 := Int.ofNat_le.2 f1
  rw [p24] at g1
  have g2 : ∀ h : ((Rnd.ne a (b * 2 ^ (Rnd.bl (a / b) - 24)) : Nat) : Int) < 8388608, Rnd.bl (a / b) - 24 = 0 := fun h => f2 (Int.ofNat_lt.1 (by rw [p23]; exact h))
  clear f1 f2 p23 p24 pT
  have hr1 : ∀ J, Rnd.bl (a / b) - 24 + j1 + J = j2 → more = false → Rnd.ne a (b * 2 ^ (Rnd.bl (a / b) - 24)) = m * 2 ^ J := by
    intro J hJ hmo
    have hx : a * 2 ^ j1 % (b * 2 ^ j2) = 0 := by
      rw [hmo] at hs
      have := of_decide_eq_false hs.symm
      omega
    rw [Rnd.ne_up a b j1 j2 _ hb (by omega) hx, ← hm]
    congr 2; omega
  have hr2 : ∀ k, 1 ≤ k → Rnd.bl (a / b) - 24 + j1 = j2 + k → Rnd.ne a (b * 2 ^ (Rnd.bl (a / b) - 24)) = Flo.hf m k more := by
    intro k k1 hk
    rw [Rnd.ne_down a b j1 j2 _ k hk, Rnd.ne_sticky _ _ k (Nat.mul_pos hb (Nat.two_pow_pos _)) k1, ← hm, hf_ne m k more k1]
    congr 2
    by_cases c : a * 2 ^ j1 % (b * 2 ^ j2) = 0
    · rw [if_pos c, hs, decide_eq_false (by omega)]; rfl
    · rw [if_neg c, hs, decide_eq_true c]; rfl
  generalize Rnd.bl (a / b) - 24 = u at *
  generalize Rnd.ne a (b * 2 ^ u) = r at *
  rw [fe]
  have key : ∀ (J : Nat) (K : Int), e - (J : Int) ≤ -149 + (u : Int) → (J = 0 ∨ e - (J : Int) = -149 + (u : Int)) → ((m * 2 ^ J : Nat) : Int) ≤ 4611686018427387904 → K = -149 + (u : Int) - (e - (J : Int)) →
      (∀ w, Calls Tryd.prog 55 #[.int .i64 ((m * 2 ^ J : Nat) : Int), .int .i64 K, .bool more] w fun e w' => e = .returned (.int .i64 r) ∧ w' = w) →
      Calls Tryd.prog 50 #[.bool neg, .int .i64 m, .int .i64 e, .bool more, .int .i64 23, .int .i64 127, .int .i64 255] w fun e w' => e = .returned (.int .i64 (min ((u : Int) * 8388608 + (r : Int)) 2139095040)) ∧ w' = w := by
    intro J K h1 h2 h3 h4 h5
    refine closeRawS neg more m (Rnd.bl m) u r J e K _ w rfl (by omega) (by omega) e0 e1 (by clear h1 h2 h3 h4 fe g1 g2 hr1 hr2 hm hs hk; omega) h1 h2 h3 h4 g1 (fun h => ?_) (fun h => ?_) h5
    · rw [g2 h]
      clear h1 h2 h3 h4 fe g2 hr1 hr2 hm hs hk hu
      omega
    · rw [Int.add_comm]
  by_cases c : u + j1 ≤ j2
  · have hmo : more = false := by
      cases more
      · rfl
      · have := hk rfl; omega
    have hr := hr1 (j2 - (u + j1)) (by omega) hmo
    refine key (j2 - (u + j1)) 0 (by omega) (by omega) (by rw [← hr]; exact Int.le_trans g1 (by decide)) (by omega) (fun w => ?_)
    have := Flo.halfNone ((m * 2 ^ (j2 - (u + j1)) : Nat) : Int) 0 more w (by omega)
    rw [hr]; exact this
  · have hr := hr2 (u + j1 - j2) (by omega) (by omega)
    refine key 0 ((u + j1 - j2 : Nat) : Int) (by omega) (by omega) (by rw [Nat.pow_zero, Nat.mul_one]; omega) (by omega) (fun w => ?_)
    rw [Nat.pow_zero, Nat.mul_one]
    by_cases k6 : u + j1 - j2 ≤ 62
    · have := Flo.half m (u + j1 - j2) more w (by omega) (by omega) k6
      rw [hr]; exact this
    · rw [hr, hf_far m _ more m2 (by omega)]
      exact Flo.halfOver m _ more w (by omega)
theorem closeZeroS (neg : Bool) (e : Int) (w : World) (e0 : -1000 ≤ e) (e1 : e ≤ 1000) :
    Calls Tryd.prog 50 #[.bool neg, .int .i64 0, .int .i64 e, .bool false, .int .i64 23, .int .i64 127, .int .i64 255] w fun e w' => e = .returned (.int .i64 0) ∧ w' = w := by
  have key : ∀ (u J : Nat) (K : Int), (e - 24 < -149 ∧ u = 0 ∨ e - 24 = -149 + (u : Int)) → e - (J : Int) ≤ -149 + (u : Int) → (J = 0 ∨ e - (J : Int) = -149 + (u : Int)) → K = -149 + (u : Int) - (e - (J : Int)) →
      Calls Tryd.prog 50 #[.bool neg, .int .i64 0, .int .i64 e, .bool false, .int .i64 23, .int .i64 127, .int .i64 255] w fun e w' => e = .returned (.int .i64 0) ∧ w' = w := by
    intro u J K hu h1 h2 h4
    refine closeRawS neg false 0 0 u 0 J e K 0 w rfl (by omega) (by decide) e0 e1 (by simpa using hu) h1 h2 (by simp) h4 (by decide) (fun h => rfl) (fun h => by omega) (fun w => ?_)
    rw [Nat.zero_mul]
    by_cases c : K ≤ 0
    · exact Flo.halfNone _ K false w c
    · by_cases k6 : K ≤ 62
      · have := Flo.half 0 K.toNat false w (by decide) (by omega) (by omega)
        rw [show ((K.toNat : Nat) : Int) = K by omega, show Flo.hf 0 K.toNat false = 0 by unfold Flo.hf; simp] at this
        exact this
      · exact Flo.halfOver _ K false w (by omega)
  by_cases c : e - 24 < -149
  · by_cases c2 : e ≤ -149
    · exact key 0 0 _ (by omega) (by omega) (by omega) rfl
    · exact key 0 (e - (-149)).toNat _ (by omega) (by omega) (by omega) rfl
  · exact key (e - 24 - (-149)).toNat 24 _ (by omega) (by omega) (by omega) rfl
theorem put (neg more : Bool) (s : Int) (a b j1 j2 m : Nat) (e : Int) (w : World) (s0 : 0 ≤ s) (s1 : s ≤ 1) (hn : neg = (s == 1)) (hb : 0 < b) (he : e = -149 + (j2 : Int) - j1) (hm : m = a * 2 ^ j1 / (b * 2 ^ j2)) (hs : more = decide (a * 2 ^ j1 % (b * 2 ^ j2) ≠ 0))
    (m0 : m ≠ 0) (m1 : (m : Int) < 4611686018427387904) (hk : more = true → 25 ≤ Rnd.bl m) (e0 : -1000 ≤ e) (e1 : e ≤ 1000) :
    Calls Tryd.prog 36 #[.bool neg, .int .i64 m, .int .i64 e, .bool more] w fun e w' => e = .returned (.int .i64 ((Rnd.fl 23 255 a b : Nat) + s * 2147483648)) ∧ w' = w := by
  have hc : Hid (∀ w, Calls Tryd.prog 50 #[.bool neg, .int .i64 m, .int .i64 e, .bool more, .int .i64 23, .int .i64 127, .int .i64 255] w fun e w' => e = .returned (.int .i64 (Rnd.fl 23 255 a b : Nat)) ∧ w' = w) :=
    fun w => closeS neg more a b j1 j2 m e w hb he hm hs m0 m1 hk e0 e1
  have f0 : (0 : Int) ≤ (Rnd.fl 23 255 a b : Nat) := Int.natCast_nonneg _
  have f1 : ((Rnd.fl 23 255 a b : Nat) : Int) ≤ 2139095040 := fl_le 23 255 a b _ (by decide)
  have hn' := hide hn
  clear he hm hs hk hn
  generalize ((Rnd.fl 23 255 a b : Nat) : Int) = f at *
  go_enter Tryd.func36, Tryd.ntmps36
  go_wp2_with fail
  refine (hc.out _).mono ?_; rintro e' w1 ⟨rfl, rfl⟩
  go_wp2_with fail
  refine (sign neg s _ s0 s1 hn'.out).mono ?_; rintro e' w2 ⟨rfl, rfl⟩
  go_wp2_with fail
  go_ret
  exact ⟨rfl, rfl⟩
theorem putZero (neg : Bool) (s e : Int) (w : World) (s0 : 0 ≤ s) (s1 : s ≤ 1) (hn : neg = (s == 1)) (e0 : -1000 ≤ e) (e1 : e ≤ 1000) :
    Calls Tryd.prog 36 #[.bool neg, .int .i64 0, .int .i64 e, .bool false] w fun e w' => e = .returned (.int .i64 (s * 2147483648)) ∧ w' = w := by
  have hn' := hide hn
  clear hn
  go_enter Tryd.func36, Tryd.ntmps36
  go_wp2_with fail
  refine (closeZeroS neg e _ e0 e1).mono ?_; rintro e' w1 ⟨rfl, rfl⟩
  go_wp2_with fail
  refine (sign neg s _ s0 s1 hn'.out).mono ?_; rintro e' w2 ⟨rfl, rfl⟩
  go_wp2_with fail
  go_ret
  exact ⟨rfl, rfl⟩

end FlM
end Go.Proofs.YtmghmcnihiepiaaDoor
