/- Sums of floats: both sides. -/
import Derived.Test.YtmghmcnihiepiaaDoorAdw
import Derived.Test.YtmghmcnihiepiaaDoorAdA
import Derived.Test.YtmghmcnihiepiaaDoorAdB
import Derived.Test.YtmghmcnihiepiaaDoorAdC
import Derived.Test.YtmghmcnihiepiaaDoorAdD
import Derived.Test.YtmghmcnihiepiaaDoorAdE
import Derived.Test.YtmghmcnihiepiaaDoorAdF
namespace Go.Proofs.YtmghmcnihiepiaaDoor
namespace FlV
open Go.ChangeShapes Go.WideShapes Go.ChangeAt Go.RowKit Go.Joins
open Flo (hide ret_int ret_bool)
set_option linter.unusedVariables false
theorem nearPlus (mp mq pp pq D : Nat) (h : pq + 30 = D + pp) : (mp * 2 ^ pp + mq * 2 ^ pq) * 2 ^ 30 / (1 * 2 ^ pp) = mp * 1073741824 + mq * 2 ^ D ∧ (mp * 2 ^ pp + mq * 2 ^ pq) * 2 ^ 30 % (1 * 2 ^ pp) = 0 := by
  have e : (mp * 2 ^ pp + mq * 2 ^ pq) * 2 ^ 30 = (mp * 2 ^ 30 + mq * 2 ^ D) * 2 ^ pp := by
    rw [Nat.add_mul, Nat.add_mul, Nat.mul_right_comm, Nat.mul_assoc mq, Nat.mul_assoc mq, ← Nat.pow_add, ← Nat.pow_add, h]
  rw [e, Nat.one_mul, Nat.mul_div_cancel _ (Nat.two_pow_pos _), Nat.mul_mod_left]
  exact ⟨rfl, rfl⟩
theorem nearMinus (mp mq pp pq D : Nat) (h : pq + 30 = D + pp) : (mp * 2 ^ pp - mq * 2 ^ pq) * 2 ^ 30 / (1 * 2 ^ pp) = mp * 1073741824 - mq * 2 ^ D ∧ (mp * 2 ^ pp - mq * 2 ^ pq) * 2 ^ 30 % (1 * 2 ^ pp) = 0 := by
  have e : (mp * 2 ^ pp - mq * 2 ^ pq) * 2 ^ 30 = (mp * 2 ^ 30 - mq * 2 ^ D) * 2 ^ pp := by
    rw [Nat.sub_mul, Nat.sub_mul, Nat.mul_right_comm, Nat.mul_assoc mq, Nat.mul_assoc mq, ← Nat.pow_add, ← Nat.pow_add, h]
  rw [e, Nat.one_mul, Nat.mul_div_cancel _ (Nat.two_pow_pos _), Nat.mul_mod_left]
  exact ⟨rfl, rfl⟩
theorem farParts (mq pp pq J : Nat) (h : pp = pq + 30 + J) : mq * 2 ^ pq * 2 ^ 30 = mq / 2 ^ J * 2 ^ pp + mq % 2 ^ J * 2 ^ (pq + 30) ∧ mq % 2 ^ J * 2 ^ (pq + 30) < 2 ^ pp := by
  have h1 : 2 ^ pp = 2 ^ J * 2 ^ (pq + 30) := by rw [← Nat.pow_add, h, Nat.add_comm]
  have h2 := Nat.div_add_mod mq (2 ^ J)
  have h3 : mq % 2 ^ J < 2 ^ J := Nat.mod_lt _ (Nat.two_pow_pos _)
  refine ⟨?_, ?_⟩
  · rw [Nat.mul_assoc, ← Nat.pow_add, h1, ← Nat.mul_assoc, ← Nat.add_mul, Nat.mul_comm (mq / 2 ^ J), h2]
  · rw [h1]; exact Nat.mul_lt_mul_of_pos_right h3 (Nat.two_pow_pos _)
theorem farPlus (mp mq pp pq J : Nat) (h : pp = pq + 30 + J) : (mp * 2 ^ pp + mq * 2 ^ pq) * 2 ^ 30 / (1 * 2 ^ pp) = mp * 1073741824 + mq / 2 ^ J ∧ ((mp * 2 ^ pp + mq * 2 ^ pq) * 2 ^ 30 % (1 * 2 ^ pp) ≠ 0 ↔ mq % 2 ^ J ≠ 0) := by
  obtain ⟨e1, e2⟩ := farParts mq pp pq J h
  have hq : 0 < 2 ^ (pq + 30) := Nat.two_pow_pos _
  have hp : 0 < 2 ^ pp := Nat.two_pow_pos _
  have e : (mp * 2 ^ pp + mq * 2 ^ pq) * 2 ^ 30 = mq % 2 ^ J * 2 ^ (pq + 30) + 2 ^ pp * (mp * 2 ^ 30 + mq / 2 ^ J) := by
    rw [Nat.add_mul, e1, Nat.mul_add, Nat.mul_right_comm, Nat.mul_comm (2 ^ pp) (mp * 2 ^ 30), Nat.mul_comm (2 ^ pp) (mq / 2 ^ J)]; omega
  rw [e, Nat.one_mul, Nat.add_mul_div_left _ _ hp, Nat.div_eq_of_lt e2, Nat.add_mul_mod_self_left, Nat.mod_eq_of_lt e2]
  refine ⟨by omega, ?_⟩
  constructor
  · intro h1 h2; apply h1; rw [h2, Nat.zero_mul]
  · intro h1 h2; rcases Nat.mul_eq_zero.1 h2 with h3 | h3
    · exact h1 h3
    · omega
theorem farMinus (mp mq pp pq J : Nat) (h : pp = pq + 30 + J) (hm : mq / 2 ^ J + 1 ≤ mp * 1073741824) : (mp * 2 ^ pp - mq * 2 ^ pq) * 2 ^ 30 / (1 * 2 ^ pp) = mp * 1073741824 - mq / 2 ^ J - (if mq % 2 ^ J = 0 then 0 else 1) ∧ ((mp * 2 ^ pp - mq * 2 ^ pq) * 2 ^ 30 % (1 * 2 ^ pp) ≠ 0 ↔ mq % 2 ^ J ≠ 0) := by
  obtain ⟨e1, e2⟩ := farParts mq pp pq J h
  have hq : 0 < 2 ^ (pq + 30) := Nat.two_pow_pos _
  have hp : 0 < 2 ^ pp := Nat.two_pow_pos _
  have e0 : (mp * 2 ^ pp - mq * 2 ^ pq) * 2 ^ 30 = mp * 1073741824 * 2 ^ pp - (mq / 2 ^ J * 2 ^ pp + mq % 2 ^ J * 2 ^ (pq + 30)) := by
    rw [Nat.sub_mul, e1, Nat.mul_right_comm]
  rw [e0, Nat.one_mul]
  obtain ⟨c, hc⟩ : ∃ c, mp * 1073741824 = mq / 2 ^ J + 1 + c := ⟨_, (Nat.add_sub_cancel' hm).symm⟩
  rw [hc]
  by_cases hr : mq % 2 ^ J = 0
  · have e : (mq / 2 ^ J + 1 + c) * 2 ^ pp - (mq / 2 ^ J * 2 ^ pp + 0) = (1 + c) * 2 ^ pp := by
      show (mq / 2 ^ J + 1 + c) * 2 ^ pp - (mq / 2 ^ J * 2 ^ pp) = (1 + c) * 2 ^ pp
      rw [← Nat.sub_mul, show mq / 2 ^ J + 1 + c - mq / 2 ^ J = 1 + c by omega]
    rw [if_pos hr, hr, Nat.zero_mul, e, Nat.mul_div_cancel _ hp, Nat.mul_mod_left]
    exact ⟨by omega, by simp⟩
  · rw [if_neg hr]
    have hx : mq % 2 ^ J * 2 ^ (pq + 30) ≠ 0 := by
      intro h2; rcases Nat.mul_eq_zero.1 h2 with h3 | h3
      · exact hr h3
      · omega
    have e : (mq / 2 ^ J + 1 + c) * 2 ^ pp - (mq / 2 ^ J * 2 ^ pp + mq % 2 ^ J * 2 ^ (pq + 30)) = (2 ^ pp - mq % 2 ^ J * 2 ^ (pq + 30)) + 2 ^ pp * c := by
      rw [Nat.add_mul, Nat.add_mul, Nat.one_mul, Nat.mul_comm (2 ^ pp) c]
      generalize mq / 2 ^ J * 2 ^ pp = A at *
      generalize c * 2 ^ pp = C at *
      omega
    have hlt : 2 ^ pp - mq % 2 ^ J * 2 ^ (pq + 30) < 2 ^ pp := by omega
    rw [e, Nat.add_mul_div_left _ _ hp, Nat.div_eq_of_lt hlt, Nat.add_mul_mod_self_left, Nat.mod_eq_of_lt hlt]
    refine ⟨by omega, ?_⟩
    constructor
    · intro _; exact hr
    · intro _; omega
theorem putV (neg more : Bool) (s : Int) (V pp M : Nat) (E Mi : Int) (w : World) (s0 : 0 ≤ s) (s1 : s ≤ 1) (hn : neg = (s == 1)) (hMi : Mi = (M : Int)) (hE : E = -149 + (pp : Int) - 30) (hpp : pp < 300) (hM : M = V * 2 ^ 30 / (1 * 2 ^ pp)) (hmo : more = decide (V * 2 ^ 30 % (1 * 2 ^ pp) ≠ 0))
    (h62 : (M : Int) < 4611686018427387904) (hk : more = true → 25 ≤ Rnd.bl M) (hz : M = 0 → V = 0 ∧ more = false) :
    Calls Tryd.prog 36 #[.bool neg, .int .i64 Mi, .int .i64 E, .bool more] w fun e w' => e = .returned (.int .i64 ((Rnd.fl 23 255 V 1 : Nat) + s * 2147483648)) ∧ w' = w := by
  subst hMi
  by_cases m0 : M = 0
  · obtain ⟨hV, hm⟩ := hz m0
    rw [hm, hV, m0, Rnd.fl_zero]
    exact (FlM.putZero neg s E w s0 s1 hn (by omega) (by omega)).mono fun e w' ⟨h1, h2⟩ => ⟨h1.trans (ret_int (by simp)), h2⟩
  · exact FlM.put neg more s V 1 30 pp M E w s0 s1 hn (by decide) hE hM hmo m0 h62 hk (by omega) (by omega)
theorem bl25 (M : Nat) (h : 16777216 ≤ M) : 25 ≤ Rnd.bl M := Rnd.le_bl_of M 24 h
theorem specGrC (a b sp sq ep eq s : Int) (mp mq pp pq V : Nat) (w : World)
    (oA : ∀ w, Calls Tryd.prog 34 #[.int .i64 a] w fun e w' => e = .returned (.agg #[.int .i64 0, .bool (sp == 1), .int .i64 mp, .int .i64 ep]) ∧ Below w.heap.size w w')
    (oB : ∀ w, Calls Tryd.prog 34 #[.int .i64 b] w fun e w' => e = .returned (.agg #[.int .i64 0, .bool (sq == 1), .int .i64 mq, .int .i64 eq]) ∧ Below w.heap.size w w')
    (x1 : -149 ≤ ep) (x2 : ep ≤ 104) (x3 : -149 ≤ eq) (x4 : eq ≤ 104) (y1 : (mp : Int) < 16777216) (y2 : (mq : Int) < 16777216) (sp0 : 0 ≤ sp) (sp1 : sp ≤ 1) (sq0 : 0 ≤ sq) (sq1 : sq ≤ 1)
    (hpp : ep + 149 = (pp : Int)) (hpq : eq + 149 = (pq : Int)) (hord : (eq < ep ∧ 8388608 ≤ (mp : Int)) ∨ (ep = eq ∧ (mq : Int) ≤ (mp : Int)))
    (hV : (sp = sq ∧ s = sp ∧ V = mp * 2 ^ pp + mq * 2 ^ pq) ∨ (sp ≠ sq ∧ V = mp * 2 ^ pp - mq * 2 ^ pq ∧ 0 < V ∧ s = sp) ∨ (sp ≠ sq ∧ V = mp * 2 ^ pp - mq * 2 ^ pq ∧ V = 0 ∧ s = 0)) :
    Calls Tryd.prog 19 #[.int .i64 a, .int .i64 b] w fun e w' => e = .returned (.int .i64 ((Rnd.fl 23 255 V 1 : Nat) + s * 2147483648)) ∧ Below w.heap.size w w' := by
  have hE : ep - 30 = -149 + (pp : Int) - 30 := by omega
  have s01 : 0 ≤ s ∧ s ≤ 1 := by rcases hV with h | h | h <;> omega
  have hsg : ((sp == 1) == (sq == 1)) = decide (sp = sq) := by
    have h1 : sp = 0 ∨ sp = 1 := by omega
    have h2 : sq = 0 ∨ sq = 1 := by omega
    rcases h1 with rfl | rfl <;> rcases h2 with rfl | rfl <;> rfl
  by_cases hd : ep - eq ≤ 30
  · obtain ⟨D, hD⟩ := Int.eq_ofNat_of_zero_le (show 0 ≤ 30 - (ep - eq) by omega)
    have hD' : D ≤ 30 := by rcases hord with h | h <;> omega
    have hDp : pq + 30 = D + pp := by omega
    have hk1 : ((mq * 2 ^ D : Nat) : Int) ≤ 18014398509481984 := by
      have h1 : mq * 2 ^ D ≤ 16777216 * 2 ^ 30 := Nat.mul_le_mul (by omega) (Nat.pow_le_pow_right (by omega) hD')
      have h2 : (16777216 * 2 ^ 30 : Nat) = 18014398509481984 := by decide
      omega
    have fin : ∀ (nb : Bool) (M : Int), (((sp == 1) == (sq == 1)) = true ∧ nb = (sp == 1) ∧ (mp : Int) * 1073741824 + ((mq * 2 ^ D : Nat) : Int) = M) ∨ (((sp == 1) == (sq == 1)) = false ∧ (mp : Int) * 1073741824 - ((mq * 2 ^ D : Nat) : Int) = M ∧ 0 < M ∧ nb = (sp == 1)) ∨ (((sp == 1) == (sq == 1)) = false ∧ (mp : Int) * 1073741824 - ((mq * 2 ^ D : Nat) : Int) = M ∧ M = 0 ∧ nb = false) →
        (∀ w, Calls Tryd.prog 36 #[.bool nb, .int .i64 M, .int .i64 (ep - 30), .bool false] w fun e w' => e = .returned (.int .i64 ((Rnd.fl 23 255 V 1 : Nat) + s * 2147483648)) ∧ w' = w) →
        Calls Tryd.prog 19 #[.int .i64 a, .int .i64 b] w fun e w' => e = .returned (.int .i64 ((Rnd.fl 23 255 V 1 : Nat) + s * 2147483648)) ∧ Below w.heap.size w w' := by
      intro nb M hf hP
      rcases hord with ⟨h1, _⟩ | ⟨h1, h2⟩
      · exact specAddNearC a b _ _ nb false ep eq mp mq D _ M _ _ w oA oB x1 x2 x3 x4 y1 y2 rfl hP h1 hd hD hD' rfl hk1 rfl hf
      · exact specAddNearD a b _ _ nb false ep eq mp mq D _ M _ _ w oA oB x1 x2 x3 x4 y1 y2 rfl hP h1 h2 hd hD hD' rfl hk1 rfl hf
    have hge : mq * 2 ^ D ≤ mp * 1073741824 := by
      rcases hord with ⟨h1, h2⟩ | ⟨h1, h2⟩
      · have hD2 : D ≤ 29 := by omega
        have h3 : mq * 2 ^ D ≤ 16777216 * 2 ^ 29 := Nat.mul_le_mul (by omega) (Nat.pow_le_pow_right (by omega) hD2)
        have h4 : mq * 2 ^ D ≤ 9007199254740992 := Nat.le_trans h3 (by decide)
        clear h3 fin
        generalize mq * 2 ^ D = z at *
        omega
      · have hD2 : D = 30 := by omega
        rw [hD2]
        have h4 : (2 ^ 30 : Nat) = 1073741824 := by decide
        rw [h4]; omega
    rcases hV with ⟨h1, h2, h3⟩ | ⟨h1, h2, h3, h4⟩ | ⟨h1, h2, h3, h4⟩
    · obtain ⟨q1, q2⟩ := nearPlus mp mq pp pq D hDp
      rw [← h3] at q1 q2
      refine fin (sp == 1) ((mp * 1073741824 + mq * 2 ^ D : Nat) : Int) (.inl ⟨by rw [hsg]; simp [h1], rfl, by omega⟩) (fun w => putV (sp == 1) false s V pp _ (ep - 30) _ w s01.1 s01.2 (by rw [h2]) rfl hE (by omega) q1.symm (by rw [q2]; rfl) (by omega) (fun h => by cases h) (fun h => ⟨?_, rfl⟩))
      have e1 : mp = 0 := by omega
      have e2 : mq * 2 ^ D = 0 := by omega
      rcases Nat.mul_eq_zero.1 e2 with e3 | e3
      · rw [h3, e1, e3]; simp
      · have := Nat.two_pow_pos D; omega
    · obtain ⟨q1, q2⟩ := nearMinus mp mq pp pq D hDp
      rw [← h2] at q1 q2
      have hpos : mp * 1073741824 - mq * 2 ^ D ≠ 0 := by
        intro h
        rw [h] at q1
        have e0 : V * 2 ^ 30 = 0 := by
          have := Nat.div_add_mod (V * 2 ^ 30) (1 * 2 ^ pp)
          rw [q1, q2] at this
          simpa using this.symm
        omega
      exact fin (sp == 1) ((mp * 1073741824 - mq * 2 ^ D : Nat) : Int) (.inr (.inl ⟨by rw [hsg]; simp [h1], by omega, by omega, rfl⟩)) (fun w => putV (sp == 1) false s V pp _ (ep - 30) _ w s01.1 s01.2 (by rw [h4]) rfl hE (by omega) q1.symm (by rw [q2]; rfl) (by omega) (fun h => by cases h) (fun h => absurd h hpos))
    · obtain ⟨q1, q2⟩ := nearMinus mp mq pp pq D hDp
      rw [← h2] at q1 q2
      have hzero : mp * 1073741824 - mq * 2 ^ D = 0 := by rw [← q1, h3]; simp
      exact fin false ((mp * 1073741824 - mq * 2 ^ D : Nat) : Int) (.inr (.inr ⟨by rw [hsg]; simp [h1], by omega, by omega, rfl⟩)) (fun w => putV false false s V pp _ (ep - 30) _ w s01.1 s01.2 (by rw [h4]; rfl) rfl hE (by omega) q1.symm (by rw [q2]; rfl) (by omega) (fun h => by cases h) (fun h => ⟨h3, rfl⟩))
  · obtain ⟨J, hJ⟩ := Int.eq_ofNat_of_zero_le (show 0 ≤ ep - eq - 30 by omega)
    have hJp : pp = pq + 30 + J := by omega
    obtain ⟨h1, hmb⟩ : eq < ep ∧ 8388608 ≤ (mp : Int) := by rcases hord with h | h <;> omega
    have hq24 : mq / 2 ^ J < 16777216 := Nat.lt_of_le_of_lt (Nat.div_le_self _ _) (by omega)
    obtain ⟨K, hK⟩ : ∃ K, mq / 2 ^ J = K := ⟨_, rfl⟩
    rw [hK] at hq24
    have hlo : Flo.lost mq J false = decide (mq % 2 ^ J ≠ 0) := rfl
    have fin : ∀ (mo : Bool) (M : Int), Flo.lost mq J false = mo → (((sp == 1) == (sq == 1)) = true ∧ (sp == 1) = (sp == 1) ∧ (mp : Int) * 1073741824 + (K : Int) = M) ∨ (((sp == 1) == (sq == 1)) = false ∧ (sp == 1) = (sp == 1) ∧ mo = true ∧ (mp : Int) * 1073741824 - (K : Int) - 1 = M) ∨ (((sp == 1) == (sq == 1)) = false ∧ (sp == 1) = (sp == 1) ∧ mo = false ∧ (mp : Int) * 1073741824 - (K : Int) = M) →
        (∀ w, Calls Tryd.prog 36 #[.bool (sp == 1), .int .i64 M, .int .i64 (ep - 30), .bool mo] w fun e w' => e = .returned (.int .i64 ((Rnd.fl 23 255 V 1 : Nat) + s * 2147483648)) ∧ w' = w) →
        Calls Tryd.prog 19 #[.int .i64 a, .int .i64 b] w fun e w' => e = .returned (.int .i64 ((Rnd.fl 23 255 V 1 : Nat) + s * 2147483648)) ∧ Below w.heap.size w w' := fun mo M hmo hf hP =>
      specAddFarC a b _ _ _ mo ep eq mp mq J _ M _ _ w oA oB x1 x2 x3 x4 y1 y2 rfl hP h1 (by omega) (by omega) (by rw [hK]) hmo hmb (by omega) hf
    rcases hV with ⟨c1, c2, c3⟩ | ⟨c1, c2, c3, c4⟩ | ⟨c1, c2, c3, c4⟩
    · obtain ⟨q1, q2⟩ := farPlus mp mq pp pq J hJp
      rw [← c3, hK] at q1
      rw [← c3] at q2
      exact fin _ ((mp * 1073741824 + K : Nat) : Int) rfl (.inl ⟨by rw [hsg]; simp [c1], rfl, by omega⟩) (fun w => putV (sp == 1) _ s V pp (mp * 1073741824 + K) (ep - 30) _ w s01.1 s01.2 (by rw [c2]) rfl hE (by omega) q1.symm (by rw [hlo]; exact (decide_eq_decide.2 q2).symm) (by omega) (fun _ => bl25 _ (by omega)) (fun h => by omega))
    · obtain ⟨q1, q2⟩ := farMinus mp mq pp pq J hJp (by rw [hK]; omega)
      rw [← c2, hK] at q1
      rw [← c2] at q2
      by_cases hr : mq % 2 ^ J = 0
      · rw [if_pos hr] at q1
        have hl0 : Flo.lost mq J false = false := by rw [hlo, hr]; rfl
        exact fin false ((mp * 1073741824 - K - 0 : Nat) : Int) hl0 (.inr (.inr ⟨by rw [hsg]; simp [c1], rfl, rfl, by omega⟩)) (fun w => putV (sp == 1) false s V pp (mp * 1073741824 - K - 0) (ep - 30) _ w s01.1 s01.2 (by rw [c4]) rfl hE (by omega) q1.symm (by rw [← hl0, hlo]; exact (decide_eq_decide.2 q2).symm) (by omega) (fun _ => bl25 _ (by omega)) (fun h => by omega))
      · rw [if_neg hr] at q1
        have hl0 : Flo.lost mq J false = true := by rw [hlo]; exact decide_eq_true hr
        exact fin true ((mp * 1073741824 - K - 1 : Nat) : Int) hl0 (.inr (.inl ⟨by rw [hsg]; simp [c1], rfl, rfl, by omega⟩)) (fun w => putV (sp == 1) true s V pp (mp * 1073741824 - K - 1) (ep - 30) _ w s01.1 s01.2 (by rw [c4]) rfl hE (by omega) q1.symm (by rw [← hl0, hlo]; exact (decide_eq_decide.2 q2).symm) (by omega) (fun _ => bl25 _ (by omega)) (fun h => by omega))
    · exfalso
      obtain ⟨q1, q2⟩ := farMinus mp mq pp pq J hJp (by rw [hK]; omega)
      rw [← c2, c3, hK] at q1
      have e0 : (0 * 2 ^ 30 / (1 * 2 ^ pp)) = 0 := by simp
      rw [e0] at q1
      split at q1 <;> omega
theorem specGrA (a b sp sq ep eq s : Int) (mp mq pp pq V : Nat) (w : World)
    (oA : ∀ w, Calls Tryd.prog 34 #[.int .i64 a] w fun e w' => e = .returned (.agg #[.int .i64 0, .bool (sq == 1), .int .i64 mq, .int .i64 eq]) ∧ Below w.heap.size w w')
    (oB : ∀ w, Calls Tryd.prog 34 #[.int .i64 b] w fun e w' => e = .returned (.agg #[.int .i64 0, .bool (sp == 1), .int .i64 mp, .int .i64 ep]) ∧ Below w.heap.size w w')
    (x1 : -149 ≤ ep) (x2 : ep ≤ 104) (x3 : -149 ≤ eq) (x4 : eq ≤ 104) (y1 : (mp : Int) < 16777216) (y2 : (mq : Int) < 16777216) (sp0 : 0 ≤ sp) (sp1 : sp ≤ 1) (sq0 : 0 ≤ sq) (sq1 : sq ≤ 1)
    (hpp : ep + 149 = (pp : Int)) (hpq : eq + 149 = (pq : Int)) (hord : (eq < ep ∧ 8388608 ≤ (mp : Int)) ∨ (ep = eq ∧ (mq : Int) < (mp : Int)))
    (hV : (sp = sq ∧ s = sp ∧ V = mp * 2 ^ pp + mq * 2 ^ pq) ∨ (sp ≠ sq ∧ V = mp * 2 ^ pp - mq * 2 ^ pq ∧ 0 < V ∧ s = sp) ∨ (sp ≠ sq ∧ V = mp * 2 ^ pp - mq * 2 ^ pq ∧ V = 0 ∧ s = 0)) :
    Calls Tryd.prog 19 #[.int .i64 a, .int .i64 b] w fun e w' => e = .returned (.int .i64 ((Rnd.fl 23 255 V 1 : Nat) + s * 2147483648)) ∧ Below w.heap.size w w' := by
  have hE : ep - 30 = -149 + (pp : Int) - 30 := by omega
  have s01 : 0 ≤ s ∧ s ≤ 1 := by rcases hV with h | h | h <;> omega
  have hsg : ((sp == 1) == (sq == 1)) = decide (sp = sq) := by
    have h1 : sp = 0 ∨ sp = 1 := by omega
    have h2 : sq = 0 ∨ sq = 1 := by omega
    rcases h1 with rfl | rfl <;> rcases h2 with rfl | rfl <;> rfl
  by_cases hd : ep - eq ≤ 30
  · obtain ⟨D, hD⟩ := Int.eq_ofNat_of_zero_le (show 0 ≤ 30 - (ep - eq) by omega)
    have hD' : D ≤ 30 := by rcases hord with h | h <;> omega
    have hDp : pq + 30 = D + pp := by omega
    have hk1 : ((mq * 2 ^ D : Nat) : Int) ≤ 18014398509481984 := by
      have h1 : mq * 2 ^ D ≤ 16777216 * 2 ^ 30 := Nat.mul_le_mul (by omega) (Nat.pow_le_pow_right (by omega) hD')
      have h2 : (16777216 * 2 ^ 30 : Nat) = 18014398509481984 := by decide
      omega
    have fin : ∀ (nb : Bool) (M : Int), (((sp == 1) == (sq == 1)) = true ∧ nb = (sp == 1) ∧ (mp : Int) * 1073741824 + ((mq * 2 ^ D : Nat) : Int) = M) ∨ (((sp == 1) == (sq == 1)) = false ∧ (mp : Int) * 1073741824 - ((mq * 2 ^ D : Nat) : Int) = M ∧ 0 < M ∧ nb = (sp == 1)) ∨ (((sp == 1) == (sq == 1)) = false ∧ (mp : Int) * 1073741824 - ((mq * 2 ^ D : Nat) : Int) = M ∧ M = 0 ∧ nb = false) →
        (∀ w, Calls Tryd.prog 36 #[.bool nb, .int .i64 M, .int .i64 (ep - 30), .bool false] w fun e w' => e = .returned (.int .i64 ((Rnd.fl 23 255 V 1 : Nat) + s * 2147483648)) ∧ w' = w) →
        Calls Tryd.prog 19 #[.int .i64 a, .int .i64 b] w fun e w' => e = .returned (.int .i64 ((Rnd.fl 23 255 V 1 : Nat) + s * 2147483648)) ∧ Below w.heap.size w w' := by
      intro nb M hf hP
      rcases hord with ⟨h1, _⟩ | ⟨h1, h2⟩
      · exact specAddNearA a b _ _ nb false ep eq mp mq D _ M _ _ w oA oB x1 x2 x3 x4 y1 y2 rfl hP h1 hd hD hD' rfl hk1 rfl hf
      · exact specAddNearB a b _ _ nb false ep eq mp mq D _ M _ _ w oA oB x1 x2 x3 x4 y1 y2 rfl hP h1 h2 hd hD hD' rfl hk1 rfl hf
    have hge : mq * 2 ^ D ≤ mp * 1073741824 := by
      rcases hord with ⟨h1, h2⟩ | ⟨h1, h2⟩
      · have hD2 : D ≤ 29 := by omega
        have h3 : mq * 2 ^ D ≤ 16777216 * 2 ^ 29 := Nat.mul_le_mul (by omega) (Nat.pow_le_pow_right (by omega) hD2)
        have h4 : mq * 2 ^ D ≤ 9007199254740992 := Nat.le_trans h3 (by decide)
        clear h3 fin
        generalize mq * 2 ^ D = z at *
        omega
      · have hD2 : D = 30 := by omega
        rw [hD2]
        have h4 : (2 ^ 30 : Nat) = 1073741824 := by decide
        rw [h4]; omega
    rcases hV with ⟨h1, h2, h3⟩ | ⟨h1, h2, h3, h4⟩ | ⟨h1, h2, h3, h4⟩
    · obtain ⟨q1, q2⟩ := nearPlus mp mq pp pq D hDp
      rw [← h3] at q1 q2
      refine fin (sp == 1) ((mp * 1073741824 + mq * 2 ^ D : Nat) : Int) (.inl ⟨by rw [hsg]; simp [h1], rfl, by omega⟩) (fun w => putV (sp == 1) false s V pp _ (ep - 30) _ w s01.1 s01.2 (by rw [h2]) rfl hE (by omega) q1.symm (by rw [q2]; rfl) (by omega) (fun h => by cases h) (fun h => ⟨?_, rfl⟩))
      have e1 : mp = 0 := by omega
      have e2 : mq * 2 ^ D = 0 := by omega
      rcases Nat.mul_eq_zero.1 e2 with e3 | e3
      · rw [h3, e1, e3]; simp
      · have := Nat.two_pow_pos D; omega
    · obtain ⟨q1, q2⟩ := nearMinus mp mq pp pq D hDp
      rw [← h2] at q1 q2
      have hpos : mp * 1073741824 - mq * 2 ^ D ≠ 0 := by
        intro h
        rw [h] at q1
        have e0 : V * 2 ^ 30 = 0 := by
          have := Nat.div_add_mod (V * 2 ^ 30) (1 * 2 ^ pp)
          rw [q1, q2] at this
          simpa using this.symm
        omega
      exact fin (sp == 1) ((mp * 1073741824 - mq * 2 ^ D : Nat) : Int) (.inr (.inl ⟨by rw [hsg]; simp [h1], by omega, by omega, rfl⟩)) (fun w => putV (sp == 1) false s V pp _ (ep - 30) _ w s01.1 s01.2 (by rw [h4]) rfl hE (by omega) q1.symm (by rw [q2]; rfl) (by omega) (fun h => by cases h) (fun h => absurd h hpos))
    · obtain ⟨q1, q2⟩ := nearMinus mp mq pp pq D hDp
      rw [← h2] at q1 q2
      have hzero : mp * 1073741824 - mq * 2 ^ D = 0 := by rw [← q1, h3]; simp
      exact fin false ((mp * 1073741824 - mq * 2 ^ D : Nat) : Int) (.inr (.inr ⟨by rw [hsg]; simp [h1], by omega, by omega, rfl⟩)) (fun w => putV false false s V pp _ (ep - 30) _ w s01.1 s01.2 (by rw [h4]; rfl) rfl hE (by omega) q1.symm (by rw [q2]; rfl) (by omega) (fun h => by cases h) (fun h => ⟨h3, rfl⟩))
  · obtain ⟨J, hJ⟩ := Int.eq_ofNat_of_zero_le (show 0 ≤ ep - eq - 30 by omega)
    have hJp : pp = pq + 30 + J := by omega
    obtain ⟨h1, hmb⟩ : eq < ep ∧ 8388608 ≤ (mp : Int) := by rcases hord with h | h <;> omega
    have hq24 : mq / 2 ^ J < 16777216 := Nat.lt_of_le_of_lt (Nat.div_le_self _ _) (by omega)
    obtain ⟨K, hK⟩ : ∃ K, mq / 2 ^ J = K := ⟨_, rfl⟩
    rw [hK] at hq24
    have hlo : Flo.lost mq J false = decide (mq % 2 ^ J ≠ 0) := rfl
    have fin : ∀ (mo : Bool) (M : Int), Flo.lost mq J false = mo → (((sp == 1) == (sq == 1)) = true ∧ (sp == 1) = (sp == 1) ∧ (mp : Int) * 1073741824 + (K : Int) = M) ∨ (((sp == 1) == (sq == 1)) = false ∧ (sp == 1) = (sp == 1) ∧ mo = true ∧ (mp : Int) * 1073741824 - (K : Int) - 1 = M) ∨ (((sp == 1) == (sq == 1)) = false ∧ (sp == 1) = (sp == 1) ∧ mo = false ∧ (mp : Int) * 1073741824 - (K : Int) = M) →
        (∀ w, Calls Tryd.prog 36 #[.bool (sp == 1), .int .i64 M, .int .i64 (ep - 30), .bool mo] w fun e w' => e = .returned (.int .i64 ((Rnd.fl 23 255 V 1 : Nat) + s * 2147483648)) ∧ w' = w) →
        Calls Tryd.prog 19 #[.int .i64 a, .int .i64 b] w fun e w' => e = .returned (.int .i64 ((Rnd.fl 23 255 V 1 : Nat) + s * 2147483648)) ∧ Below w.heap.size w w' := fun mo M hmo hf hP =>
      specAddFarA a b _ _ _ mo ep eq mp mq J _ M _ _ w oA oB x1 x2 x3 x4 y1 y2 rfl hP h1 (by omega) (by omega) (by rw [hK]) hmo hmb (by omega) hf
    rcases hV with ⟨c1, c2, c3⟩ | ⟨c1, c2, c3, c4⟩ | ⟨c1, c2, c3, c4⟩
    · obtain ⟨q1, q2⟩ := farPlus mp mq pp pq J hJp
      rw [← c3, hK] at q1
      rw [← c3] at q2
      exact fin _ ((mp * 1073741824 + K : Nat) : Int) rfl (.inl ⟨by rw [hsg]; simp [c1], rfl, by omega⟩) (fun w => putV (sp == 1) _ s V pp (mp * 1073741824 + K) (ep - 30) _ w s01.1 s01.2 (by rw [c2]) rfl hE (by omega) q1.symm (by rw [hlo]; exact (decide_eq_decide.2 q2).symm) (by omega) (fun _ => bl25 _ (by omega)) (fun h => by omega))
    · obtain ⟨q1, q2⟩ := farMinus mp mq pp pq J hJp (by rw [hK]; omega)
      rw [← c2, hK] at q1
      rw [← c2] at q2
      by_cases hr : mq % 2 ^ J = 0
      · rw [if_pos hr] at q1
        have hl0 : Flo.lost mq J false = false := by rw [hlo, hr]; rfl
        exact fin false ((mp * 1073741824 - K - 0 : Nat) : Int) hl0 (.inr (.inr ⟨by rw [hsg]; simp [c1], rfl, rfl, by omega⟩)) (fun w => putV (sp == 1) false s V pp (mp * 1073741824 - K - 0) (ep - 30) _ w s01.1 s01.2 (by rw [c4]) rfl hE (by omega) q1.symm (by rw [← hl0, hlo]; exact (decide_eq_decide.2 q2).symm) (by omega) (fun _ => bl25 _ (by omega)) (fun h => by omega))
      · rw [if_neg hr] at q1
        have hl0 : Flo.lost mq J false = true := by rw [hlo]; exact decide_eq_true hr
        exact fin true ((mp * 1073741824 - K - 1 : Nat) : Int) hl0 (.inr (.inl ⟨by rw [hsg]; simp [c1], rfl, rfl, by omega⟩)) (fun w => putV (sp == 1) true s V pp (mp * 1073741824 - K - 1) (ep - 30) _ w s01.1 s01.2 (by rw [c4]) rfl hE (by omega) q1.symm (by rw [← hl0, hlo]; exact (decide_eq_decide.2 q2).symm) (by omega) (fun _ => bl25 _ (by omega)) (fun h => by omega))
    · exfalso
      obtain ⟨q1, q2⟩ := farMinus mp mq pp pq J hJp (by rw [hK]; omega)
      rw [← c2, c3, hK] at q1
      have e0 : (0 * 2 ^ 30 / (1 * 2 ^ pp)) = 0 := by simp
      rw [e0] at q1
      split at q1 <;> omega
end FlV
end Go.Proofs.YtmghmcnihiepiaaDoor
