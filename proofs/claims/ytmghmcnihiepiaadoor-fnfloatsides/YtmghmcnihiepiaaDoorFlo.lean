/- Rounded numbers, the model's side: rounding to the nearest whole number, a float taken apart, a value put together again. -/
import Derived.Test.YtmghmcnihiepiaaDoorRows
import Derived.WalkKit
import Derived.ProofKit
import Derived.OpenShut
import Derived.Deep.QuietTactic
import Derived.BigQuiet
import Derived.WalkSmall
import Derived.WalkSpells
import Derived.Laws.BitsLemmas
namespace Go.Proofs.YtmghmcnihiepiaaDoor
namespace Flo
open Go.ChangeShapes Go.WideShapes Go.ChangeAt Go.RowKit
set_option linter.unusedVariables false

theorem hide {p : Prop} (h : p) : Hid p := h
theorem ret_int {k : IntKind} {a b : Int} (h : a = b) : Ending.returned (.int k a) = .returned (.int k b) := by rw [h]
theorem ret_bool {a b : Bool} (h : a = b) : Ending.returned (.bool a) = .returned (.bool b) := by rw [h]

theorem maskN (k : Nat) (hk : k ≤ 62) (c : Int) (hc : (BitVec.ofInt 64 c).toNat = 2 ^ k - 1) (n : Int) : bits .and .i64 n c = n % ((2 ^ k : Nat) : Int) := by
  have key : (BitVec.ofInt 64 n &&& BitVec.ofInt 64 c).toNat = (n % ((2 ^ 64 : Nat) : Int)).toNat % 2 ^ k := by
    rw [BitVec.toNat_and, BitVec.toNat_ofInt, hc, Nat.and_two_pow_sub_one_eq_mod]
  show IntKind.i64.wrap ((BitVec.ofInt 64 n &&& BitVec.ofInt 64 c).toNat : Nat) = n % ((2 ^ k : Nat) : Int)
  have hp : 0 < 2 ^ k := Nat.two_pow_pos k
  have hlt : (n % ((2 ^ 64 : Nat) : Int)).toNat % 2 ^ k < 2 ^ k := Nat.mod_lt _ hp
  have hle : 2 ^ k ≤ 2 ^ 62 := Nat.pow_le_pow_right (by omega) hk
  have hd : ((2 ^ k : Nat) : Int) ∣ ((2 ^ 64 : Nat) : Int) := Int.ofNat_dvd.2 (Nat.pow_dvd_pow 2 (by omega))
  rw [key, IntKind.wrap_i64]
  have e : (((n % ((2 ^ 64 : Nat) : Int)).toNat % 2 ^ k : Nat) : Int) = n % ((2 ^ k : Nat) : Int) := by
    rw [Int.natCast_emod, Int.toNat_of_nonneg (Int.emod_nonneg _ (by decide)), Int.emod_emod_of_dvd _ hd]
  rw [← e]
  generalize (n % ((2 ^ 64 : Nat) : Int)).toNat % 2 ^ k = z at *
  omega
theorem mask1 (n : Int) : bits .and .i64 n 1 = n % 2 := maskN 1 (by omega) 1 (by decide) n
theorem mask8 (n : Int) : bits .and .i64 n 255 = n % 256 := maskN 8 (by omega) 255 (by decide) n
theorem mask5 (n : Int) : bits .and .i64 n 31 = n % 32 := maskN 5 (by omega) 31 (by decide) n
theorem mask10 (n : Int) : bits .and .i64 n 1023 = n % 1024 := maskN 10 (by omega) 1023 (by decide) n
theorem mask23 (n : Int) : bits .and .i64 n 8388607 = n % 8388608 := maskN 23 (by omega) 8388607 (by decide) n

/-- m / 2^k to the nearest, of two as near the even one; more: there is something beyond m's last bit (k at least 1) -/
def hf (m k : Nat) (more : Bool) : Nat :=
  let t := m / 2 ^ (k - 1)
  if t % 2 = 1 ∧ (more = true ∨ m % 2 ^ (k - 1) ≠ 0 ∨ t / 2 % 2 = 1) then t / 2 + 1 else t / 2

/-- what the loop has told of the bits that went by -/
def lost (m j : Nat) (more : Bool) : Bool := more || decide (m % 2 ^ j ≠ 0)
theorem lost_zero (m : Nat) (more : Bool) : lost m 0 more = more := by
  unfold lost; rw [Nat.pow_zero, Nat.mod_one]; cases more <;> rfl
theorem lost_step (m j : Nat) (more : Bool) : lost m (j + 1) more = (lost m j more || decide (m / 2 ^ j % 2 = 1)) := by
  have h : m % 2 ^ (j + 1) = m % 2 ^ j + 2 ^ j * (m / 2 ^ j % 2) := by
    rw [Nat.pow_succ, Nat.mod_mul]
  have hp : 0 < 2 ^ j := Nat.two_pow_pos j
  have h2 : m / 2 ^ j % 2 = 0 ∨ m / 2 ^ j % 2 = 1 := by omega
  unfold lost
  rw [h, Bool.or_assoc]
  congr 1
  generalize m / 2 ^ j % 2 = b at *
  rcases h2 with h2 | h2
  · subst h2; simp
  · subst h2
    simp
theorem lost_yes (m j : Nat) (more : Bool) (h : lost m j more = true) : lost m (j + 1) more = true := by rw [lost_step, h]; rfl

theorem halfOver (m k : Int) (more : Bool) (w : World) (h : 62 < k) :
    Calls Tryd.prog 55 #[.int .i64 m, .int .i64 k, .bool more] w fun e w' => e = .returned (.int .i64 0) ∧ w' = w := by
  go_enter Tryd.func55, Tryd.ntmps55
  go_wp2
  go_ret
  exact ⟨rfl, rfl⟩

theorem half (m k : Nat) (more : Bool) (w : World) (hm : (m : Int) ≤ 4611686018427387904) (k0 : 1 ≤ k) (k1 : k ≤ 62) :
    Calls Tryd.prog 55 #[.int .i64 m, .int .i64 k, .bool more] w fun e w' => e = .returned (.int .i64 (hf m k more)) ∧ w' = w := by
  have m1 := mask1
  have k2 : (k : Int) ≤ 62 := by omega
  have k3 : (1 : Int) ≤ (k : Int) := by omega
  have z0 := hide (lost_zero m more)
  go_enter Tryd.func55, Tryd.ntmps55
  go_wp2_with fail
  go_loop [0, 2, 7] (fun a b i => ∃ j : Nat, j ≤ k - 1 ∧ a = .int .i64 ((m / 2 ^ j : Nat) : Int) ∧ b = .bool (lost m j more) ∧ i = .int .i64 ((j : Int) + 1)) (fun _ _ i => k - (intOf i).toNat)
  case atStart => exact ⟨0, by omega, by simp, by rw [z0.out], rfl⟩
  case round =>
    clear z0
    obtain ⟨j, hj, rfl, rfl, rfl⟩ := hrel
    have hle : ((m / 2 ^ j : Nat) : Int) ≤ 4611686018427387904 := by
      have := Nat.div_le_self m (2 ^ j); omega
    have h0 : (0 : Int) ≤ ((m / 2 ^ j : Nat) : Int) := Int.natCast_nonneg _
    have hs : Hid (((m / 2 ^ j : Nat) : Int) / 2 = ((m / 2 ^ (j + 1) : Nat) : Int)) := by
      show _ = _
      rw [Nat.pow_succ, ← Nat.div_div_eq_div_mul]; rfl
    have hl := hide (lost_step m j more)
    have hb : Hid ((((m / 2 ^ j : Nat) : Int) % 2 == 1) = decide (m / 2 ^ j % 2 = 1)) := by
      show _ = _
      rw [Bool.eq_iff_iff, beq_iff_eq, decide_eq_true_eq]; omega
    by_cases hlt : (j : Int) + 1 < (k : Int)
    · cases hL : lost m j more
      · have hn : Hid (lost m (j + 1) more = (((m / 2 ^ j : Nat) : Int) % 2 == 1)) := by show _ = _; rw [hl.out, hL, hb.out]; rfl
        generalize ((m / 2 ^ j : Nat) : Int) = a at *
        go_wp2_with fail
        go_round
        case rel => exact ⟨j + 1, by omega, by rw [← hs.out], by rw [hn.out], by go_num⟩
        case measure => simp [intOf]; omega
      · have hn := hide (lost_yes m j more hL)
        generalize ((m / 2 ^ j : Nat) : Int) = a at *
        go_wp2_with fail
        go_round
        case rel => exact ⟨j + 1, by omega, by rw [← hs.out], by rw [hn.out], by go_num⟩
        case measure => simp [intOf]; omega
    · obtain rfl : j = k - 1 := by omega
      have hlt2 : decide (((k - 1 : Nat) : Int) + 1 < (k : Int)) = false := decide_eq_false hlt
      have hk0 : decide ((k : Int) ≤ 0) = false := decide_eq_false (by omega)
      clear hs hl hb hlt
      have e : Hid (hf m k more = if m / 2 ^ (k - 1) % 2 = 1 ∧ (lost m (k - 1) more = true ∨ m / 2 ^ (k - 1) / 2 % 2 = 1) then m / 2 ^ (k - 1) / 2 + 1 else m / 2 ^ (k - 1) / 2) := by
        show _ = _
        unfold hf lost
        simp only [Bool.or_eq_true, decide_eq_true_eq, or_assoc]
      generalize lost m (k - 1) more = L at *
      generalize m / 2 ^ (k - 1) = t at *
      by_cases t1 : t % 2 = 1
      · have b1 : ((t : Int) % 2 == 1) = true := by rw [beq_iff_eq]; omega
        cases L
        · by_cases t2 : t / 2 % 2 = 1
          · have b2 : ((t : Int) / 2 % 2 == 1) = true := by rw [beq_iff_eq]; omega
            rw [if_pos ⟨t1, .inr t2⟩] at e
            clear t1 t2
            go_wp2_with fail
            go_ret
            exact ⟨ret_int (by rw [e.out]; omega), rfl⟩
          · have b2 : ((t : Int) / 2 % 2 == 1) = false := by rw [beq_eq_false_iff_ne]; omega
            rw [if_neg (by intro h; rcases h.2 with h | h <;> simp_all)] at e
            clear t1 t2
            go_wp2_with fail
            go_ret
            exact ⟨ret_int (by rw [e.out]; omega), rfl⟩
        · rw [if_pos ⟨t1, .inl rfl⟩] at e
          clear t1
          go_wp2_with fail
          go_ret
          exact ⟨ret_int (by rw [e.out]; omega), rfl⟩
      · have b1 : ((t : Int) % 2 == 1) = false := by rw [beq_eq_false_iff_ne]; omega
        rw [if_neg (by intro h; exact t1 h.1)] at e
        clear t1
        go_wp2_with fail
        go_ret
        exact ⟨ret_int (by rw [e.out]; omega), rfl⟩

theorem halfNone (m k : Int) (more : Bool) (w : World) (h : k ≤ 0) :
    Calls Tryd.prog 55 #[.int .i64 m, .int .i64 k, .bool more] w fun e w' => e = .returned (.int .i64 m) ∧ w' = w := by
  have k2 : decide (62 < k) = false := decide_eq_false (by omega)
  have k3 : decide (1 < k) = false := decide_eq_false (by omega)
  go_enter Tryd.func55, Tryd.ntmps55
  go_wp2_with fail
  go_loop [0, 2, 7] (fun a b i => a = .int .i64 m ∧ b = .bool more ∧ i = .int .i64 1) (fun _ _ _ => 0)
  case atStart => exact ⟨rfl, rfl, rfl⟩
  case round =>
    obtain ⟨rfl, rfl, rfl⟩ := hrel
    go_wp2_with fail
    go_ret
    exact ⟨rfl, rfl⟩

end Flo
end Go.Proofs.YtmghmcnihiepiaaDoor
