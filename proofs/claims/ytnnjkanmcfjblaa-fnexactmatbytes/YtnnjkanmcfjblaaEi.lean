/- Clipped gradients of the program. -/
import Derived.Test.YtnnjkanmcfjblaaEh
import Derived.Test.YtnnjkanmcfjblaaEc
import Derived.Shelf.Abstract
namespace Go.Proofs.Ytnnjkanmcfjblaa
namespace Vo
open Go.ChangeShapes Go.WideShapes Go.ChangeAt Go.RowKit Go.Joins Go.Sort
open Vl
set_option linter.unusedVariables false
set_option linter.unusedSimpArgs false
/-- what is rounded of at most K times d stays within K -/
theorem nrv_abs {n d K : Int} (d0 : 1 ≤ d) (K0 : 0 ≤ K) (h0 : -(K * d) ≤ n) (h1 : n ≤ K * d) : -K ≤ nrv n d ∧ nrv n d ≤ K := by
  have e1 := Int.tmod_add_mul_tdiv n d
  have t1 : n.tmod d < d := Int.tmod_lt_of_pos n (by omega)
  have t0 : -d < n.tmod d := by
    have := Int.tmod_lt_of_pos (-n) (show 0 < d by omega)
    rw [Int.neg_tmod] at this
    omega
  unfold nrv Nea.rd
  generalize n.tdiv d = q at *
  generalize n.tmod d = t at *
  have key : ∀ c : Int, q ≤ c ∨ c + 1 ≤ q := fun c => by omega
  have up : q ≤ K := by
    rcases key K with h | h
    · exact h
    · have := Int.mul_le_mul_of_nonneg_left h (show 0 ≤ d by omega)
      have e : d * (K + 1) = K * d + d := by rw [Int.mul_add, Int.mul_one, Int.mul_comm]
      omega
  have dn : -K ≤ q := by
    rcases key (-K - 1) with h | h
    · have := Int.mul_le_mul_of_nonneg_left h (show 0 ≤ d by omega)
      have e : d * (-K - 1) = -(K * d) - d := by rw [Int.mul_sub, Int.mul_one, Int.mul_neg, Int.mul_comm]
      omega
    · omega
  have upE : q = K → t ≤ 0 := fun h => by
    subst h
    have e : d * q = q * d := Int.mul_comm _ _
    omega
  have dnE : q = -K → 0 ≤ t := fun h => by
    subst h
    have e : d * -K = -(K * d) := by rw [Int.mul_neg, Int.mul_comm]
    omega
  split
  · have : ¬ q = -K := fun h => by have := dnE h; omega
    split <;> omega
  · by_cases hq : q = K
    · have := upE hq
      have : t = 0 := by omega
      subst this
      rw [if_neg (by omega)]
      omega
    · split <;> omega
theorem nrv_clip {x m v : Int} (x0 : -16777216 ≤ x) (x1 : x ≤ 16777216) (m0 : 0 ≤ m) (c : m < v) : -16777216 ≤ nrv (x * m) v ∧ nrv (x * m) v ≤ 16777216 := by
  have h1 : x * m ≤ 16777216 * v := by
    have a1 : x * m ≤ 16777216 * m := Int.mul_le_mul_of_nonneg_right x1 m0
    omega
  have h0 : -(16777216 * v) ≤ x * m := by
    have a1 : -16777216 * m ≤ x * m := Int.mul_le_mul_of_nonneg_right x0 m0
    omega
  exact nrv_abs (by omega) (by decide) h0 h1
set_option maxHeartbeats 1000000 in
theorem elemN (N : Nat) (F : Nat) (cs : Array Value) (G : Nat → Int) (w : World) (hN : (N : Int) ≤ 4194304) (hG : ∀ k, k < N → bd (G k)) (eF : ∀ args w, (callFunc F args).run Try.prog w = .ok (.enter F args) w)
    (hf : ∀ (k : Nat) (W : World), k < N → Below w.heap.size w W → Calls Try.prog F (#[.int .i64 k] ++ cs) W fun e W' => e = .returned (.int .i64 (G k)) ∧ Below W.heap.size W W') :
    Calls Try.prog 26 #[.int .i64 N, .func (.func F) #[] cs] w fun e w' => e = .returned (.slice (some ⟨w.heap.size, 0, none⟩) N N) ∧ Rw w' w.heap.size N G ∧ w.heap.size < w'.heap.size ∧ Below w.heap.size w w' := by
  have hmk := make_int N (by omega)
  have HF := hide hf
  have HG := hide hG
  clear hf hG
  go_enter Try.func26, Try.ntmps26
  go_wp2_with fail
  go_loopw [11] (fun i wx => ∃ k : Nat, k ≤ N ∧ i = .int .i64 k ∧ Rw wx w.heap.size N (fun t => if t < k then G t else 0) ∧ w.heap.size < wx.heap.size ∧ Below w.heap.size w wx) (fun i _ => N - (intOf i).toNat)
  case atStart => exact ⟨0, Nat.zero_le _, rfl, (rw_new w N _).same (fun t ht => by simp), by simp, (Below.refl _ _).alloc (Nat.le_refl _) _⟩
  case round =>
    obtain ⟨k, hk, rfl, hw, hs, hb⟩ := hrel
    have HW := hide hw
    have HB := hide hb
    clear hw hb
    by_cases hlt : k < N
    · have hkI : (k : Int) < N := by omega
      go_wp2_with fail
      refine (HF.out k _ hlt HB.out).mono ?_
      rintro e w1 ⟨rfl, b1⟩
      have HW1 := hide (HW.out.below b1 hs)
      have HB1 := hide (HB.out.trans (b1.mono HB.out.size))
      have hs1 : w.heap.size < w1.heap.size := Nat.lt_of_lt_of_le hs b1.size
      obtain ⟨c2, f2, _⟩ := HW1.out k hlt
      clear b1
      go_wp2_with fail
      go_roundw
      case rel => exact ⟨k + 1, by omega, by go_num, (HW1.out.set k (G k) (HG.out k hlt)).same (fun t ht => by by_cases c : t = k <;> by_cases c2 : t < k <;> simp [c, c2] <;> omega), by simpa [World.setCell] using hs1, HB1.out.setCell (p := ⟨w.heap.size, k, none⟩) (Nat.le_refl _) _⟩
      case measure => simp [intOf]; omega
    · have e : k = N := by omega
      go_wp2_with fail
      go_ret
      exact ⟨rfl, HW.out.same (fun t ht => by simp; intro; omega), hs, HB.out⟩
end Vo
end Go.Proofs.Ytnnjkanmcfjblaa
