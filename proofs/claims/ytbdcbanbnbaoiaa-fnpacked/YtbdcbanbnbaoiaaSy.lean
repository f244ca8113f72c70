/- Places in order: what is compared, what is sorted. -/
import Derived.Test.YtbdcbanbnbaoiaaSx
import Derived.Test.YtbdcbanbnbaoiaaTc
import Derived.Test.YtbdcbanbnbaoiaaPow
import Derived.Laws.EntriesVeiled
namespace Go.Proofs.Ytbdcbanbnbaoiaa
namespace Vo
open Go.ChangeShapes Go.WideShapes Go.ChangeAt Go.RowKit Go.Joins Go.Sort
open Vl Vp
set_option linter.unusedVariables false
set_option linter.unusedSimpArgs false
set_option maxHeartbeats 2000000 in
theorem elemI0 (N : Nat) (F : Nat) (G : Nat → Int) (w : World) (hN : (N : Int) ≤ 4194304) (hG : ∀ k, k < N → bd (G k)) (eF : ∀ args w, (callFunc F args).run Try.prog w = .ok (.enter F args) w)
    (hf : ∀ (k : Nat) (W : World), k < N → Below w.heap.size w W → Calls Try.prog F #[.int .i64 k] W fun e W' => e = .returned (.int .i64 (G k)) ∧ Below W.heap.size W W') :
    Calls Try.prog 31 #[.int .i64 N, .func (.func F) #[] #[]] w fun e w' => e = .returned (.slice (some ⟨w.heap.size, 0, none⟩) N N) ∧ Rw w' w.heap.size N G ∧ w.heap.size < w'.heap.size ∧ Below w.heap.size w w' := by
  have hmk := make_int N (by omega)
  have HF := hide hf
  have HG := hide hG
  clear hf hG
  go_enter Try.func31, Try.ntmps31
  go_wp2_with fail
  go_loopw [11] (fun i wx => ∃ k : Nat, k ≤ N ∧ i = .int .i64 k ∧ Rw wx w.heap.size N (fun t => if t < k then G t else 0) ∧ w.heap.size < wx.heap.size ∧ Below w.heap.size w wx) (fun i _ => N - (intOf i).toNat)
  case atStart => exact ⟨0, Nat.zero_le _, rfl, (rw_new w N _).same (fun t ht => by simp), by simp, (Below.refl _ _).alloc (Nat.le_refl _) _⟩
  case round =>
    obtain ⟨k, hk, rfl, hw, hs, hb⟩ := hrel
    have HW := hide hw
    have HB := hide hb
    clear hw hb
    by_cases hlt : k < N
    · have hkI : (k : Int) < N := by omega
      go_wp2_with fail
      refine (HF.out k _ hlt HB.out).mono ?_
      rintro e w1 ⟨rfl, b1⟩
      have HW1 := hide (HW.out.below b1 hs)
      have HB1 := hide (HB.out.trans (b1.mono HB.out.size))
      have hs1 : w.heap.size < w1.heap.size := Nat.lt_of_lt_of_le hs b1.size
      obtain ⟨c2, f2, _⟩ := HW1.out k hlt
      clear b1
      go_wp2_with fail
      go_roundw
      case rel => exact ⟨k + 1, by omega, by go_num, (HW1.out.set k (G k) (HG.out k hlt)).same (fun t ht => by by_cases c : t = k <;> by_cases c2 : t < k <;> simp [c, c2] <;> omega), by simpa [World.setCell] using hs1, HB1.out.setCell (p := ⟨w.heap.size, k, none⟩) (Nat.le_refl _) _⟩
      case measure => simp [intOf]; omega
    · have e : k = N := by omega
      go_wp2_with fail
      go_ret
      exact ⟨rfl, HW.out.same (fun t ht => by simp; intro; omega), hs, HB.out⟩
def cmpI (x y : Int) : Int := if x < y then -1 else if y < x then 1 else 0
theorem cmpI_neg (x y : Int) : cmpI x y < 0 ↔ x < y := by unfold cmpI; repeat (first | omega | split)
theorem nanF (x : Int) (w : World) : Calls Try.prog 46 #[.int .i64 x] w fun e w' => e = .returned (.bool false) ∧ w' = w := by
  have c : (x != x) = false := by simp
  go_enter Try.func46, Try.ntmps46
  go_wp2_with fail
  go_ret
  exact ⟨rfl, rfl⟩
set_option maxHeartbeats 1000000 in
theorem compareF (x y : Int) (w : World) : Calls Try.prog 36 #[.int .i64 x, .int .i64 y] w fun e w' => e = .returned (.int .i64 (cmpI x y)) ∧ w' = w := by
  go_enter Try.func36, Try.ntmps36
  go_wp2_with fail
  refine (nanF x _).mono ?_
  rintro e w1 ⟨rfl, rfl⟩
  go_wp2_with fail
  refine (nanF y _).mono ?_
  rintro e w1 ⟨rfl, rfl⟩
  by_cases c : x < y
  · have e := hide (show cmpI x y = -1 by unfold cmpI; rw [if_pos c])
    go_wp2_with fail
    go_ret
    exact ⟨by rw [e.out]; rfl, rfl⟩
  · have c' : decide (x < y) = false := decide_eq_false c
    by_cases d : y < x
    · have e := hide (show cmpI x y = 1 by unfold cmpI; rw [if_neg c, if_pos d])
      clear c
      go_wp2_with fail
      go_ret
      exact ⟨by rw [e.out]; rfl, rfl⟩
    · have e := hide (show cmpI x y = 0 by unfold cmpI; rw [if_neg c, if_neg d])
      have d' : decide (y < x) = false := decide_eq_false d
      clear c d
      go_wp2_with fail
      go_ret
      exact ⟨by rw [e.out]; rfl, rfl⟩
def sgs (x : Int) : Int := Base.sg (x % 2147483647)
end Vo
end Go.Proofs.Ytbdcbanbnbaoiaa
