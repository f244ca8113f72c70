/- One, its pieces: l4One; the function values; elementwise with two captures. -/
import Derived.Test.YtldcacdopijfdabTc
import Derived.Test.YtldcacdopijfdabPow
import Derived.Lib.QuietBelow
namespace Go.Proofs.Ytldcacdopijfdab
namespace Vo
open Go.ChangeShapes Go.WideShapes Go.ChangeAt Go.RowKit Go.Joins Go.Sort
open Vl Vp Vr
set_option linter.unusedVariables false
set_option linter.unusedSimpArgs false

/-- One of a number -/
def one1 (op x : Int) : Int := if op = 1 then (0 - x) % 2147483647 else if op = 2 then Num.pw (x % 2147483647) 2147483645 else if Base.sg (x % 2147483647) ≤ 0 then 0 else if op = 3 then 1 else x
def isN (x : Int) : Prop := 0 ≤ x ∧ x < 2147483647
set_option maxHeartbeats 1000000 in
theorem elementwise2 (N : Nat) (F : Nat) (c c' : Value) (G : Nat → Int) (w : World) (hN : (N : Int) ≤ 4194304) (hG : ∀ k, k < N → bd (G k)) (eF : ∀ args w, (callFunc F args).run Try.prog w = .ok (.enter F args) w)
    (hf : ∀ (k : Nat) (W : World), k < N → Below w.heap.size w W → Calls Try.prog F #[.int .i64 k, c, c'] W fun e W' => e = .returned (.int .i64 (G k)) ∧ Below W.heap.size W W') :
    Calls Try.prog 48 #[.int .i64 N, .func (.func F) #[] #[c, c']] w fun e w' => e = .returned (.slice (some ⟨w.heap.size, 0, none⟩) N N) ∧ Rw w' w.heap.size N G ∧ w.heap.size < w'.heap.size ∧ Below w.heap.size w w' := by
  have hmk := make_int N (by omega)
  have HF := hide hf
  have HG := hide hG
  clear hf hG
  go_enter Try.func48, Try.ntmps48
  go_wp2_with fail
  go_loopw [11] (fun i wx => ∃ k : Nat, k ≤ N ∧ i = .int .i64 k ∧ Rw wx w.heap.size N (fun t => if t < k then G t else 0) ∧ w.heap.size < wx.heap.size ∧ Below w.heap.size w wx) (fun i _ => N - (intOf i).toNat)
  case atStart => exact ⟨0, Nat.zero_le _, rfl, (rw_new w N _).same (fun t ht => by simp), by simp, (Below.refl _ _).alloc (Nat.le_refl _) _⟩
  case round =>
    obtain ⟨k, hk, rfl, hw, hs, hb⟩ := hrel
    have HW := hide hw
    have HB := hide hb
    clear hw hb
    by_cases hlt : k < N
    · have hkI : (k : Int) < N := by omega
      go_wp2_with fail
      refine (HF.out k _ hlt HB.out).mono ?_
      rintro e w1 ⟨rfl, b1⟩
      have HW1 := hide (HW.out.below b1 hs)
      have HB1 := hide (HB.out.trans (b1.mono HB.out.size))
      have hs1 : w.heap.size < w1.heap.size := Nat.lt_of_lt_of_le hs b1.size
      obtain ⟨c2, f2, _⟩ := HW1.out k hlt
      clear b1
      go_wp2_with fail
      go_roundw
      case rel => exact ⟨k + 1, by omega, by go_num, (HW1.out.set k (G k) (HG.out k hlt)).same (fun t ht => by by_cases c : t = k <;> by_cases c2 : t < k <;> simp [c, c2] <;> omega), by simpa [World.setCell] using hs1, HB1.out.setCell (p := ⟨w.heap.size, k, none⟩) (Nat.le_refl _) _⟩
      case measure => simp [intOf]; omega
    · have e : k = N := by omega
      go_wp2_with fail
      go_ret
      exact ⟨rfl, HW.out.same (fun t ht => by simp; intro; omega), hs, HB.out⟩
end Vo
end Go.Proofs.Ytldcacdopijfdab
