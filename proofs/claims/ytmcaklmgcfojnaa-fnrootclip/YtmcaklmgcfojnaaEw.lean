/- Numbers whose root is asked, gradients that are clipped: what a law draws. -/
import Derived.Test.YtmcaklmgcfojnaaEv
import Derived.Test.YtmcaklmgcfojnaaEu
namespace Go.Proofs.Ytmcaklmgcfojnaa
namespace Vo
open Go.ChangeShapes Go.WideShapes Go.ChangeAt Go.RowKit Go.Joins Go.Sort
open Vl
set_option linter.unusedVariables false
set_option linter.unusedSimpArgs false
set_option maxHeartbeats 2000000 in
theorem drawRoot (a : Option Addr) (len cap : Nat) (w : World) (hc : Base.Code w.heap.size w a len) (hlen : len ≤ 1048576) :
    Calls Try.prog 5 #[.slice a len cap] w fun e w' => ∃ n : Int, e = .returned (.int .i64 n) ∧ bd n ∧ Below w.heap.size w w' := by
  have HC := Base.hide hc
  clear hc
  go_enter Try.func5, Try.ntmps5
  go_wp2_with fail
  refine (Base.l1New a len cap _ HC.out hlen).mono ?_; rintro e w1 ⟨rfl, d1, n1⟩
  have D1 := Base.hide d1
  have BR := Base.hide n1
  clear d1 n1
  go_wp2_with fail
  refine (Base.l1Below _ _ a len cap 2147483648 _ D1.out (by decide) (by decide)).mono ?_; rintro e w2 ⟨k, k0, k1, rfl, d2, g2⟩
  replace BR := Base.hide (BR.out.trans (D1.out.below g2))
  have D2 := Base.hide d2
  clear d2 g2 D1
  have q0 : 0 ≤ k * k := Int.mul_nonneg k0 k0
  have q1 : k * k ≤ 2147483647 * 2147483647 := Int.mul_le_mul (by omega) (by omega) k0 (by omega)
  obtain ⟨A, hA⟩ : ∃ A, k * k = A := ⟨_, rfl⟩
  rw [hA] at q0 q1
  have wA : IntKind.i64.wrap (k * k) = A := by rw [hA]; exact wid (by omega)
  clear hA
  obtain ⟨A1, hA1⟩ : ∃ A1, A - 1 = A1 := ⟨_, rfl⟩
  obtain ⟨A2, hA2⟩ : ∃ A2, A + 1 = A2 := ⟨_, rfl⟩
  have q2 : Hid (-1 ≤ A1 ∧ A1 ≤ 4611686018427387904 ∧ A2 ≤ 4611686018427387904 ∧ 0 ≤ A2 ∧ 0 ≤ A ∧ A ≤ 4611686018427387904) := Base.hide (by omega)
  have wB : IntKind.i64.wrap (A - 1) = A1 := by rw [hA1]; exact wid (by have := q2.out; omega)
  have wC : IntKind.i64.wrap (A + 1) = A2 := by rw [hA2]; exact wid (by have := q2.out; omega)
  clear hA1 hA2 q0 q1 k0 k1
  go_wp2_with fail
  refine (Base.l1Below _ _ a len cap 200 _ D2.out (by decide) (by decide)).mono ?_; rintro e w3 ⟨x, x0, x1, rfl, d3, g3⟩
  replace BR := Base.hide (BR.out.trans (D2.out.below g3))
  have D3 := Base.hide d3
  clear d3 g3 D2 wA wB wC
  have hl := Base.laid_ints w3 [A, A1, A2, x, 0, -1, 4611686018427387904, 4611686018427387905, 4611686018427387903] 3 (-9223372036854775808) 9223372036854775807 (by have := q2.out; intro q hq; simp at hq; omega)
  have vp := D3.out.lt
  have DC := Base.hide (D3.out.alloc (.cells (([A, A1, A2, x, 0, -1, 4611686018427387904, 4611686018427387905, 4611686018427387903] : List Int).map (Value.int .i64)).toArray 3))
  replace BR := Base.hide (BR.out.trans ((Below.refl w3.heap.size w3).alloc (Nat.le_refl _) (.cells (([A, A1, A2, x, 0, -1, 4611686018427387904, 4611686018427387905, 4611686018427387903] : List Int).map (Value.int .i64)).toArray 3) |>.mono BR.out.size))
  clear D3 q2 x0 x1
  go_wp2_with fail
  refine (Base.l1PickInt _ _ a len cap w3.heap.size 9 (-9223372036854775808) 9223372036854775807 _ DC.out (by omega) (by omega) (by omega) hl).mono ?_; rintro e w4 ⟨y, y0, y1, rfl, d4, g4⟩
  replace BR := Base.hide (BR.out.trans (DC.out.below g4))
  clear d4 g4 DC hl vp
  go_wp2_with fail
  go_ret
  exact ⟨y, rfl, ⟨y0, y1⟩, BR.out⟩
/-- a gradient and a length were drawn -/
def GCE (w : World) (e : Ending) (w' : World) : Prop :=
  ∃ (b : Option Addr) (k c : Nat) (D : Nat → Int) (m : Int), e = .returned (.tuple #[.slice b k c, .int .i64 m]) ∧ k ≤ 8 ∧ (b = none → k = 0 ∧ c = 0) ∧ OwnL w.heap.size w' b k D ∧ bd m ∧ Below w.heap.size w w'
set_option maxHeartbeats 2000000 in
theorem drawClip (a : Option Addr) (len cap : Nat) (w : World) (hc : Base.Code w.heap.size w a len) (hlen : len ≤ 1048576) :
    Calls Try.prog 7 #[.slice a len cap] w (GCE w) := by
  have HC := Base.hide hc
  clear hc
  go_enter Try.func7, Try.ntmps7
  go_wp2_with fail
  refine (Base.l1New a len cap _ HC.out hlen).mono ?_; rintro e w1 ⟨rfl, d1, n1⟩
  have D1 := Base.hide d1
  have BR := Base.hide n1
  clear d1 n1
  go_wp2_with fail
  refine (Base.l1Below _ _ a len cap 9 _ D1.out (by decide) (by decide)).mono ?_; rintro e w2 ⟨x, x0, x1, rfl, d2, g2⟩
  replace BR := Base.hide (BR.out.trans (D1.out.below g2))
  have D2 := Base.hide d2
  clear d2 g2 D1
  obtain ⟨M, rfl⟩ : ∃ M : Nat, x = (M : Int) := ⟨x.toNat, by omega⟩
  have M8 := Base.hide (show M ≤ 8 by omega)
  clear x0 x1
  go_wp2_with fail
  refine (drawGrad w.heap.size w.heap.size a len cap M _ D2.out BR.out.size (by have := M8.out; omega)).mono ?_; rintro e w3 ⟨b, k, c, D, rfl, kN, hn, hO, d3, g3⟩
  have lt2 := D2.out.lt
  replace BR := Base.hide (BR.out.trans (D2.out.below g3))
  have D3 := Base.hide d3
  have HO := Base.hide hO
  have HP := Base.hide (show ∀ j, Blk b k j → ¬ j = w.heap.size from fun j hj e => by have := (hO.blk hj).1; omega)
  have LO := Base.hide (hO.mono (Nat.le_of_lt lt2))
  have KN := Base.hide (show k ≤ 8 by have := M8.out; omega)
  have HN := Base.hide hn
  clear d3 g3 D2 hO kN hn lt2 M8 HO
  go_wp2_with fail
  refine (Base.l1Below _ _ a len cap 300000 _ D3.out (by decide) (by decide)).mono ?_; rintro e w4 ⟨m, m0, m1, rfl, d4, g4⟩
  replace BR := Base.hide (BR.out.trans (D3.out.below g4))
  replace LO := Base.hide (LO.out.kept (keptP g4) HP.out)
  have D4 := Base.hide d4
  clear d4 g4 D3
  go_wp2_with fail
  refine (Nef.l1Once _ _ a len cap 20 _ D4.out (by decide) (by decide)).mono ?_; rintro e w5 ⟨bb, rfl, d5, g5⟩
  replace BR := Base.hide (BR.out.trans (D4.out.below g5))
  replace LO := Base.hide (LO.out.kept (keptP g5) HP.out)
  have D5 := Base.hide d5
  clear d5 g5 D4
  cases bb
  · go_wp2_with fail
    go_ret2
    exact ⟨b, k, c, D, m, rfl, KN.out, HN.out, LO.out, ⟨by omega, by omega⟩, BR.out⟩
  have hl := Base.laid_ints w5 [0, 1073741824, 1073741825, -1] 3 (-9223372036854775808) 9223372036854775807 (by intro q hq; simp at hq; omega)
  have vp := D5.out.lt
  have n5 := (Below.refl w5.heap.size w5).alloc (Nat.le_refl _) (.cells (([0, 1073741824, 1073741825, -1] : List Int).map (Value.int .i64)).toArray 3)
  have DC := Base.hide (D5.out.alloc (.cells (([0, 1073741824, 1073741825, -1] : List Int).map (Value.int .i64)).toArray 3))
  replace LO := Base.hide (LO.out.below n5)
  replace BR := Base.hide (BR.out.trans (n5.mono BR.out.size))
  clear D5 m0 m1 n5
  go_wp2_with fail
  refine (Base.l1PickInt _ _ a len cap w5.heap.size 4 (-9223372036854775808) 9223372036854775807 _ DC.out (by omega) (by omega) (by omega) hl).mono ?_; rintro e w6 ⟨y, y0, y1, rfl, d6, g6⟩
  replace BR := Base.hide (BR.out.trans (DC.out.below g6))
  replace LO := Base.hide (LO.out.kept (keptP g6) HP.out)
  clear d6 g6 DC hl vp
  go_wp2_with fail
  go_ret2
  exact ⟨b, k, c, D, y, rfl, KN.out, HN.out, LO.out, ⟨y0, y1⟩, BR.out⟩
theorem sameIntsE (B : Nat) (a a' : Option Addr) (n cap cap' : Nat) (D : Nat → Int) (w : World) (h : Ints B w a n D) (h' : Ints B w a' n D) (hn : (n : Int) ≤ 1048576) :
    Calls Try.prog 11 #[.slice a n cap, .slice a' n cap'] w fun e w' => e = .returned (.bool true) ∧ Below w.heap.size w w' := by
  have H := hide h
  have H' := hide h'
  clear h h'
  go_enter Try.func11, Try.ntmps11
  go_wp2_with fail
  go_loopw [5] (fun i wx => ∃ t : Nat, t ≤ n ∧ i = .int .i64 (t : Int) ∧ ∃ k, wx = w.drewN k) (fun i _ => n - (intOf i).toNat)
  case atStart => exact ⟨0, Nat.zero_le _, rfl, 0, rfl⟩
  case round =>
    obtain ⟨t, ht, rfl, k, rfl⟩ := hrel
    by_cases htl : t < n
    · have tI : (t : Int) < n := by omega
      rcases H.out with q | ⟨b, o, rfl, hb, hc⟩
      · omega
      rcases H'.out with q | ⟨b', o', rfl, hb', hc'⟩
      · omega
      have ct := (hc t htl).1
      have ct' := (hc' t htl).1
      clear hc hc'
      generalize D t = x at ct ct'
      go_wp2_with fail
      go_quiet (fail)
      go_wp2_with fail
      go_roundw
      case rel => exact ⟨t + 1, by omega, by go_num, _, rfl⟩
      case measure => simp [intOf]; omega
    · have tI : decide ((t : Int) < (n : Int)) = false := decide_eq_false (by omega)
      have tI' : decide (t < n) = false := decide_eq_false (by omega)
      clear htl
      go_wp2_with fail
      go_ret
      exact ⟨rfl, ⟨rfl, rfl, rfl, Nat.le_refl _, fun _ _ => rfl⟩⟩
/-- a root asked of what lies below a square -/
theorem rt_lt {n v q : Int} (h : IsRt n v) (q0 : 0 ≤ q) (hq : n < (q + 1) * (q + 1)) : v ≤ q := by
  obtain ⟨v0, v1, -⟩ := h
  by_cases c : v ≤ q
  · exact c
  · have a1 : (q + 1) * (q + 1) ≤ (q + 1) * v := Int.mul_le_mul_of_nonneg_left (by omega) (by omega)
    have a2 : (q + 1) * v ≤ v * v := Int.mul_le_mul_of_nonneg_right (by omega) v0
    omega
end Vo
end Go.Proofs.Ytmcaklmgcfojnaa
