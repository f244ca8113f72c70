/- The model's turns: l3Axis, l3Or. -/
import Derived.Test.YtldcacdopijfdabVak
import Derived.Test.YtldcacdopijfdabVt
namespace Go.Proofs.Ytldcacdopijfdab
namespace Vo
open Go.ChangeShapes Go.WideShapes Go.ChangeAt Go.RowKit Go.Joins
open Vl Vp Vr
set_option linter.unusedVariables false
set_option linter.unusedSimpArgs false

/-- the axis is there, and the view is one -/
def axOk (r s : Nat) (D S : Nat → Int) (o n x : Int) : Bool := vok r s D S o n && decide (0 ≤ x ∧ x < r)
theorem l3Axis (B : Nat) (a b : Option Addr) (r s cap dap : Nat) (D S : Nat → Int) (o n x : Int) (w : World) (hB : B ≤ w.heap.size) (h : Ints B w a r D) (h' : Ints B w b s S) (hr : (r : Int) ≤ 1048576) (hs : (s : Int) ≤ 1048576) :
    Calls Try.prog 23 #[.agg #[.slice a r cap, .slice b s dap, .int .i64 o, .int .i64 n], .int .i64 x] w fun e w' => e = .returned (.bool (axOk r s D S o n x)) ∧ Below w.heap.size w w' := by
  have BL := hide (show Below w.heap.size w (w.alloc (.cells #[.slice a r cap, .slice b s dap, .int .i64 o, .int .i64 n] 26)) from (Below.refl _ _).alloc (Nat.le_refl _) _)
  have NV := hide (box_new w (.slice a r cap) (.slice b s dap) (.int .i64 o) (.int .i64 n) 26)
  have H := hide h
  have H' := hide h'
  clear h h'
  go_enter Try.func23, Try.ntmps23
  go_wp2_with fail
  refine (specViewOk B a b r s cap dap D S o n _ (by simp; omega) (H.out.below (BL.out.mono hB)) (H'.out.below (BL.out.mono hB)) hr hs).mono ?_
  rintro e w1 ⟨rfl, b1⟩
  have B1 := hide (BL.out.trans (b1.mono (by simp)))
  have N1 := hide (NV.out.below b1 (by simp))
  obtain ⟨x0, x1, x2, x3⟩ := N1.out
  clear b1
  cases hv : vok r s D S o n with
  | false =>
    have e := hide (show axOk r s D S o n x = false by unfold axOk; rw [hv]; rfl)
    clear hv
    go_wp2_with fail
    go_ret
    exact ⟨congrArg (fun q => Ending.returned (.bool q)) e.out.symm, B1.out⟩
  | true =>
    by_cases h0 : 0 ≤ x
    · have h0' : decide (0 ≤ x) = true := decide_eq_true h0
      by_cases h1 : x < r
      · have h1' : decide (x < (r : Int)) = true := decide_eq_true h1
        have e := hide (show axOk r s D S o n x = true by unfold axOk; rw [hv, decide_eq_true (show 0 ≤ x ∧ x < r from ⟨h0, h1⟩)]; rfl)
        clear hv h0 h1
        go_wp2_with fail
        go_ret
        exact ⟨congrArg (fun q => Ending.returned (.bool q)) e.out.symm, B1.out⟩
      · have h1' : decide (x < (r : Int)) = false := decide_eq_false h1
        have e := hide (show axOk r s D S o n x = false by unfold axOk; rw [hv, decide_eq_false (show ¬ (0 ≤ x ∧ x < r) from fun q => h1 q.2)]; rfl)
        clear hv h0 h1
        go_wp2_with fail
        go_ret
        exact ⟨congrArg (fun q => Ending.returned (.bool q)) e.out.symm, B1.out⟩
    · have h0' : decide (0 ≤ x) = false := decide_eq_false h0
      have e := hide (show axOk r s D S o n x = false by unfold axOk; rw [hv, decide_eq_false (show ¬ (0 ≤ x ∧ x < r) from fun q => h0 q.1)]; rfl)
      clear hv h0
      go_wp2_with fail
      go_ret
      exact ⟨congrArg (fun q => Ending.returned (.bool q)) e.out.symm, B1.out⟩
set_option maxHeartbeats 1000000 in
theorem l3Or (C : Nat) (T : PV) (a b : Option Addr) (cap dap : Nat) (w : World) (hC : C ≤ w.heap.size) (h : VOwn C w a b T.r T.s T.D T.S) (hr : (T.r : Int) ≤ 1048576) (hs : (T.s : Int) ≤ 1048576) :
    Calls Try.prog 24 #[.agg #[.slice a T.r cap, .slice b T.s dap, .int .i64 T.o, .int .i64 T.n]] w fun e w' => ViewR C T.orZero w e w' := by
  have BL := hide (show Below w.heap.size w ((w.alloc (.cells #[.slice a T.r cap, .slice b T.s dap, .int .i64 T.o, .int .i64 T.n] 26)).alloc (.cells #[.slice none 0 0, .slice none 0 0, .int .i64 0, .int .i64 0] 26)) from ((Below.refl _ _).alloc (Nat.le_refl _) _).alloc (by simp) _)
  have N0 := hide ((box_new w (.slice a T.r cap) (.slice b T.s dap) (.int .i64 T.o) (.int .i64 T.n) 26).below ((Below.refl (w.heap.size + 1) _).alloc (by simp) (.cells #[.slice none 0 0, .slice none 0 0, .int .i64 0, .int .i64 0] 26)) (by omega))
  have m0 := box_new (w.alloc (.cells #[.slice a T.r cap, .slice b T.s dap, .int .i64 T.o, .int .i64 T.n] 26)) (.slice none 0 0) (.slice none 0 0) (.int .i64 0) (.int .i64 0) 26
  have g0 := free_new (w.alloc (.cells #[.slice a T.r cap, .slice b T.s dap, .int .i64 T.o, .int .i64 T.n] 26)) #[.slice none 0 0, .slice none 0 0, .int .i64 0, .int .i64 0] 26
  rw [World.size_alloc] at m0 g0
  have M0 := hide m0
  have G0 := hide g0
  have H := hide h
  clear h m0 g0
  go_enter Try.func24, Try.ntmps24
  go_wp2_with fail
  refine (specViewOk w.heap.size a b T.r T.s cap dap T.D T.S T.o T.n _ (by simp; omega) (H.out.d.ints.below BL.out) (H.out.t.ints.below BL.out) hr hs).mono ?_
  rintro e w1 ⟨rfl, b1⟩
  have B1 := hide (BL.out.trans (b1.mono (by simp; omega)))
  have z1 : w.heap.size + 1 < w1.heap.size := by have := b1.size; simp at this; omega
  have N1 := hide (N0.out.below b1 (by simp; omega))
  have M1 := hide (M0.out.below b1 (by simp))
  have G1 := hide (G0.out.below b1 (by simp))
  obtain ⟨x0, x1, x2, x3⟩ := N1.out
  obtain ⟨y0, y1, y2, y3⟩ := M1.out
  have gg := G1.out
  unfold Free at gg
  clear b1
  cases hv : vok T.r T.s T.D T.S T.o T.n with
  | false =>
    have eo := hide (show T.orZero = PV.zero by unfold PV.orZero PV.ok; rw [hv]; simp)
    clear hv
    go_wp2_with fail
    refine bodyPost_ret (v := .agg #[.slice none 0 0, .slice none 0 0, .int .i64 0, .int .i64 0]) (by simp [results, Try.results24, go_sem, y0, y1, y2, y3]) rfl (by
      rw [eo.out]
      refine viewR_zero ?_
      repeat (refine Below.setCell ?_ (by simp) _)
      exact B1.out)
  | true =>
    have eo := hide (show T.orZero = T by unfold PV.orZero PV.ok; rw [hv]; simp)
    clear hv
    go_wp2_with fail
    refine bodyPost_ret (v := .agg #[.slice a T.r cap, .slice b T.s dap, .int .i64 T.o, .int .i64 T.n]) (by simp [results, Try.results24, go_sem, y0, y1, y2, y3]) rfl (by
      rw [eo.out]
      have k4 := kept_sets4 w1 (w.heap.size + 1) (.slice a T.r cap) (.slice b T.s dap) (.int .i64 T.o) (.int .i64 T.n)
      have b2 : Below w.heap.size w _ := B1.out.trans (k4.below B1.out.size (fun j e => by have e : j = w.heap.size + 1 := e; omega))
      exact ⟨a, b, cap, dap, rfl, H.out.below b2, b2⟩)
end Vo
end Go.Proofs.Ytldcacdopijfdab
