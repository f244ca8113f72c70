/- Instructions that can be: fits. -/
import Derived.Test.YtpllbamldhgjkaaCb
namespace Go.Proofs.Ytpllbamldhgjkaa
namespace Vo
open Go.ChangeShapes Go.WideShapes Go.ChangeAt Go.RowKit Go.Joins Go.Sort
open Vl
set_option linter.unusedVariables false
set_option linter.unusedSimpArgs false
theorem cells6 (w : World) (a b c d e f : Value) (t : TypeId) : (w.alloc (.cells #[a, b, c, d, e, f] t)).cell? ⟨w.heap.size, 0, none⟩ = some a ∧ (w.alloc (.cells #[a, b, c, d, e, f] t)).cell? ⟨w.heap.size, 1, none⟩ = some b ∧ (w.alloc (.cells #[a, b, c, d, e, f] t)).cell? ⟨w.heap.size, 2, none⟩ = some c ∧ (w.alloc (.cells #[a, b, c, d, e, f] t)).cell? ⟨w.heap.size, 3, none⟩ = some d ∧ (w.alloc (.cells #[a, b, c, d, e, f] t)).cell? ⟨w.heap.size, 4, none⟩ = some e ∧ (w.alloc (.cells #[a, b, c, d, e, f] t)).cell? ⟨w.heap.size, 5, none⟩ = some f := by simp [go_sem]
theorem icells (w : World) (a b c d : Value) (t : TypeId) : (w.alloc (.cells #[a, b, c, d] t)).cell? ⟨w.heap.size, 0, none⟩ = some a ∧ (w.alloc (.cells #[a, b, c, d] t)).cell? ⟨w.heap.size, 1, none⟩ = some b ∧ (w.alloc (.cells #[a, b, c, d] t)).cell? ⟨w.heap.size, 2, none⟩ = some c ∧ (w.alloc (.cells #[a, b, c, d] t)).cell? ⟨w.heap.size, 3, none⟩ = some d := by simp [go_sem]
set_option maxHeartbeats 4000000 in
theorem fitsW (o a b c p0 p1 q0 q1 r0 r1 : Int) (ok : Bool) (w : World) (hs : ∀ w, Calls Try.prog 23 #[.int .i64 o] w fun e w' => e = .returned (.tuple #[.agg #[.int .i64 p0, .int .i64 p1, .int .i64 q0, .int .i64 q1, .int .i64 r0, .int .i64 r1], .bool ok]) ∧ Below w.heap.size w w') :
    Calls Try.prog 16 #[.agg #[.int .i64 o, .int .i64 a, .int .i64 b, .int .i64 c]] w fun e w' => e = .returned (.bool (ok && decide (inS (p0, p1) a ∧ inS (q0, q1) b ∧ inS (r0, r1) c))) ∧ Below w.heap.size w w' := by
  have HS := hide hs
  clear hs
  obtain ⟨W0, hW0⟩ : ∃ W0, w.alloc (.cells #[.int .i64 o, .int .i64 a, .int .i64 b, .int .i64 c] 36) = W0 := ⟨_, rfl⟩
  have m := icells w (.int .i64 o) (.int .i64 a) (.int .i64 b) (.int .i64 c) 36
  rw [hW0] at m
  obtain ⟨m0, m1, m2, m3⟩ := m
  have BL := hide (show Below w.heap.size w W0 by rw [← hW0]; exact (Below.refl _ _).alloc (Nat.le_refl _) _)
  have LT := hide (show w.heap.size < W0.heap.size by rw [← hW0]; simp)
  go_enter Try.func16, Try.ntmps16
  go_wp2_with fail
  refine (HS.out _).mono ?_
  rintro e W1 ⟨rfl, b1⟩
  obtain ⟨Z, hZ⟩ : ∃ Z, W1.alloc (.cells #[.int .i64 p0, .int .i64 p1, .int .i64 q0, .int .i64 q1, .int .i64 r0, .int .i64 r1] 45) = Z := ⟨_, rfl⟩
  have s := cells6 W1 (.int .i64 p0) (.int .i64 p1) (.int .i64 q0) (.int .i64 q1) (.int .i64 r0) (.int .i64 r1) 45
  rw [hZ] at s
  obtain ⟨s0, s1, s2, s3, s4, s5⟩ := s
  have bZ : Below W0.heap.size W0 Z := by rw [← hZ]; exact b1.alloc b1.size _
  have n1 := (bZ.cell (p := ⟨w.heap.size, 1, none⟩) LT.out).trans m1
  have n2 := (bZ.cell (p := ⟨w.heap.size, 2, none⟩) LT.out).trans m2
  have n3 := (bZ.cell (p := ⟨w.heap.size, 3, none⟩) LT.out).trans m3
  have BZ := hide (BL.out.trans (bZ.mono BL.out.size))
  have bZ' := bZ
  clear m0 m1 m2 m3 b1 bZ hW0
  have c1 := hide (fun W => hasF p0 p1 a W)
  have c2 := hide (fun W => hasF q0 q1 b W)
  have c3 := hide (fun W => hasF r0 r1 c W)
  have ltZ : W1.heap.size < Z.heap.size := by rw [← hZ]; simp
  have ltw : w.heap.size < Z.heap.size := Nat.lt_of_lt_of_le LT.out (by have := bZ'.size; exact this)

  cases ok
  case false =>
    have e := hide (show (false && decide (inS (p0, p1) a ∧ inS (q0, q1) b ∧ inS (r0, r1) c)) = false from rfl)
    go_wp2_with fail
    go_ret
    exact ⟨by rw [e.out]; rfl, BZ.out⟩
  by_cases t1 : inS (p0, p1) a
  case neg =>
    have e := hide (show (true && decide (inS (p0, p1) a ∧ inS (q0, q1) b ∧ inS (r0, r1) c)) = false by rw [decide_eq_false (fun h => t1 h.1)]; rfl)
    simp only [decide_eq_false t1] at c1
    clear t1
    go_wp2_with fail
    refine (c1.out _).mono ?_
    rintro e1 W2 ⟨rfl, b2⟩
    have d2 := hide (BZ.out.trans (b2.mono BZ.out.size))
    go_wp2_with fail
    go_ret
    exact ⟨by rw [e.out]; rfl, d2.out⟩
  simp only [decide_eq_true t1] at c1
  by_cases t2 : inS (q0, q1) b
  case neg =>
    have e := hide (show (true && decide (inS (p0, p1) a ∧ inS (q0, q1) b ∧ inS (r0, r1) c)) = false by rw [decide_eq_false (fun h => t2 h.2.1)]; rfl)
    simp only [decide_eq_false t2] at c2
    clear t1 t2
    go_wp2_with fail
    refine (c1.out _).mono ?_
    rintro e1 W2 ⟨rfl, b2⟩
    have d2 := hide (BZ.out.trans (b2.mono BZ.out.size))
    replace s2 := (b2.cell (p := ⟨W1.heap.size, 2, none⟩) ltZ).trans s2
    replace s3 := (b2.cell (p := ⟨W1.heap.size, 3, none⟩) ltZ).trans s3
    replace n2 := (b2.cell (p := ⟨w.heap.size, 2, none⟩) ltw).trans n2
    replace s4 := (b2.cell (p := ⟨W1.heap.size, 4, none⟩) ltZ).trans s4
    replace s5 := (b2.cell (p := ⟨W1.heap.size, 5, none⟩) ltZ).trans s5
    replace n3 := (b2.cell (p := ⟨w.heap.size, 3, none⟩) ltw).trans n3
    replace ltZ := Nat.lt_of_lt_of_le ltZ b2.size
    replace ltw := Nat.lt_of_lt_of_le ltw b2.size
    clear b2
    go_wp2_with fail
    refine (c2.out _).mono ?_
    rintro e2 W3 ⟨rfl, b3⟩
    have d3 := hide (d2.out.trans (b3.mono d2.out.size))
    go_wp2_with fail
    go_ret
    exact ⟨by rw [e.out]; rfl, d3.out⟩
  simp only [decide_eq_true t2] at c2
  by_cases t3 : inS (r0, r1) c
  case neg =>
    have e := hide (show (true && decide (inS (p0, p1) a ∧ inS (q0, q1) b ∧ inS (r0, r1) c)) = false by rw [decide_eq_false (fun h => t3 h.2.2)]; rfl)
    simp only [decide_eq_false t3] at c3
    clear t1 t2 t3
    go_wp2_with fail
    refine (c1.out _).mono ?_
    rintro e1 W2 ⟨rfl, b2⟩
    have d2 := hide (BZ.out.trans (b2.mono BZ.out.size))
    replace s2 := (b2.cell (p := ⟨W1.heap.size, 2, none⟩) ltZ).trans s2
    replace s3 := (b2.cell (p := ⟨W1.heap.size, 3, none⟩) ltZ).trans s3
    replace n2 := (b2.cell (p := ⟨w.heap.size, 2, none⟩) ltw).trans n2
    replace s4 := (b2.cell (p := ⟨W1.heap.size, 4, none⟩) ltZ).trans s4
    replace s5 := (b2.cell (p := ⟨W1.heap.size, 5, none⟩) ltZ).trans s5
    replace n3 := (b2.cell (p := ⟨w.heap.size, 3, none⟩) ltw).trans n3
    replace ltZ := Nat.lt_of_lt_of_le ltZ b2.size
    replace ltw := Nat.lt_of_lt_of_le ltw b2.size
    clear b2
    go_wp2_with fail
    refine (c2.out _).mono ?_
    rintro e2 W3 ⟨rfl, b3⟩
    have d3 := hide (d2.out.trans (b3.mono d2.out.size))
    replace s4 := (b3.cell (p := ⟨W1.heap.size, 4, none⟩) ltZ).trans s4
    replace s5 := (b3.cell (p := ⟨W1.heap.size, 5, none⟩) ltZ).trans s5
    replace n3 := (b3.cell (p := ⟨w.heap.size, 3, none⟩) ltw).trans n3
    replace ltZ := Nat.lt_of_lt_of_le ltZ b3.size
    replace ltw := Nat.lt_of_lt_of_le ltw b3.size
    clear b3
    go_wp2_with fail
    refine (c3.out _).mono ?_
    rintro e3 W4 ⟨rfl, b4⟩
    have d4 := hide (d3.out.trans (b4.mono d3.out.size))
    go_wp2_with fail
    go_ret
    exact ⟨by rw [e.out]; rfl, d4.out⟩
  case pos =>
    have e := hide (show (true && decide (inS (p0, p1) a ∧ inS (q0, q1) b ∧ inS (r0, r1) c)) = true by rw [decide_eq_true ⟨t1, t2, t3⟩]; rfl)
    simp only [decide_eq_true t3] at c3
    clear t1 t2 t3
    go_wp2_with fail
    refine (c1.out _).mono ?_
    rintro e1 W2 ⟨rfl, b2⟩
    have d2 := hide (BZ.out.trans (b2.mono BZ.out.size))
    replace s2 := (b2.cell (p := ⟨W1.heap.size, 2, none⟩) ltZ).trans s2
    replace s3 := (b2.cell (p := ⟨W1.heap.size, 3, none⟩) ltZ).trans s3
    replace n2 := (b2.cell (p := ⟨w.heap.size, 2, none⟩) ltw).trans n2
    replace s4 := (b2.cell (p := ⟨W1.heap.size, 4, none⟩) ltZ).trans s4
    replace s5 := (b2.cell (p := ⟨W1.heap.size, 5, none⟩) ltZ).trans s5
    replace n3 := (b2.cell (p := ⟨w.heap.size, 3, none⟩) ltw).trans n3
    replace ltZ := Nat.lt_of_lt_of_le ltZ b2.size
    replace ltw := Nat.lt_of_lt_of_le ltw b2.size
    clear b2
    go_wp2_with fail
    refine (c2.out _).mono ?_
    rintro e2 W3 ⟨rfl, b3⟩
    have d3 := hide (d2.out.trans (b3.mono d2.out.size))
    replace s4 := (b3.cell (p := ⟨W1.heap.size, 4, none⟩) ltZ).trans s4
    replace s5 := (b3.cell (p := ⟨W1.heap.size, 5, none⟩) ltZ).trans s5
    replace n3 := (b3.cell (p := ⟨w.heap.size, 3, none⟩) ltw).trans n3
    replace ltZ := Nat.lt_of_lt_of_le ltZ b3.size
    replace ltw := Nat.lt_of_lt_of_le ltw b3.size
    clear b3
    go_wp2_with fail
    refine (c3.out _).mono ?_
    rintro e3 W4 ⟨rfl, b4⟩
    have d4 := hide (d3.out.trans (b4.mono d3.out.size))
    go_wp2_with fail
    go_ret
    exact ⟨by rw [e.out]; rfl, d4.out⟩
theorem fitsF (x : IV) (w : World) : Calls Try.prog 16 #[.agg #[.int .i64 x.o, .int .i64 x.a, .int .i64 x.b, .int .i64 x.c]] w fun e w' => e = .returned (.bool (decide (InsOk x))) ∧ Below w.heap.size w w' := by
  cases h : sps x.o with
  | none =>
    refine (fitsW x.o x.a x.b x.c _ _ _ _ _ _ _ w (fun w => spansNo x.o w h)).mono ?_
    rintro e w' ⟨rfl, b⟩
    exact ⟨by rw [decide_eq_false (InsOk.no h)]; rfl, b⟩
  | some s =>
    refine (fitsW x.o x.a x.b x.c _ _ _ _ _ _ _ w (fun w => spansYes x.o s w h)).mono ?_
    rintro e w' ⟨rfl, b⟩
    exact ⟨by rw [decide_eq_decide.2 (InsOk.of h), Bool.true_and], b⟩
end Vo
end Go.Proofs.Ytpllbamldhgjkaa
