/- A float as a row of five words. -/
import Derived.Test.YtmghmcnihiepiaaDoorWid
import Derived.Test.YtmghmcnihiepiaaDoorTwo
import Derived.Lib.QuietBelow
namespace Go.Proofs.YtmghmcnihiepiaaDoor
namespace Wid
open Go.ChangeShapes Go.WideShapes Go.ChangeAt Go.RowKit Go.Joins
open Flo (hide ret_int ret_bool)
set_option linter.unusedVariables false
theorem regrow_row {W : World} {P : Nat} {x : Nat → Int} (h : Row W P x) (d : Nat) (os : Array Obj) : Row (Sort.grow (redrawn W d) os) P x := by
  intro t ht
  have hl : P < W.heap.size := block_lt_of_cell (h t ht).1
  exact ⟨((below_regrown W d os).cell hl).trans (h t ht).1, ((below_regrown W d os).frozen hl).trans (h t ht).2⟩
set_option maxHeartbeats 1000000 in
theorem wideWalk (k s e m pl A Bv : Int) (q : Nat) (r : Int) (X out : Nat → Int) (w : World) (hv : FlV.SV w) (h1 : IntKind.i64.wrap e = e) (h2 : IntKind.i64.wrap (e + 149) = pl) (hq : pl.tdiv 64 = (q : Int)) (hr : pl.tmod 64 = r) (q4 : q < 4) (r0 : 0 ≤ r) (r1 : r < 64) (m0 : 0 ≤ m) (m1 : m < 16777216)
    (hA : IntKind.u64.wrap (m * 2 ^ r.toNat) = A) (hB : m / 2 ^ (64 - r).toNat = Bv) (hX : ∀ t, X t = if t = q + 1 then Bv else if t = q then A else 0)
    (ho : (s = 0 ∧ out = X) ∨ (s = 1 ∧ ∀ w, Calls Tryd.prog 44 #[.agg #[.int .u64 0, .int .u64 0, .int .u64 0, .int .u64 0, .int .u64 0], .agg #[.int .u64 (X 0), .int .u64 (X 1), .int .u64 (X 2), .int .u64 (X 3), .int .u64 (X 4)]] w fun e w' => e = .returned (.agg #[.int .u64 (out 0), .int .u64 (out 1), .int .u64 (out 2), .int .u64 (out 3), .int .u64 (out 4)]) ∧ Below w.heap.size w w')) :
    Calls Tryd.prog 26 #[.agg #[.int .u8 k, .int .u8 s, .int .i16 e, .int .u32 m]] w fun e w' => e = .returned (.agg #[.int .u64 (out 0), .int .u64 (out 1), .int .u64 (out 2), .int .u64 (out 3), .int .u64 (out 4)]) ∧ Below w.heap.size w w' := by
  obtain ⟨v0, v1⟩ := hv.cells
  have c1 : (((w.alloc (.cells #[.int .u8 k, .int .u8 s, .int .i16 e, .int .u32 m] 34)).alloc (.cells #[.int .u64 0, .int .u64 0, .int .u64 0, .int .u64 0, .int .u64 0] 41)).alloc (.cells #[.int .u64 0, .int .u64 0, .int .u64 0, .int .u64 0, .int .u64 0] 41)).cell? ⟨w.heap.size, 1, none⟩ = some (.int .u8 s) := by simp [go_sem]
  have c2 : (((w.alloc (.cells #[.int .u8 k, .int .u8 s, .int .i16 e, .int .u32 m] 34)).alloc (.cells #[.int .u64 0, .int .u64 0, .int .u64 0, .int .u64 0, .int .u64 0] 41)).alloc (.cells #[.int .u64 0, .int .u64 0, .int .u64 0, .int .u64 0, .int .u64 0] 41)).cell? ⟨w.heap.size, 2, none⟩ = some (.int .i16 e) := by simp [go_sem]
  have c3 : (((w.alloc (.cells #[.int .u8 k, .int .u8 s, .int .i16 e, .int .u32 m] 34)).alloc (.cells #[.int .u64 0, .int .u64 0, .int .u64 0, .int .u64 0, .int .u64 0] 41)).alloc (.cells #[.int .u64 0, .int .u64 0, .int .u64 0, .int .u64 0, .int .u64 0] 41)).cell? ⟨w.heap.size, 3, none⟩ = some (.int .u32 m) := by simp [go_sem]
  have rw1 := (row_new (w.alloc (.cells #[.int .u8 k, .int .u8 s, .int .i16 e, .int .u32 m] 34)) (fun _ => 0) 41).old (.cells #[.int .u64 0, .int .u64 0, .int .u64 0, .int .u64 0, .int .u64 0] 41)
  have rw2 := row_new ((w.alloc (.cells #[.int .u8 k, .int .u8 s, .int .i16 e, .int .u32 m] 34)).alloc (.cells #[.int .u64 0, .int .u64 0, .int .u64 0, .int .u64 0, .int .u64 0] 41)) (fun _ => 0) 41
  rw [World.size_alloc] at rw1
  rw [World.size_alloc, World.size_alloc] at rw2
  have bW := below_alloc3 w (.cells #[.int .u8 k, .int .u8 s, .int .i16 e, .int .u32 m] 34) (.cells #[.int .u64 0, .int .u64 0, .int .u64 0, .int .u64 0, .int .u64 0] 41) (.cells #[.int .u64 0, .int .u64 0, .int .u64 0, .int .u64 0, .int .u64 0] 41)
  obtain ⟨g0, g1⟩ := (hv.below bW).cells
  go_enter Tryd.func26, Tryd.ntmps26
  go_wp2_with fail
  generalize ((w.alloc (.cells #[.int .u8 k, .int .u8 s, .int .i16 e, .int .u32 m] 34)).alloc (.cells #[.int .u64 0, .int .u64 0, .int .u64 0, .int .u64 0, .int .u64 0] 41)).alloc (.cells #[.int .u64 0, .int .u64 0, .int .u64 0, .int .u64 0, .int .u64 0] 41) = W at *
  have k1 := cell_regrown c1
  have k2 := cell_regrown c2
  have k3 := cell_regrown c3
  have k4 := cell_regrown g0
  have k5 := cell_regrown g1
  have HW := hide (fun q os => Calls.regrown_of (d := q) (os := os) (w := W) (FlP.lowestS _))
  have R1 := hide (fun d os => regrow_row rw1 d os)
  have R2 := hide (fun d os => regrow_row rw2 d os)
  clear c1 c2 c3 g0 g1 v0 v1 rw1 rw2
  refine wp_region_quiet_below (by kernel_rfl) (by kernel_rfl) ?_
  repeat (quiet_step (first | (go_at_call 43; exact HW.out _ _)))
  refine wpQuiet_nil ?_
  intro _ hw'
  obtain ⟨⟨dq, osq⟩, hw''⟩ := hw'
  subst hw''
  have rX := R1.out dq osq
  have rY := R2.out dq osq
  have c1 := k1 dq osq
  have c2 := k2 dq osq
  have c3 := k3 dq osq
  have bW2 : Below w.heap.size w (Sort.grow (redrawn W dq) osq) := bW.trans ((below_regrown W dq osq).mono bW.size)
  clear k1 k2 k3 k4 k5 HW R1 R2 bW hv
  generalize Sort.grow (redrawn W dq) osq = W2 at *
  obtain ⟨x0, f0⟩ := rY q (by omega)
  obtain ⟨x1, f1⟩ := rY (q + 1) (by omega)
  have q4' : (q : Int) < 4 := by omega
  have x1' : ∀ v, (W2.setCell ⟨w.heap.size + 1 + 1, q, none⟩ v).cell? ⟨w.heap.size + 1 + 1, q + 1, none⟩ = some (.int .u64 0) := fun v => by
    rw [World.cell?_setCell_other _ _ _ _ (by intro h; injection h with h1 h2; omega)]; exact x1
  obtain ⟨W3, hW3⟩ : ∃ W3, (W2.setCell ⟨w.heap.size + 1 + 1, q, none⟩ (.int .u64 A)).setCell ⟨w.heap.size + 1 + 1, q + 1, none⟩ (.int .u64 Bv) = W3 := ⟨_, rfl⟩
  have R3 : Row W3 (w.heap.size + 1 + 1) X := by
    rw [← hW3]
    refine ((rY.set q (by omega) A).set (q + 1) (by omega) Bv).same (fun t ht => ?_)
    rw [hX]
  have R4 : Row W3 (w.heap.size + 1) (fun _ => 0) := by
    rw [← hW3]; exact (rX.other (by omega) q _).other (by omega) (q + 1) _
  have c1' : W3.cell? ⟨w.heap.size, 1, none⟩ = some (.int .u8 s) := by
    rw [← hW3, World.cell?_setCell_other _ _ _ _ (by intro h; injection h with h1 h2; omega), World.cell?_setCell_other _ _ _ _ (by intro h; injection h with h1 h2; omega)]; exact c1
  have bW3 : Below w.heap.size w W3 := by
    rw [← hW3]
    exact (bW2.setCell (by show w.heap.size ≤ w.heap.size + 1 + 1; omega) _).setCell (by show w.heap.size ≤ w.heap.size + 1 + 1; omega) _
  obtain ⟨y0, _⟩ := R3 0 (by decide)
  obtain ⟨y1, _⟩ := R3 1 (by decide)
  obtain ⟨y2, _⟩ := R3 2 (by decide)
  obtain ⟨y3, _⟩ := R3 3 (by decide)
  obtain ⟨y4, _⟩ := R3 4 (by decide)
  obtain ⟨z0, g0⟩ := R4 0 (by decide)
  obtain ⟨z1, g1⟩ := R4 1 (by decide)
  obtain ⟨z2, g2⟩ := R4 2 (by decide)
  obtain ⟨z3, g3⟩ := R4 3 (by decide)
  obtain ⟨z4, g4⟩ := R4 4 (by decide)
  clear rX rY R3 R4 c1 bW2 hX
  have zl : w.heap.size + 1 < W3.heap.size := block_lt_of_cell z0
  have b5 : ∀ (V : World), Below w.heap.size w V → ∀ v0 v1 v2 v3 v4, Below w.heap.size w (((((V.setCell ⟨w.heap.size + 1, 0, none⟩ v0).setCell ⟨w.heap.size + 1, 1, none⟩ v1).setCell ⟨w.heap.size + 1, 2, none⟩ v2).setCell ⟨w.heap.size + 1, 3, none⟩ v3).setCell ⟨w.heap.size + 1, 4, none⟩ v4) := fun V hV v0 v1 v2 v3 v4 =>
    ((((hV.setCell (by show w.heap.size ≤ w.heap.size + 1; omega) v0).setCell (by show w.heap.size ≤ w.heap.size + 1; omega) v1).setCell (by show w.heap.size ≤ w.heap.size + 1; omega) v2).setCell (by show w.heap.size ≤ w.heap.size + 1; omega) v3).setCell (by show w.heap.size ≤ w.heap.size + 1; omega) v4
  have B5 := hide b5
  clear b5
  rcases ho with ⟨rfl, rfl⟩ | ⟨rfl, hM⟩
  · go_wp2_with fail
    exact bodyPost_ret (v := .agg #[.int .u64 (out 0), .int .u64 (out 1), .int .u64 (out 2), .int .u64 (out 3), .int .u64 (out 4)]) (by simp [results, Tryd.results26, go_sem, *]) rfl ⟨rfl, B5.out _ bW3 _ _ _ _ _⟩
  · have HM := hide hM
    clear hM
    go_wp2_with fail
    refine (HM.out _).mono ?_; rintro e' w5 ⟨rfl, b6⟩
    have bW5 : Below w.heap.size w w5 := bW3.trans (b6.mono bW3.size)
    refine FlV.keep_then b6 (w.heap.size + 1) zl ?_; intro a1 a2 a3 a4 a5 a6
    rw [← a1] at z0 z1 z2 z3 z4
    rw [← a2] at g0 g1 g2 g3 g4
    clear a1 a2 a3 a4 a5 a6
    go_wp2_with fail
    exact bodyPost_ret (v := .agg #[.int .u64 (out 0), .int .u64 (out 1), .int .u64 (out 2), .int .u64 (out 3), .int .u64 (out 4)]) (by simp [results, Tryd.results26, go_sem, *]) rfl ⟨rfl, B5.out _ bW5 _ _ _ _ _⟩
end Wid
end Go.Proofs.YtmghmcnihiepiaaDoor
