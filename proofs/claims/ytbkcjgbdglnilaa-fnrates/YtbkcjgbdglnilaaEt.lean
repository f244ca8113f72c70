/- Schedules with a time that a law draws. -/
import Derived.Test.YtbkcjgbdglnilaaEs
namespace Go.Proofs.Ytbkcjgbdglnilaa
namespace Vo
open Go.ChangeShapes Go.WideShapes Go.ChangeAt Go.RowKit Go.Joins Go.Sort
open Vl
set_option linter.unusedVariables false
set_option linter.unusedSimpArgs false
/-- a schedule and a time were drawn -/
def RTE (w : World) (e : Ending) (w' : World) : Prop :=
  ∃ x0 x1 x2 x3 t : Int, e = .returned (.tuple #[.agg #[.int .i64 x0, .int .i64 x1, .int .i64 x2, .int .i64 x3], .int .i64 t]) ∧ bd x0 ∧ bd x1 ∧ bd x2 ∧ bd x3 ∧ bd t ∧ Below w.heap.size w w'
set_option maxHeartbeats 2000000 in
theorem drawRate (a : Option Addr) (len cap : Nat) (w : World) (hc : Base.Code w.heap.size w a len) (hlen : len ≤ 1048576) :
    Calls Try.prog 6 #[.slice a len cap] w (RTE w) := by
  obtain ⟨W0, hW0⟩ : ∃ W0, w.alloc (.cells #[.int .i64 0, .int .i64 0, .int .i64 0, .int .i64 0] 25) = W0 := ⟨_, rfl⟩
  have B0 := Base.hide (show Below w.heap.size w W0 from hW0 ▸ (Below.refl _ _).alloc (Nat.le_refl _) _)
  have R0 := Base.hide (show (∀ i, i < 4 → W0.cell? ⟨w.heap.size, i, none⟩ = some (.int .i64 0)) ∧ (∀ i, W0.frozen? ⟨w.heap.size, i, none⟩ = false) from hW0 ▸ ⟨fun i hi => by rcases (by omega : i = 0 ∨ i = 1 ∨ i = 2 ∨ i = 3) with rfl | rfl | rfl | rfl <;> simp [go_sem], fun i => by simp [go_sem]⟩)
  have Z0 := Base.hide (show W0.heap.size = w.heap.size + 1 by rw [← hW0]; simp)
  have HC := Base.hide ((hc.below B0.out).mono B0.out.size)
  clear hc
  go_enter Try.func6, Try.ntmps6
  go_wp2_with fail
  refine (Base.l1New a len cap _ HC.out hlen).mono ?_; rintro e w1 ⟨rfl, d1, n1⟩
  have BR := Base.hide n1
  have D1 := Base.hide d1
  have S1 := Base.hide d1.lt
  clear d1 n1 hW0
  go_wp2_with fail
  refine (drawSched W0.heap.size W0.heap.size a len cap _ D1.out (Nat.le_of_lt S1.out)).mono ?_; rintro e w2 ⟨x0, x1, x2, x3, rfl, b0, b1, b2, b3, d2, g2⟩
  replace BR := Base.hide (BR.out.trans (D1.out.below g2))
  have s2 := d2.lt
  have D2 := Base.hide d2
  clear d2 g2 D1 S1
  go_wp2_with fail
  obtain ⟨W3, hW3⟩ : ∃ W3, w2.alloc (.cells #[.int .i64 x0, .int .i64 x1, .int .i64 x2, .int .i64 x3] 25) = W3 := ⟨_, rfl⟩
  rw [hW3]
  have KV := Base.hide (show W3.cell? ⟨w2.heap.size, 0, none⟩ = some (.int .i64 x0) ∧ W3.cell? ⟨w2.heap.size, 1, none⟩ = some (.int .i64 x1) ∧ W3.cell? ⟨w2.heap.size, 2, none⟩ = some (.int .i64 x2) ∧ W3.cell? ⟨w2.heap.size, 3, none⟩ = some (.int .i64 x3) from hW3 ▸ ⟨by simp [go_sem], by simp [go_sem], by simp [go_sem], by simp [go_sem]⟩)
  have VX := Base.hide (show w2.heap.size < W3.heap.size by rw [← hW3]; simp)
  have PV := Base.hide s2
  have DC := Base.hide (hW3 ▸ D2.out.alloc _ : Base.Cur W0.heap.size W3 W0.heap.size a len cap)
  replace BR := Base.hide (BR.out.trans (show Below W0.heap.size w2 W3 from hW3 ▸ (Below.refl _ _).alloc (Nat.le_of_lt s2) _))
  clear s2 D2 hW3
  obtain ⟨V, hV⟩ : ∃ V, w2.heap.size = V := ⟨_, rfl⟩
  rw [hV] at KV VX PV ⊢
  clear hV
  refine (Base.l1Below _ _ a len cap 20 _ DC.out (by decide) (by decide)).mono ?_; rintro e w4 ⟨t, t0, t1, rfl, d4, g4⟩
  have nv : ¬ V = W0.heap.size := by have := PV.out; omega
  replace KV := Base.hide (show w4.cell? ⟨V, 0, none⟩ = some (.int .i64 x0) ∧ w4.cell? ⟨V, 1, none⟩ = some (.int .i64 x1) ∧ w4.cell? ⟨V, 2, none⟩ = some (.int .i64 x2) ∧ w4.cell? ⟨V, 3, none⟩ = some (.int .i64 x3) from ⟨(grown_keep g4 VX.out nv).1.trans KV.out.1, (grown_keep g4 VX.out nv).1.trans KV.out.2.1, (grown_keep g4 VX.out nv).1.trans KV.out.2.2.1, (grown_keep g4 VX.out nv).1.trans KV.out.2.2.2⟩)
  replace VX := Base.hide (Nat.lt_of_lt_of_le VX.out g4.size)
  replace BR := Base.hide (BR.out.trans (DC.out.below g4))
  replace DC := Base.hide d4
  clear d4 g4 nv
  go_wp2_with fail
  refine (Nef.l1Once _ _ a len cap 20 _ DC.out (by decide) (by decide)).mono ?_; rintro e w5 ⟨bb, rfl, d5, g5⟩
  have nv : ¬ V = W0.heap.size := by have := PV.out; omega
  replace KV := Base.hide (show w5.cell? ⟨V, 0, none⟩ = some (.int .i64 x0) ∧ w5.cell? ⟨V, 1, none⟩ = some (.int .i64 x1) ∧ w5.cell? ⟨V, 2, none⟩ = some (.int .i64 x2) ∧ w5.cell? ⟨V, 3, none⟩ = some (.int .i64 x3) from ⟨(grown_keep g5 VX.out nv).1.trans KV.out.1, (grown_keep g5 VX.out nv).1.trans KV.out.2.1, (grown_keep g5 VX.out nv).1.trans KV.out.2.2.1, (grown_keep g5 VX.out nv).1.trans KV.out.2.2.2⟩)
  replace VX := Base.hide (Nat.lt_of_lt_of_le VX.out g5.size)
  replace BR := Base.hide (BR.out.trans (DC.out.below g5))
  replace DC := Base.hide d5
  clear d5 g5 nv
  cases bb
  · obtain ⟨o0, o1, o2, o3⟩ := KV.out
    have ZR := Base.hide (show ∀ i, i < 4 → w5.cell? ⟨w.heap.size, i, none⟩ = some (.int .i64 0) from fun i hi => (BR.out.cell (p := ⟨w.heap.size, i, none⟩) (by have := Z0.out; show w.heap.size < _; omega)).trans (R0.out.1 i hi))
    have FR := Base.hide (show ∀ i, w5.frozen? ⟨w.heap.size, i, none⟩ = false from fun i => (BR.out.frozen (p := ⟨w.heap.size, i, none⟩) (by have := Z0.out; show w.heap.size < _; omega)).trans (R0.out.2 i))
    have BB := Base.hide (show Below w.heap.size w w5 from B0.out.trans (BR.out.mono B0.out.size))
    obtain ⟨Y0, hY0⟩ : ∃ Y0, w5.setCell ⟨w.heap.size, 0, none⟩ (.int .i64 x0) = Y0 := ⟨_, rfl⟩
    have eY0 : w5.cell? ⟨w.heap.size, 0, none⟩ = some (.int .i64 0) := by exact ZR.out 0 (by omega)
    have gY0 : w5.frozen? ⟨w.heap.size, 0, none⟩ = false := by exact FR.out 0
    have BY0 := Base.hide (show Below w.heap.size w Y0 from hY0 ▸ BB.out.setCell (Nat.le_refl _) _)
    obtain ⟨Y1, hY1⟩ : ∃ Y1, Y0.setCell ⟨w.heap.size, 1, none⟩ (.int .i64 x1) = Y1 := ⟨_, rfl⟩
    have eY1 : Y0.cell? ⟨w.heap.size, 1, none⟩ = some (.int .i64 0) := by rw [← hY0, World.cell?_setCell_other _ _ _ _ (by intro e; injection e with _ e; omega)]; exact ZR.out 1 (by omega)
    have gY1 : Y0.frozen? ⟨w.heap.size, 1, none⟩ = false := by rw [← hY0, World.frozen?_setCell]; exact FR.out 1
    have BY1 := Base.hide (show Below w.heap.size w Y1 from hY1 ▸ BY0.out.setCell (Nat.le_refl _) _)
    obtain ⟨Y2, hY2⟩ : ∃ Y2, Y1.setCell ⟨w.heap.size, 2, none⟩ (.int .i64 x2) = Y2 := ⟨_, rfl⟩
    have eY2 : Y1.cell? ⟨w.heap.size, 2, none⟩ = some (.int .i64 0) := by rw [← hY1, World.cell?_setCell_other _ _ _ _ (by intro e; injection e with _ e; omega)]; rw [← hY0, World.cell?_setCell_other _ _ _ _ (by intro e; injection e with _ e; omega)]; exact ZR.out 2 (by omega)
    have gY2 : Y1.frozen? ⟨w.heap.size, 2, none⟩ = false := by rw [← hY1, World.frozen?_setCell]; rw [← hY0, World.frozen?_setCell]; exact FR.out 2
    have BY2 := Base.hide (show Below w.heap.size w Y2 from hY2 ▸ BY1.out.setCell (Nat.le_refl _) _)
    obtain ⟨Y3, hY3⟩ : ∃ Y3, Y2.setCell ⟨w.heap.size, 3, none⟩ (.int .i64 x3) = Y3 := ⟨_, rfl⟩
    have eY3 : Y2.cell? ⟨w.heap.size, 3, none⟩ = some (.int .i64 0) := by rw [← hY2, World.cell?_setCell_other _ _ _ _ (by intro e; injection e with _ e; omega)]; rw [← hY1, World.cell?_setCell_other _ _ _ _ (by intro e; injection e with _ e; omega)]; rw [← hY0, World.cell?_setCell_other _ _ _ _ (by intro e; injection e with _ e; omega)]; exact ZR.out 3 (by omega)
    have gY3 : Y2.frozen? ⟨w.heap.size, 3, none⟩ = false := by rw [← hY2, World.frozen?_setCell]; rw [← hY1, World.frozen?_setCell]; rw [← hY0, World.frozen?_setCell]; exact FR.out 3
    have BY3 := Base.hide (show Below w.heap.size w Y3 from hY3 ▸ BY2.out.setCell (Nat.le_refl _) _)
    have r0 : Y3.cell? ⟨w.heap.size, 0, none⟩ = some (.int .i64 x0) := by rw [← hY3, World.cell?_setCell_other _ _ _ _ (by intro e; injection e with _ e; omega)]; rw [← hY2, World.cell?_setCell_other _ _ _ _ (by intro e; injection e with _ e; omega)]; rw [← hY1, World.cell?_setCell_other _ _ _ _ (by intro e; injection e with _ e; omega)]; rw [← hY0]; exact World.cell?_setCell_same _ _ _ eY0
    have r1 : Y3.cell? ⟨w.heap.size, 1, none⟩ = some (.int .i64 x1) := by rw [← hY3, World.cell?_setCell_other _ _ _ _ (by intro e; injection e with _ e; omega)]; rw [← hY2, World.cell?_setCell_other _ _ _ _ (by intro e; injection e with _ e; omega)]; rw [← hY1]; exact World.cell?_setCell_same _ _ _ eY1
    have r2 : Y3.cell? ⟨w.heap.size, 2, none⟩ = some (.int .i64 x2) := by rw [← hY3, World.cell?_setCell_other _ _ _ _ (by intro e; injection e with _ e; omega)]; rw [← hY2]; exact World.cell?_setCell_same _ _ _ eY2
    have r3 : Y3.cell? ⟨w.heap.size, 3, none⟩ = some (.int .i64 x3) := by rw [← hY3]; exact World.cell?_setCell_same _ _ _ eY3
    go_wp2_with fail
    exact bodyPost_ret (v := .tuple #[.agg #[.int .i64 x0, .int .i64 x1, .int .i64 x2, .int .i64 x3], .int .i64 t]) (by simp [results, Try.results6, go_sem, r0, r1, r2, r3]) rfl ⟨_, _, _, _, _, rfl, b0, b1, b2, b3, ⟨by omega, by omega⟩, BY3.out⟩
  · have hl := Base.laid_ints w5 [-1, 10000000, 10000001, 999999] 3 (-9223372036854775808) 9223372036854775807 (by intro q hq; simp at hq; omega)
    have vp := DC.out.lt
    have DA := Base.hide (DC.out.alloc (.cells (([-1, 10000000, 10000001, 999999] : List Int).map (Value.int .i64)).toArray 3))
    have GA := Base.hide (Lib.grownBy_allocR (Base.grown_refl w5 W0.heap.size) (.cells (([-1, 10000000, 10000001, 999999] : List Int).map (Value.int .i64)).toArray 3))
    go_wp2_with fail
    refine (Base.l1PickInt _ _ a len cap w5.heap.size 4 (-9223372036854775808) 9223372036854775807 _ DA.out (by omega) (by omega) (by omega) hl).mono ?_; rintro e w6 ⟨k, k0, k1, rfl, d6, g6⟩
    have g7 := GA.out.trans g6
    clear g6 hl vp DA GA
    have nv : ¬ V = W0.heap.size := by have := PV.out; omega
    replace KV := Base.hide (show w6.cell? ⟨V, 0, none⟩ = some (.int .i64 x0) ∧ w6.cell? ⟨V, 1, none⟩ = some (.int .i64 x1) ∧ w6.cell? ⟨V, 2, none⟩ = some (.int .i64 x2) ∧ w6.cell? ⟨V, 3, none⟩ = some (.int .i64 x3) from ⟨(grown_keep g7 VX.out nv).1.trans KV.out.1, (grown_keep g7 VX.out nv).1.trans KV.out.2.1, (grown_keep g7 VX.out nv).1.trans KV.out.2.2.1, (grown_keep g7 VX.out nv).1.trans KV.out.2.2.2⟩)
    replace VX := Base.hide (Nat.lt_of_lt_of_le VX.out g7.size)
    replace BR := Base.hide (BR.out.trans (DC.out.below g7))
    replace DC := Base.hide d6
    clear d6 g7 nv
    obtain ⟨o0, o1, o2, o3⟩ := KV.out
    have ZR := Base.hide (show ∀ i, i < 4 → w6.cell? ⟨w.heap.size, i, none⟩ = some (.int .i64 0) from fun i hi => (BR.out.cell (p := ⟨w.heap.size, i, none⟩) (by have := Z0.out; show w.heap.size < _; omega)).trans (R0.out.1 i hi))
    have FR := Base.hide (show ∀ i, w6.frozen? ⟨w.heap.size, i, none⟩ = false from fun i => (BR.out.frozen (p := ⟨w.heap.size, i, none⟩) (by have := Z0.out; show w.heap.size < _; omega)).trans (R0.out.2 i))
    have BB := Base.hide (show Below w.heap.size w w6 from B0.out.trans (BR.out.mono B0.out.size))
    obtain ⟨Y0, hY0⟩ : ∃ Y0, w6.setCell ⟨w.heap.size, 0, none⟩ (.int .i64 x0) = Y0 := ⟨_, rfl⟩
    have eY0 : w6.cell? ⟨w.heap.size, 0, none⟩ = some (.int .i64 0) := by exact ZR.out 0 (by omega)
    have gY0 : w6.frozen? ⟨w.heap.size, 0, none⟩ = false := by exact FR.out 0
    have BY0 := Base.hide (show Below w.heap.size w Y0 from hY0 ▸ BB.out.setCell (Nat.le_refl _) _)
    obtain ⟨Y1, hY1⟩ : ∃ Y1, Y0.setCell ⟨w.heap.size, 1, none⟩ (.int .i64 x1) = Y1 := ⟨_, rfl⟩
    have eY1 : Y0.cell? ⟨w.heap.size, 1, none⟩ = some (.int .i64 0) := by rw [← hY0, World.cell?_setCell_other _ _ _ _ (by intro e; injection e with _ e; omega)]; exact ZR.out 1 (by omega)
    have gY1 : Y0.frozen? ⟨w.heap.size, 1, none⟩ = false := by rw [← hY0, World.frozen?_setCell]; exact FR.out 1
    have BY1 := Base.hide (show Below w.heap.size w Y1 from hY1 ▸ BY0.out.setCell (Nat.le_refl _) _)
    obtain ⟨Y2, hY2⟩ : ∃ Y2, Y1.setCell ⟨w.heap.size, 2, none⟩ (.int .i64 x2) = Y2 := ⟨_, rfl⟩
    have eY2 : Y1.cell? ⟨w.heap.size, 2, none⟩ = some (.int .i64 0) := by rw [← hY1, World.cell?_setCell_other _ _ _ _ (by intro e; injection e with _ e; omega)]; rw [← hY0, World.cell?_setCell_other _ _ _ _ (by intro e; injection e with _ e; omega)]; exact ZR.out 2 (by omega)
    have gY2 : Y1.frozen? ⟨w.heap.size, 2, none⟩ = false := by rw [← hY1, World.frozen?_setCell]; rw [← hY0, World.frozen?_setCell]; exact FR.out 2
    have BY2 := Base.hide (show Below w.heap.size w Y2 from hY2 ▸ BY1.out.setCell (Nat.le_refl _) _)
    obtain ⟨Y3, hY3⟩ : ∃ Y3, Y2.setCell ⟨w.heap.size, 3, none⟩ (.int .i64 x3) = Y3 := ⟨_, rfl⟩
    have eY3 : Y2.cell? ⟨w.heap.size, 3, none⟩ = some (.int .i64 0) := by rw [← hY2, World.cell?_setCell_other _ _ _ _ (by intro e; injection e with _ e; omega)]; rw [← hY1, World.cell?_setCell_other _ _ _ _ (by intro e; injection e with _ e; omega)]; rw [← hY0, World.cell?_setCell_other _ _ _ _ (by intro e; injection e with _ e; omega)]; exact ZR.out 3 (by omega)
    have gY3 : Y2.frozen? ⟨w.heap.size, 3, none⟩ = false := by rw [← hY2, World.frozen?_setCell]; rw [← hY1, World.frozen?_setCell]; rw [← hY0, World.frozen?_setCell]; exact FR.out 3
    have BY3 := Base.hide (show Below w.heap.size w Y3 from hY3 ▸ BY2.out.setCell (Nat.le_refl _) _)
    have r0 : Y3.cell? ⟨w.heap.size, 0, none⟩ = some (.int .i64 x0) := by rw [← hY3, World.cell?_setCell_other _ _ _ _ (by intro e; injection e with _ e; omega)]; rw [← hY2, World.cell?_setCell_other _ _ _ _ (by intro e; injection e with _ e; omega)]; rw [← hY1, World.cell?_setCell_other _ _ _ _ (by intro e; injection e with _ e; omega)]; rw [← hY0]; exact World.cell?_setCell_same _ _ _ eY0
    have r1 : Y3.cell? ⟨w.heap.size, 1, none⟩ = some (.int .i64 x1) := by rw [← hY3, World.cell?_setCell_other _ _ _ _ (by intro e; injection e with _ e; omega)]; rw [← hY2, World.cell?_setCell_other _ _ _ _ (by intro e; injection e with _ e; omega)]; rw [← hY1]; exact World.cell?_setCell_same _ _ _ eY1
    have r2 : Y3.cell? ⟨w.heap.size, 2, none⟩ = some (.int .i64 x2) := by rw [← hY3, World.cell?_setCell_other _ _ _ _ (by intro e; injection e with _ e; omega)]; rw [← hY2]; exact World.cell?_setCell_same _ _ _ eY2
    have r3 : Y3.cell? ⟨w.heap.size, 3, none⟩ = some (.int .i64 x3) := by rw [← hY3]; exact World.cell?_setCell_same _ _ _ eY3
    go_wp2_with fail
    exact bodyPost_ret (v := .tuple #[.agg #[.int .i64 x0, .int .i64 x1, .int .i64 x2, .int .i64 x3], .int .i64 k]) (by simp [results, Try.results6, go_sem, r0, r1, r2, r3]) rfl ⟨_, _, _, _, _, rfl, b0, b1, b2, b3, ⟨k0, k1⟩, BY3.out⟩
end Vo
end Go.Proofs.Ytbkcjgbdglnilaa
