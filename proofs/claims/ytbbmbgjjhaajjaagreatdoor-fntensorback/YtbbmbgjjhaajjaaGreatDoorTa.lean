/- Tensors in memory: two lists; what the laws make of them. -/
import Derived.Test.YtbbmbgjjhaajjaaGreatDoorVv
namespace Go.Proofs.YtbbmbgjjhaajjaaGreatDoor
namespace Vo
open Go.ChangeShapes Go.WideShapes Go.ChangeAt Go.RowKit Go.Joins
open Vl Vp
set_option linter.unusedVariables false
set_option linter.unusedSimpArgs false

/-- a tensor in a variable -/
def Bx (wx : World) (p : Nat) (v0 v1 : Value) : Prop := wx.cell? ⟨p, 0, none⟩ = some v0 ∧ wx.cell? ⟨p, 1, none⟩ = some v1
theorem bx_new (w : World) (v0 v1 : Value) (t : TypeId) : Bx (w.alloc (.cells #[v0, v1] t)) w.heap.size v0 v1 := by
  unfold Bx
  simp [go_sem]
theorem Bx.below {B : Nat} {w w' : World} {p : Nat} {v0 v1 : Value} (h : Bx w p v0 v1) (hb : Below B w w') (hp : p < B) : Bx w' p v0 v1 := by
  unfold Bx at *
  rw [hb.cell (p := ⟨p, 0, none⟩) hp, hb.cell (p := ⟨p, 1, none⟩) hp]
  exact h
theorem Bx.kept {T : Nat → Prop} {w w' : World} {p : Nat} {v0 v1 : Value} (h : Bx w p v0 v1) (hb : Kept T w w') (hp : p < w.heap.size) (hn : ¬ T p) : Bx w' p v0 v1 := by
  unfold Bx at *
  have e := hb.block p hp hn
  rw [World.cell?_of_block (w := w) (a := ⟨p, 0, none⟩) e, World.cell?_of_block (w := w) (a := ⟨p, 1, none⟩) e]
  exact h
set_option maxHeartbeats 1000000 in
theorem eqTensor (B : Nat) (a b a' b' : Option Addr) (r s cap dap cap' dap' : Nat) (D S D' S' : Nat → Int) (w : World) (hB : B ≤ w.heap.size) (h1 : Ints B w a r D) (h2 : Ints B w b s S) (h3 : Ints B w a' r D') (h4 : Ints B w b' s S')
    (e1 : ∀ j, j < r → D j = D' j) (e2 : ∀ j, j < s → S j = S' j) (hr : (r : Int) ≤ 1048576) (hs : (s : Int) ≤ 1048576) :
    Calls Tryz.prog 7 #[.agg #[.slice a r cap, .slice b s dap], .agg #[.slice a' r cap', .slice b' s dap']] w fun e w' => e = .returned (.bool true) ∧ Below w.heap.size w w' := by
  have B0 := hide (show Below w.heap.size w ((w.alloc (.cells #[.slice a r cap, .slice b s dap] 24)).alloc (.cells #[.slice a' r cap', .slice b' s dap'] 24)) from ((Below.refl _ _).alloc (Nat.le_refl _) _).alloc (by simp) _)
  have H1 := hide (h1.below (B0.out.mono hB))
  have H3 := hide (h3.below (B0.out.mono hB))
  have H2 := hide h2
  have H4 := hide h4
  have E1 := hide e1
  have E2 := hide e2
  clear h1 h2 h3 h4 e1 e2
  go_enter Tryz.func7, Tryz.ntmps7
  go_wp2_with fail
  refine (eqIntS B a a' r cap cap' D D' _ H1.out H3.out E1.out hr).mono ?_
  rintro e w1 ⟨rfl, b1⟩
  have hc1 := old_cells b1
  have c10 := fun i => hc1 w.heap.size i (by simp; omega)
  have c11 := fun i => hc1 (w.heap.size + 1) i (by simp)
  have B1 := hide (B0.out.trans (b1.mono (by simp; omega)))
  have z1 : w.heap.size + 1 < w1.heap.size := by have := b1.size; simp at this; omega
  clear hc1 b1
  go_wp2_with fail
  refine (eqIntS B b b' s dap dap' S S' _ (H2.out.below (B1.out.mono hB)) (H4.out.below (B1.out.mono hB)) E2.out hs).mono ?_
  rintro e w2 ⟨rfl, b2⟩
  have hz := B1.out.size
  have hc2 := old_cells b2
  have c20 := fun i => hc2 w.heap.size i (by omega)
  have c21 := fun i => hc2 (w.heap.size + 1) i (by omega)
  have B2 := hide (B1.out.trans (b2.mono B1.out.size))
  clear hc2 b2
  go_wp2_with fail
  go_ret
  exact ⟨rfl, B2.out⟩
set_option maxHeartbeats 1000000 in
theorem markTensor (B : Nat) (a b : Option Addr) (r s cap dap : Nat) (D S : Nat → Int) (k : Int) (w : World) (h : VOwn B w a b r s D S) (hr : (r : Int) ≤ 1048576) (hs : (s : Int) ≤ 1048576) (k0 : 0 ≤ k) (k1 : k ≤ 1048576) :
    Calls Tryz.prog 8 #[.agg #[.slice a r cap, .slice b s dap], .int .i64 k] w fun e w' => e = .returned (.int .i64 (k + r + s)) ∧ VOwn B w' a b r s (fun j => k + j) (fun j => k + r + j) ∧ Kept (VBlk a b r s) w w' := by
  have B0 := hide (show Below w.heap.size w (w.alloc (.cells #[.slice a r cap, .slice b s dap] 24)) from (Below.refl _ _).alloc (Nat.le_refl _) _)
  have H := hide (h.below B0.out)
  have HB := hide (fun k (q : VBlk a b r s k) => h.blk q)
  clear h
  go_enter Tryz.func8, Tryz.ntmps8
  go_wp2_with fail
  refine (markIntS B a r cap D k _ H.out.d hr k0 (by omega)).mono ?_
  rintro e w1 ⟨rfl, q1, t1⟩
  have c10 : ∀ i, w1.cell? ⟨w.heap.size, i, none⟩ = (w.alloc (.cells #[.slice a r cap, .slice b s dap] 24)).cell? ⟨w.heap.size, i, none⟩ := fun i =>
    World.cell?_of_block (w := w.alloc _) (a := ⟨w.heap.size, i, none⟩) (t1.block w.heap.size (by simp) (fun q => by have := (HB.out _ (.inl q)).2; omega))
  have T1 := hide t1
  have Q1 := hide q1
  have Q2 := hide (H.out.t.kept t1 (fun k q q' => H.out.ne k q' q))
  clear t1 q1
  go_wp2_with fail
  refine (markIntS B b s dap S _ _ Q2.out hs (by omega) (by omega)).mono ?_
  rintro e w2 ⟨rfl, q2, t2⟩
  have T2 := hide t2
  have Q3 := hide q2
  have Q4 := hide (Q1.out.kept t2 (fun k q q' => H.out.ne k q q'))
  clear t2 q2
  go_wp2_with fail
  go_ret
  exact ⟨rfl, ⟨Q4.out, Q3.out, H.out.ne⟩, ((Kept.of_below B0.out).trans (T1.out.mono (fun k _ q => .inl q))).trans (T2.out.mono (fun k _ q => .inr q))⟩
set_option maxHeartbeats 1000000 in
theorem heldTensor (B : Nat) (a b : Option Addr) (r s cap dap : Nat) (k : Int) (w : World) (h : VOwn B w a b r s (fun j => k + j) (fun j => k + r + j)) (hr : (r : Int) ≤ 1048576) (hs : (s : Int) ≤ 1048576) (k0 : 0 ≤ k) (k1 : k ≤ 1048576) :
    Calls Tryz.prog 9 #[.agg #[.slice a r cap, .slice b s dap], .int .i64 k] w fun e w' => e = .returned (.int .i64 (k + r + s)) ∧ Below w.heap.size w w' := by
  have B0 := hide (show Below w.heap.size w (w.alloc (.cells #[.slice a r cap, .slice b s dap] 24)) from (Below.refl _ _).alloc (Nat.le_refl _) _)
  have H := hide (h.below B0.out)
  clear h
  have p1 : decide (k + r < 0) = false := by rw [decide_eq_false_iff_not]; omega
  have p2 : decide (k + r + s < 0) = false := by rw [decide_eq_false_iff_not]; omega
  go_enter Tryz.func9, Tryz.ntmps9
  go_wp2_with fail
  refine (heldIntS _ a r cap k _ H.out.d.ints hr k0 (by omega)).mono ?_
  rintro e w1 ⟨rfl, rfl⟩
  go_wp2_with fail
  refine (heldIntS _ b s dap (k + r) _ H.out.t.ints hs (by omega) (by omega)).mono ?_
  rintro e w1 ⟨rfl, rfl⟩
  go_wp2_with fail
  go_ret
  exact ⟨rfl, B0.out⟩
end Vo
end Go.Proofs.YtbbmbgjjhaajjaaGreatDoor
