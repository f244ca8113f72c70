/- Convolutions: the sizes out of two tensors, and whether they can be; the program's side. -/
import Derived.Test.YtgcialbchmbgkaaZb
namespace Go.Proofs.Ytgcialbchmbgkaa
namespace Vo
open Go.ChangeShapes Go.WideShapes Go.ChangeAt Go.RowKit Go.Joins Go.Sort
open Vl Vp Vr
set_option linter.unusedVariables false
set_option linter.unusedSimpArgs false
/-- the twelve numbers -/
def zf (X W : Nat → Int) (st pd dl gr : Int) (i : Nat) : Int := if i < 4 then X i else if i < 8 then W (i - 4) else if i = 8 then st else if i = 9 then pd else if i = 10 then dl else gr
theorem cells12 (w : World) (z : Nat → Int) (t : TypeId) : ∀ i, i < 12 → (w.alloc (.cells #[.int .i64 (z 0), .int .i64 (z 1), .int .i64 (z 2), .int .i64 (z 3), .int .i64 (z 4), .int .i64 (z 5), .int .i64 (z 6), .int .i64 (z 7), .int .i64 (z 8), .int .i64 (z 9), .int .i64 (z 10), .int .i64 (z 11)] t)).cell? ⟨w.heap.size, i, none⟩ = some (.int .i64 (z i)) := by
  intro i hi
  have : i = 0 ∨ i = 1 ∨ i = 2 ∨ i = 3 ∨ i = 4 ∨ i = 5 ∨ i = 6 ∨ i = 7 ∨ i = 8 ∨ i = 9 ∨ i = 10 ∨ i = 11 := by omega
  rcases this with rfl | rfl | rfl | rfl | rfl | rfl | rfl | rfl | rfl | rfl | rfl | rfl <;> simp [go_sem]
set_option maxRecDepth 100000 in
set_option maxHeartbeats 4000000 in
theorem sizesF (B : Nat) (x k : TV) (X W : Nat → Int) (st pd dl gr : Int) (w : World) (hB : B ≤ w.heap.size) (hx : x.read B w) (hk : k.read B w) (x4 : x.r = 4) (k4 : k.r = 4) (eX : x.D = X) (eW : k.D = W) :
    Calls Try.prog 39 #[.agg #[.slice x.a x.r x.cap, .slice x.b x.s x.dap], .agg #[.slice k.a k.r k.cap, .slice k.b k.s k.dap], .int .i64 st, .int .i64 pd, .int .i64 dl, .int .i64 gr] w fun e w' => e = .returned (.agg #[.int .i64 (X 0), .int .i64 (X 1), .int .i64 (X 2), .int .i64 (X 3), .int .i64 (W 0), .int .i64 (W 1), .int .i64 (W 2), .int .i64 (W 3), .int .i64 (st), .int .i64 (pd), .int .i64 (dl), .int .i64 (gr)]) ∧ Below w.heap.size w w' := by
  rw [x4, k4]
  rcases hx.1 with h0 | ⟨bx, ox, ex, gx, hcx⟩
  · omega
  rcases hk.1 with h0 | ⟨bk, ok', ek, gk, hck⟩
  · omega
  rw [x4, eX] at hcx
  rw [k4, eW] at hck
  rw [ex, ek]
  obtain ⟨W0, hW0⟩ : ∃ W0, ((w.alloc (.cells #[.slice (some ⟨bx, ox, none⟩) 4 x.cap, .slice x.b x.s x.dap] 26)).alloc (.cells #[.slice (some ⟨bk, ok', none⟩) 4 k.cap, .slice k.b k.s k.dap] 26)).alloc (.cells #[.int .i64 0, .int .i64 0, .int .i64 0, .int .i64 0, .int .i64 0, .int .i64 0, .int .i64 0, .int .i64 0, .int .i64 0, .int .i64 0, .int .i64 0, .int .i64 0] 58) = W0 := ⟨_, rfl⟩
  have bl : Below w.heap.size w W0 := by rw [← hW0]; exact (((Below.refl _ _).alloc (Nat.le_refl _) _).alloc (by simp) _).alloc (by simp; omega) _
  have n0 : Bx W0 w.heap.size (.slice (some ⟨bx, ox, none⟩) 4 x.cap) (.slice x.b x.s x.dap) := by rw [← hW0]; exact ⟨by simp [go_sem], by simp [go_sem]⟩
  have n1 : Bx W0 (w.heap.size + 1) (.slice (some ⟨bk, ok', none⟩) 4 k.cap) (.slice k.b k.s k.dap) := by rw [← hW0]; exact ⟨by simp [go_sem], by simp [go_sem]⟩
  have cz : ∀ i, i < 12 → W0.cell? ⟨w.heap.size + 1 + 1, i, none⟩ = some (.int .i64 0) := by
    rw [← hW0]
    have := cells12 ((w.alloc (.cells #[.slice (some ⟨bx, ox, none⟩) 4 x.cap, .slice x.b x.s x.dap] 26)).alloc (.cells #[.slice (some ⟨bk, ok', none⟩) 4 k.cap, .slice k.b k.s k.dap] 26)) (fun _ => 0) 58
    rw [World.size_alloc, World.size_alloc] at this
    exact this
  have fz : Free W0 (w.heap.size + 1 + 1) := by rw [← hW0]; intro i; simp [go_sem]
  have sz0 : w.heap.size + 1 + 1 < W0.heap.size := by rw [← hW0]; simp
  have cx : ∀ j, j < 4 → W0.cell? ⟨bx, ox + j, none⟩ = some (.int .i64 (X j)) := fun j hj => (bl.cell (p := ⟨bx, ox + j, none⟩) (by show bx < w.heap.size; omega)).trans (hcx j hj).1
  have ck : ∀ j, j < 4 → W0.cell? ⟨bk, ok' + j, none⟩ = some (.int .i64 (W j)) := fun j hj => (bl.cell (p := ⟨bk, ok' + j, none⟩) (by show bk < w.heap.size; omega)).trans (hck j hj).1
  have x0 := cx 0 (by decide)
  have x1 := cx 1 (by decide)
  have x2 := cx 2 (by decide)
  have x3 := cx 3 (by decide)
  have k0 := ck 0 (by decide)
  have k1 := ck 1 (by decide)
  have k2 := ck 2 (by decide)
  have k3 := ck 3 (by decide)
  rw [Nat.add_zero] at x0 k0
  obtain ⟨y0, y1⟩ := n0
  obtain ⟨y2, y3⟩ := n1
  have BL := hide bl
  have CZ := hide cz
  have FZ := hide fz
  have gg := fz
  unfold Free at gg
  clear hcx hck cx ck bl fz hx hk
  go_enter Try.func39, Try.ntmps39
  go_wp2_with fail
  clear hW0
  refine Qt.region_tail_lit 37 (by kernel_rfl) (by kernel_rfl) ?_
  simp only [List.take_succ_cons, List.take_zero, List.drop_succ_cons, List.drop_zero]
  repeat (go_big_quiet_step (fail))
  refine wpQuiet_nil ?_
  intro _ hw'
  obtain ⟨nq, hw''⟩ := hw'
  subst hw''
  have bz := below_drewN (Below.refl W0.heap.size W0) nq
  have cz' : ∀ i, i < 12 → (W0.drewN nq).cell? ⟨w.heap.size + 1 + 1, i, none⟩ = some (.int .i64 0) := fun i hi => (bz.cell (p := ⟨w.heap.size + 1 + 1, i, none⟩) sz0).trans (CZ.out i hi)
  have gg' := (FZ.out.below bz sz0)
  unfold Free at gg'
  have BZ := hide (BL.out.trans (bz.mono BL.out.size))
  clear cz gg x0 x1 x2 x3 k0 k1 k2 k3 y0 y1 y2 y3
  generalize W0.drewN nq = Y at cz' gg' BZ ⊢
  go_wp2_with fail
  refine bodyPost_ret (v := .agg #[.int .i64 (X 0), .int .i64 (X 1), .int .i64 (X 2), .int .i64 (X 3), .int .i64 (W 0), .int .i64 (W 1), .int .i64 (W 2), .int .i64 (W 3), .int .i64 (st), .int .i64 (pd), .int .i64 (dl), .int .i64 (gr)]) (by simp [results, Try.results39, go_sem, cz']) rfl ⟨rfl, ?_⟩
  repeat (refine Below.setCell ?_ (by show w.heap.size ≤ w.heap.size + 1 + 1; omega) _)
  exact BZ.out
end Vo
end Go.Proofs.Ytgcialbchmbgkaa
