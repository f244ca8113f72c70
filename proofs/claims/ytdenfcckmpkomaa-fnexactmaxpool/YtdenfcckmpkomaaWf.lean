/- Pools: MaxPool and SumPool of the model. -/
import Derived.Test.YtdenfcckmpkomaaWe
namespace Go.Proofs.Ytdenfcckmpkomaa
namespace Vo
open Go.ChangeShapes Go.WideShapes Go.ChangeAt Go.RowKit Go.Joins Go.Sort
open Vl Vp Vr
set_option linter.unusedVariables false
set_option linter.unusedSimpArgs false
set_option maxRecDepth 100000 in
set_option maxHeartbeats 1000000 in
theorem specMaxPool (B : Nat) (a : Addr) (b : Option Addr) (r s cap dap : Nat) (D S : Nat → Int) (z t : Int) (w : World) (hB : B ≤ w.heap.size) (h : Ints B w (some a) r D) (h' : Ints B w b s S) (hr : (r : Int) ≤ 1048576) (hs : (s : Int) ≤ 1048576) :
    Calls Try.prog 16 #[.agg #[.slice (some a) r cap, .slice b s dap], .int .i64 z, .int .i64 t] w fun e w' => TensR w.heap.size (poolP 5 r s D S z t) w e w' := by
  obtain ⟨W0, hW0⟩ : ∃ W0, (w.alloc (.cells #[.slice (some a) r cap, .slice b s dap] 26)).alloc (.cells #[.slice none 0 0, .slice none 0 0] 26) = W0 := ⟨_, rfl⟩
  have hs0 : W0.heap.size = w.heap.size + 1 + 1 := by rw [← hW0]; simp
  have bl : Below w.heap.size w W0 := by rw [← hW0]; exact ((Below.refl _ _).alloc (Nat.le_refl _) _).alloc (by simp) _
  have n0 : Bx W0 w.heap.size (.slice (some a) r cap) (.slice b s dap) := by rw [← hW0]; exact ⟨by simp [go_sem], by simp [go_sem]⟩
  have m0 : Bx W0 (w.heap.size + 1) (.slice none 0 0) (.slice none 0 0) := by rw [← hW0]; exact ⟨by simp [go_sem], by simp [go_sem]⟩
  have g0 : Free W0 (w.heap.size + 1) := by rw [← hW0]; intro i; simp [go_sem]
  have BL := hide bl
  have HS0 := hide hs0
  have M0 := hide m0
  have G0 := hide g0
  have P1 := hide (specPool 5 true (.inr ⟨rfl, rfl⟩) B a b r s cap dap D S z t W0 (by omega) (h.below (bl.mono hB)) (h'.below (bl.mono hB)) hr hs)
  obtain ⟨V, hV⟩ : ∃ V, poolP 5 r s D S z t = V := ⟨_, rfl⟩
  rw [hV] at P1 ⊢
  obtain ⟨x0, x1⟩ := n0
  clear h h' bl m0 g0 hs0 hV
  go_enter Try.func16, Try.ntmps16
  go_wp2_with fail
  clear hW0
  refine P1.out.mono ?_
  rintro e w2 ⟨va, vb, vc, vd, rfl, vz, b2⟩
  have VZ := hide vz
  have z0 := HS0.out
  have M2 := hide (M0.out.below b2 (by omega))
  have G2 := hide (G0.out.below b2 (by omega))
  have B2 := hide (BL.out.trans (b2.mono BL.out.size))
  clear vz b2 z0
  obtain ⟨y0, y1⟩ := M2.out
  have gg := G2.out
  unfold Free at gg
  go_wp2_with fail
  refine bodyPost_ret (v := .agg #[.slice va V.r vc, .slice vb V.s vd]) (by simp [results, Try.results16, go_sem, y0, y1]) rfl ?_
  exact tens_end VZ.out (P := w.heap.size + 1) (by have := HS0.out; omega) (by omega) B2.out
set_option maxRecDepth 100000 in
set_option maxHeartbeats 1000000 in
theorem specSumPool (B : Nat) (a : Addr) (b : Option Addr) (r s cap dap : Nat) (D S : Nat → Int) (z t : Int) (w : World) (hB : B ≤ w.heap.size) (h : Ints B w (some a) r D) (h' : Ints B w b s S) (hr : (r : Int) ≤ 1048576) (hs : (s : Int) ≤ 1048576) :
    Calls Try.prog 18 #[.agg #[.slice (some a) r cap, .slice b s dap], .int .i64 z, .int .i64 t] w fun e w' => TensR w.heap.size (poolP 1 r s D S z t) w e w' := by
  obtain ⟨W0, hW0⟩ : ∃ W0, (w.alloc (.cells #[.slice (some a) r cap, .slice b s dap] 26)).alloc (.cells #[.slice none 0 0, .slice none 0 0] 26) = W0 := ⟨_, rfl⟩
  have hs0 : W0.heap.size = w.heap.size + 1 + 1 := by rw [← hW0]; simp
  have bl : Below w.heap.size w W0 := by rw [← hW0]; exact ((Below.refl _ _).alloc (Nat.le_refl _) _).alloc (by simp) _
  have n0 : Bx W0 w.heap.size (.slice (some a) r cap) (.slice b s dap) := by rw [← hW0]; exact ⟨by simp [go_sem], by simp [go_sem]⟩
  have m0 : Bx W0 (w.heap.size + 1) (.slice none 0 0) (.slice none 0 0) := by rw [← hW0]; exact ⟨by simp [go_sem], by simp [go_sem]⟩
  have g0 : Free W0 (w.heap.size + 1) := by rw [← hW0]; intro i; simp [go_sem]
  have BL := hide bl
  have HS0 := hide hs0
  have M0 := hide m0
  have G0 := hide g0
  have P1 := hide (specPool 1 false (.inl ⟨rfl, rfl⟩) B a b r s cap dap D S z t W0 (by omega) (h.below (bl.mono hB)) (h'.below (bl.mono hB)) hr hs)
  obtain ⟨V, hV⟩ : ∃ V, poolP 1 r s D S z t = V := ⟨_, rfl⟩
  rw [hV] at P1 ⊢
  obtain ⟨x0, x1⟩ := n0
  clear h h' bl m0 g0 hs0 hV
  go_enter Try.func18, Try.ntmps18
  go_wp2_with fail
  clear hW0
  refine P1.out.mono ?_
  rintro e w2 ⟨va, vb, vc, vd, rfl, vz, b2⟩
  have VZ := hide vz
  have z0 := HS0.out
  have M2 := hide (M0.out.below b2 (by omega))
  have G2 := hide (G0.out.below b2 (by omega))
  have B2 := hide (BL.out.trans (b2.mono BL.out.size))
  clear vz b2 z0
  obtain ⟨y0, y1⟩ := M2.out
  have gg := G2.out
  unfold Free at gg
  go_wp2_with fail
  refine bodyPost_ret (v := .agg #[.slice va V.r vc, .slice vb V.s vd]) (by simp [results, Try.results18, go_sem, y0, y1]) rfl ?_
  exact tens_end VZ.out (P := w.heap.size + 1) (by have := HS0.out; omega) (by omega) B2.out
end Vo
end Go.Proofs.Ytdenfcckmpkomaa
