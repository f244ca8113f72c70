/- Normalise of the program. -/
import Derived.Test.YtkohmhelfdnfdaaTs
namespace Go.Proofs.Ytkohmhelfdnfdaa
namespace Vo
open Go.ChangeShapes Go.WideShapes Go.ChangeAt Go.RowKit Go.Joins Go.Sort
open Vl Vp Vr
set_option linter.unusedVariables false
set_option linter.unusedSimpArgs false
set_option maxRecDepth 100000 in
set_option maxHeartbeats 2000000 in
theorem normF (B : Nat) (a b : Option Addr) (r s cap dap : Nat) (D S : Nat → Int) (x low : Int) (w : World) (hB : B ≤ w.heap.size) (h : Ints B w a r D) (h' : Ints B w b s S) (hr : (r : Int) ≤ 1048576) (hs : (s : Int) ≤ 1048576) (hcap : r ≤ cap) (hlow : bd low) :
    Calls Try.prog 20 #[.agg #[.slice a r cap, .slice b s dap], .int .i64 x, .int .i64 low] w fun e w' => TensR w.heap.size (lineP r s D S x (lenA r s D S x) (nrmG (lenA r s D S x).toNat low)) w e w' := by
  obtain ⟨W0, hW0⟩ : ∃ W0, ((w.alloc (.cells #[.slice a r cap, .slice b s dap] 26)).alloc (.cells #[.int .i64 low] 3)).alloc (.cells #[.slice none 0 0, .slice none 0 0] 26) = W0 := ⟨_, rfl⟩
  have hs0 : W0.heap.size = w.heap.size + 1 + 1 + 1 := by rw [← hW0]; simp
  have bl : Below w.heap.size w W0 := by rw [← hW0]; exact (((Below.refl _ _).alloc (Nat.le_refl _) _).alloc (by simp) _).alloc (by simp; omega) _
  have n0 : Bx W0 w.heap.size (.slice a r cap) (.slice b s dap) := by
    rw [← hW0]; exact (bx_new w (.slice a r cap) (.slice b s dap) 26).below (((Below.refl (w.heap.size + 1) _).alloc (by simp) _).alloc (by simp) _) (by omega)
  have i0 : W0.cell? ⟨w.heap.size + 1, 0, none⟩ = some (.int .i64 low) := by rw [← hW0]; simp [go_sem]
  have m0 : Bx W0 (w.heap.size + 1 + 1) (.slice none 0 0) (.slice none 0 0) := by
    have q := bx_new ((w.alloc (.cells #[.slice a r cap, .slice b s dap] 26)).alloc (.cells #[.int .i64 low] 3)) (.slice none 0 0) (.slice none 0 0) 26
    rw [World.size_alloc, World.size_alloc] at q
    rw [← hW0]; exact q
  have g0 : Free W0 (w.heap.size + 1 + 1) := by
    have q := free_new ((w.alloc (.cells #[.slice a r cap, .slice b s dap] 26)).alloc (.cells #[.int .i64 low] 3)) #[.slice none 0 0, .slice none 0 0] 26
    rw [World.size_alloc, World.size_alloc] at q
    rw [← hW0]; exact q
  have H := hide (h.below (bl.mono hB))
  have H' := hide (h'.below (bl.mono hB))
  have BL := hide bl
  have HS0 := hide hs0
  have N0 := hide n0
  have I0 := hide i0
  have M0 := hide m0
  have G0 := hide g0
  have LA := hide (lenA_rng r s D S x)
  have HLO := hide hlow
  obtain ⟨x0, x1⟩ := n0
  clear h h' bl m0 g0 hs0 hlow i0
  go_enter Try.func20, Try.ntmps20
  go_wp2_with fail
  clear hW0
  go_region_with (first
    | (go_at_call 34
       refine (lengthAt B a b r s cap dap D S x W0.drew (by have := HS0.out; show B ≤ W0.heap.size; omega) H.out H'.out hr hs).mono ?_
       rintro e w1 ⟨rfl, b1⟩
       have N1 := hide (Bx.below (w := W0.drew) N0.out b1 (by have := HS0.out; show w.heap.size < W0.heap.size; omega))
       have M1 := hide (Bx.below (w := W0.drew) M0.out b1 (by have := HS0.out; show w.heap.size + 1 + 1 < W0.heap.size; omega))
       have G1 := hide (Free.below (w := W0.drew) G0.out b1 (by have := HS0.out; show w.heap.size + 1 + 1 < W0.heap.size; omega))
       have I1 := hide ((b1.cell (p := ⟨w.heap.size + 1, 0, none⟩) (by have := HS0.out; show w.heap.size + 1 < W0.heap.size; omega)).trans I0.out)
       have B1 := hide (BL.out.drew.trans (b1.mono BL.out.size))
       have H1 := hide (Ints.below (w := W0.drew) H.out (b1.mono (by have := HS0.out; show B ≤ W0.heap.size; omega)))
       have H1' := hide (Ints.below (w := W0.drew) H'.out (b1.mono (by have := HS0.out; show B ≤ W0.heap.size; omega)))
       have s1 : w.heap.size + 1 + 1 < w1.heap.size := by have := HS0.out; have := b1.size; have e : W0.drew.heap.size = W0.heap.size := rfl; omega
       obtain ⟨x0', x1'⟩ := N1.out)
    | (go_at_call 33
       refine (linewise 49 #[.pointer (some ⟨w.heap.size + 1, 0, none⟩)] (nrmG (lenA r s D S x).toNat low) B a b r s cap dap D S x (lenA r s D S x) w1 (by omega) H1.out H1'.out hr hs hcap (by have := LA.out; unfold bd; omega) (enters_of Try.func49 (by kernel_rfl) rfl) (fun len N e1 e2 l1 _ => by
         have e3 : len = N := by omega
         subst e3
         have e4 : (lenA r s D S x).toNat = len := by omega
         rw [e4]
         exact norm1 (w.heap.size + 1) low len l1 (by have := LA.out; omega) w1 HLO.out I1.out (by omega))).mono ?_
       rintro e w2 ⟨ta, tb, tc, td, rfl, tz, b2⟩
       have M2 := hide (M1.out.below b2 (by omega))
       have G2 := hide (G1.out.below b2 (by omega))
       have B2 := hide (B1.out.trans (b2.mono B1.out.size))
       have TO := hide tz
       obtain ⟨y0, y1⟩ := M2.out
       have gg := G2.out
       unfold Free at gg))
  all_goals (go_wp2_with fail)
  all_goals exact bodyPost_ret (v := .agg #[.slice ta (lineP r s D S x (lenA r s D S x) (nrmG (lenA r s D S x).toNat low)).r tc, .slice tb (lineP r s D S x (lenA r s D S x) (nrmG (lenA r s D S x).toNat low)).s td]) (by simp [results, Try.results20, go_sem, y0, y1]) rfl (tens_end TO.out s1 (by omega) B2.out)
end Vo
end Go.Proofs.Ytkohmhelfdnfdaa
