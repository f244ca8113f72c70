/- Caches: copied, compared. -/
import Derived.Test.YtdenfcckmpkomaaLzb
import Derived.Test.YtdenfcckmpkomaaTa
namespace Go.Proofs.Ytdenfcckmpkomaa
namespace Vo
open Go.ChangeShapes Go.WideShapes Go.ChangeAt Go.RowKit Go.Joins Go.Sort
open Vl Vp
set_option linter.unusedVariables false
set_option linter.unusedSimpArgs false
set_option maxHeartbeats 1000000 in
theorem toCache (B : Nat) (a b : Option Addr) (n m cap dap : Nat) (L M : Nat → LV) (w : World) (hB : B ≤ w.heap.size) (h : LL B w a n L) (h' : LL B w b m M) (hn : (n : Int) ≤ 1048576) (hm : (m : Int) ≤ 1048576) (hl : LLen n L 1048576) (hl' : LLen m M 1048576) :
    Calls Try.prog 28 #[.agg #[.slice a n cap, .slice b m dap]] w (CacheR n m L M w) := by
  have H := hide h
  have H' := hide h'
  have HL := hide hl
  have HL' := hide hl'
  clear h h' hl hl'
  go_enter Try.func28, Try.ntmps28
  go_wp2_with fail
  refine (toIntSS B a n cap L _ (by simp; omega) (by exact LL.below H.out ((((Below.refl B w).alloc hB _).alloc (by simp; omega) _).alloc (by simp; omega) _)) hn HL.out).mono ?_
  rintro e w1 ⟨L', rfl, q1, s1, b1⟩
  have hc1 := old_cells b1
  have hf1 := old_marks b1
  have z1 : w.heap.size + 3 < w1.heap.size := by have := q1.lt; simp at this; omega
  have B1 := hide b1
  have Q1 := hide q1
  have S1 := hide s1
  clear b1 q1 s1
  have B0 := hide (show Below w.heap.size w (((w.alloc (.cells #[.slice a n cap, .slice b m dap] 44)).alloc (.cells #[.slice none 0 0, .slice none 0 0] 47)).alloc (.cells #[.slice none 0 0, .slice none 0 0] 47)) from below_alloc3 _ _ _ _)
  have B01 := hide (B0.out.trans (B1.out.mono (by simp; omega)))
  have B12 := hide (B01.out.setCell (p := ⟨w.heap.size + 1 + 1, 0, none⟩) (by show w.heap.size ≤ w.heap.size + 1 + 1; omega) (.slice (some ⟨w.heap.size + 1 + 1 + 1, 0, none⟩) n n))
  have K1 := hide (Q1.out.set (b := w.heap.size + 1 + 1) (j := 0) (.slice (some ⟨w.heap.size + 1 + 1 + 1, 0, none⟩) n n) (by simp))
  go_wp2_with fail
  refine (toIntSS B b m dap M _ (by have := B12.out.size; omega) (by exact H'.out.below (B12.out.mono hB)) hm HL'.out).mono ?_
  rintro e w2 ⟨M', rfl, q2, s2, b2⟩
  have hc2 := old_cells b2
  have hf2 := old_marks b2
  have Q2 := hide q2
  have S2 := hide s2
  have K2 := hide (K1.out.below b2)
  have B22 := hide (B12.out.trans (b2.mono B12.out.size))
  have hsz : (w1.setCell ⟨w.heap.size + 1 + 1, 0, none⟩ (.slice (some ⟨w.heap.size + 1 + 1 + 1, 0, none⟩) n n)).heap.size = w1.heap.size := by simp [World.setCell]
  rw [hsz] at hc2 hf2
  have c20 := fun i => hc2 w.heap.size i (by omega)
  have c21 := fun i => hc2 (w.heap.size + 1) i (by omega)
  have c22 := fun i => hc2 (w.heap.size + 1 + 1) i (by omega)
  have f20 := fun i => hf2 w.heap.size i (by omega)
  have f21 := fun i => hf2 (w.heap.size + 1) i (by omega)
  have f22 := fun i => hf2 (w.heap.size + 1 + 1) i (by omega)
  clear hc2 hf2
  clear q2 b2 s2
  go_wp2_with fail
  refine bodyPost_ret (v := .agg #[.slice (some ⟨w.heap.size + 1 + 1 + 1, 0, none⟩) n n, .slice (some ⟨w1.heap.size, 0, none⟩) m m]) (by simp [results, Try.results28, go_sem, c20, c21, c22, hc1]) rfl ⟨_, _, L', M', rfl, ?_, ?_, S1.out, S2.out, ?_⟩
  · refine OLL.read ?_
    repeat (refine OLL.set ?_ _ (by first | omega | (simp; done) | (simp; omega)))
    have := K2.out
    simpa only [World.size_alloc] using this
  · refine OLL.read ?_
    repeat (refine OLL.set ?_ _ (by first | omega | (simp; done) | (simp; omega)))
    have := Q2.out
    rwa [hsz] at this
  · repeat (refine Below.setCell ?_ (by simp; try omega) _)
    exact B22.out
set_option maxHeartbeats 1000000 in
theorem eqCache (B : Nat) (a b a' b' : Option Addr) (n m cap dap cap' dap' : Nat) (L M L' M' : Nat → LV) (w : World) (hB : B ≤ w.heap.size) (h1 : LL B w a n L) (h2 : LL B w b m M) (h3 : LL B w a' n L') (h4 : LL B w b' m M')
    (e1 : ∀ i, i < n → (L' i).r = (L i).r ∧ ∀ j, j < (L i).r → (L i).D j = (L' i).D j) (e2 : ∀ i, i < m → (M' i).r = (M i).r ∧ ∀ j, j < (M i).r → (M i).D j = (M' i).D j) (hn : (n : Int) ≤ 1048576) (hm : (m : Int) ≤ 1048576) (hl : LLen n L 1048576) (hl' : LLen m M 1048576) :
    Calls Try.prog 30 #[.agg #[.slice a n cap, .slice b m dap], .agg #[.slice a' n cap', .slice b' m dap']] w fun e w' => e = .returned (.bool true) ∧ Below w.heap.size w w' := by
  have B0 := hide (show Below w.heap.size w ((w.alloc (.cells #[.slice a n cap, .slice b m dap] 47)).alloc (.cells #[.slice a' n cap', .slice b' m dap'] 47)) from ((Below.refl _ _).alloc (Nat.le_refl _) _).alloc (by simp) _)
  have H1 := hide (h1.below (B0.out.mono hB))
  have H3 := hide (h3.below (B0.out.mono hB))
  have H2 := hide h2
  have H4 := hide h4
  have E1 := hide e1
  have E2 := hide e2
  have HL := hide hl
  have HL' := hide hl'
  clear h1 h2 h3 h4 e1 e2 hl hl'
  go_enter Try.func30, Try.ntmps30
  go_wp2_with fail
  refine (eqIntSS B a a' n cap cap' L L' _ (by simp; omega) H1.out H3.out hn HL.out E1.out).mono ?_
  rintro e w1 ⟨rfl, b1⟩
  have hc1 := old_cells b1
  have c10 := fun i => hc1 w.heap.size i (by simp; omega)
  have c11 := fun i => hc1 (w.heap.size + 1) i (by simp)
  have B1 := hide (B0.out.trans (b1.mono (by simp; omega)))
  have z1 : w.heap.size + 1 < w1.heap.size := by have := b1.size; simp at this; omega
  clear hc1 b1
  go_wp2_with fail
  refine (eqIntSS B b b' m dap dap' M M' _ (by omega) (H2.out.below (B1.out.mono hB)) (H4.out.below (B1.out.mono hB)) hm HL'.out E2.out).mono ?_
  rintro e w2 ⟨rfl, b2⟩
  have hz := B1.out.size
  have hc2 := old_cells b2
  have c20 := fun i => hc2 w.heap.size i (by omega)
  have c21 := fun i => hc2 (w.heap.size + 1) i (by omega)
  have B2 := hide (B1.out.trans (b2.mono B1.out.size))
  clear hc2 b2
  go_wp2_with fail
  go_ret
  exact ⟨rfl, B2.out⟩
end Vo
end Go.Proofs.Ytdenfcckmpkomaa
