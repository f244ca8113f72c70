/- StepOpt of the model says no (written by tools/genrc.py). -/
import Derived.Test.YtflbhlepmjiejaaMrb
import Derived.Test.YtflbhlepmjiejaaRbc
namespace Go.Proofs.Ytflbhlepmjiejaa
namespace Vo
open Go.ChangeShapes Go.WideShapes Go.ChangeAt Go.RowKit Go.Joins Go.Sort
open Vl
set_option linter.unusedVariables false
set_option linter.unusedSimpArgs false
set_option maxHeartbeats 4000000 in
set_option maxRecDepth 100000 in
theorem sStepNo (R : Rl) (n n2 n3 r cP cF cS cl : Nat) (s : St) (aP aF aS a : Option Addr) (w : World) (h1 : Ints w.heap.size w aP n s.P) (h2 : Ints w.heap.size w aF n2 s.F) (h3 : Ints w.heap.size w aS n3 s.S) (hr1 : (n : Int) ≤ 1048576) (hr2 : (n2 : Int) ≤ 1048576) (hr3 : (n3 : Int) ≤ 1048576) (hb : bd s.c ∧ bd s.f ∧ bd s.g) (hRb : R.bds) (hno : R.okB = false ∨ ook n n2 n3 s.P s.F s.S s.c s.f s.g = false) :
    Calls Try.prog 14 #[.agg #[.int .i64 R.d, .int .i64 R.r1, .int .i64 R.r2, .int .i64 R.r3, .int .i64 R.r4, .int .i64 R.k, .int .i64 R.z, .int .i64 R.o, .int .i64 R.y, .int .i64 R.mo, .int .i64 R.gr], .agg #[.slice aP n cP, .slice aF n2 cF, .slice aS n3 cS, .int .i64 s.c, .int .i64 s.f, .int .i64 s.g], .slice a r cl] w fun e w' => e = .returned (.tuple #[ZOpt, .bool false]) ∧ Below w.heap.size w w' := by
  obtain ⟨W1, hW1⟩ : ∃ W1, w.alloc (.cells #[.int .i64 R.d, .int .i64 R.r1, .int .i64 R.r2, .int .i64 R.r3, .int .i64 R.r4, .int .i64 R.k, .int .i64 R.z, .int .i64 R.o, .int .i64 R.y, .int .i64 R.mo, .int .i64 R.gr] 27) = W1 := ⟨_, rfl⟩
  have nw1 : Below w.heap.size w W1 := hW1 ▸ (Below.refl _ _).alloc (Nat.le_refl _) _
  have y1 : w.heap.size < W1.heap.size := by rw [← hW1]; simp
  obtain ⟨W2, hW2⟩ : ∃ W2, W1.alloc (.cells #[.slice aP n cP, .slice aF n2 cF, .slice aS n3 cS, .int .i64 s.c, .int .i64 s.f, .int .i64 s.g] 30) = W2 := ⟨_, rfl⟩
  have nw2 : Below W1.heap.size W1 W2 := hW2 ▸ (Below.refl _ _).alloc (Nat.le_refl _) _
  have y2 : W1.heap.size < W2.heap.size := by rw [← hW2]; simp
  obtain ⟨W3, hW3⟩ : ∃ W3, W2.alloc (.cells #[.slice none 0 0, .slice none 0 0, .slice none 0 0, .int .i64 0, .int .i64 0, .int .i64 0] 30) = W3 := ⟨_, rfl⟩
  have nw3 : Below W2.heap.size W2 W3 := hW3 ▸ (Below.refl _ _).alloc (Nat.le_refl _) _
  have y3 : W2.heap.size < W3.heap.size := by rw [← hW3]; simp
  have LL0 := hide (show Lis [(⟨w.heap.size, 0, none⟩, .int .i64 R.d), (⟨w.heap.size, 1, none⟩, .int .i64 R.r1), (⟨w.heap.size, 2, none⟩, .int .i64 R.r2), (⟨w.heap.size, 3, none⟩, .int .i64 R.r3), (⟨w.heap.size, 4, none⟩, .int .i64 R.r4), (⟨w.heap.size, 5, none⟩, .int .i64 R.k), (⟨w.heap.size, 6, none⟩, .int .i64 R.z), (⟨w.heap.size, 7, none⟩, .int .i64 R.o), (⟨w.heap.size, 8, none⟩, .int .i64 R.y), (⟨w.heap.size, 9, none⟩, .int .i64 R.mo), (⟨w.heap.size, 10, none⟩, .int .i64 R.gr)] W3 from ((show Lis [(⟨w.heap.size, 0, none⟩, .int .i64 R.d), (⟨w.heap.size, 1, none⟩, .int .i64 R.r1), (⟨w.heap.size, 2, none⟩, .int .i64 R.r2), (⟨w.heap.size, 3, none⟩, .int .i64 R.r3), (⟨w.heap.size, 4, none⟩, .int .i64 R.r4), (⟨w.heap.size, 5, none⟩, .int .i64 R.k), (⟨w.heap.size, 6, none⟩, .int .i64 R.z), (⟨w.heap.size, 7, none⟩, .int .i64 R.o), (⟨w.heap.size, 8, none⟩, .int .i64 R.y), (⟨w.heap.size, 9, none⟩, .int .i64 R.mo), (⟨w.heap.size, 10, none⟩, .int .i64 R.gr)] W1 from fun x hx => by
      simp only [List.mem_cons, List.not_mem_nil, or_false] at hx
      rcases hx with rfl | rfl | rfl | rfl | rfl | rfl | rfl | rfl | rfl | rfl | rfl <;> (rw [← hW1]; simp [go_sem])).below nw2).below nw3)
  have LO0 := hide (show Lis [(⟨W1.heap.size, 0, none⟩, .slice aP n cP), (⟨W1.heap.size, 1, none⟩, .slice aF n2 cF), (⟨W1.heap.size, 2, none⟩, .slice aS n3 cS), (⟨W1.heap.size, 3, none⟩, .int .i64 s.c), (⟨W1.heap.size, 4, none⟩, .int .i64 s.f), (⟨W1.heap.size, 5, none⟩, .int .i64 s.g)] W3 from (show Lis [(⟨W1.heap.size, 0, none⟩, .slice aP n cP), (⟨W1.heap.size, 1, none⟩, .slice aF n2 cF), (⟨W1.heap.size, 2, none⟩, .slice aS n3 cS), (⟨W1.heap.size, 3, none⟩, .int .i64 s.c), (⟨W1.heap.size, 4, none⟩, .int .i64 s.f), (⟨W1.heap.size, 5, none⟩, .int .i64 s.g)] W2 from fun x hx => by
      simp only [List.mem_cons, List.not_mem_nil, or_false] at hx
      rcases hx with rfl | rfl | rfl | rfl | rfl | rfl <;> (rw [← hW2]; simp [go_sem])).below nw3)
  have R1 := hide (show C6 W3 W2.heap.size (OV none none none 0 0 0 0 0 0 0) from ⟨fun i hi => by rcases (by omega : i = 0 ∨ i = 1 ∨ i = 2 ∨ i = 3 ∨ i = 4 ∨ i = 5) with rfl | rfl | rfl | rfl | rfl | rfl <;> (rw [← hW3]; simp [go_sem, OV]), fun i => by rw [← hW3]; simp [go_sem], y3⟩)
  have B3 := hide ((nw1.trans (nw2.mono nw1.size)).trans (nw3.mono (Nat.le_trans nw1.size nw2.size)))
  have Y := hide (And.intro y1 (And.intro y2 y3))
  clear nw1 nw2 nw3 y1 y2 y3
  have S3 := hide (Nat.le_refl W3.heap.size)
  have CO := hide (fun X (bX : Below w.heap.size w X) => specOpt aP aF aS n n2 n3 cP cF cS s.P s.F s.S s.c s.f s.g X ((h1.below bX).mono bX.size) ((h2.below bX).mono bX.size) ((h3.below bX).mono bX.size) hr1 hb.1 hb.2.1 hb.2.2 hr2 hr3)
  have CRu := hide (fun w => specRule R.d R.r1 R.r2 R.r3 R.r4 R.k R.z R.o R.y R.mo R.gr w hRb.1.1 hRb.1.2.1 hRb.1.2.2.1 hRb.1.2.2.2.1 hRb.1.2.2.2.2 hRb.2.1 hRb.2.2.1 hRb.2.2.2.1 hRb.2.2.2.2.1 hRb.2.2.2.2.2.1 hRb.2.2.2.2.2.2)
  have HN := hide hno
  clear h1 h2 h3 hr1 hr2 hr3 hb hRb hno
  have l0 : W3.cell? ⟨w.heap.size, 0, none⟩ = some (.int .i64 R.d) := LL0.out (⟨w.heap.size, 0, none⟩, .int .i64 R.d) (.head _)
  have l1 : W3.cell? ⟨w.heap.size, 1, none⟩ = some (.int .i64 R.r1) := LL0.out (⟨w.heap.size, 1, none⟩, .int .i64 R.r1) (.tail _ (.head _))
  have l2 : W3.cell? ⟨w.heap.size, 2, none⟩ = some (.int .i64 R.r2) := LL0.out (⟨w.heap.size, 2, none⟩, .int .i64 R.r2) (.tail _ (.tail _ (.head _)))
  have l3 : W3.cell? ⟨w.heap.size, 3, none⟩ = some (.int .i64 R.r3) := LL0.out (⟨w.heap.size, 3, none⟩, .int .i64 R.r3) (.tail _ (.tail _ (.tail _ (.head _))))
  have l4 : W3.cell? ⟨w.heap.size, 4, none⟩ = some (.int .i64 R.r4) := LL0.out (⟨w.heap.size, 4, none⟩, .int .i64 R.r4) (.tail _ (.tail _ (.tail _ (.tail _ (.head _)))))
  have l5 : W3.cell? ⟨w.heap.size, 5, none⟩ = some (.int .i64 R.k) := LL0.out (⟨w.heap.size, 5, none⟩, .int .i64 R.k) (.tail _ (.tail _ (.tail _ (.tail _ (.tail _ (.head _))))))
  have l6 : W3.cell? ⟨w.heap.size, 6, none⟩ = some (.int .i64 R.z) := LL0.out (⟨w.heap.size, 6, none⟩, .int .i64 R.z) (.tail _ (.tail _ (.tail _ (.tail _ (.tail _ (.tail _ (.head _)))))))
  have l7 : W3.cell? ⟨w.heap.size, 7, none⟩ = some (.int .i64 R.o) := LL0.out (⟨w.heap.size, 7, none⟩, .int .i64 R.o) (.tail _ (.tail _ (.tail _ (.tail _ (.tail _ (.tail _ (.tail _ (.head _))))))))
  have l8 : W3.cell? ⟨w.heap.size, 8, none⟩ = some (.int .i64 R.y) := LL0.out (⟨w.heap.size, 8, none⟩, .int .i64 R.y) (.tail _ (.tail _ (.tail _ (.tail _ (.tail _ (.tail _ (.tail _ (.tail _ (.head _)))))))))
  have l9 : W3.cell? ⟨w.heap.size, 9, none⟩ = some (.int .i64 R.mo) := LL0.out (⟨w.heap.size, 9, none⟩, .int .i64 R.mo) (.tail _ (.tail _ (.tail _ (.tail _ (.tail _ (.tail _ (.tail _ (.tail _ (.tail _ (.head _))))))))))
  have l10 : W3.cell? ⟨w.heap.size, 10, none⟩ = some (.int .i64 R.gr) := LL0.out (⟨w.heap.size, 10, none⟩, .int .i64 R.gr) (.tail _ (.tail _ (.tail _ (.tail _ (.tail _ (.tail _ (.tail _ (.tail _ (.tail _ (.tail _ (.head _)))))))))))
  cases hok : R.okB
  · have hok' : rulOk R.d R.r1 R.r2 R.r3 R.r4 R.k R.z R.o R.y R.mo R.gr = false := hok
    rw [hok'] at CRu
    clear hok hok' HN CO
    go_enter Try.func14, Try.ntmps14
    go_wp2_with fail
    refine (CRu.out _).mono ?_; rintro e X ⟨rfl, bx⟩
    clear hW1 hW2 hW3 CRu l0 l1 l2 l3 l4 l5 l6 l7 l8 l9 l10
    replace LL0 := hide (LL0.out.below bx)
    replace LO0 := hide (LO0.out.below bx)
    replace R1 := hide (R1.out.kept (Kept.of_below (S := fun _ => False) bx) id)
    replace B3 := hide (B3.out.trans (bx.mono B3.out.size))
    replace S3 := hide (Nat.le_trans S3.out bx.size)
    clear bx
    obtain ⟨T0, hT0⟩ : ∃ T0, X.setCell ⟨W2.heap.size, 0, none⟩ (.slice none 0 0) = T0 := ⟨_, rfl⟩
    have RT0 := hide (hT0 ▸ R1.out.set 0 (.slice none 0 0) (by omega) : C6 T0 W2.heap.size _)
    have eT0 : X.cell? ⟨W2.heap.size, 0, none⟩ = some (.slice none 0 0) := R1.out.c 0 (by omega)
    have fT0 := R1.out.f 0
    have kT0 : Kept (· = W2.heap.size) X T0 := hT0 ▸ Kept.setCell X ⟨W2.heap.size, 0, none⟩ _
    have BT0 := hide (hT0 ▸ B3.out.setCell (p := ⟨W2.heap.size, 0, none⟩) (by have := Y.out; show w.heap.size ≤ W2.heap.size; omega) _ : Below w.heap.size w T0)
    obtain ⟨T1, hT1⟩ : ∃ T1, T0.setCell ⟨W2.heap.size, 1, none⟩ (.slice none 0 0) = T1 := ⟨_, rfl⟩
    have RT1 := hide (hT1 ▸ RT0.out.set 1 (.slice none 0 0) (by omega) : C6 T1 W2.heap.size _)
    have eT1 : T0.cell? ⟨W2.heap.size, 1, none⟩ = some (.slice none 0 0) := RT0.out.c 1 (by omega)
    have fT1 := RT0.out.f 1
    have kT1 : Kept (· = W2.heap.size) T0 T1 := hT1 ▸ Kept.setCell T0 ⟨W2.heap.size, 1, none⟩ _
    have BT1 := hide (hT1 ▸ BT0.out.setCell (p := ⟨W2.heap.size, 1, none⟩) (by have := Y.out; show w.heap.size ≤ W2.heap.size; omega) _ : Below w.heap.size w T1)
    obtain ⟨T2, hT2⟩ : ∃ T2, T1.setCell ⟨W2.heap.size, 2, none⟩ (.slice none 0 0) = T2 := ⟨_, rfl⟩
    have RT2 := hide (hT2 ▸ RT1.out.set 2 (.slice none 0 0) (by omega) : C6 T2 W2.heap.size _)
    have eT2 : T1.cell? ⟨W2.heap.size, 2, none⟩ = some (.slice none 0 0) := RT1.out.c 2 (by omega)
    have fT2 := RT1.out.f 2
    have kT2 : Kept (· = W2.heap.size) T1 T2 := hT2 ▸ Kept.setCell T1 ⟨W2.heap.size, 2, none⟩ _
    have BT2 := hide (hT2 ▸ BT1.out.setCell (p := ⟨W2.heap.size, 2, none⟩) (by have := Y.out; show w.heap.size ≤ W2.heap.size; omega) _ : Below w.heap.size w T2)
    obtain ⟨T3, hT3⟩ : ∃ T3, T2.setCell ⟨W2.heap.size, 3, none⟩ (.int .i64 0) = T3 := ⟨_, rfl⟩
    have RT3 := hide (hT3 ▸ RT2.out.set 3 (.int .i64 0) (by omega) : C6 T3 W2.heap.size _)
    have eT3 : T2.cell? ⟨W2.heap.size, 3, none⟩ = some (.int .i64 0) := RT2.out.c 3 (by omega)
    have fT3 := RT2.out.f 3
    have kT3 : Kept (· = W2.heap.size) T2 T3 := hT3 ▸ Kept.setCell T2 ⟨W2.heap.size, 3, none⟩ _
    have BT3 := hide (hT3 ▸ BT2.out.setCell (p := ⟨W2.heap.size, 3, none⟩) (by have := Y.out; show w.heap.size ≤ W2.heap.size; omega) _ : Below w.heap.size w T3)
    obtain ⟨T4, hT4⟩ : ∃ T4, T3.setCell ⟨W2.heap.size, 4, none⟩ (.int .i64 0) = T4 := ⟨_, rfl⟩
    have RT4 := hide (hT4 ▸ RT3.out.set 4 (.int .i64 0) (by omega) : C6 T4 W2.heap.size _)
    have eT4 : T3.cell? ⟨W2.heap.size, 4, none⟩ = some (.int .i64 0) := RT3.out.c 4 (by omega)
    have fT4 := RT3.out.f 4
    have kT4 : Kept (· = W2.heap.size) T3 T4 := hT4 ▸ Kept.setCell T3 ⟨W2.heap.size, 4, none⟩ _
    have BT4 := hide (hT4 ▸ BT3.out.setCell (p := ⟨W2.heap.size, 4, none⟩) (by have := Y.out; show w.heap.size ≤ W2.heap.size; omega) _ : Below w.heap.size w T4)
    obtain ⟨T5, hT5⟩ : ∃ T5, T4.setCell ⟨W2.heap.size, 5, none⟩ (.int .i64 0) = T5 := ⟨_, rfl⟩
    have RT5 := hide (hT5 ▸ RT4.out.set 5 (.int .i64 0) (by omega) : C6 T5 W2.heap.size _)
    have eT5 : T4.cell? ⟨W2.heap.size, 5, none⟩ = some (.int .i64 0) := RT4.out.c 5 (by omega)
    have fT5 := RT4.out.f 5
    have kT5 : Kept (· = W2.heap.size) T4 T5 := hT5 ▸ Kept.setCell T4 ⟨W2.heap.size, 5, none⟩ _
    have BT5 := hide (hT5 ▸ BT4.out.setCell (p := ⟨W2.heap.size, 5, none⟩) (by have := Y.out; show w.heap.size ≤ W2.heap.size; omega) _ : Below w.heap.size w T5)
    have kk := hide (((((kT0.trans kT1).trans kT2).trans kT3).trans kT4).trans kT5)
    have r0 : T5.cell? ⟨W2.heap.size, 0, none⟩ = some (.slice none 0 0) := RT5.out.c 0 (by omega)
    have r1 : T5.cell? ⟨W2.heap.size, 1, none⟩ = some (.slice none 0 0) := RT5.out.c 1 (by omega)
    have r2 : T5.cell? ⟨W2.heap.size, 2, none⟩ = some (.slice none 0 0) := RT5.out.c 2 (by omega)
    have r3 : T5.cell? ⟨W2.heap.size, 3, none⟩ = some (.int .i64 0) := RT5.out.c 3 (by omega)
    have r4 : T5.cell? ⟨W2.heap.size, 4, none⟩ = some (.int .i64 0) := RT5.out.c 4 (by omega)
    have r5 : T5.cell? ⟨W2.heap.size, 5, none⟩ = some (.int .i64 0) := RT5.out.c 5 (by omega)
    clear kT0 kT1 kT2 kT3 kT4 kT5
    go_wp2_with fail
    exact bodyPost_ret (v := .tuple #[ZOpt, .bool false]) (by simp [results, Try.results14, go_sem, r0, r1, r2, r3, r4, r5, ZOpt]) rfl ⟨rfl, BT5.out⟩
  · have hok' : rulOk R.d R.r1 R.r2 R.r3 R.r4 R.k R.z R.o R.y R.mo R.gr = true := hok
    rw [hok'] at CRu
    have hno : ook n n2 n3 s.P s.F s.S s.c s.f s.g = false := by rcases HN.out with h | h; rw [hok] at h; cases h; exact h
    rw [hno] at CO
    clear hok hok' HN hno
    go_enter Try.func14, Try.ntmps14
    go_wp2_with fail
    refine (CRu.out _).mono ?_; rintro e X ⟨rfl, bx⟩
    clear hW1 hW2 hW3 CRu l0 l1 l2 l3 l4 l5 l6 l7 l8 l9 l10
    replace LL0 := hide (LL0.out.below bx)
    replace LO0 := hide (LO0.out.below bx)
    replace R1 := hide (R1.out.kept (Kept.of_below (S := fun _ => False) bx) id)
    replace B3 := hide (B3.out.trans (bx.mono B3.out.size))
    replace S3 := hide (Nat.le_trans S3.out bx.size)
    clear bx
    have o0 : X.cell? ⟨W1.heap.size, 0, none⟩ = some (.slice aP n cP) := LO0.out (⟨W1.heap.size, 0, none⟩, .slice aP n cP) (.head _)
    have o1 : X.cell? ⟨W1.heap.size, 1, none⟩ = some (.slice aF n2 cF) := LO0.out (⟨W1.heap.size, 1, none⟩, .slice aF n2 cF) (.tail _ (.head _))
    have o2 : X.cell? ⟨W1.heap.size, 2, none⟩ = some (.slice aS n3 cS) := LO0.out (⟨W1.heap.size, 2, none⟩, .slice aS n3 cS) (.tail _ (.tail _ (.head _)))
    have o3 : X.cell? ⟨W1.heap.size, 3, none⟩ = some (.int .i64 s.c) := LO0.out (⟨W1.heap.size, 3, none⟩, .int .i64 s.c) (.tail _ (.tail _ (.tail _ (.head _))))
    have o4 : X.cell? ⟨W1.heap.size, 4, none⟩ = some (.int .i64 s.f) := LO0.out (⟨W1.heap.size, 4, none⟩, .int .i64 s.f) (.tail _ (.tail _ (.tail _ (.tail _ (.head _)))))
    have o5 : X.cell? ⟨W1.heap.size, 5, none⟩ = some (.int .i64 s.g) := LO0.out (⟨W1.heap.size, 5, none⟩, .int .i64 s.g) (.tail _ (.tail _ (.tail _ (.tail _ (.tail _ (.head _))))))
    go_wp2_with fail
    refine (CO.out _ B3.out).mono ?_; rintro e X2 ⟨rfl, bx⟩
    clear CO o0 o1 o2 o3 o4 o5
    replace LL0 := hide (LL0.out.below bx)
    replace LO0 := hide (LO0.out.below bx)
    replace R1 := hide (R1.out.kept (Kept.of_below (S := fun _ => False) bx) id)
    replace B3 := hide (B3.out.trans (bx.mono B3.out.size))
    replace S3 := hide (Nat.le_trans S3.out bx.size)
    clear bx
    obtain ⟨T0, hT0⟩ : ∃ T0, X2.setCell ⟨W2.heap.size, 0, none⟩ (.slice none 0 0) = T0 := ⟨_, rfl⟩
    have RT0 := hide (hT0 ▸ R1.out.set 0 (.slice none 0 0) (by omega) : C6 T0 W2.heap.size _)
    have eT0 : X2.cell? ⟨W2.heap.size, 0, none⟩ = some (.slice none 0 0) := R1.out.c 0 (by omega)
    have fT0 := R1.out.f 0
    have kT0 : Kept (· = W2.heap.size) X2 T0 := hT0 ▸ Kept.setCell X2 ⟨W2.heap.size, 0, none⟩ _
    have BT0 := hide (hT0 ▸ B3.out.setCell (p := ⟨W2.heap.size, 0, none⟩) (by have := Y.out; show w.heap.size ≤ W2.heap.size; omega) _ : Below w.heap.size w T0)
    obtain ⟨T1, hT1⟩ : ∃ T1, T0.setCell ⟨W2.heap.size, 1, none⟩ (.slice none 0 0) = T1 := ⟨_, rfl⟩
    have RT1 := hide (hT1 ▸ RT0.out.set 1 (.slice none 0 0) (by omega) : C6 T1 W2.heap.size _)
    have eT1 : T0.cell? ⟨W2.heap.size, 1, none⟩ = some (.slice none 0 0) := RT0.out.c 1 (by omega)
    have fT1 := RT0.out.f 1
    have kT1 : Kept (· = W2.heap.size) T0 T1 := hT1 ▸ Kept.setCell T0 ⟨W2.heap.size, 1, none⟩ _
    have BT1 := hide (hT1 ▸ BT0.out.setCell (p := ⟨W2.heap.size, 1, none⟩) (by have := Y.out; show w.heap.size ≤ W2.heap.size; omega) _ : Below w.heap.size w T1)
    obtain ⟨T2, hT2⟩ : ∃ T2, T1.setCell ⟨W2.heap.size, 2, none⟩ (.slice none 0 0) = T2 := ⟨_, rfl⟩
    have RT2 := hide (hT2 ▸ RT1.out.set 2 (.slice none 0 0) (by omega) : C6 T2 W2.heap.size _)
    have eT2 : T1.cell? ⟨W2.heap.size, 2, none⟩ = some (.slice none 0 0) := RT1.out.c 2 (by omega)
    have fT2 := RT1.out.f 2
    have kT2 : Kept (· = W2.heap.size) T1 T2 := hT2 ▸ Kept.setCell T1 ⟨W2.heap.size, 2, none⟩ _
    have BT2 := hide (hT2 ▸ BT1.out.setCell (p := ⟨W2.heap.size, 2, none⟩) (by have := Y.out; show w.heap.size ≤ W2.heap.size; omega) _ : Below w.heap.size w T2)
    obtain ⟨T3, hT3⟩ : ∃ T3, T2.setCell ⟨W2.heap.size, 3, none⟩ (.int .i64 0) = T3 := ⟨_, rfl⟩
    have RT3 := hide (hT3 ▸ RT2.out.set 3 (.int .i64 0) (by omega) : C6 T3 W2.heap.size _)
    have eT3 : T2.cell? ⟨W2.heap.size, 3, none⟩ = some (.int .i64 0) := RT2.out.c 3 (by omega)
    have fT3 := RT2.out.f 3
    have kT3 : Kept (· = W2.heap.size) T2 T3 := hT3 ▸ Kept.setCell T2 ⟨W2.heap.size, 3, none⟩ _
    have BT3 := hide (hT3 ▸ BT2.out.setCell (p := ⟨W2.heap.size, 3, none⟩) (by have := Y.out; show w.heap.size ≤ W2.heap.size; omega) _ : Below w.heap.size w T3)
    obtain ⟨T4, hT4⟩ : ∃ T4, T3.setCell ⟨W2.heap.size, 4, none⟩ (.int .i64 0) = T4 := ⟨_, rfl⟩
    have RT4 := hide (hT4 ▸ RT3.out.set 4 (.int .i64 0) (by omega) : C6 T4 W2.heap.size _)
    have eT4 : T3.cell? ⟨W2.heap.size, 4, none⟩ = some (.int .i64 0) := RT3.out.c 4 (by omega)
    have fT4 := RT3.out.f 4
    have kT4 : Kept (· = W2.heap.size) T3 T4 := hT4 ▸ Kept.setCell T3 ⟨W2.heap.size, 4, none⟩ _
    have BT4 := hide (hT4 ▸ BT3.out.setCell (p := ⟨W2.heap.size, 4, none⟩) (by have := Y.out; show w.heap.size ≤ W2.heap.size; omega) _ : Below w.heap.size w T4)
    obtain ⟨T5, hT5⟩ : ∃ T5, T4.setCell ⟨W2.heap.size, 5, none⟩ (.int .i64 0) = T5 := ⟨_, rfl⟩
    have RT5 := hide (hT5 ▸ RT4.out.set 5 (.int .i64 0) (by omega) : C6 T5 W2.heap.size _)
    have eT5 : T4.cell? ⟨W2.heap.size, 5, none⟩ = some (.int .i64 0) := RT4.out.c 5 (by omega)
    have fT5 := RT4.out.f 5
    have kT5 : Kept (· = W2.heap.size) T4 T5 := hT5 ▸ Kept.setCell T4 ⟨W2.heap.size, 5, none⟩ _
    have BT5 := hide (hT5 ▸ BT4.out.setCell (p := ⟨W2.heap.size, 5, none⟩) (by have := Y.out; show w.heap.size ≤ W2.heap.size; omega) _ : Below w.heap.size w T5)
    have kk := hide (((((kT0.trans kT1).trans kT2).trans kT3).trans kT4).trans kT5)
    have r0 : T5.cell? ⟨W2.heap.size, 0, none⟩ = some (.slice none 0 0) := RT5.out.c 0 (by omega)
    have r1 : T5.cell? ⟨W2.heap.size, 1, none⟩ = some (.slice none 0 0) := RT5.out.c 1 (by omega)
    have r2 : T5.cell? ⟨W2.heap.size, 2, none⟩ = some (.slice none 0 0) := RT5.out.c 2 (by omega)
    have r3 : T5.cell? ⟨W2.heap.size, 3, none⟩ = some (.int .i64 0) := RT5.out.c 3 (by omega)
    have r4 : T5.cell? ⟨W2.heap.size, 4, none⟩ = some (.int .i64 0) := RT5.out.c 4 (by omega)
    have r5 : T5.cell? ⟨W2.heap.size, 5, none⟩ = some (.int .i64 0) := RT5.out.c 5 (by omega)
    clear kT0 kT1 kT2 kT3 kT4 kT5
    go_wp2_with fail
    exact bodyPost_ret (v := .tuple #[ZOpt, .bool false]) (by simp [results, Try.results14, go_sem, r0, r1, r2, r3, r4, r5, ZOpt]) rfl ⟨rfl, BT5.out⟩
set_option maxHeartbeats 4000000 in
set_option maxRecDepth 100000 in
theorem sStepNo2 (R : Rl) (n r cP cF cS cl : Nat) (s : St) (aP aF aS a : Option Addr) (w : World) (h1 : Ints w.heap.size w aP n s.P) (h2 : Ints w.heap.size w aF n s.F) (h3 : Ints w.heap.size w aS n s.S) (hr1 : (n : Int) ≤ 1048576) (hra : (r : Int) ≤ 1048576) (hb : bd s.c ∧ bd s.f ∧ bd s.g) (hRb : R.bds) (hR : R.okB = true) (hs : ook n n n s.P s.F s.S s.c s.f s.g = true) (hno : s.c = 1000000 ∨ r ≠ n) :
    Calls Try.prog 14 #[.agg #[.int .i64 R.d, .int .i64 R.r1, .int .i64 R.r2, .int .i64 R.r3, .int .i64 R.r4, .int .i64 R.k, .int .i64 R.z, .int .i64 R.o, .int .i64 R.y, .int .i64 R.mo, .int .i64 R.gr], .agg #[.slice aP n cP, .slice aF n cF, .slice aS n cS, .int .i64 s.c, .int .i64 s.f, .int .i64 s.g], .slice a r cl] w fun e w' => e = .returned (.tuple #[ZOpt, .bool false]) ∧ Below w.heap.size w w' := by
  obtain ⟨W1, hW1⟩ : ∃ W1, w.alloc (.cells #[.int .i64 R.d, .int .i64 R.r1, .int .i64 R.r2, .int .i64 R.r3, .int .i64 R.r4, .int .i64 R.k, .int .i64 R.z, .int .i64 R.o, .int .i64 R.y, .int .i64 R.mo, .int .i64 R.gr] 27) = W1 := ⟨_, rfl⟩
  have nw1 : Below w.heap.size w W1 := hW1 ▸ (Below.refl _ _).alloc (Nat.le_refl _) _
  have y1 : w.heap.size < W1.heap.size := by rw [← hW1]; simp
  obtain ⟨W2, hW2⟩ : ∃ W2, W1.alloc (.cells #[.slice aP n cP, .slice aF n cF, .slice aS n cS, .int .i64 s.c, .int .i64 s.f, .int .i64 s.g] 30) = W2 := ⟨_, rfl⟩
  have nw2 : Below W1.heap.size W1 W2 := hW2 ▸ (Below.refl _ _).alloc (Nat.le_refl _) _
  have y2 : W1.heap.size < W2.heap.size := by rw [← hW2]; simp
  obtain ⟨W3, hW3⟩ : ∃ W3, W2.alloc (.cells #[.slice none 0 0, .slice none 0 0, .slice none 0 0, .int .i64 0, .int .i64 0, .int .i64 0] 30) = W3 := ⟨_, rfl⟩
  have nw3 : Below W2.heap.size W2 W3 := hW3 ▸ (Below.refl _ _).alloc (Nat.le_refl _) _
  have y3 : W2.heap.size < W3.heap.size := by rw [← hW3]; simp
  have LL0 := hide (show Lis [(⟨w.heap.size, 0, none⟩, .int .i64 R.d), (⟨w.heap.size, 1, none⟩, .int .i64 R.r1), (⟨w.heap.size, 2, none⟩, .int .i64 R.r2), (⟨w.heap.size, 3, none⟩, .int .i64 R.r3), (⟨w.heap.size, 4, none⟩, .int .i64 R.r4), (⟨w.heap.size, 5, none⟩, .int .i64 R.k), (⟨w.heap.size, 6, none⟩, .int .i64 R.z), (⟨w.heap.size, 7, none⟩, .int .i64 R.o), (⟨w.heap.size, 8, none⟩, .int .i64 R.y), (⟨w.heap.size, 9, none⟩, .int .i64 R.mo), (⟨w.heap.size, 10, none⟩, .int .i64 R.gr)] W3 from ((show Lis [(⟨w.heap.size, 0, none⟩, .int .i64 R.d), (⟨w.heap.size, 1, none⟩, .int .i64 R.r1), (⟨w.heap.size, 2, none⟩, .int .i64 R.r2), (⟨w.heap.size, 3, none⟩, .int .i64 R.r3), (⟨w.heap.size, 4, none⟩, .int .i64 R.r4), (⟨w.heap.size, 5, none⟩, .int .i64 R.k), (⟨w.heap.size, 6, none⟩, .int .i64 R.z), (⟨w.heap.size, 7, none⟩, .int .i64 R.o), (⟨w.heap.size, 8, none⟩, .int .i64 R.y), (⟨w.heap.size, 9, none⟩, .int .i64 R.mo), (⟨w.heap.size, 10, none⟩, .int .i64 R.gr)] W1 from fun x hx => by
      simp only [List.mem_cons, List.not_mem_nil, or_false] at hx
      rcases hx with rfl | rfl | rfl | rfl | rfl | rfl | rfl | rfl | rfl | rfl | rfl <;> (rw [← hW1]; simp [go_sem])).below nw2).below nw3)
  have LO0 := hide (show Lis [(⟨W1.heap.size, 0, none⟩, .slice aP n cP), (⟨W1.heap.size, 1, none⟩, .slice aF n cF), (⟨W1.heap.size, 2, none⟩, .slice aS n cS), (⟨W1.heap.size, 3, none⟩, .int .i64 s.c), (⟨W1.heap.size, 4, none⟩, .int .i64 s.f), (⟨W1.heap.size, 5, none⟩, .int .i64 s.g)] W3 from (show Lis [(⟨W1.heap.size, 0, none⟩, .slice aP n cP), (⟨W1.heap.size, 1, none⟩, .slice aF n cF), (⟨W1.heap.size, 2, none⟩, .slice aS n cS), (⟨W1.heap.size, 3, none⟩, .int .i64 s.c), (⟨W1.heap.size, 4, none⟩, .int .i64 s.f), (⟨W1.heap.size, 5, none⟩, .int .i64 s.g)] W2 from fun x hx => by
      simp only [List.mem_cons, List.not_mem_nil, or_false] at hx
      rcases hx with rfl | rfl | rfl | rfl | rfl | rfl <;> (rw [← hW2]; simp [go_sem])).below nw3)
  have R1 := hide (show C6 W3 W2.heap.size (OV none none none 0 0 0 0 0 0 0) from ⟨fun i hi => by rcases (by omega : i = 0 ∨ i = 1 ∨ i = 2 ∨ i = 3 ∨ i = 4 ∨ i = 5) with rfl | rfl | rfl | rfl | rfl | rfl <;> (rw [← hW3]; simp [go_sem, OV]), fun i => by rw [← hW3]; simp [go_sem], y3⟩)
  have B3 := hide ((nw1.trans (nw2.mono nw1.size)).trans (nw3.mono (Nat.le_trans nw1.size nw2.size)))
  have Y := hide (And.intro y1 (And.intro y2 y3))
  clear nw1 nw2 nw3 y1 y2 y3
  have S3 := hide (Nat.le_refl W3.heap.size)
  have CO := hide (fun X (bX : Below w.heap.size w X) => specOpt aP aF aS n n n cP cF cS s.P s.F s.S s.c s.f s.g X ((h1.below bX).mono bX.size) ((h2.below bX).mono bX.size) ((h3.below bX).mono bX.size) hr1 hb.1 hb.2.1 hb.2.2 hr1 hr1)
  have CRu := hide (fun w => specRule R.d R.r1 R.r2 R.r3 R.r4 R.k R.z R.o R.y R.mo R.gr w hRb.1.1 hRb.1.2.1 hRb.1.2.2.1 hRb.1.2.2.2.1 hRb.1.2.2.2.2 hRb.2.1 hRb.2.2.1 hRb.2.2.2.1 hRb.2.2.2.2.1 hRb.2.2.2.2.2.1 hRb.2.2.2.2.2.2)
  have HN := hide hno
  have HBD := hide (And.intro hr1 (And.intro hra hb.1))
  rw [hs] at CO
  clear h1 h2 h3 hr1 hra hb hRb hno hs
  have l0 : W3.cell? ⟨w.heap.size, 0, none⟩ = some (.int .i64 R.d) := LL0.out (⟨w.heap.size, 0, none⟩, .int .i64 R.d) (.head _)
  have l1 : W3.cell? ⟨w.heap.size, 1, none⟩ = some (.int .i64 R.r1) := LL0.out (⟨w.heap.size, 1, none⟩, .int .i64 R.r1) (.tail _ (.head _))
  have l2 : W3.cell? ⟨w.heap.size, 2, none⟩ = some (.int .i64 R.r2) := LL0.out (⟨w.heap.size, 2, none⟩, .int .i64 R.r2) (.tail _ (.tail _ (.head _)))
  have l3 : W3.cell? ⟨w.heap.size, 3, none⟩ = some (.int .i64 R.r3) := LL0.out (⟨w.heap.size, 3, none⟩, .int .i64 R.r3) (.tail _ (.tail _ (.tail _ (.head _))))
  have l4 : W3.cell? ⟨w.heap.size, 4, none⟩ = some (.int .i64 R.r4) := LL0.out (⟨w.heap.size, 4, none⟩, .int .i64 R.r4) (.tail _ (.tail _ (.tail _ (.tail _ (.head _)))))
  have l5 : W3.cell? ⟨w.heap.size, 5, none⟩ = some (.int .i64 R.k) := LL0.out (⟨w.heap.size, 5, none⟩, .int .i64 R.k) (.tail _ (.tail _ (.tail _ (.tail _ (.tail _ (.head _))))))
  have l6 : W3.cell? ⟨w.heap.size, 6, none⟩ = some (.int .i64 R.z) := LL0.out (⟨w.heap.size, 6, none⟩, .int .i64 R.z) (.tail _ (.tail _ (.tail _ (.tail _ (.tail _ (.tail _ (.head _)))))))
  have l7 : W3.cell? ⟨w.heap.size, 7, none⟩ = some (.int .i64 R.o) := LL0.out (⟨w.heap.size, 7, none⟩, .int .i64 R.o) (.tail _ (.tail _ (.tail _ (.tail _ (.tail _ (.tail _ (.tail _ (.head _))))))))
  have l8 : W3.cell? ⟨w.heap.size, 8, none⟩ = some (.int .i64 R.y) := LL0.out (⟨w.heap.size, 8, none⟩, .int .i64 R.y) (.tail _ (.tail _ (.tail _ (.tail _ (.tail _ (.tail _ (.tail _ (.tail _ (.head _)))))))))
  have l9 : W3.cell? ⟨w.heap.size, 9, none⟩ = some (.int .i64 R.mo) := LL0.out (⟨w.heap.size, 9, none⟩, .int .i64 R.mo) (.tail _ (.tail _ (.tail _ (.tail _ (.tail _ (.tail _ (.tail _ (.tail _ (.tail _ (.head _))))))))))
  have l10 : W3.cell? ⟨w.heap.size, 10, none⟩ = some (.int .i64 R.gr) := LL0.out (⟨w.heap.size, 10, none⟩, .int .i64 R.gr) (.tail _ (.tail _ (.tail _ (.tail _ (.tail _ (.tail _ (.tail _ (.tail _ (.tail _ (.tail _ (.head _)))))))))))
  have hok' : rulOk R.d R.r1 R.r2 R.r3 R.r4 R.k R.z R.o R.y R.mo R.gr = true := hR
  rw [hok'] at CRu
  clear hR hok'
  go_enter Try.func14, Try.ntmps14
  go_wp2_with fail
  refine (CRu.out _).mono ?_; rintro e X ⟨rfl, bx⟩
  clear hW1 hW2 hW3 CRu l0 l1 l2 l3 l4 l5 l6 l7 l8 l9 l10
  replace LL0 := hide (LL0.out.below bx)
  replace LO0 := hide (LO0.out.below bx)
  replace R1 := hide (R1.out.kept (Kept.of_below (S := fun _ => False) bx) id)
  replace B3 := hide (B3.out.trans (bx.mono B3.out.size))
  replace S3 := hide (Nat.le_trans S3.out bx.size)
  clear bx
  have o0 : X.cell? ⟨W1.heap.size, 0, none⟩ = some (.slice aP n cP) := LO0.out (⟨W1.heap.size, 0, none⟩, .slice aP n cP) (.head _)
  have o1 : X.cell? ⟨W1.heap.size, 1, none⟩ = some (.slice aF n cF) := LO0.out (⟨W1.heap.size, 1, none⟩, .slice aF n cF) (.tail _ (.head _))
  have o2 : X.cell? ⟨W1.heap.size, 2, none⟩ = some (.slice aS n cS) := LO0.out (⟨W1.heap.size, 2, none⟩, .slice aS n cS) (.tail _ (.tail _ (.head _)))
  have o3 : X.cell? ⟨W1.heap.size, 3, none⟩ = some (.int .i64 s.c) := LO0.out (⟨W1.heap.size, 3, none⟩, .int .i64 s.c) (.tail _ (.tail _ (.tail _ (.head _))))
  have o4 : X.cell? ⟨W1.heap.size, 4, none⟩ = some (.int .i64 s.f) := LO0.out (⟨W1.heap.size, 4, none⟩, .int .i64 s.f) (.tail _ (.tail _ (.tail _ (.tail _ (.head _)))))
  have o5 : X.cell? ⟨W1.heap.size, 5, none⟩ = some (.int .i64 s.g) := LO0.out (⟨W1.heap.size, 5, none⟩, .int .i64 s.g) (.tail _ (.tail _ (.tail _ (.tail _ (.tail _ (.head _))))))
  go_wp2_with fail
  refine (CO.out _ B3.out).mono ?_; rintro e X2 ⟨rfl, bx⟩
  clear CO o0 o1 o2 o3 o4 o5
  replace LL0 := hide (LL0.out.below bx)
  replace LO0 := hide (LO0.out.below bx)
  replace R1 := hide (R1.out.kept (Kept.of_below (S := fun _ => False) bx) id)
  replace B3 := hide (B3.out.trans (bx.mono B3.out.size))
  replace S3 := hide (Nat.le_trans S3.out bx.size)
  clear bx
  have o0 : X2.cell? ⟨W1.heap.size, 0, none⟩ = some (.slice aP n cP) := LO0.out (⟨W1.heap.size, 0, none⟩, .slice aP n cP) (.head _)
  have o1 : X2.cell? ⟨W1.heap.size, 1, none⟩ = some (.slice aF n cF) := LO0.out (⟨W1.heap.size, 1, none⟩, .slice aF n cF) (.tail _ (.head _))
  have o2 : X2.cell? ⟨W1.heap.size, 2, none⟩ = some (.slice aS n cS) := LO0.out (⟨W1.heap.size, 2, none⟩, .slice aS n cS) (.tail _ (.tail _ (.head _)))
  have o3 : X2.cell? ⟨W1.heap.size, 3, none⟩ = some (.int .i64 s.c) := LO0.out (⟨W1.heap.size, 3, none⟩, .int .i64 s.c) (.tail _ (.tail _ (.tail _ (.head _))))
  have o4 : X2.cell? ⟨W1.heap.size, 4, none⟩ = some (.int .i64 s.f) := LO0.out (⟨W1.heap.size, 4, none⟩, .int .i64 s.f) (.tail _ (.tail _ (.tail _ (.tail _ (.head _)))))
  have o5 : X2.cell? ⟨W1.heap.size, 5, none⟩ = some (.int .i64 s.g) := LO0.out (⟨W1.heap.size, 5, none⟩, .int .i64 s.g) (.tail _ (.tail _ (.tail _ (.tail _ (.tail _ (.head _))))))
  obtain ⟨T0, hT0⟩ : ∃ T0, X2.setCell ⟨W2.heap.size, 0, none⟩ (.slice none 0 0) = T0 := ⟨_, rfl⟩
  have RT0 := hide (hT0 ▸ R1.out.set 0 (.slice none 0 0) (by omega) : C6 T0 W2.heap.size _)
  have eT0 : X2.cell? ⟨W2.heap.size, 0, none⟩ = some (.slice none 0 0) := R1.out.c 0 (by omega)
  have fT0 := R1.out.f 0
  have kT0 : Kept (· = W2.heap.size) X2 T0 := hT0 ▸ Kept.setCell X2 ⟨W2.heap.size, 0, none⟩ _
  have BT0 := hide (hT0 ▸ B3.out.setCell (p := ⟨W2.heap.size, 0, none⟩) (by have := Y.out; show w.heap.size ≤ W2.heap.size; omega) _ : Below w.heap.size w T0)
  obtain ⟨T1, hT1⟩ : ∃ T1, T0.setCell ⟨W2.heap.size, 1, none⟩ (.slice none 0 0) = T1 := ⟨_, rfl⟩
  have RT1 := hide (hT1 ▸ RT0.out.set 1 (.slice none 0 0) (by omega) : C6 T1 W2.heap.size _)
  have eT1 : T0.cell? ⟨W2.heap.size, 1, none⟩ = some (.slice none 0 0) := RT0.out.c 1 (by omega)
  have fT1 := RT0.out.f 1
  have kT1 : Kept (· = W2.heap.size) T0 T1 := hT1 ▸ Kept.setCell T0 ⟨W2.heap.size, 1, none⟩ _
  have BT1 := hide (hT1 ▸ BT0.out.setCell (p := ⟨W2.heap.size, 1, none⟩) (by have := Y.out; show w.heap.size ≤ W2.heap.size; omega) _ : Below w.heap.size w T1)
  obtain ⟨T2, hT2⟩ : ∃ T2, T1.setCell ⟨W2.heap.size, 2, none⟩ (.slice none 0 0) = T2 := ⟨_, rfl⟩
  have RT2 := hide (hT2 ▸ RT1.out.set 2 (.slice none 0 0) (by omega) : C6 T2 W2.heap.size _)
  have eT2 : T1.cell? ⟨W2.heap.size, 2, none⟩ = some (.slice none 0 0) := RT1.out.c 2 (by omega)
  have fT2 := RT1.out.f 2
  have kT2 : Kept (· = W2.heap.size) T1 T2 := hT2 ▸ Kept.setCell T1 ⟨W2.heap.size, 2, none⟩ _
  have BT2 := hide (hT2 ▸ BT1.out.setCell (p := ⟨W2.heap.size, 2, none⟩) (by have := Y.out; show w.heap.size ≤ W2.heap.size; omega) _ : Below w.heap.size w T2)
  obtain ⟨T3, hT3⟩ : ∃ T3, T2.setCell ⟨W2.heap.size, 3, none⟩ (.int .i64 0) = T3 := ⟨_, rfl⟩
  have RT3 := hide (hT3 ▸ RT2.out.set 3 (.int .i64 0) (by omega) : C6 T3 W2.heap.size _)
  have eT3 : T2.cell? ⟨W2.heap.size, 3, none⟩ = some (.int .i64 0) := RT2.out.c 3 (by omega)
  have fT3 := RT2.out.f 3
  have kT3 : Kept (· = W2.heap.size) T2 T3 := hT3 ▸ Kept.setCell T2 ⟨W2.heap.size, 3, none⟩ _
  have BT3 := hide (hT3 ▸ BT2.out.setCell (p := ⟨W2.heap.size, 3, none⟩) (by have := Y.out; show w.heap.size ≤ W2.heap.size; omega) _ : Below w.heap.size w T3)
  obtain ⟨T4, hT4⟩ : ∃ T4, T3.setCell ⟨W2.heap.size, 4, none⟩ (.int .i64 0) = T4 := ⟨_, rfl⟩
  have RT4 := hide (hT4 ▸ RT3.out.set 4 (.int .i64 0) (by omega) : C6 T4 W2.heap.size _)
  have eT4 : T3.cell? ⟨W2.heap.size, 4, none⟩ = some (.int .i64 0) := RT3.out.c 4 (by omega)
  have fT4 := RT3.out.f 4
  have kT4 : Kept (· = W2.heap.size) T3 T4 := hT4 ▸ Kept.setCell T3 ⟨W2.heap.size, 4, none⟩ _
  have BT4 := hide (hT4 ▸ BT3.out.setCell (p := ⟨W2.heap.size, 4, none⟩) (by have := Y.out; show w.heap.size ≤ W2.heap.size; omega) _ : Below w.heap.size w T4)
  obtain ⟨T5, hT5⟩ : ∃ T5, T4.setCell ⟨W2.heap.size, 5, none⟩ (.int .i64 0) = T5 := ⟨_, rfl⟩
  have RT5 := hide (hT5 ▸ RT4.out.set 5 (.int .i64 0) (by omega) : C6 T5 W2.heap.size _)
  have eT5 : T4.cell? ⟨W2.heap.size, 5, none⟩ = some (.int .i64 0) := RT4.out.c 5 (by omega)
  have fT5 := RT4.out.f 5
  have kT5 : Kept (· = W2.heap.size) T4 T5 := hT5 ▸ Kept.setCell T4 ⟨W2.heap.size, 5, none⟩ _
  have BT5 := hide (hT5 ▸ BT4.out.setCell (p := ⟨W2.heap.size, 5, none⟩) (by have := Y.out; show w.heap.size ≤ W2.heap.size; omega) _ : Below w.heap.size w T5)
  have kk := hide (((((kT0.trans kT1).trans kT2).trans kT3).trans kT4).trans kT5)
  have r0 : T5.cell? ⟨W2.heap.size, 0, none⟩ = some (.slice none 0 0) := RT5.out.c 0 (by omega)
  have r1 : T5.cell? ⟨W2.heap.size, 1, none⟩ = some (.slice none 0 0) := RT5.out.c 1 (by omega)
  have r2 : T5.cell? ⟨W2.heap.size, 2, none⟩ = some (.slice none 0 0) := RT5.out.c 2 (by omega)
  have r3 : T5.cell? ⟨W2.heap.size, 3, none⟩ = some (.int .i64 0) := RT5.out.c 3 (by omega)
  have r4 : T5.cell? ⟨W2.heap.size, 4, none⟩ = some (.int .i64 0) := RT5.out.c 4 (by omega)
  have r5 : T5.cell? ⟨W2.heap.size, 5, none⟩ = some (.int .i64 0) := RT5.out.c 5 (by omega)
  clear kT0 kT1 kT2 kT3 kT4 kT5
  by_cases hc : s.c = 1000000
  · have q1 : (s.c == 1000000) = true := beq_iff_eq.2 hc
    clear hc HN
    go_wp2_with fail
    exact bodyPost_ret (v := .tuple #[ZOpt, .bool false]) (by simp [results, Try.results14, go_sem, r0, r1, r2, r3, r4, r5, ZOpt]) rfl ⟨rfl, BT5.out⟩
  · have q1 : (s.c == 1000000) = false := beq_eq_false_iff_ne.2 hc
    have q2 : ((r : Int) == (n : Int)) = false := beq_eq_false_iff_ne.2 (by have := HN.out; omega)
    clear hc HN
    go_wp2_with fail
    exact bodyPost_ret (v := .tuple #[ZOpt, .bool false]) (by simp [results, Try.results14, go_sem, r0, r1, r2, r3, r4, r5, ZOpt]) rfl ⟨rfl, BT5.out⟩
end Vo
end Go.Proofs.Ytflbhlepmjiejaa
