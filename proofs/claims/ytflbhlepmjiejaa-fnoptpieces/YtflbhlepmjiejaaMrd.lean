/- Lemmas for the proof of the law. -/
import Derived.Test.YtflbhlepmjiejaaMrb
/- StepOpt of the program (written by tools/genoz.py). -/
namespace Go.Proofs.Ytflbhlepmjiejaa
namespace Vo
open Go.ChangeShapes Go.WideShapes Go.ChangeAt Go.RowKit Go.Joins Go.Sort
open Vl
set_option linter.unusedVariables false
set_option linter.unusedSimpArgs false
/-- one step asked for: there is one, or none -/
def StepR (n : Nat) (no : Prop) (S : St) (w : World) (e : Ending) (w' : World) : Prop :=
  (no ∧ e = .returned (.tuple #[ZOpt, .bool false]) ∧ Below w.heap.size w w') ∨
  (¬ no ∧ ∃ (p f q : Option Addr) (c d g : Nat), e = .returned (.tuple #[.agg #[.slice p n c, .slice f n d, .slice q n g, .int .i64 S.c, .int .i64 S.f, .int .i64 S.g], .bool true]) ∧ (OwnL w.heap.size w' p n S.P ∧ OwnL w.heap.size w' f n S.F ∧ OwnL w.heap.size w' q n S.S) ∧ (Bhd p f n ∧ Bhd f q n) ∧ Below w.heap.size w w')
set_option maxHeartbeats 4000000 in
theorem stepOptYes (R : Rl) (n r cP cF cS cl : Nat) (s : St) (aP aF aS a : Option Addr) (Gr : Nat → Int) (w : World) (h1 : Ints w.heap.size w aP n s.P) (h2 : Ints w.heap.size w aF n s.F) (h3 : Ints w.heap.size w aS n s.S) (z1 : aP = none → n = 0 ∧ cP = 0) (z2 : aF = none → n = 0 ∧ cF = 0) (z3 : aS = none → n = 0 ∧ cS = 0) (hb : bd s.c ∧ bd s.f ∧ bd s.g) (hRb : R.bds) (hs : s.ok n) (hR : R.okB = true) (hI : Ints w.heap.size w a r Gr) (hr : (r : Int) ≤ 1048576) (U : Int → Int) (GG : Int → (Nat → Int) → Nat → Int) (hU : ∀ t, 0 ≤ t → t < 1000000 → (0 ≤ U t ∧ U t ≤ 16777216) ∧ ∀ w, Calls Try.prog 63 #[.agg #[.int .i64 R.r1, .int .i64 R.r2, .int .i64 R.r3, .int .i64 R.r4], .int .i64 t] w fun e w' => e = .returned (.int .i64 (U t)) ∧ Below w.heap.size w w') (hG : ∀ f Gr, fac f = true → ib (-16777216) 16777216 n Gr = true → (∀ j, j < n → -16777216 ≤ GG f Gr j ∧ GG f Gr j ≤ 16777216) ∧ ∀ w a cap, Ints w.heap.size w a n Gr → Calls Try.prog 65 #[.agg #[.int .i64 R.d, .int .i64 R.r1, .int .i64 R.r2, .int .i64 R.r3, .int .i64 R.r4, .int .i64 R.k, .int .i64 R.z, .int .i64 R.o, .int .i64 R.y, .int .i64 R.mo, .int .i64 R.gr], .slice a n cap, .int .i64 f] w (ListR n (GG f Gr) w)) :
    Calls Try.prog 13 #[.agg #[.int .i64 R.d, .int .i64 R.r1, .int .i64 R.r2, .int .i64 R.r3, .int .i64 R.r4, .int .i64 R.k, .int .i64 R.z, .int .i64 R.o, .int .i64 R.y, .int .i64 R.mo, .int .i64 R.gr], .agg #[.slice aP n cP, .slice aF n cF, .slice aS n cS, .int .i64 s.c, .int .i64 s.f, .int .i64 s.g], .slice a r cl] w (StepR n (s.c = 1000000 ∨ r ≠ n) (s.next R n (U s.c) (GG s.f Gr) Gr) w) := by
  obtain ⟨W1, hW1⟩ : ∃ W1, w.alloc (.cells #[.int .i64 R.d, .int .i64 R.r1, .int .i64 R.r2, .int .i64 R.r3, .int .i64 R.r4, .int .i64 R.k, .int .i64 R.z, .int .i64 R.o, .int .i64 R.y, .int .i64 R.mo, .int .i64 R.gr] 27) = W1 := ⟨_, rfl⟩
  have nw1 : Below w.heap.size w W1 := hW1 ▸ (Below.refl _ _).alloc (Nat.le_refl _) _
  have y1 : w.heap.size < W1.heap.size := by rw [← hW1]; simp
  obtain ⟨W2, hW2⟩ : ∃ W2, W1.alloc (.cells #[.slice aP n cP, .slice aF n cF, .slice aS n cS, .int .i64 s.c, .int .i64 s.f, .int .i64 s.g] 30) = W2 := ⟨_, rfl⟩
  have nw2 : Below W1.heap.size W1 W2 := hW2 ▸ (Below.refl _ _).alloc (Nat.le_refl _) _
  have y2 : W1.heap.size < W2.heap.size := by rw [← hW2]; simp
  obtain ⟨W3, hW3⟩ : ∃ W3, W2.alloc (.cells #[.slice none 0 0, .slice none 0 0, .slice none 0 0, .int .i64 0, .int .i64 0, .int .i64 0] 30) = W3 := ⟨_, rfl⟩
  have nw3 : Below W2.heap.size W2 W3 := hW3 ▸ (Below.refl _ _).alloc (Nat.le_refl _) _
  have y3 : W2.heap.size < W3.heap.size := by rw [← hW3]; simp
  have LL0 := hide (show Lis [(⟨w.heap.size, 0, none⟩, .int .i64 R.d), (⟨w.heap.size, 1, none⟩, .int .i64 R.r1), (⟨w.heap.size, 2, none⟩, .int .i64 R.r2), (⟨w.heap.size, 3, none⟩, .int .i64 R.r3), (⟨w.heap.size, 4, none⟩, .int .i64 R.r4), (⟨w.heap.size, 5, none⟩, .int .i64 R.k), (⟨w.heap.size, 6, none⟩, .int .i64 R.z), (⟨w.heap.size, 7, none⟩, .int .i64 R.o), (⟨w.heap.size, 8, none⟩, .int .i64 R.y), (⟨w.heap.size, 9, none⟩, .int .i64 R.mo), (⟨w.heap.size, 10, none⟩, .int .i64 R.gr)] W3 from ((show Lis [(⟨w.heap.size, 0, none⟩, .int .i64 R.d), (⟨w.heap.size, 1, none⟩, .int .i64 R.r1), (⟨w.heap.size, 2, none⟩, .int .i64 R.r2), (⟨w.heap.size, 3, none⟩, .int .i64 R.r3), (⟨w.heap.size, 4, none⟩, .int .i64 R.r4), (⟨w.heap.size, 5, none⟩, .int .i64 R.k), (⟨w.heap.size, 6, none⟩, .int .i64 R.z), (⟨w.heap.size, 7, none⟩, .int .i64 R.o), (⟨w.heap.size, 8, none⟩, .int .i64 R.y), (⟨w.heap.size, 9, none⟩, .int .i64 R.mo), (⟨w.heap.size, 10, none⟩, .int .i64 R.gr)] W1 from fun x hx => by
      simp only [List.mem_cons, List.not_mem_nil, or_false] at hx
      rcases hx with rfl | rfl | rfl | rfl | rfl | rfl | rfl | rfl | rfl | rfl | rfl <;> (rw [← hW1]; simp [go_sem])).below nw2).below nw3)
  have LO0 := hide (show Lis [(⟨W1.heap.size, 0, none⟩, .slice aP n cP), (⟨W1.heap.size, 1, none⟩, .slice aF n cF), (⟨W1.heap.size, 2, none⟩, .slice aS n cS), (⟨W1.heap.size, 3, none⟩, .int .i64 s.c), (⟨W1.heap.size, 4, none⟩, .int .i64 s.f), (⟨W1.heap.size, 5, none⟩, .int .i64 s.g)] W3 from (show Lis [(⟨W1.heap.size, 0, none⟩, .slice aP n cP), (⟨W1.heap.size, 1, none⟩, .slice aF n cF), (⟨W1.heap.size, 2, none⟩, .slice aS n cS), (⟨W1.heap.size, 3, none⟩, .int .i64 s.c), (⟨W1.heap.size, 4, none⟩, .int .i64 s.f), (⟨W1.heap.size, 5, none⟩, .int .i64 s.g)] W2 from fun x hx => by
      simp only [List.mem_cons, List.not_mem_nil, or_false] at hx
      rcases hx with rfl | rfl | rfl | rfl | rfl | rfl <;> (rw [← hW2]; simp [go_sem])).below nw3)
  have R1 := hide (show C6 W3 W2.heap.size (OV none none none 0 0 0 0 0 0 0) from ⟨fun i hi => by rcases (by omega : i = 0 ∨ i = 1 ∨ i = 2 ∨ i = 3 ∨ i = 4 ∨ i = 5) with rfl | rfl | rfl | rfl | rfl | rfl <;> (rw [← hW3]; simp [go_sem, OV]), fun i => by rw [← hW3]; simp [go_sem], y3⟩)
  have B3 := hide ((nw1.trans (nw2.mono nw1.size)).trans (nw3.mono (Nat.le_trans nw1.size nw2.size)))
  have Y := hide (And.intro y1 (And.intro y2 y3))
  clear nw1 nw2 nw3 y1 y2 y3
  have n4 : (n : Int) ≤ 4096 := hs.1
  have S3 := hide (Nat.le_refl W3.heap.size)
  have hyes : ook n n n s.P s.F s.S s.c s.f s.g = true := decide_eq_true hs
  have CO := hide (implOpt aP aF aS n n n cP cF cS s.P s.F s.S s.c s.f s.g W3 ((h1.below B3.out).mono B3.out.size) ((h2.below B3.out).mono B3.out.size) ((h3.below B3.out).mono B3.out.size) (by omega) hb.1 hb.2.1 hb.2.2 (by omega) (by omega))
  rw [hyes] at CO
  have H1 := hide h1
  have H2 := hide h2
  have H3 := hide h3
  have E1 := hide z1
  have E2 := hide z2
  have E3 := hide z3
  have CRu := hide (fun w => implRule R.d R.r1 R.r2 R.r3 R.r4 R.k R.z R.o R.y R.mo R.gr w hRb.1.1 hRb.1.2.1 hRb.1.2.2.1 hRb.1.2.2.2.1 hRb.1.2.2.2.2 hRb.2.1 hRb.2.2.1 hRb.2.2.2.1 hRb.2.2.2.2.1 hRb.2.2.2.2.2.1 hRb.2.2.2.2.2.2)
  have hR' : rulOk R.d R.r1 R.r2 R.r3 R.r4 R.k R.z R.o R.y R.mo R.gr = true := hR
  rw [hR'] at CRu
  have HI := hide hI
  have HRR := hide (show R.ok from hR)
  have HS := hide hs
  have HU := hide hU
  have HG := hide hG
  clear z1 z2 z3 hRb hs hR hR' hI hU hG CO
  have CO := hide (fun X (bX : Below w.heap.size w X) => implOpt aP aF aS n n n cP cF cS s.P s.F s.S s.c s.f s.g X ((H1.out.below bX).mono bX.size) ((H2.out.below bX).mono bX.size) ((H3.out.below bX).mono bX.size) (by omega) hb.1 hb.2.1 hb.2.2 (by omega) (by omega))
  rw [hyes] at CO
  clear h1 h2 h3 hb hyes
  have l0 : W3.cell? ⟨w.heap.size, 0, none⟩ = some (.int .i64 R.d) := LL0.out (⟨w.heap.size, 0, none⟩, .int .i64 R.d) (.head _)
  have l1 : W3.cell? ⟨w.heap.size, 1, none⟩ = some (.int .i64 R.r1) := LL0.out (⟨w.heap.size, 1, none⟩, .int .i64 R.r1) (.tail _ (.head _))
  have l2 : W3.cell? ⟨w.heap.size, 2, none⟩ = some (.int .i64 R.r2) := LL0.out (⟨w.heap.size, 2, none⟩, .int .i64 R.r2) (.tail _ (.tail _ (.head _)))
  have l3 : W3.cell? ⟨w.heap.size, 3, none⟩ = some (.int .i64 R.r3) := LL0.out (⟨w.heap.size, 3, none⟩, .int .i64 R.r3) (.tail _ (.tail _ (.tail _ (.head _))))
  have l4 : W3.cell? ⟨w.heap.size, 4, none⟩ = some (.int .i64 R.r4) := LL0.out (⟨w.heap.size, 4, none⟩, .int .i64 R.r4) (.tail _ (.tail _ (.tail _ (.tail _ (.head _)))))
  have l5 : W3.cell? ⟨w.heap.size, 5, none⟩ = some (.int .i64 R.k) := LL0.out (⟨w.heap.size, 5, none⟩, .int .i64 R.k) (.tail _ (.tail _ (.tail _ (.tail _ (.tail _ (.head _))))))
  have l6 : W3.cell? ⟨w.heap.size, 6, none⟩ = some (.int .i64 R.z) := LL0.out (⟨w.heap.size, 6, none⟩, .int .i64 R.z) (.tail _ (.tail _ (.tail _ (.tail _ (.tail _ (.tail _ (.head _)))))))
  have l7 : W3.cell? ⟨w.heap.size, 7, none⟩ = some (.int .i64 R.o) := LL0.out (⟨w.heap.size, 7, none⟩, .int .i64 R.o) (.tail _ (.tail _ (.tail _ (.tail _ (.tail _ (.tail _ (.tail _ (.head _))))))))
  have l8 : W3.cell? ⟨w.heap.size, 8, none⟩ = some (.int .i64 R.y) := LL0.out (⟨w.heap.size, 8, none⟩, .int .i64 R.y) (.tail _ (.tail _ (.tail _ (.tail _ (.tail _ (.tail _ (.tail _ (.tail _ (.head _)))))))))
  have l9 : W3.cell? ⟨w.heap.size, 9, none⟩ = some (.int .i64 R.mo) := LL0.out (⟨w.heap.size, 9, none⟩, .int .i64 R.mo) (.tail _ (.tail _ (.tail _ (.tail _ (.tail _ (.tail _ (.tail _ (.tail _ (.tail _ (.head _))))))))))
  have l10 : W3.cell? ⟨w.heap.size, 10, none⟩ = some (.int .i64 R.gr) := LL0.out (⟨w.heap.size, 10, none⟩, .int .i64 R.gr) (.tail _ (.tail _ (.tail _ (.tail _ (.tail _ (.tail _ (.tail _ (.tail _ (.tail _ (.tail _ (.head _)))))))))))
  go_enter Try.func13, Try.ntmps13
  go_wp2_with fail
  refine (CRu.out _).mono ?_; rintro e X ⟨rfl, bx⟩
  clear hW1 hW2 hW3 CRu l0 l1 l2 l3 l4 l5 l6 l7 l8 l9 l10
  replace LL0 := hide (LL0.out.below bx)
  replace LO0 := hide (LO0.out.below bx)
  replace R1 := hide (R1.out.kept (Kept.of_below (S := fun _ => False) bx) id)
  replace B3 := hide (B3.out.trans (bx.mono B3.out.size))
  replace S3 := hide (Nat.le_trans S3.out bx.size)
  clear bx
  have o0 : X.cell? ⟨W1.heap.size, 0, none⟩ = some (.slice aP n cP) := LO0.out (⟨W1.heap.size, 0, none⟩, .slice aP n cP) (.head _)
  have o1 : X.cell? ⟨W1.heap.size, 1, none⟩ = some (.slice aF n cF) := LO0.out (⟨W1.heap.size, 1, none⟩, .slice aF n cF) (.tail _ (.head _))
  have o2 : X.cell? ⟨W1.heap.size, 2, none⟩ = some (.slice aS n cS) := LO0.out (⟨W1.heap.size, 2, none⟩, .slice aS n cS) (.tail _ (.tail _ (.head _)))
  have o3 : X.cell? ⟨W1.heap.size, 3, none⟩ = some (.int .i64 s.c) := LO0.out (⟨W1.heap.size, 3, none⟩, .int .i64 s.c) (.tail _ (.tail _ (.tail _ (.head _))))
  have o4 : X.cell? ⟨W1.heap.size, 4, none⟩ = some (.int .i64 s.f) := LO0.out (⟨W1.heap.size, 4, none⟩, .int .i64 s.f) (.tail _ (.tail _ (.tail _ (.tail _ (.head _)))))
  have o5 : X.cell? ⟨W1.heap.size, 5, none⟩ = some (.int .i64 s.g) := LO0.out (⟨W1.heap.size, 5, none⟩, .int .i64 s.g) (.tail _ (.tail _ (.tail _ (.tail _ (.tail _ (.head _))))))
  go_wp2_with fail
  refine (CO.out _ B3.out).mono ?_; rintro e X2 ⟨rfl, bx⟩
  clear CO o0 o1 o2 o3 o4 o5
  replace LL0 := hide (LL0.out.below bx)
  replace LO0 := hide (LO0.out.below bx)
  replace R1 := hide (R1.out.kept (Kept.of_below (S := fun _ => False) bx) id)
  replace B3 := hide (B3.out.trans (bx.mono B3.out.size))
  replace S3 := hide (Nat.le_trans S3.out bx.size)
  clear bx
  obtain ⟨W4, hW4⟩ : ∃ W4, X2.alloc (.cells #[.slice a r cl] 28) = W4 := ⟨_, rfl⟩
  have b4 : Below X2.heap.size X2 W4 := hW4 ▸ (Below.refl _ _).alloc (Nat.le_refl _) _
  have lz4 : W4.cell? ⟨X2.heap.size, 0, none⟩ = some (.slice a r cl) := by rw [← hW4]; simp [go_sem]
  have z4 : X2.heap.size < W4.heap.size := by rw [← hW4]; simp
  have l0 : X2.cell? ⟨w.heap.size, 0, none⟩ = some (.int .i64 R.d) := LL0.out (⟨w.heap.size, 0, none⟩, .int .i64 R.d) (.head _)
  have l1 : X2.cell? ⟨w.heap.size, 1, none⟩ = some (.int .i64 R.r1) := LL0.out (⟨w.heap.size, 1, none⟩, .int .i64 R.r1) (.tail _ (.head _))
  have l2 : X2.cell? ⟨w.heap.size, 2, none⟩ = some (.int .i64 R.r2) := LL0.out (⟨w.heap.size, 2, none⟩, .int .i64 R.r2) (.tail _ (.tail _ (.head _)))
  have l3 : X2.cell? ⟨w.heap.size, 3, none⟩ = some (.int .i64 R.r3) := LL0.out (⟨w.heap.size, 3, none⟩, .int .i64 R.r3) (.tail _ (.tail _ (.tail _ (.head _))))
  have l4 : X2.cell? ⟨w.heap.size, 4, none⟩ = some (.int .i64 R.r4) := LL0.out (⟨w.heap.size, 4, none⟩, .int .i64 R.r4) (.tail _ (.tail _ (.tail _ (.tail _ (.head _)))))
  have l5 : X2.cell? ⟨w.heap.size, 5, none⟩ = some (.int .i64 R.k) := LL0.out (⟨w.heap.size, 5, none⟩, .int .i64 R.k) (.tail _ (.tail _ (.tail _ (.tail _ (.tail _ (.head _))))))
  have l6 : X2.cell? ⟨w.heap.size, 6, none⟩ = some (.int .i64 R.z) := LL0.out (⟨w.heap.size, 6, none⟩, .int .i64 R.z) (.tail _ (.tail _ (.tail _ (.tail _ (.tail _ (.tail _ (.head _)))))))
  have l7 : X2.cell? ⟨w.heap.size, 7, none⟩ = some (.int .i64 R.o) := LL0.out (⟨w.heap.size, 7, none⟩, .int .i64 R.o) (.tail _ (.tail _ (.tail _ (.tail _ (.tail _ (.tail _ (.tail _ (.head _))))))))
  have l8 : X2.cell? ⟨w.heap.size, 8, none⟩ = some (.int .i64 R.y) := LL0.out (⟨w.heap.size, 8, none⟩, .int .i64 R.y) (.tail _ (.tail _ (.tail _ (.tail _ (.tail _ (.tail _ (.tail _ (.tail _ (.head _)))))))))
  have l9 : X2.cell? ⟨w.heap.size, 9, none⟩ = some (.int .i64 R.mo) := LL0.out (⟨w.heap.size, 9, none⟩, .int .i64 R.mo) (.tail _ (.tail _ (.tail _ (.tail _ (.tail _ (.tail _ (.tail _ (.tail _ (.tail _ (.head _))))))))))
  have l10 : X2.cell? ⟨w.heap.size, 10, none⟩ = some (.int .i64 R.gr) := LL0.out (⟨w.heap.size, 10, none⟩, .int .i64 R.gr) (.tail _ (.tail _ (.tail _ (.tail _ (.tail _ (.tail _ (.tail _ (.tail _ (.tail _ (.tail _ (.head _)))))))))))
  have o0 : X2.cell? ⟨W1.heap.size, 0, none⟩ = some (.slice aP n cP) := LO0.out (⟨W1.heap.size, 0, none⟩, .slice aP n cP) (.head _)
  have o1 : X2.cell? ⟨W1.heap.size, 1, none⟩ = some (.slice aF n cF) := LO0.out (⟨W1.heap.size, 1, none⟩, .slice aF n cF) (.tail _ (.head _))
  have o2 : X2.cell? ⟨W1.heap.size, 2, none⟩ = some (.slice aS n cS) := LO0.out (⟨W1.heap.size, 2, none⟩, .slice aS n cS) (.tail _ (.tail _ (.head _)))
  have o3 : X2.cell? ⟨W1.heap.size, 3, none⟩ = some (.int .i64 s.c) := LO0.out (⟨W1.heap.size, 3, none⟩, .int .i64 s.c) (.tail _ (.tail _ (.tail _ (.head _))))
  have o4 : X2.cell? ⟨W1.heap.size, 4, none⟩ = some (.int .i64 s.f) := LO0.out (⟨W1.heap.size, 4, none⟩, .int .i64 s.f) (.tail _ (.tail _ (.tail _ (.tail _ (.head _)))))
  have o5 : X2.cell? ⟨W1.heap.size, 5, none⟩ = some (.int .i64 s.g) := LO0.out (⟨W1.heap.size, 5, none⟩, .int .i64 s.g) (.tail _ (.tail _ (.tail _ (.tail _ (.tail _ (.head _))))))
  have B4 := hide (B3.out.trans (b4.mono B3.out.size))
  have IL := hide ((HI.out.below B4.out).mono B4.out.size)
  have HL : LL W4.heap.size W4 (some ⟨X2.heap.size, 0, none⟩) 1 (fun _ => ⟨a, r, cl, Gr⟩) := .inr ⟨_, _, rfl, z4, fun i hi => by
      obtain rfl : i = 0 := by omega
      exact ⟨lz4, IL.out⟩⟩
  have CC := hide (runI R HRR.out n 1 cP cF cS 1 s HS.out aP aF aS (some ⟨X2.heap.size, 0, none⟩) (fun _ => ⟨a, r, cl, Gr⟩) U GG W4 ((H1.out.below B4.out).mono B4.out.size) ((H2.out.below B4.out).mono B4.out.size) ((H3.out.below B4.out).mono B4.out.size) (wk E1.out) (wk E2.out) (wk E3.out) HL (by omega) HU.out HG.out)
  have SB := hide b4
  clear HL lz4 z4 b4
  go_wp2_with fail
  refine CC.out.mono ?_; rintro e X3 ⟨k, p, f, q, c, d, g, hk, rfl, ⟨q1, q2, q3⟩, hap, hok, bx⟩
  clear hW4 CC o0 o1 o2 o3 o4 o5 l0 l1 l2 l3 l4 l5 l6 l7 l8 l9 l10
  have HK := hide hk
  have AP := hide hap
  have QP := hide q1
  have QF := hide q2
  have QS := hide q3
  have SX := hide (Nat.le_trans S3.out SB.out.size)
  clear q1 q2 q3 hap hk hok
  replace LL0 := hide (LL0.out.below SB.out)
  replace LO0 := hide (LO0.out.below SB.out)
  replace R1 := hide (R1.out.kept (Kept.of_below (S := fun _ => False) SB.out) id)
  replace B3 := hide (B3.out.trans (SB.out.mono B3.out.size))
  replace S3 := hide (Nat.le_trans S3.out SB.out.size)
  replace LL0 := hide (LL0.out.below bx)
  replace LO0 := hide (LO0.out.below bx)
  replace R1 := hide (R1.out.kept (Kept.of_below (S := fun _ => False) bx) id)
  replace B3 := hide (B3.out.trans (bx.mono B3.out.size))
  replace S3 := hide (Nat.le_trans S3.out bx.size)
  clear bx SB
  obtain ⟨cc, hcc⟩ : ∃ cc, ((sq R n U GG (fun _ => ⟨a, r, cl, Gr⟩) s) k).c = cc := ⟨_, rfl⟩
  obtain ⟨ff, hff⟩ : ∃ ff, ((sq R n U GG (fun _ => ⟨a, r, cl, Gr⟩) s) k).f = ff := ⟨_, rfl⟩
  obtain ⟨gg, hgg⟩ : ∃ gg, ((sq R n U GG (fun _ => ⟨a, r, cl, Gr⟩) s) k).g = gg := ⟨_, rfl⟩
  rw [hcc, hff, hgg]
  have EC := hide (And.intro hcc (And.intro hff hgg))
  clear hcc hff hgg
  obtain ⟨W6, hW6⟩ : ∃ W6, X3.alloc (.cells #[.slice p n c, .slice f n d, .slice q n g, .int .i64 cc, .int .i64 ff, .int .i64 gg] 30) = W6 := ⟨_, rfl⟩
  have b6 : Below X3.heap.size X3 W6 := hW6 ▸ (Below.refl _ _).alloc (Nat.le_refl _) _
  have m0 : W6.cell? ⟨X3.heap.size, 0, none⟩ = some (.slice p n c) := by rw [← hW6]; simp [go_sem]
  have m1 : W6.cell? ⟨X3.heap.size, 1, none⟩ = some (.slice f n d) := by rw [← hW6]; simp [go_sem]
  have m2 : W6.cell? ⟨X3.heap.size, 2, none⟩ = some (.slice q n g) := by rw [← hW6]; simp [go_sem]
  have m3 : W6.cell? ⟨X3.heap.size, 3, none⟩ = some (.int .i64 cc) := by rw [← hW6]; simp [go_sem]
  have m4 : W6.cell? ⟨X3.heap.size, 4, none⟩ = some (.int .i64 ff) := by rw [← hW6]; simp [go_sem]
  have m5 : W6.cell? ⟨X3.heap.size, 5, none⟩ = some (.int .i64 gg) := by rw [← hW6]; simp [go_sem]
  replace QP := hide (QP.out.below b6)
  replace QF := hide (QF.out.below b6)
  replace QS := hide (QS.out.below b6)
  have ZV := hide (show W2.heap.size < X3.heap.size from Nat.lt_of_lt_of_le Y.out.2.2 S3.out)
  replace LL0 := hide (LL0.out.below b6)
  replace LO0 := hide (LO0.out.below b6)
  replace R1 := hide (R1.out.kept (Kept.of_below (S := fun _ => False) b6) id)
  replace B3 := hide (B3.out.trans (b6.mono B3.out.size))
  replace S3 := hide (Nat.le_trans S3.out b6.size)
  clear b6
  obtain ⟨hk1, hk2, hk3⟩ := HK.out
  by_cases k0 : k = 0
  · subst k0
    have X0 := hide (show s.c = 1000000 ∨ r ≠ n from by
      rcases hk3 with h | h
      · omega
      · exact h)
    clear hk1 hk2 hk3
    obtain ⟨T0, hT0⟩ : ∃ T0, W6.setCell ⟨W2.heap.size, 0, none⟩ (.slice none 0 0) = T0 := ⟨_, rfl⟩
    have RT0 := hide (hT0 ▸ R1.out.set 0 (.slice none 0 0) (by omega) : C6 T0 W2.heap.size _)
    have eT0 : W6.cell? ⟨W2.heap.size, 0, none⟩ = some (.slice none 0 0) := R1.out.c 0 (by omega)
    have fT0 := R1.out.f 0
    have kT0 : Kept (· = W2.heap.size) W6 T0 := hT0 ▸ Kept.setCell W6 ⟨W2.heap.size, 0, none⟩ _
    have BT0 := hide (hT0 ▸ B3.out.setCell (p := ⟨W2.heap.size, 0, none⟩) (by have := Y.out; show w.heap.size ≤ W2.heap.size; omega) _ : Below w.heap.size w T0)
    obtain ⟨T1, hT1⟩ : ∃ T1, T0.setCell ⟨W2.heap.size, 1, none⟩ (.slice none 0 0) = T1 := ⟨_, rfl⟩
    have RT1 := hide (hT1 ▸ RT0.out.set 1 (.slice none 0 0) (by omega) : C6 T1 W2.heap.size _)
    have eT1 : T0.cell? ⟨W2.heap.size, 1, none⟩ = some (.slice none 0 0) := RT0.out.c 1 (by omega)
    have fT1 := RT0.out.f 1
    have kT1 : Kept (· = W2.heap.size) T0 T1 := hT1 ▸ Kept.setCell T0 ⟨W2.heap.size, 1, none⟩ _
    have BT1 := hide (hT1 ▸ BT0.out.setCell (p := ⟨W2.heap.size, 1, none⟩) (by have := Y.out; show w.heap.size ≤ W2.heap.size; omega) _ : Below w.heap.size w T1)
    obtain ⟨T2, hT2⟩ : ∃ T2, T1.setCell ⟨W2.heap.size, 2, none⟩ (.slice none 0 0) = T2 := ⟨_, rfl⟩
    have RT2 := hide (hT2 ▸ RT1.out.set 2 (.slice none 0 0) (by omega) : C6 T2 W2.heap.size _)
    have eT2 : T1.cell? ⟨W2.heap.size, 2, none⟩ = some (.slice none 0 0) := RT1.out.c 2 (by omega)
    have fT2 := RT1.out.f 2
    have kT2 : Kept (· = W2.heap.size) T1 T2 := hT2 ▸ Kept.setCell T1 ⟨W2.heap.size, 2, none⟩ _
    have BT2 := hide (hT2 ▸ BT1.out.setCell (p := ⟨W2.heap.size, 2, none⟩) (by have := Y.out; show w.heap.size ≤ W2.heap.size; omega) _ : Below w.heap.size w T2)
    obtain ⟨T3, hT3⟩ : ∃ T3, T2.setCell ⟨W2.heap.size, 3, none⟩ (.int .i64 0) = T3 := ⟨_, rfl⟩
    have RT3 := hide (hT3 ▸ RT2.out.set 3 (.int .i64 0) (by omega) : C6 T3 W2.heap.size _)
    have eT3 : T2.cell? ⟨W2.heap.size, 3, none⟩ = some (.int .i64 0) := RT2.out.c 3 (by omega)
    have fT3 := RT2.out.f 3
    have kT3 : Kept (· = W2.heap.size) T2 T3 := hT3 ▸ Kept.setCell T2 ⟨W2.heap.size, 3, none⟩ _
    have BT3 := hide (hT3 ▸ BT2.out.setCell (p := ⟨W2.heap.size, 3, none⟩) (by have := Y.out; show w.heap.size ≤ W2.heap.size; omega) _ : Below w.heap.size w T3)
    obtain ⟨T4, hT4⟩ : ∃ T4, T3.setCell ⟨W2.heap.size, 4, none⟩ (.int .i64 0) = T4 := ⟨_, rfl⟩
    have RT4 := hide (hT4 ▸ RT3.out.set 4 (.int .i64 0) (by omega) : C6 T4 W2.heap.size _)
    have eT4 : T3.cell? ⟨W2.heap.size, 4, none⟩ = some (.int .i64 0) := RT3.out.c 4 (by omega)
    have fT4 := RT3.out.f 4
    have kT4 : Kept (· = W2.heap.size) T3 T4 := hT4 ▸ Kept.setCell T3 ⟨W2.heap.size, 4, none⟩ _
    have BT4 := hide (hT4 ▸ BT3.out.setCell (p := ⟨W2.heap.size, 4, none⟩) (by have := Y.out; show w.heap.size ≤ W2.heap.size; omega) _ : Below w.heap.size w T4)
    obtain ⟨T5, hT5⟩ : ∃ T5, T4.setCell ⟨W2.heap.size, 5, none⟩ (.int .i64 0) = T5 := ⟨_, rfl⟩
    have RT5 := hide (hT5 ▸ RT4.out.set 5 (.int .i64 0) (by omega) : C6 T5 W2.heap.size _)
    have eT5 : T4.cell? ⟨W2.heap.size, 5, none⟩ = some (.int .i64 0) := RT4.out.c 5 (by omega)
    have fT5 := RT4.out.f 5
    have kT5 : Kept (· = W2.heap.size) T4 T5 := hT5 ▸ Kept.setCell T4 ⟨W2.heap.size, 5, none⟩ _
    have BT5 := hide (hT5 ▸ BT4.out.setCell (p := ⟨W2.heap.size, 5, none⟩) (by have := Y.out; show w.heap.size ≤ W2.heap.size; omega) _ : Below w.heap.size w T5)
    have kk := hide (((((kT0.trans kT1).trans kT2).trans kT3).trans kT4).trans kT5)
    have r0 : T5.cell? ⟨W2.heap.size, 0, none⟩ = some (.slice none 0 0) := RT5.out.c 0 (by omega)
    have r1 : T5.cell? ⟨W2.heap.size, 1, none⟩ = some (.slice none 0 0) := RT5.out.c 1 (by omega)
    have r2 : T5.cell? ⟨W2.heap.size, 2, none⟩ = some (.slice none 0 0) := RT5.out.c 2 (by omega)
    have r3 : T5.cell? ⟨W2.heap.size, 3, none⟩ = some (.int .i64 0) := RT5.out.c 3 (by omega)
    have r4 : T5.cell? ⟨W2.heap.size, 4, none⟩ = some (.int .i64 0) := RT5.out.c 4 (by omega)
    have r5 : T5.cell? ⟨W2.heap.size, 5, none⟩ = some (.int .i64 0) := RT5.out.c 5 (by omega)
    clear kT0 kT1 kT2 kT3 kT4 kT5
    skip
    go_wp2_with fail
    exact bodyPost_ret (v := .tuple #[ZOpt, .bool false]) (by simp [results, Try.results13, go_sem, r0, r1, r2, r3, r4, r5, ZOpt]) rfl (.inl ⟨X0.out, rfl, BT5.out⟩)
  · obtain rfl : k = 1 := by omega
    have X1 := hide (show ¬ (s.c = 1000000 ∨ r ≠ n) from hk2 0 (by omega))
    clear hk1 hk2 hk3 k0
    obtain ⟨T0, hT0⟩ : ∃ T0, W6.setCell ⟨W2.heap.size, 0, none⟩ (.slice p n c) = T0 := ⟨_, rfl⟩
    have RT0 := hide (hT0 ▸ R1.out.set 0 (.slice p n c) (by omega) : C6 T0 W2.heap.size _)
    have eT0 : W6.cell? ⟨W2.heap.size, 0, none⟩ = some (.slice none 0 0) := R1.out.c 0 (by omega)
    have fT0 := R1.out.f 0
    have kT0 : Kept (· = W2.heap.size) W6 T0 := hT0 ▸ Kept.setCell W6 ⟨W2.heap.size, 0, none⟩ _
    have BT0 := hide (hT0 ▸ B3.out.setCell (p := ⟨W2.heap.size, 0, none⟩) (by have := Y.out; show w.heap.size ≤ W2.heap.size; omega) _ : Below w.heap.size w T0)
    obtain ⟨T1, hT1⟩ : ∃ T1, T0.setCell ⟨W2.heap.size, 1, none⟩ (.slice f n d) = T1 := ⟨_, rfl⟩
    have RT1 := hide (hT1 ▸ RT0.out.set 1 (.slice f n d) (by omega) : C6 T1 W2.heap.size _)
    have eT1 : T0.cell? ⟨W2.heap.size, 1, none⟩ = some (.slice none 0 0) := RT0.out.c 1 (by omega)
    have fT1 := RT0.out.f 1
    have kT1 : Kept (· = W2.heap.size) T0 T1 := hT1 ▸ Kept.setCell T0 ⟨W2.heap.size, 1, none⟩ _
    have BT1 := hide (hT1 ▸ BT0.out.setCell (p := ⟨W2.heap.size, 1, none⟩) (by have := Y.out; show w.heap.size ≤ W2.heap.size; omega) _ : Below w.heap.size w T1)
    obtain ⟨T2, hT2⟩ : ∃ T2, T1.setCell ⟨W2.heap.size, 2, none⟩ (.slice q n g) = T2 := ⟨_, rfl⟩
    have RT2 := hide (hT2 ▸ RT1.out.set 2 (.slice q n g) (by omega) : C6 T2 W2.heap.size _)
    have eT2 : T1.cell? ⟨W2.heap.size, 2, none⟩ = some (.slice none 0 0) := RT1.out.c 2 (by omega)
    have fT2 := RT1.out.f 2
    have kT2 : Kept (· = W2.heap.size) T1 T2 := hT2 ▸ Kept.setCell T1 ⟨W2.heap.size, 2, none⟩ _
    have BT2 := hide (hT2 ▸ BT1.out.setCell (p := ⟨W2.heap.size, 2, none⟩) (by have := Y.out; show w.heap.size ≤ W2.heap.size; omega) _ : Below w.heap.size w T2)
    obtain ⟨T3, hT3⟩ : ∃ T3, T2.setCell ⟨W2.heap.size, 3, none⟩ (.int .i64 cc) = T3 := ⟨_, rfl⟩
    have RT3 := hide (hT3 ▸ RT2.out.set 3 (.int .i64 cc) (by omega) : C6 T3 W2.heap.size _)
    have eT3 : T2.cell? ⟨W2.heap.size, 3, none⟩ = some (.int .i64 0) := RT2.out.c 3 (by omega)
    have fT3 := RT2.out.f 3
    have kT3 : Kept (· = W2.heap.size) T2 T3 := hT3 ▸ Kept.setCell T2 ⟨W2.heap.size, 3, none⟩ _
    have BT3 := hide (hT3 ▸ BT2.out.setCell (p := ⟨W2.heap.size, 3, none⟩) (by have := Y.out; show w.heap.size ≤ W2.heap.size; omega) _ : Below w.heap.size w T3)
    obtain ⟨T4, hT4⟩ : ∃ T4, T3.setCell ⟨W2.heap.size, 4, none⟩ (.int .i64 ff) = T4 := ⟨_, rfl⟩
    have RT4 := hide (hT4 ▸ RT3.out.set 4 (.int .i64 ff) (by omega) : C6 T4 W2.heap.size _)
    have eT4 : T3.cell? ⟨W2.heap.size, 4, none⟩ = some (.int .i64 0) := RT3.out.c 4 (by omega)
    have fT4 := RT3.out.f 4
    have kT4 : Kept (· = W2.heap.size) T3 T4 := hT4 ▸ Kept.setCell T3 ⟨W2.heap.size, 4, none⟩ _
    have BT4 := hide (hT4 ▸ BT3.out.setCell (p := ⟨W2.heap.size, 4, none⟩) (by have := Y.out; show w.heap.size ≤ W2.heap.size; omega) _ : Below w.heap.size w T4)
    obtain ⟨T5, hT5⟩ : ∃ T5, T4.setCell ⟨W2.heap.size, 5, none⟩ (.int .i64 gg) = T5 := ⟨_, rfl⟩
    have RT5 := hide (hT5 ▸ RT4.out.set 5 (.int .i64 gg) (by omega) : C6 T5 W2.heap.size _)
    have eT5 : T4.cell? ⟨W2.heap.size, 5, none⟩ = some (.int .i64 0) := RT4.out.c 5 (by omega)
    have fT5 := RT4.out.f 5
    have kT5 : Kept (· = W2.heap.size) T4 T5 := hT5 ▸ Kept.setCell T4 ⟨W2.heap.size, 5, none⟩ _
    have BT5 := hide (hT5 ▸ BT4.out.setCell (p := ⟨W2.heap.size, 5, none⟩) (by have := Y.out; show w.heap.size ≤ W2.heap.size; omega) _ : Below w.heap.size w T5)
    have kk := hide (((((kT0.trans kT1).trans kT2).trans kT3).trans kT4).trans kT5)
    have r0 : T5.cell? ⟨W2.heap.size, 0, none⟩ = some (.slice p n c) := RT5.out.c 0 (by omega)
    have r1 : T5.cell? ⟨W2.heap.size, 1, none⟩ = some (.slice f n d) := RT5.out.c 1 (by omega)
    have r2 : T5.cell? ⟨W2.heap.size, 2, none⟩ = some (.slice q n g) := RT5.out.c 2 (by omega)
    have r3 : T5.cell? ⟨W2.heap.size, 3, none⟩ = some (.int .i64 cc) := RT5.out.c 3 (by omega)
    have r4 : T5.cell? ⟨W2.heap.size, 4, none⟩ = some (.int .i64 ff) := RT5.out.c 4 (by omega)
    have r5 : T5.cell? ⟨W2.heap.size, 5, none⟩ = some (.int .i64 gg) := RT5.out.c 5 (by omega)
    clear kT0 kT1 kT2 kT3 kT4 kT5
    have ZP := hide ((QP.out.kept kk.out (fun b hb e => by have := (QP.out.blk hb).1; have := Y.out; have := SX.out; have e : b = W2.heap.size := e; omega)).mono (by have := Y.out; have := SX.out; omega : w.heap.size ≤ W4.heap.size))
    have ZF := hide ((QF.out.kept kk.out (fun b hb e => by have := (QF.out.blk hb).1; have := Y.out; have := SX.out; have e : b = W2.heap.size := e; omega)).mono (by have := Y.out; have := SX.out; omega : w.heap.size ≤ W4.heap.size))
    have ZS := hide ((QS.out.kept kk.out (fun b hb e => by have := (QS.out.blk hb).1; have := Y.out; have := SX.out; have e : b = W2.heap.size := e; omega)).mono (by have := Y.out; have := SX.out; omega : w.heap.size ≤ W4.heap.size))
    go_wp2_with fail
    refine bodyPost_ret (v := .tuple #[.agg #[.slice p n c, .slice f n d, .slice q n g, .int .i64 cc, .int .i64 ff, .int .i64 gg], .bool true]) (by simp [results, Try.results13, go_sem, r0, r1, r2, r3, r4, r5]) rfl (.inr ⟨X1.out, ?_⟩)
    obtain ⟨e1, e2, e3⟩ := EC.out
    have e1 : (s.next R n (U s.c) (GG s.f Gr) Gr).c = cc := e1
    have e2 : (s.next R n (U s.c) (GG s.f Gr) Gr).f = ff := e2
    have e3 : (s.next R n (U s.c) (GG s.f Gr) Gr).g = gg := e3
    exact ⟨p, f, q, c, d, g, by rw [e1, e2, e3], ⟨ZP.out, ZF.out, ZS.out⟩, AP.out, BT5.out⟩
end Vo
end Go.Proofs.Ytflbhlepmjiejaa

/- Rates and gradients that a run goes by: both sides have the same. -/
namespace Go.Proofs.Ytflbhlepmjiejaa
namespace Vo
open Go.ChangeShapes Go.WideShapes Go.ChangeAt Go.RowKit Go.Joins Go.Sort
open Vl
set_option linter.unusedVariables false
theorem rateEnv (R : Rl) (hb : R.bds) : ∃ U : Int → Int, (∀ t, 0 ≤ t → t < 1000000 → (0 ≤ U t ∧ U t ≤ 16777216) ∧ ∀ w, Calls Try.prog 63 #[.agg #[.int .i64 R.r1, .int .i64 R.r2, .int .i64 R.r3, .int .i64 R.r4], .int .i64 t] w fun e w' => e = .returned (.int .i64 (U t)) ∧ Below w.heap.size w w') ∧
    (∀ t, 0 ≤ t → t < 1000000 → ∀ w, Calls Try.prog 35 #[.agg #[.int .i64 R.r1, .int .i64 R.r2, .int .i64 R.r3, .int .i64 R.r4], .int .i64 t] w fun e w' => e = .returned (.int .i64 (U t)) ∧ Below w.heap.size w w') := by
  have key : ∀ t : Int, ∃ v : Int, 0 ≤ t → t < 1000000 → (0 ≤ v ∧ v ≤ 16777216) ∧
      (∀ w, Calls Try.prog 35 #[.agg #[.int .i64 R.r1, .int .i64 R.r2, .int .i64 R.r3, .int .i64 R.r4], .int .i64 t] w fun e w' => e = .returned (.int .i64 v) ∧ Below w.heap.size w w') ∧
      (∀ w, Calls Try.prog 63 #[.agg #[.int .i64 R.r1, .int .i64 R.r2, .int .i64 R.r3, .int .i64 R.r4], .int .i64 t] w fun e w' => e = .returned (.int .i64 v) ∧ Below w.heap.size w w') := fun t => by
    by_cases h : 0 ≤ t ∧ t < 1000000
    · obtain ⟨v, hv⟩ := rateBoth R.r1 R.r2 R.r3 R.r4 t hb.1.2.1 hb.1.2.2.1 hb.1.2.2.2.1 hb.1.2.2.2.2 ⟨by omega, by omega⟩
      exact ⟨v, fun _ _ => hv⟩
    · exact ⟨0, fun h1 h2 => absurd ⟨h1, h2⟩ h⟩
  obtain ⟨U, hU⟩ := Classical.skolem.1 key
  exact ⟨U, fun t t0 t1 => ⟨(hU t t0 t1).1, (hU t t0 t1).2.2⟩, fun t t0 t1 => (hU t t0 t1).2.1⟩
/-- gradients without their factor -/
def gr0 (Gr : Nat → Int) (f : Int) (j : Nat) : Int := nrv (Gr j) f
theorem fac_rng {f : Int} (h : fac f = true) : 1 ≤ f ∧ f ≤ 65536 := by
  obtain ⟨k, k1, rfl⟩ := pow_pw h
  have : ∀ k : Fin 17, (1 : Int) ≤ 2 ^ k.val ∧ (2 : Int) ^ k.val ≤ 65536 := by decide +kernel
  exact this ⟨k, by omega⟩
theorem gr0_rng {Gr : Nat → Int} {f : Int} {n : Nat} (hf : fac f = true) (hb : ib (-16777216) 16777216 n Gr = true) (j : Nat) (hj : j < n) : -16777216 ≤ gr0 Gr f j ∧ gr0 Gr f j ≤ 16777216 := by
  obtain ⟨f0, f1⟩ := fac_rng hf
  have h : -16777216 ≤ Gr j ∧ Gr j ≤ 16777216 := of_decide_eq_true hb j hj
  exact nrv_abs f0 (by decide) (by omega) (by omega)
theorem gradEnv (R : Rl) (hR : R.ok) (hb : R.bds) (n : Nat) (n4 : (n : Int) ≤ 4096) : ∃ GG : Int → (Nat → Int) → Nat → Int,
    (∀ f Gr, fac f = true → ib (-16777216) 16777216 n Gr = true → (∀ j, j < n → -16777216 ≤ GG f Gr j ∧ GG f Gr j ≤ 16777216) ∧ ∀ w a cap, Ints w.heap.size w a n Gr → Calls Try.prog 65 #[.agg #[.int .i64 R.d, .int .i64 R.r1, .int .i64 R.r2, .int .i64 R.r3, .int .i64 R.r4, .int .i64 R.k, .int .i64 R.z, .int .i64 R.o, .int .i64 R.y, .int .i64 R.mo, .int .i64 R.gr], .slice a n cap, .int .i64 f] w (ListR n (GG f Gr) w)) ∧
    (∀ f Gr, fac f = true → ib (-16777216) 16777216 n Gr = true → (R.mo ≤ 0 → GG f Gr = gr0 Gr f) ∧ (0 < R.mo → ∀ B w a cap, B ≤ w.heap.size → Ints B w a n (gr0 Gr f) → Calls Try.prog 34 #[.slice a n cap, .int .i64 R.mo] w (ListR n (GG f Gr) w))) := by
  have hmo := (rul_of hR).2.2.2.2.2.2.1
  have key : ∀ q : Int × (Nat → Int), ∃ G : Nat → Int, fac q.1 = true → ib (-16777216) 16777216 n q.2 = true →
      ((∀ j, j < n → -16777216 ≤ G j ∧ G j ≤ 16777216) ∧ ∀ w a cap, Ints w.heap.size w a n q.2 → Calls Try.prog 65 #[.agg #[.int .i64 R.d, .int .i64 R.r1, .int .i64 R.r2, .int .i64 R.r3, .int .i64 R.r4, .int .i64 R.k, .int .i64 R.z, .int .i64 R.o, .int .i64 R.y, .int .i64 R.mo, .int .i64 R.gr], .slice a n cap, .int .i64 q.1] w (ListR n G w)) ∧
      ((R.mo ≤ 0 → G = gr0 q.2 q.1) ∧ (0 < R.mo → ∀ B w a cap, B ≤ w.heap.size → Ints B w a n (gr0 q.2 q.1) → Calls Try.prog 34 #[.slice a n cap, .int .i64 R.mo] w (ListR n G w))) := fun ⟨f, Gr⟩ => by
    by_cases h : fac f = true ∧ ib (-16777216) 16777216 n Gr = true
    · obtain ⟨hf, hg⟩ := h
      obtain ⟨f0, f1⟩ := fac_rng hf
      have hS : ∀ j, j < n → -16777216 ≤ Gr j ∧ Gr j ≤ 16777216 := fun j hj => of_decide_eq_true hg j hj
      by_cases c : 0 < R.mo
      · obtain ⟨n', G, -, h2, hs, hi⟩ := clipBoth n (gr0 Gr f) R.mo (by omega) hb.2.2.2.2.2.1
        obtain ⟨rfl, hG⟩ := h2 (grd_mk (fun j hj => gr0_rng hf hg j hj) n4) ⟨by omega, by omega⟩
        refine ⟨G, fun _ _ => ⟨⟨(grd_of hG).1, fun w a cap hI => ?_⟩, fun q => by omega, fun _ => hs⟩⟩
        exact gradF R.d R.r1 R.r2 R.r3 R.r4 R.k R.z R.o R.y R.mo R.gr a _ cap Gr G f w hI n4 hS f0 f1 (.inr ⟨c, fun B w a cap hB hn h => hi B w a cap hB hn h⟩)
      · refine ⟨gr0 Gr f, fun _ _ => ⟨⟨fun j hj => gr0_rng hf hg j hj, fun w a cap hI => ?_⟩, fun _ => rfl, fun q => absurd q c⟩⟩
        exact gradF R.d R.r1 R.r2 R.r3 R.r4 R.k R.z R.o R.y R.mo R.gr a _ cap Gr _ f w hI n4 hS f0 f1 (.inl ⟨by omega, rfl⟩)
    · exact ⟨fun _ => 0, fun h1 h2 => absurd ⟨h1, h2⟩ h⟩
  obtain ⟨GG, hGG⟩ := Classical.skolem.1 key
  exact ⟨fun f Gr => GG (f, Gr), fun f Gr h1 h2 => (hGG (f, Gr) h1 h2).1, fun f Gr h1 h2 => (hGG (f, Gr) h1 h2).2⟩
end Vo
end Go.Proofs.Ytflbhlepmjiejaa
