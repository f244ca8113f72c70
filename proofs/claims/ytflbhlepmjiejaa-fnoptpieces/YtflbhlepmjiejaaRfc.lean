/- StepOpt of the model, to where its state is copied where gradients are right (written by tools/genre.py). -/
import Derived.Test.YtflbhlepmjiejaaRgc
import Derived.Deep.Cut
import Derived.Deep.AppendLies
namespace Go.Proofs.Ytflbhlepmjiejaa
namespace Vo
open Go.ChangeShapes Go.WideShapes Go.ChangeAt Go.RowKit Go.Joins Go.Sort
open Vl
set_option linter.unusedVariables false
set_option linter.unusedSimpArgs false
def upto (k : Nat) (N D : Nat → Int) (t : Nat) : Int := if t < k then N t else D t
theorem upto_zero (N D : Nat → Int) (t : Nat) : upto 0 N D t = D t := by unfold upto; rw [if_neg (by omega)]
theorem fac_half {f : Int} (h : fac f = true) (c : f < 65536) : f * 2 ≤ 65536 := by
  obtain ⟨k, k1, rfl⟩ := pow_pw h
  have : ∀ k : Fin 17, (2 : Int) ^ k.val < 65536 → (2 : Int) ^ k.val * 2 ≤ 65536 := by decide +kernel
  exact this ⟨k, by omega⟩ c
theorem upto_all {n : Nat} (N D : Nat → Int) {t : Nat} (h : t < n) : N t = upto n N D t := by unfold upto; rw [if_pos h]
theorem upto_up {N D : Nat → Int} (k t : Nat) : upn (upto k N D) k (N k) t = upto (k + 1) N D t := by
  unfold upn upto
  by_cases e : t = k
  · subst e; rw [if_pos rfl, if_pos (by omega)]
  · rw [if_neg e]
    by_cases c : t < k
    · rw [if_pos c, if_pos (by omega)]
    · rw [if_neg c, if_neg (by omega)]
theorem upto_skip {N D : Nat → Int} (k t : Nat) (h : N k = D k) : upto (k + 1) N D t = upto k N D t := by
  unfold upto
  by_cases e : t = k
  · subst e; rw [if_pos (by omega), if_neg (by omega), h]
  · by_cases c : t < k
    · rw [if_pos c, if_pos (by omega)]
    · rw [if_neg c, if_neg (by omega)]
set_option maxHeartbeats 8000000 in
set_option maxRecDepth 100000 in
theorem sStepGood (R : Rl) (n r cP cF cS cl : Nat) (s : St) (aP aF aS a : Option Addr) (Gr : Nat → Int) (w : World) (h1 : Ints w.heap.size w aP n s.P) (h2 : Ints w.heap.size w aF n s.F) (h3 : Ints w.heap.size w aS n s.S) (z1 : aP = none → n = 0 ∧ True) (z2 : aF = none → n = 0 ∧ True) (z3 : aS = none → n = 0 ∧ True) (hra : (r : Int) ≤ 1048576) (hb : bd s.c ∧ bd s.f ∧ bd s.g) (hRb : R.bds) (hR : R.okB = true) (hs : s.ok n) (hI : Ints w.heap.size w a r Gr) (hc : s.c ≠ 1000000) (hrn : n = r) (hg : ib (-16777216) 16777216 n Gr = true) (U : Int → Int) (GG : Int → (Nat → Int) → Nat → Int) (hU : (0 ≤ U s.c ∧ U s.c ≤ 16777216) ∧ ∀ w, Calls Try.prog 35 #[.agg #[.int .i64 R.r1, .int .i64 R.r2, .int .i64 R.r3, .int .i64 R.r4], .int .i64 s.c] w fun e w' => e = .returned (.int .i64 (U s.c)) ∧ Below w.heap.size w w') (hGG : (∀ j, j < n → -16777216 ≤ GG s.f Gr j ∧ GG s.f Gr j ≤ 16777216) ∧ (R.mo ≤ 0 → GG s.f Gr = gr0 Gr s.f) ∧ (0 < R.mo → ∀ B w a cap, B ≤ w.heap.size → Ints B w a n (gr0 Gr s.f) → Calls Try.prog 34 #[.slice a n cap, .int .i64 R.mo] w (ListR n (GG s.f Gr) w))) :
    Calls Try.prog 14 #[.agg #[.int .i64 R.d, .int .i64 R.r1, .int .i64 R.r2, .int .i64 R.r3, .int .i64 R.r4, .int .i64 R.k, .int .i64 R.z, .int .i64 R.o, .int .i64 R.y, .int .i64 R.mo, .int .i64 R.gr], .agg #[.slice aP n cP, .slice aF n cF, .slice aS n cS, .int .i64 s.c, .int .i64 s.f, .int .i64 s.g], .slice a r cl] w (StepR n False (s.next R n (U s.c) (GG s.f Gr) Gr) w) := by
  obtain ⟨W1, hW1⟩ : ∃ W1, w.alloc (.cells #[.int .i64 R.d, .int .i64 R.r1, .int .i64 R.r2, .int .i64 R.r3, .int .i64 R.r4, .int .i64 R.k, .int .i64 R.z, .int .i64 R.o, .int .i64 R.y, .int .i64 R.mo, .int .i64 R.gr] 27) = W1 := ⟨_, rfl⟩
  have nw1 : Below w.heap.size w W1 := hW1 ▸ (Below.refl _ _).alloc (Nat.le_refl _) _
  have y1 : w.heap.size < W1.heap.size := by rw [← hW1]; simp
  obtain ⟨W2, hW2⟩ : ∃ W2, W1.alloc (.cells #[.slice aP n cP, .slice aF n cF, .slice aS n cS, .int .i64 s.c, .int .i64 s.f, .int .i64 s.g] 30) = W2 := ⟨_, rfl⟩
  have nw2 : Below W1.heap.size W1 W2 := hW2 ▸ (Below.refl _ _).alloc (Nat.le_refl _) _
  have y2 : W1.heap.size < W2.heap.size := by rw [← hW2]; simp
  obtain ⟨W3, hW3⟩ : ∃ W3, W2.alloc (.cells #[.slice none 0 0, .slice none 0 0, .slice none 0 0, .int .i64 0, .int .i64 0, .int .i64 0] 30) = W3 := ⟨_, rfl⟩
  have nw3 : Below W2.heap.size W2 W3 := hW3 ▸ (Below.refl _ _).alloc (Nat.le_refl _) _
  have y3 : W2.heap.size < W3.heap.size := by rw [← hW3]; simp
  have LL0 := hide (show Lis [(⟨w.heap.size, 0, none⟩, .int .i64 R.d), (⟨w.heap.size, 1, none⟩, .int .i64 R.r1), (⟨w.heap.size, 2, none⟩, .int .i64 R.r2), (⟨w.heap.size, 3, none⟩, .int .i64 R.r3), (⟨w.heap.size, 4, none⟩, .int .i64 R.r4), (⟨w.heap.size, 5, none⟩, .int .i64 R.k), (⟨w.heap.size, 6, none⟩, .int .i64 R.z), (⟨w.heap.size, 7, none⟩, .int .i64 R.o), (⟨w.heap.size, 8, none⟩, .int .i64 R.y), (⟨w.heap.size, 9, none⟩, .int .i64 R.mo), (⟨w.heap.size, 10, none⟩, .int .i64 R.gr)] W3 from ((show Lis [(⟨w.heap.size, 0, none⟩, .int .i64 R.d), (⟨w.heap.size, 1, none⟩, .int .i64 R.r1), (⟨w.heap.size, 2, none⟩, .int .i64 R.r2), (⟨w.heap.size, 3, none⟩, .int .i64 R.r3), (⟨w.heap.size, 4, none⟩, .int .i64 R.r4), (⟨w.heap.size, 5, none⟩, .int .i64 R.k), (⟨w.heap.size, 6, none⟩, .int .i64 R.z), (⟨w.heap.size, 7, none⟩, .int .i64 R.o), (⟨w.heap.size, 8, none⟩, .int .i64 R.y), (⟨w.heap.size, 9, none⟩, .int .i64 R.mo), (⟨w.heap.size, 10, none⟩, .int .i64 R.gr)] W1 from fun x hx => by
      simp only [List.mem_cons, List.not_mem_nil, or_false] at hx
      rcases hx with rfl | rfl | rfl | rfl | rfl | rfl | rfl | rfl | rfl | rfl | rfl <;> (rw [← hW1]; simp [go_sem])).below nw2).below nw3)
  have LO0 := hide (show Lis [(⟨W1.heap.size, 0, none⟩, .slice aP n cP), (⟨W1.heap.size, 1, none⟩, .slice aF n cF), (⟨W1.heap.size, 2, none⟩, .slice aS n cS), (⟨W1.heap.size, 3, none⟩, .int .i64 s.c), (⟨W1.heap.size, 4, none⟩, .int .i64 s.f), (⟨W1.heap.size, 5, none⟩, .int .i64 s.g)] W3 from (show Lis [(⟨W1.heap.size, 0, none⟩, .slice aP n cP), (⟨W1.heap.size, 1, none⟩, .slice aF n cF), (⟨W1.heap.size, 2, none⟩, .slice aS n cS), (⟨W1.heap.size, 3, none⟩, .int .i64 s.c), (⟨W1.heap.size, 4, none⟩, .int .i64 s.f), (⟨W1.heap.size, 5, none⟩, .int .i64 s.g)] W2 from fun x hx => by
      simp only [List.mem_cons, List.not_mem_nil, or_false] at hx
      rcases hx with rfl | rfl | rfl | rfl | rfl | rfl <;> (rw [← hW2]; simp [go_sem])).below nw3)
  have R1 := hide (show C6 W3 W2.heap.size (OV none none none 0 0 0 0 0 0 0) from ⟨fun i hi => by rcases (by omega : i = 0 ∨ i = 1 ∨ i = 2 ∨ i = 3 ∨ i = 4 ∨ i = 5) with rfl | rfl | rfl | rfl | rfl | rfl <;> (rw [← hW3]; simp [go_sem, OV]), fun i => by rw [← hW3]; simp [go_sem], y3⟩)
  have B3 := hide ((nw1.trans (nw2.mono nw1.size)).trans (nw3.mono (Nat.le_trans nw1.size nw2.size)))
  have Y := hide (And.intro y1 (And.intro y2 y3))
  clear nw1 nw2 nw3 y1 y2 y3
  have hok : OOk n n n s.P s.F s.S s.c s.f s.g := hs
  have n4 : (n : Int) ≤ 4096 := hok.1
  have cr : 0 ≤ s.c ∧ s.c ≤ 1000000 := hok.2.2.2.1
  have hyes : ook n n n s.P s.F s.S s.c s.f s.g = true := decide_eq_true hok
  have hR' : rulOk R.d R.r1 R.r2 R.r3 R.r4 R.k R.z R.o R.y R.mo R.gr = true := hR
  have S3 := hide (Nat.le_refl W3.heap.size)
  have CO := hide (fun X (bX : Below w.heap.size w X) => specOpt aP aF aS n n n cP cF cS s.P s.F s.S s.c s.f s.g X ((h1.below bX).mono bX.size) ((h2.below bX).mono bX.size) ((h3.below bX).mono bX.size) (by omega) hb.1 hb.2.1 hb.2.2 (by omega) (by omega))
  have CRu := hide (fun w => specRule R.d R.r1 R.r2 R.r3 R.r4 R.k R.z R.o R.y R.mo R.gr w hRb.1.1 hRb.1.2.1 hRb.1.2.2.1 hRb.1.2.2.2.1 hRb.1.2.2.2.2 hRb.2.1 hRb.2.2.1 hRb.2.2.2.1 hRb.2.2.2.2.1 hRb.2.2.2.2.2.1 hRb.2.2.2.2.2.2)
  rw [hyes] at CO
  rw [hR'] at CRu
  have H1 := hide h1
  have H2 := hide h2
  have H3 := hide h3
  have HI := hide hI
  have E1 := hide z1
  have E2 := hide z2
  have E3 := hide z3
  have N4 := hide (And.intro n4 cr)
  have HS := hide hs
  have HG := hide hg
  have HRok := hide hR
  have q1 : (s.c == 1000000) = false := beq_eq_false_iff_ne.2 hc
  subst hrn
  clear h1 h2 h3 z1 z2 z3 hra hb hRb hR hR' hs hok hI hyes hc hg n4 cr
  have l0 : W3.cell? ⟨w.heap.size, 0, none⟩ = some (.int .i64 R.d) := LL0.out (⟨w.heap.size, 0, none⟩, .int .i64 R.d) (.head _)
  have l1 : W3.cell? ⟨w.heap.size, 1, none⟩ = some (.int .i64 R.r1) := LL0.out (⟨w.heap.size, 1, none⟩, .int .i64 R.r1) (.tail _ (.head _))
  have l2 : W3.cell? ⟨w.heap.size, 2, none⟩ = some (.int .i64 R.r2) := LL0.out (⟨w.heap.size, 2, none⟩, .int .i64 R.r2) (.tail _ (.tail _ (.head _)))
  have l3 : W3.cell? ⟨w.heap.size, 3, none⟩ = some (.int .i64 R.r3) := LL0.out (⟨w.heap.size, 3, none⟩, .int .i64 R.r3) (.tail _ (.tail _ (.tail _ (.head _))))
  have l4 : W3.cell? ⟨w.heap.size, 4, none⟩ = some (.int .i64 R.r4) := LL0.out (⟨w.heap.size, 4, none⟩, .int .i64 R.r4) (.tail _ (.tail _ (.tail _ (.tail _ (.head _)))))
  have l5 : W3.cell? ⟨w.heap.size, 5, none⟩ = some (.int .i64 R.k) := LL0.out (⟨w.heap.size, 5, none⟩, .int .i64 R.k) (.tail _ (.tail _ (.tail _ (.tail _ (.tail _ (.head _))))))
  have l6 : W3.cell? ⟨w.heap.size, 6, none⟩ = some (.int .i64 R.z) := LL0.out (⟨w.heap.size, 6, none⟩, .int .i64 R.z) (.tail _ (.tail _ (.tail _ (.tail _ (.tail _ (.tail _ (.head _)))))))
  have l7 : W3.cell? ⟨w.heap.size, 7, none⟩ = some (.int .i64 R.o) := LL0.out (⟨w.heap.size, 7, none⟩, .int .i64 R.o) (.tail _ (.tail _ (.tail _ (.tail _ (.tail _ (.tail _ (.tail _ (.head _))))))))
  have l8 : W3.cell? ⟨w.heap.size, 8, none⟩ = some (.int .i64 R.y) := LL0.out (⟨w.heap.size, 8, none⟩, .int .i64 R.y) (.tail _ (.tail _ (.tail _ (.tail _ (.tail _ (.tail _ (.tail _ (.tail _ (.head _)))))))))
  have l9 : W3.cell? ⟨w.heap.size, 9, none⟩ = some (.int .i64 R.mo) := LL0.out (⟨w.heap.size, 9, none⟩, .int .i64 R.mo) (.tail _ (.tail _ (.tail _ (.tail _ (.tail _ (.tail _ (.tail _ (.tail _ (.tail _ (.head _))))))))))
  have l10 : W3.cell? ⟨w.heap.size, 10, none⟩ = some (.int .i64 R.gr) := LL0.out (⟨w.heap.size, 10, none⟩, .int .i64 R.gr) (.tail _ (.tail _ (.tail _ (.tail _ (.tail _ (.tail _ (.tail _ (.tail _ (.tail _ (.tail _ (.head _)))))))))))
  have HRk := hide (show R.ok from HRok.out)
  obtain ⟨u, hu⟩ : ∃ u, U s.c = u := ⟨_, rfl⟩
  obtain ⟨G, hG⟩ : ∃ G, GG s.f Gr = G := ⟨_, rfl⟩
  rw [hu] at hU
  rw [hG] at hGG
  rw [hu, hG]
  clear hu hG
  obtain ⟨⟨u0, u1⟩, hRt⟩ := hU
  have HU := hide (And.intro u0 u1)
  have HRt := hide hRt
  obtain ⟨gg1, gg2, gg3⟩ := hGG
  have GR := hide gg1
  have GZ := hide gg2
  have GC := hide gg3
  clear u0 u1 hRt gg1 gg2 gg3
  obtain ⟨NX, hNX⟩ : ∃ NX, s.next R n u G Gr = NX := ⟨_, rfl⟩
  rw [hNX]
  obtain ⟨NP, hNP⟩ : ∃ NP : Nat → Int, NP = fun j => nP R.d R.k R.z R.o R.y u (s.P j) (s.F j) (s.S j) (G j) := ⟨_, rfl⟩
  obtain ⟨NF, hNF⟩ : ∃ NF : Nat → Int, NF = fun j => nF R.d R.k (s.F j) (G j) := ⟨_, rfl⟩
  obtain ⟨NS, hNS⟩ : ∃ NS : Nat → Int, NS = fun j => nS R.d R.z (s.S j) (G j) := ⟨_, rfl⟩
  have ENX := hide (show NX = ⟨NP, NF, NS, s.c + 1, nFac s.f s.g R.gr, nGood s.g R.gr⟩ by rw [← hNX, hNP, hNF, hNS]; unfold St.next; rw [if_pos HG.out])
  have EP := hide (fun j => (congrFun hNP j : NP j = nP R.d R.k R.z R.o R.y u (s.P j) (s.F j) (s.S j) (G j)))
  have EF := hide (fun j => (congrFun hNF j : NF j = nF R.d R.k (s.F j) (G j)))
  have ES := hide (fun j => (congrFun hNS j : NS j = nS R.d R.z (s.S j) (G j)))
  clear hNX hNP hNF hNS
  go_enter Try.func14, Try.ntmps14
  go_wp2_with fail
  refine (CRu.out _).mono ?_; rintro e X ⟨rfl, bx⟩
  clear hW1 hW2 hW3 CRu l0 l1 l2 l3 l4 l5 l6 l7 l8 l9 l10
  replace LL0 := hide (LL0.out.below bx)
  replace LO0 := hide (LO0.out.below bx)
  replace R1 := hide (R1.out.kept (Kept.of_below (S := fun _ => False) bx) id)
  replace B3 := hide (B3.out.trans (bx.mono B3.out.size))
  replace S3 := hide (Nat.le_trans S3.out bx.size)
  clear bx
  have o0 : X.cell? ⟨W1.heap.size, 0, none⟩ = some (.slice aP n cP) := LO0.out (⟨W1.heap.size, 0, none⟩, .slice aP n cP) (.head _)
  have o1 : X.cell? ⟨W1.heap.size, 1, none⟩ = some (.slice aF n cF) := LO0.out (⟨W1.heap.size, 1, none⟩, .slice aF n cF) (.tail _ (.head _))
  have o2 : X.cell? ⟨W1.heap.size, 2, none⟩ = some (.slice aS n cS) := LO0.out (⟨W1.heap.size, 2, none⟩, .slice aS n cS) (.tail _ (.tail _ (.head _)))
  have o3 : X.cell? ⟨W1.heap.size, 3, none⟩ = some (.int .i64 s.c) := LO0.out (⟨W1.heap.size, 3, none⟩, .int .i64 s.c) (.tail _ (.tail _ (.tail _ (.head _))))
  have o4 : X.cell? ⟨W1.heap.size, 4, none⟩ = some (.int .i64 s.f) := LO0.out (⟨W1.heap.size, 4, none⟩, .int .i64 s.f) (.tail _ (.tail _ (.tail _ (.tail _ (.head _)))))
  have o5 : X.cell? ⟨W1.heap.size, 5, none⟩ = some (.int .i64 s.g) := LO0.out (⟨W1.heap.size, 5, none⟩, .int .i64 s.g) (.tail _ (.tail _ (.tail _ (.tail _ (.tail _ (.head _))))))
  go_wp2_with fail
  refine (CO.out _ B3.out).mono ?_; rintro e X2 ⟨rfl, bx⟩
  clear CO o0 o1 o2 o3 o4 o5
  replace LL0 := hide (LL0.out.below bx)
  replace LO0 := hide (LO0.out.below bx)
  replace R1 := hide (R1.out.kept (Kept.of_below (S := fun _ => False) bx) id)
  replace B3 := hide (B3.out.trans (bx.mono B3.out.size))
  replace S3 := hide (Nat.le_trans S3.out bx.size)
  clear bx
  have o0 : X2.cell? ⟨W1.heap.size, 0, none⟩ = some (.slice aP n cP) := LO0.out (⟨W1.heap.size, 0, none⟩, .slice aP n cP) (.head _)
  have o1 : X2.cell? ⟨W1.heap.size, 1, none⟩ = some (.slice aF n cF) := LO0.out (⟨W1.heap.size, 1, none⟩, .slice aF n cF) (.tail _ (.head _))
  have o2 : X2.cell? ⟨W1.heap.size, 2, none⟩ = some (.slice aS n cS) := LO0.out (⟨W1.heap.size, 2, none⟩, .slice aS n cS) (.tail _ (.tail _ (.head _)))
  have o3 : X2.cell? ⟨W1.heap.size, 3, none⟩ = some (.int .i64 s.c) := LO0.out (⟨W1.heap.size, 3, none⟩, .int .i64 s.c) (.tail _ (.tail _ (.tail _ (.head _))))
  have o4 : X2.cell? ⟨W1.heap.size, 4, none⟩ = some (.int .i64 s.f) := LO0.out (⟨W1.heap.size, 4, none⟩, .int .i64 s.f) (.tail _ (.tail _ (.tail _ (.tail _ (.head _)))))
  have o5 : X2.cell? ⟨W1.heap.size, 5, none⟩ = some (.int .i64 s.g) := LO0.out (⟨W1.heap.size, 5, none⟩, .int .i64 s.g) (.tail _ (.tail _ (.tail _ (.tail _ (.tail _ (.head _))))))
  go_wp2_with fail
  have PR0 := hide (LL0.out (⟨w.heap.size, 0, none⟩, .int .i64 R.d) (.head _))
  have PR1 := hide (LL0.out (⟨w.heap.size, 1, none⟩, .int .i64 R.r1) (.tail _ (.head _)))
  have PR2 := hide (LL0.out (⟨w.heap.size, 2, none⟩, .int .i64 R.r2) (.tail _ (.tail _ (.head _))))
  have PR3 := hide (LL0.out (⟨w.heap.size, 3, none⟩, .int .i64 R.r3) (.tail _ (.tail _ (.tail _ (.head _)))))
  have PR4 := hide (LL0.out (⟨w.heap.size, 4, none⟩, .int .i64 R.r4) (.tail _ (.tail _ (.tail _ (.tail _ (.head _))))))
  have PR5 := hide (LL0.out (⟨w.heap.size, 5, none⟩, .int .i64 R.k) (.tail _ (.tail _ (.tail _ (.tail _ (.tail _ (.head _)))))))
  have PR6 := hide (LL0.out (⟨w.heap.size, 6, none⟩, .int .i64 R.z) (.tail _ (.tail _ (.tail _ (.tail _ (.tail _ (.tail _ (.head _))))))))
  have PR7 := hide (LL0.out (⟨w.heap.size, 7, none⟩, .int .i64 R.o) (.tail _ (.tail _ (.tail _ (.tail _ (.tail _ (.tail _ (.tail _ (.head _)))))))))
  have PR8 := hide (LL0.out (⟨w.heap.size, 8, none⟩, .int .i64 R.y) (.tail _ (.tail _ (.tail _ (.tail _ (.tail _ (.tail _ (.tail _ (.tail _ (.head _))))))))))
  have PR9 := hide (LL0.out (⟨w.heap.size, 9, none⟩, .int .i64 R.mo) (.tail _ (.tail _ (.tail _ (.tail _ (.tail _ (.tail _ (.tail _ (.tail _ (.tail _ (.head _)))))))))))
  have PR10 := hide (LL0.out (⟨w.heap.size, 10, none⟩, .int .i64 R.gr) (.tail _ (.tail _ (.tail _ (.tail _ (.tail _ (.tail _ (.tail _ (.tail _ (.tail _ (.tail _ (.head _))))))))))))
  have RX := hide R1.out
  have BX2 := hide B3.out
  have PA0 := hide o0
  have PA1 := hide o1
  have PA2 := hide o2
  have PA3 := hide o3
  have PA4 := hide o4
  have PA5 := hide o5
  have PZ := hide (show W1.heap.size < X2.heap.size from Nat.lt_of_lt_of_le (Nat.lt_trans Y.out.2.1 Y.out.2.2) S3.out)
  clear o0 o1 o2 o3 o4 o5
  refine Qf.factsJ2 18 (by kernel_rfl) (by kernel_rfl) (by kernel_rfl) (fun i s0 wx => match i with | 0 => s0 0 = .pointer (some ⟨W1.heap.size, 0, none⟩) | 1 => s0 1 = .slice aP n cP | 2 => ∃ a c, s0 2 = .slice a n c ∧ OwnL X2.heap.size wx a n s.P | 3 => s0 3 = .pointer (some ⟨W1.heap.size, 1, none⟩) | 4 => s0 4 = .slice aF n cF | 5 => ∃ a c, s0 5 = .slice a n c ∧ OwnL X2.heap.size wx a n s.F ∧ ∀ a2 c2, s0 2 = .slice a2 n c2 → Bhd a2 a n | 6 => s0 6 = .pointer (some ⟨W1.heap.size, 2, none⟩) | 7 => s0 7 = .slice aS n cS | 8 => ∃ a c, s0 8 = .slice a n c ∧ OwnL X2.heap.size wx a n s.S ∧ ∀ a2 c2, s0 5 = .slice a2 n c2 → Bhd a2 a n | 9 => s0 9 = .pointer (some ⟨W1.heap.size, 3, none⟩) | 10 => s0 10 = .int .i64 s.c | 11 => s0 11 = .int .i64 (s.c + 1) | 12 => s0 12 = .pointer (some ⟨W1.heap.size, 4, none⟩) | 13 => s0 13 = .int .i64 s.f | 14 => s0 14 = .pointer (some ⟨W1.heap.size, 5, none⟩) | 15 => s0 15 = .int .i64 s.g | 16 => s0 16 = .agg #[s0 2, s0 5, s0 8, .int .i64 (s.c + 1), .int .i64 s.f, .int .i64 s.g] | 17 => ∃ g, s0 17 = .pointer (some ⟨g, 0, none⟩) ∧ X2.heap.size ≤ g ∧ C6 wx g (OV none none none 0 0 0 0 0 0 0) | _ => True) ?loc ?stable ?steps ?rest
  case loc =>
    intro i s s' w1 hs h
    match i, h with
    | 0, h => exact (hs 0 (.inl rfl)).symm.trans h
    | 1, h => exact (hs 1 (.inl rfl)).symm.trans h
    | 2, ⟨a, c, h1, h2⟩ => exact ⟨a, c, (hs 2 (.inl rfl)).symm.trans h1, h2⟩
    | 3, h => exact (hs 3 (.inl rfl)).symm.trans h
    | 4, h => exact (hs 4 (.inl rfl)).symm.trans h
    | 5, ⟨a, c, h1, h2, h3⟩ => exact ⟨a, c, (hs 5 (.inl rfl)).symm.trans h1, h2, fun a2 c2 e => h3 a2 c2 ((hs 2 (.inr (by kernel_rfl))).trans e)⟩
    | 6, h => exact (hs 6 (.inl rfl)).symm.trans h
    | 7, h => exact (hs 7 (.inl rfl)).symm.trans h
    | 8, ⟨a, c, h1, h2, h3⟩ => exact ⟨a, c, (hs 8 (.inl rfl)).symm.trans h1, h2, fun a2 c2 e => h3 a2 c2 ((hs 5 (.inr (by kernel_rfl))).trans e)⟩
    | 9, h => exact (hs 9 (.inl rfl)).symm.trans h
    | 10, h => exact (hs 10 (.inl rfl)).symm.trans h
    | 11, h => exact (hs 11 (.inl rfl)).symm.trans h
    | 12, h => exact (hs 12 (.inl rfl)).symm.trans h
    | 13, h => exact (hs 13 (.inl rfl)).symm.trans h
    | 14, h => exact (hs 14 (.inl rfl)).symm.trans h
    | 15, h => exact (hs 15 (.inl rfl)).symm.trans h
    | 16, h => exact (hs 16 (.inl rfl)).symm.trans (by rw [← hs 2 (.inr (by kernel_rfl)), ← hs 5 (.inr (by kernel_rfl)), ← hs 8 (.inr (by kernel_rfl))]; exact h)
    | 17, ⟨g, h1, h2⟩ => exact ⟨g, (hs 17 (.inl rfl)).symm.trans h1, h2⟩
    | _ + 18, h => exact h
  case stable =>
    intro i s w1 w2 h hb
    match i, h with
    | 0, h => exact h
    | 1, h => exact h
    | 2, ⟨a, c, h1, h2⟩ => exact ⟨a, c, h1, h2.below hb⟩
    | 3, h => exact h
    | 4, h => exact h
    | 5, ⟨a, c, h1, h2, h3⟩ => exact ⟨a, c, h1, h2.below hb, h3⟩
    | 6, h => exact h
    | 7, h => exact h
    | 8, ⟨a, c, h1, h2, h3⟩ => exact ⟨a, c, h1, h2.below hb, h3⟩
    | 9, h => exact h
    | 10, h => exact h
    | 11, h => exact h
    | 12, h => exact h
    | 13, h => exact h
    | 14, h => exact h
    | 15, h => exact h
    | 16, h => exact h
    | 17, ⟨g, h1, h2, h3⟩ => exact ⟨g, h1, h2, h3.kept (Kept.of_below (S := fun _ => False) hb) id⟩
    | _ + 18, h => exact h
  case steps =>
    intro i o hi ho s0 A wS hb hk hA hO
    match i, hi, ho, hk with
    | 0, _, ho, hk =>
      cases ho
      exact Qf.lands_val _ _ (runFO0 rfl ((hO 4 (by rfl)).trans rfl)) ⟨Below.refl _ _, by simp [Qf.upd]⟩
    | 1, _, ho, hk =>
      cases ho
      have h0 := hA 0 _ 38 (by decide) rfl rfl (by simp)
      have e0 := hk 0 (by kernel_rfl)
      rw [e0] at h0
      exact Qf.lands_val _ _ (runLL rfl h0 ((hb.cell (p := ⟨W1.heap.size, 0, none⟩) PZ.out).trans PA0.out)) ⟨Below.refl _ _, by simp [Qf.upd]⟩
    | 2, _, ho, hk =>
      cases ho
      have h1 := hA 1 _ 39 (by decide) rfl rfl (by simp)
      have e1 := hk 1 (by kernel_rfl)
      rw [e1] at h1
      refine Qf.lands_call 31 _ _ rfl (enters_of Try.func31 (by kernel_rfl) rfl) _ (by simp [h1]) ((l3IntsO w.heap.size aP n cP s.P wS ((H1.out.below B3.out).below (hb.mono B3.out.size)) (Nat.le_trans B3.out.size hb.size) (by have := N4.out; omega) E1.out).mono ?_)
      rintro e wT ⟨v, rfl, hrow, bT⟩
      obtain ⟨aT, cT, rfl, hO'⟩ := hrow.own
      exact ⟨_, rfl, bT, aT, cT, by simp [Qf.upd], hO'.mono hb.size⟩
    | 3, _, ho, hk =>
      cases ho
      exact Qf.lands_val _ _ (runFO1 rfl ((hO 4 (by rfl)).trans rfl)) ⟨Below.refl _ _, by simp [Qf.upd]⟩
    | 4, _, ho, hk =>
      cases ho
      have h3 := hA 3 _ 41 (by decide) rfl rfl (by simp)
      have e3 := hk 3 (by kernel_rfl)
      rw [e3] at h3
      exact Qf.lands_val _ _ (runLL rfl h3 ((hb.cell (p := ⟨W1.heap.size, 1, none⟩) PZ.out).trans PA1.out)) ⟨Below.refl _ _, by simp [Qf.upd]⟩
    | 5, _, ho, hk =>
      cases ho
      have h4 := hA 4 _ 42 (by decide) rfl rfl (by simp)
      have e4 := hk 4 (by kernel_rfl)
      rw [e4] at h4
      obtain ⟨ap, cp, ep, op⟩ := hk 2 (by kernel_rfl)
      refine Qf.lands_call 31 _ _ rfl (enters_of Try.func31 (by kernel_rfl) rfl) _ (by simp [h4]) ((l3IntsO w.heap.size aF n cF s.F wS ((H2.out.below B3.out).below (hb.mono B3.out.size)) (Nat.le_trans B3.out.size hb.size) (by have := N4.out; omega) E2.out).mono ?_)
      rintro e wT ⟨v, rfl, hrow, bT⟩
      obtain ⟨aT, cT, rfl, hO'⟩ := hrow.own
      refine ⟨_, rfl, bT, aT, cT, by simp [Qf.upd], hO'.mono hb.size, fun a2 c2 e2 => ?_⟩
      have e3 : s0 2 = .slice a2 n c2 := by simpa [Qf.upd] using e2
      rw [ep] at e3
      injection e3 with e3 _ _
      subst e3
      exact ⟨wS.heap.size, fun k hk => (op.blk hk).2, fun k hk => (hO'.blk hk).1⟩
    | 6, _, ho, hk =>
      cases ho
      exact Qf.lands_val _ _ (runFO2 rfl ((hO 4 (by rfl)).trans rfl)) ⟨Below.refl _ _, by simp [Qf.upd]⟩
    | 7, _, ho, hk =>
      cases ho
      have h6 := hA 6 _ 44 (by decide) rfl rfl (by simp)
      have e6 := hk 6 (by kernel_rfl)
      rw [e6] at h6
      exact Qf.lands_val _ _ (runLL rfl h6 ((hb.cell (p := ⟨W1.heap.size, 2, none⟩) PZ.out).trans PA2.out)) ⟨Below.refl _ _, by simp [Qf.upd]⟩
    | 8, _, ho, hk =>
      cases ho
      have h7 := hA 7 _ 45 (by decide) rfl rfl (by simp)
      have e7 := hk 7 (by kernel_rfl)
      rw [e7] at h7
      obtain ⟨ap, cp, ep, op, -⟩ := hk 5 (by kernel_rfl)
      refine Qf.lands_call 31 _ _ rfl (enters_of Try.func31 (by kernel_rfl) rfl) _ (by simp [h7]) ((l3IntsO w.heap.size aS n cS s.S wS ((H3.out.below B3.out).below (hb.mono B3.out.size)) (Nat.le_trans B3.out.size hb.size) (by have := N4.out; omega) E3.out).mono ?_)
      rintro e wT ⟨v, rfl, hrow, bT⟩
      obtain ⟨aT, cT, rfl, hO'⟩ := hrow.own
      refine ⟨_, rfl, bT, aT, cT, by simp [Qf.upd], hO'.mono hb.size, fun a2 c2 e2 => ?_⟩
      have e3 : s0 5 = .slice a2 n c2 := by simpa [Qf.upd] using e2
      rw [ep] at e3
      injection e3 with e3 _ _
      subst e3
      exact ⟨wS.heap.size, fun k hk => (op.blk hk).2, fun k hk => (hO'.blk hk).1⟩
    | 9, _, ho, hk =>
      cases ho
      exact Qf.lands_val _ _ (runFO3 rfl ((hO 4 (by rfl)).trans rfl)) ⟨Below.refl _ _, by simp [Qf.upd]⟩
    | 10, _, ho, hk =>
      cases ho
      have h9 := hA 9 _ 47 (by decide) rfl rfl (by simp)
      have e9 := hk 9 (by kernel_rfl)
      rw [e9] at h9
      exact Qf.lands_val _ _ (runLI rfl h9 ((hb.cell (p := ⟨W1.heap.size, 3, none⟩) PZ.out).trans PA3.out)) ⟨Below.refl _ _, by simp [Qf.upd]⟩
    | 11, _, ho, hk =>
      cases ho
      have h10 := hA 10 _ 48 (by decide) rfl rfl (by simp)
      have e10 := hk 10 (by kernel_rfl)
      rw [e10] at h10
      exact Qf.lands_val _ _ (runInc rfl h10 (by have := N4.out; omega)) ⟨Below.refl _ _, by simp [Qf.upd]⟩
    | 12, _, ho, hk =>
      cases ho
      exact Qf.lands_val _ _ (runFO4 rfl ((hO 4 (by rfl)).trans rfl)) ⟨Below.refl _ _, by simp [Qf.upd]⟩
    | 13, _, ho, hk =>
      cases ho
      have h12 := hA 12 _ 50 (by decide) rfl rfl (by simp)
      have e12 := hk 12 (by kernel_rfl)
      rw [e12] at h12
      exact Qf.lands_val _ _ (runLI rfl h12 ((hb.cell (p := ⟨W1.heap.size, 4, none⟩) PZ.out).trans PA4.out)) ⟨Below.refl _ _, by simp [Qf.upd]⟩
    | 14, _, ho, hk =>
      cases ho
      exact Qf.lands_val _ _ (runFO5 rfl ((hO 4 (by rfl)).trans rfl)) ⟨Below.refl _ _, by simp [Qf.upd]⟩
    | 15, _, ho, hk =>
      cases ho
      have h14 := hA 14 _ 52 (by decide) rfl rfl (by simp)
      have e14 := hk 14 (by kernel_rfl)
      rw [e14] at h14
      exact Qf.lands_val _ _ (runLI rfl h14 ((hb.cell (p := ⟨W1.heap.size, 5, none⟩) PZ.out).trans PA5.out)) ⟨Below.refl _ _, by simp [Qf.upd]⟩
    | 16, _, ho, hk =>
      cases ho
      have h2 := hA 2 _ 40 (by decide) rfl rfl (by simp)
      have h5 := hA 5 _ 43 (by decide) rfl rfl (by simp)
      have h8 := hA 8 _ 46 (by decide) rfl rfl (by simp)
      obtain ⟨p, c, e2, -⟩ := hk 2 (by kernel_rfl)
      obtain ⟨f, d, e5, -, -⟩ := hk 5 (by kernel_rfl)
      obtain ⟨q, g, e8, -, -⟩ := hk 8 (by kernel_rfl)
      rw [e2] at h2
      rw [e5] at h5
      rw [e8] at h8
      have h11 := hA 11 _ 49 (by decide) rfl rfl (by simp)
      have e11 := hk 11 (by kernel_rfl)
      rw [e11] at h11
      have h13 := hA 13 _ 51 (by decide) rfl rfl (by simp)
      have e13 := hk 13 (by kernel_rfl)
      rw [e13] at h13
      have h15 := hA 15 _ 53 (by decide) rfl rfl (by simp)
      have e15 := hk 15 (by kernel_rfl)
      rw [e15] at h15
      exact Qf.lands_val _ _ (runBuildO rfl h2 h5 h8 h11 h13 h15) ⟨Below.refl _ _, by simp [Qf.upd, e2, e5, e8]⟩
    | 17, _, ho, hk =>
      cases ho
      exact Qf.lands_val _ _ (runAllocO rfl) ⟨(Below.refl _ _).alloc (Nat.le_refl _) _, _, by simp [Qf.upd], hb.size, ⟨fun i hi => by rcases (by omega : i = 0 ∨ i = 1 ∨ i = 2 ∨ i = 3 ∨ i = 4 ∨ i = 5) with rfl | rfl | rfl | rfl | rfl | rfl <;> simp [go_sem, OV], fun i => by simp [go_sem], by simp⟩⟩
    | _ + 18, hi, _, _ => exact absurd hi (by omega)
  case rest =>
  intro s' X3 bz hk9
  have e0 : s' 0 = .pointer (some ⟨W1.heap.size, 0, none⟩) := hk9 0 (by decide)
  have e1 : s' 1 = .slice aP n cP := hk9 1 (by decide)
  have e3 : s' 3 = .pointer (some ⟨W1.heap.size, 1, none⟩) := hk9 3 (by decide)
  have e4 : s' 4 = .slice aF n cF := hk9 4 (by decide)
  have e6 : s' 6 = .pointer (some ⟨W1.heap.size, 2, none⟩) := hk9 6 (by decide)
  have e7 : s' 7 = .slice aS n cS := hk9 7 (by decide)
  have e9 : s' 9 = .pointer (some ⟨W1.heap.size, 3, none⟩) := hk9 9 (by decide)
  have e10 : s' 10 = .int .i64 s.c := hk9 10 (by decide)
  have e11 : s' 11 = .int .i64 (s.c + 1) := hk9 11 (by decide)
  have e12 : s' 12 = .pointer (some ⟨W1.heap.size, 4, none⟩) := hk9 12 (by decide)
  have e13 : s' 13 = .int .i64 s.f := hk9 13 (by decide)
  have e14 : s' 14 = .pointer (some ⟨W1.heap.size, 5, none⟩) := hk9 14 (by decide)
  have e15 : s' 15 = .int .i64 s.g := hk9 15 (by decide)
  obtain ⟨p, c, e2, oP⟩ := hk9 2 (by decide)
  obtain ⟨f, d, e5, oF, bF⟩ := hk9 5 (by decide)
  obtain ⟨q, g, e8, oS, bS⟩ := hk9 8 (by decide)
  obtain ⟨v, e17, hv, oV⟩ := hk9 17 (by decide)
  have e16 : s' 16 = .agg #[s' 2, s' 5, s' 8, .int .i64 (s.c + 1), .int .i64 s.f, .int .i64 s.g] := hk9 16 (by decide)
  rw [e2, e5, e8] at e16
  simp only [List.take_succ_cons, List.take_zero, List.drop_succ_cons, List.drop_zero, Qf.lay, Qf.all1, if_true, e0, e1, e2, e3, e4, e5, e6, e7, e8, e9, e10, e11, e12, e13, e14, e15, e16, e17]
  simp only [Act.put, List.setIfInBounds_toArray, List.set_cons_succ, List.set_cons_zero]
  have AP := hide (And.intro (bF p c e2) (bS f d e5))
  have UP := hide (own_ne oP oV rfl)
  have UF := hide (own_ne oF oV rfl)
  have US := hide (own_ne oS oV rfl)
  have QP := hide oP
  have QF := hide oF
  have QS := hide oS
  have VV := hide oV
  have HV := hide hv
  have SX := hide S3.out
  replace LL0 := hide (LL0.out.below bz)
  replace LO0 := hide (LO0.out.below bz)
  replace R1 := hide (R1.out.kept (Kept.of_below (S := fun _ => False) bz) id)
  replace B3 := hide (B3.out.trans (bz.mono B3.out.size))
  replace S3 := hide (Nat.le_trans S3.out bz.size)
  have KE := hide (Kept.of_below (S := fun b => X2.heap.size ≤ b) bz)
  clear hk9 e0 e1 e2 e3 e4 e5 e6 e7 e8 e9 e10 e11 e12 e13 e14 e15 e16 e17 oP oF oS bF bS bz oV hv
  obtain ⟨V0, hV0⟩ : ∃ V0, X3.setCell ⟨v, 0, none⟩ (.slice p n c) = V0 := ⟨_, rfl⟩
  have eV0 : X3.cell? ⟨v, 0, none⟩ = some (.slice none 0 0) := VV.out.c 0 (by omega)
  have fV0 := VV.out.f 0
  replace VV := hide (hV0 ▸ VV.out.set 0 (.slice p n c) (by omega) : C6 V0 v _)
  have kV0 : Kept (· = v) X3 V0 := hV0 ▸ Kept.setCell X3 ⟨v, 0, none⟩ _
  replace R1 := hide (R1.out.kept kV0 (by have := HV.out; have := SX.out; have := Y.out; show ¬ W2.heap.size = v; omega))
  replace B3 := hide (hV0 ▸ B3.out.setCell (p := ⟨v, 0, none⟩) (by have := HV.out; have := SX.out; have := Y.out; show w.heap.size ≤ v; omega) _ : Below w.heap.size w V0)
  replace QP := hide (QP.out.kept kV0 (fun k hb e => UP.out k hb e))
  replace QF := hide (QF.out.kept kV0 (fun k hb e => UF.out k hb e))
  replace QS := hide (QS.out.kept kV0 (fun k hb e => US.out k hb e))
  replace KE := hide (KE.out.trans (kV0.mono (fun b _ (e : b = v) => by show X2.heap.size ≤ b; have := HV.out; omega)))
  clear kV0
  obtain ⟨V1, hV1⟩ : ∃ V1, V0.setCell ⟨v, 1, none⟩ (.slice f n d) = V1 := ⟨_, rfl⟩
  have eV1 : V0.cell? ⟨v, 1, none⟩ = some (.slice none 0 0) := VV.out.c 1 (by omega)
  have fV1 := VV.out.f 1
  replace VV := hide (hV1 ▸ VV.out.set 1 (.slice f n d) (by omega) : C6 V1 v _)
  have kV1 : Kept (· = v) V0 V1 := hV1 ▸ Kept.setCell V0 ⟨v, 1, none⟩ _
  replace R1 := hide (R1.out.kept kV1 (by have := HV.out; have := SX.out; have := Y.out; show ¬ W2.heap.size = v; omega))
  replace B3 := hide (hV1 ▸ B3.out.setCell (p := ⟨v, 1, none⟩) (by have := HV.out; have := SX.out; have := Y.out; show w.heap.size ≤ v; omega) _ : Below w.heap.size w V1)
  replace QP := hide (QP.out.kept kV1 (fun k hb e => UP.out k hb e))
  replace QF := hide (QF.out.kept kV1 (fun k hb e => UF.out k hb e))
  replace QS := hide (QS.out.kept kV1 (fun k hb e => US.out k hb e))
  replace KE := hide (KE.out.trans (kV1.mono (fun b _ (e : b = v) => by show X2.heap.size ≤ b; have := HV.out; omega)))
  clear kV1
  obtain ⟨V2, hV2⟩ : ∃ V2, V1.setCell ⟨v, 2, none⟩ (.slice q n g) = V2 := ⟨_, rfl⟩
  have eV2 : V1.cell? ⟨v, 2, none⟩ = some (.slice none 0 0) := VV.out.c 2 (by omega)
  have fV2 := VV.out.f 2
  replace VV := hide (hV2 ▸ VV.out.set 2 (.slice q n g) (by omega) : C6 V2 v _)
  have kV2 : Kept (· = v) V1 V2 := hV2 ▸ Kept.setCell V1 ⟨v, 2, none⟩ _
  replace R1 := hide (R1.out.kept kV2 (by have := HV.out; have := SX.out; have := Y.out; show ¬ W2.heap.size = v; omega))
  replace B3 := hide (hV2 ▸ B3.out.setCell (p := ⟨v, 2, none⟩) (by have := HV.out; have := SX.out; have := Y.out; show w.heap.size ≤ v; omega) _ : Below w.heap.size w V2)
  replace QP := hide (QP.out.kept kV2 (fun k hb e => UP.out k hb e))
  replace QF := hide (QF.out.kept kV2 (fun k hb e => UF.out k hb e))
  replace QS := hide (QS.out.kept kV2 (fun k hb e => US.out k hb e))
  replace KE := hide (KE.out.trans (kV2.mono (fun b _ (e : b = v) => by show X2.heap.size ≤ b; have := HV.out; omega)))
  clear kV2
  obtain ⟨V3, hV3⟩ : ∃ V3, V2.setCell ⟨v, 3, none⟩ (.int .i64 (s.c + 1)) = V3 := ⟨_, rfl⟩
  have eV3 : V2.cell? ⟨v, 3, none⟩ = some (.int .i64 0) := VV.out.c 3 (by omega)
  have fV3 := VV.out.f 3
  replace VV := hide (hV3 ▸ VV.out.set 3 (.int .i64 (s.c + 1)) (by omega) : C6 V3 v _)
  have kV3 : Kept (· = v) V2 V3 := hV3 ▸ Kept.setCell V2 ⟨v, 3, none⟩ _
  replace R1 := hide (R1.out.kept kV3 (by have := HV.out; have := SX.out; have := Y.out; show ¬ W2.heap.size = v; omega))
  replace B3 := hide (hV3 ▸ B3.out.setCell (p := ⟨v, 3, none⟩) (by have := HV.out; have := SX.out; have := Y.out; show w.heap.size ≤ v; omega) _ : Below w.heap.size w V3)
  replace QP := hide (QP.out.kept kV3 (fun k hb e => UP.out k hb e))
  replace QF := hide (QF.out.kept kV3 (fun k hb e => UF.out k hb e))
  replace QS := hide (QS.out.kept kV3 (fun k hb e => US.out k hb e))
  replace KE := hide (KE.out.trans (kV3.mono (fun b _ (e : b = v) => by show X2.heap.size ≤ b; have := HV.out; omega)))
  clear kV3
  obtain ⟨V4, hV4⟩ : ∃ V4, V3.setCell ⟨v, 4, none⟩ (.int .i64 s.f) = V4 := ⟨_, rfl⟩
  have eV4 : V3.cell? ⟨v, 4, none⟩ = some (.int .i64 0) := VV.out.c 4 (by omega)
  have fV4 := VV.out.f 4
  replace VV := hide (hV4 ▸ VV.out.set 4 (.int .i64 s.f) (by omega) : C6 V4 v _)
  have kV4 : Kept (· = v) V3 V4 := hV4 ▸ Kept.setCell V3 ⟨v, 4, none⟩ _
  replace R1 := hide (R1.out.kept kV4 (by have := HV.out; have := SX.out; have := Y.out; show ¬ W2.heap.size = v; omega))
  replace B3 := hide (hV4 ▸ B3.out.setCell (p := ⟨v, 4, none⟩) (by have := HV.out; have := SX.out; have := Y.out; show w.heap.size ≤ v; omega) _ : Below w.heap.size w V4)
  replace QP := hide (QP.out.kept kV4 (fun k hb e => UP.out k hb e))
  replace QF := hide (QF.out.kept kV4 (fun k hb e => UF.out k hb e))
  replace QS := hide (QS.out.kept kV4 (fun k hb e => US.out k hb e))
  replace KE := hide (KE.out.trans (kV4.mono (fun b _ (e : b = v) => by show X2.heap.size ≤ b; have := HV.out; omega)))
  clear kV4
  obtain ⟨V5, hV5⟩ : ∃ V5, V4.setCell ⟨v, 5, none⟩ (.int .i64 s.g) = V5 := ⟨_, rfl⟩
  have eV5 : V4.cell? ⟨v, 5, none⟩ = some (.int .i64 0) := VV.out.c 5 (by omega)
  have fV5 := VV.out.f 5
  replace VV := hide (hV5 ▸ VV.out.set 5 (.int .i64 s.g) (by omega) : C6 V5 v _)
  have kV5 : Kept (· = v) V4 V5 := hV5 ▸ Kept.setCell V4 ⟨v, 5, none⟩ _
  replace R1 := hide (R1.out.kept kV5 (by have := HV.out; have := SX.out; have := Y.out; show ¬ W2.heap.size = v; omega))
  replace B3 := hide (hV5 ▸ B3.out.setCell (p := ⟨v, 5, none⟩) (by have := HV.out; have := SX.out; have := Y.out; show w.heap.size ≤ v; omega) _ : Below w.heap.size w V5)
  replace QP := hide (QP.out.kept kV5 (fun k hb e => UP.out k hb e))
  replace QF := hide (QF.out.kept kV5 (fun k hb e => UF.out k hb e))
  replace QS := hide (QS.out.kept kV5 (fun k hb e => US.out k hb e))
  replace KE := hide (KE.out.trans (kV5.mono (fun b _ (e : b = v) => by show X2.heap.size ≤ b; have := HV.out; omega)))
  clear kV5
  clear LL0 LO0 S3
  have CG := hide (gradS w.heap.size a n cl Gr V5 B3.out.size (HI.out.below B3.out) (by have := N4.out; omega))
  have GF : grd n Gr = true := grd_mk (fun j hj => of_decide_eq_true HG.out j hj) N4.out.1
  rw [GF] at CG
  clear GF
  go_wp2_with fail
  refine CG.out.mono ?_; rintro e X4 ⟨rfl, bx⟩
  clear CG hV0 eV0 fV0 hV1 eV1 fV1 hV2 eV2 fV2 hV3 eV3 fV3 hV4 eV4 fV4 hV5 eV5 fV5
  replace VV := hide (VV.out.kept (Kept.of_below (S := fun _ => False) bx) id)
  replace R1 := hide (R1.out.kept (Kept.of_below (S := fun _ => False) bx) id)
  replace KE := hide (KE.out.trans (Kept.of_below bx))
  replace B3 := hide (B3.out.trans (bx.mono B3.out.size))
  replace QP := hide (QP.out.below bx)
  replace QF := hide (QF.out.below bx)
  replace QS := hide (QS.out.below bx)
  clear bx
  have M := hide (show SM X2 X4 v n (OV p f q n c d g (s.c + 1) s.f s.g) p f q s.P s.F s.S from SM.sameV ⟨KE.out, VV.out, HV.out, QP.out, QF.out, QS.out, UP.out, UF.out, US.out, bhd_lt AP.out.1, bhd_lt AP.out.2⟩ (fun i hi => by rcases (by omega : i = 0 ∨ i = 1 ∨ i = 2 ∨ i = 3 ∨ i = 4 ∨ i = 5) with rfl | rfl | rfl | rfl | rfl | rfl <;> rfl))
  have M4 := M
  have I1 := hide (H1.out.below BX2.out)
  have I2 := hide (H2.out.below BX2.out)
  have I3 := hide (H3.out.below BX2.out)
  have IG := hide (HI.out.below BX2.out)
  have SW := hide (BX2.out.size)
  clear KE VV QP QF QS UP UF US R1 B3 H1 H2 H3 HI E1 E2 E3 HV
  obtain ⟨i0, hi0, hz0, hz1, hz2⟩ := info_parts infoInt
  obtain ⟨X5, hX5⟩ : ∃ X5, X4.alloc (.cells #[] 3) = X5 := ⟨_, rfl⟩
  have B5 := hide (show Below X4.heap.size X4 X5 from hX5 ▸ (Below.refl _ _).alloc (Nat.le_refl _) _)
  have O5 := hide (show X5.ownsRow X4.heap.size 3 1 (.slice (some ⟨X4.heap.size, 0, none⟩) 0 0) 0 [] from hX5 ▸ ⟨rfl, .inr ⟨X4.heap.size, 0, #[], rfl, Nat.le_refl _, heap_alloc_new X4 _, Nat.le_refl _, by simp [maxLen], rfl, rfl⟩⟩)
  have NN := hide (show (n : Int) ≤ 4096 from N4.out.1)
  have F16 := hide (fac_rng HS.out.2.2.2.2.2.2)
  go_wp2_with fail
  clear hX5
  go_loopw [9, 10] (fun o i wx => ∃ k g c : Nat, k ≤ n ∧ i = .int .i64 (k : Int) ∧ o = .slice (some ⟨g, 0, none⟩) k c ∧ wx.ownsRow X4.heap.size 3 1 (.slice (some ⟨g, 0, none⟩) k c) k (ints k (gr0 Gr s.f)) ∧ Below X4.heap.size X4 wx) (fun _ i _ => n - (intOf i).toNat)
  case atStart => exact ⟨0, X4.heap.size, 0, by omega, rfl, rfl, O5.out, B5.out⟩
  case round =>
    obtain ⟨k, g1, c1, hk, rfl, rfl, hown, bb⟩ := hrel
    have HO := hide hown
    have BB := hide bb
    have MW := hide (M.out.below bb)
    clear hown bb O5 B5
    by_cases hlt : k < n
    · as_aux_lemma =>
        have kI : (k : Int) < (n : Int) := by omega
        have k4 : k < 4096 := by have := NN.out; omega
        have gl := hide (HO.out.lt g1 rfl).1
        have ig := hide (MW.out.ints IG.out SW.out)
        rcases ig.out with hz | ⟨gb, go', rfl, hgb, hc⟩
        · omega
        obtain ⟨cg, bg⟩ := hc k hlt
        have cf := MW.out.cell PA4.out
        obtain ⟨x, hx⟩ : ∃ x, Gr k = x := ⟨_, rfl⟩
        have hr : -16777216 ≤ Gr k ∧ Gr k ≤ 16777216 := of_decide_eq_true HG.out k hlt
        rw [hx] at cg hr
        have CN := hide (fun W => nearS x s.f 16777216 (by omega) (by omega) (by decide) (by have := F16.out; omega) (by have := F16.out; omega) W)
        obtain ⟨y, hy⟩ : ∃ y, nrv x s.f = y := ⟨_, rfl⟩
        rw [hy] at CN
        have EY := hide (show gr0 Gr s.f k = y by unfold gr0; rw [hx, hy])
        have hgn : gb ≠ g1 := by have := gl.out; have := MW.out.size; have := SW.out; have := M.out.size; omega
        have hgm : W1.heap.size ≠ g1 := by have := gl.out; have := M.out.size; have q : W1.heap.size < X2.heap.size := World.block_lt_of_cell? _ _ PA4.out; omega
        have szw := BB.out.size
        clear hc hx hy hr bg hgb ig
        go_wp2_with fail
        go_region_held3 (fun w' => w'.cell? ⟨gb, go' + k, none⟩ = some (.int .i64 x) ∧ w'.cell? ⟨W1.heap.size, 4, none⟩ = some (.int .i64 s.f))
          ((try dsimp only) <;> (repeat' apply And.intro) <;> (repeat (first | with_reducible assumption | with_reducible apply drew_old | with_reducible apply alloc_old | (with_reducible apply below_old; (focus (with_reducible assumption))) | (with_reducible apply grown_old; (focus (with_reducible assumption)); (focus (dsimp only; with_reducible assumption))))))
          (first
            | (go_at_call 33
               refine (CN.out _).mono ?_
               rintro e1 w1 ⟨rfl, b1⟩
               have hown1 := own_below (w := wr.drew) HO.out b1
               have hsz1 : X4.heap.size ≤ w1.heap.size := Nat.le_trans BB.out.size b1.size)
            | (refine step_append_lies _ (by rfl) _ _ _ (by rfl) X4.heap.size 3 i0 _ 1 8 Try.underlying28 hi0 hz0 hz1 hz2 rfl (by omega) (.slice (some ⟨g1, 0, none⟩) k c1) k (ints k (gr0 Gr s.f)) (by rfl) (hown1.alloc _)
                ⟨w1.heap.size, 0, none⟩ 1 1 [.int .i64 y] (by rfl) (by rfl) (World.news_of_block (cs := #[.int .i64 y]) (t := 3) (fr := (0, 0)) (heap_alloc_new w1 _)) (by simp [Value.oneCell'])
                (by omega) (by unfold maxLen; omega) (by omega) (by simp; omega) (w1.heap.size + 1) (by simp) ?_
               intro g' c' w3 hown3 hgrow0 hat hlt3
               have hgrow : World.grownBy _ w3 (some g1) := hgrow0
               clear hgrow0))
        go_wp2_with fail
        go_roundw
        case rel =>
          rw [← EY.out, ints_succ k (gr0 Gr s.f)] at hown3
          have b5 : Below X4.heap.size X4 w1 := BB.out.drew.trans (b1.mono BB.out.size)
          have b6 : Below X4.heap.size X4 w3 := (b5.trans (((Below.refl _ _).alloc (Nat.le_refl _) (.cells #[.int .i64 y] 3)).mono hsz1)).grown hgrow (by simp; omega) (by rintro q ⟨⟩; exact gl.out)
          exact ⟨k + 1, g', c', by omega, by go_num, rfl, hown3, b6⟩
        case measure => simp [intOf]; omega
    · obtain rfl : n = k := by omega
      have cF : decide ((n : Int) < (n : Int)) = false := by simp
      have RV : RowV X4.heap.size wr (.slice (some ⟨g1, 0, none⟩) n c1) n (gr0 Gr s.f) := ⟨HO.out, fun q hq => by have := gr0_rng HS.out.2.2.2.2.2.2 HG.out q hq; exact ⟨by omega, by omega⟩⟩
      obtain ⟨a', c', e', o'⟩ := RV.own
      injection e' with e1 e2 e3
      subst e1
      have OO := hide o'
      have szw := hide BB.out.size
      clear o' RV e3 e2 hlt HO hk
      have l9 := MW.out.cell PR9.out
      go_upto_if 86 with fail
      clear l9
      go_cut [9] (fun gv wx => ∃ (ga : Option Addr) (gc : Nat), gv = .slice ga n gc ∧ OwnL X4.heap.size wx ga n G ∧ Below X4.heap.size X4 wx)
      case first =>
        have l9 := MW.out.cell PR9.out
        by_cases cm : 0 < R.mo
        · have CC := hide (GC.out cm wr.heap.size wr (some ⟨g1, 0, none⟩) c1 (Nat.le_refl _) OO.out.ints)
          go_wp2_with fail
          refine CC.out.mono ?_
          rintro e w5 ⟨a5, c5, rfl, o5, b5⟩
          have OZ := hide (o5.mono szw.out)
          have BZ := hide (BB.out.trans (b5.mono szw.out))
          clear o5 b5
          go_wp2_with fail
          go_meet
          exact ⟨a5, c5, rfl, OZ.out, BZ.out⟩
        · have cn : decide (0 < R.mo) = false := decide_eq_false cm
          have eg := hide (GZ.out (by omega))
          have cle : R.mo ≤ 0 := by omega
          go_wp2_with fail
          go_meet
          exact ⟨_, _, rfl, by rw [eg.out]; exact OO.out, BB.out⟩
      case rest =>
      obtain ⟨ga, gc, rfl, hog, hbb⟩ := hcut
      have x4c := hide hbb.size
      have OG := hide hog
      replace M := hide (M.out.below hbb)
      clear hog hbb OO BB MW szw GC GZ
      have l1 := M.out.cell PR1.out
      have l2 := M.out.cell PR2.out
      have l3 := M.out.cell PR3.out
      have l4 := M.out.cell PR4.out
      have o3 := M.out.cell PA3.out
      go_wp2_with fail
      refine (HRt.out _).mono ?_
      rintro e w6 ⟨rfl, b6⟩
      clear l1 l2 l3 l4 o3
      have b6s := hide b6.size
      replace OG := hide (OG.out.below b6)
      replace M := hide (M.out.below b6)
      clear b6 HRt
      have X4w := hide (show X4.heap.size ≤ w6.heap.size from Nat.le_trans x4c.out b6s.out)
      go_wp2_with fail
      go_loopw [12] (fun i wx => ∃ k : Nat, k ≤ n ∧ i = .int .i64 (k : Int) ∧ SM X2 wx v n (OV p f q n c d g (s.c + 1) s.f s.g) p f q (upto k NP s.P) (upto k NF s.F) (upto k NS s.S) ∧ OwnL X4.heap.size wx ga n G ∧ X4.heap.size ≤ wx.heap.size) (fun i _ => n - (intOf i).toNat)
      case atStart => exact ⟨0, Nat.zero_le _, rfl, M.out.same (fun i _ => upto_zero NP s.P i) (fun i _ => upto_zero NF s.F i) (fun i _ => upto_zero NS s.S i), OG.out, X4w.out⟩
      case round =>
        obtain ⟨k, hk, rfl, hM, hO, hX⟩ := hrel
        have MR := hide hM
        have OR := hide hO
        have XW := hide hX
        clear hM hO hX M OG
        by_cases hlt : k < n
        · as_aux_lemma =>
            have kI : (k : Int) < (n : Int) := by omega
            have k4 : (k : Int) < 4096 := by have := NN.out; omega
            have PIN := hide (St.pin HS.out HRk.out HU.out.1 HU.out.2 hlt (GR.out k hlt).1 (GR.out k hlt).2)
            obtain ⟨b1, o1, ea1, d1⟩ := ints_at I1.out hlt
            obtain ⟨b2, o2, ea2, d2⟩ := ints_at I2.out hlt
            obtain ⟨b3, o3, ea3, d3⟩ := ints_at I3.out hlt
            have EA1 := hide ea1
            have EA2 := hide ea2
            have EA3 := hide ea3
            have D1 := hide d1
            have D2 := hide d2
            have D3 := hide d3
            clear ea1 ea2 ea3 d1 d2 d3
            obtain ⟨gg, hgg⟩ := own_at OR.out hlt
            subst hgg
            obtain ⟨gp, hgp⟩ := own_at MR.out.P hlt
            obtain ⟨gf, hgf⟩ := own_at MR.out.F hlt
            obtain ⟨gs, hgs⟩ := own_at MR.out.S hlt
            have EGP := hide hgp
            have EGF := hide hgf
            have EGS := hide hgs
            clear hgp hgf hgs
            have ep := hide (EP.out k)
            have ef := hide (EF.out k)
            have es := hide (ES.out k)
            obtain ⟨P0, hP0⟩ : ∃ P0, s.P k = P0 := ⟨_, rfl⟩
            obtain ⟨F0, hF0⟩ : ∃ F0, s.F k = F0 := ⟨_, rfl⟩
            obtain ⟨S0, hS0⟩ : ∃ S0, s.S k = S0 := ⟨_, rfl⟩
            obtain ⟨G0, hG0⟩ : ∃ G0, G k = G0 := ⟨_, rfl⟩
            rw [hP0, hF0, hS0, hG0] at PIN ep
            rw [hF0, hG0] at ef
            rw [hS0, hG0] at es
            rw [hP0] at D1
            rw [hF0] at D2
            rw [hS0] at D3
            have GK := hide (fun (W : World) (o : OwnL X4.heap.size W (some ⟨gg, 0, none⟩) n G) => (by rw [← hG0]; exact (own_cell o rfl hlt).1 : W.cell? ⟨gg, k, none⟩ = some (.int .i64 G0)))
            have EPV := hide (show s.P k = P0 from hP0)
            have EFV := hide (show s.F k = F0 from hF0)
            have ESV := hide (show s.S k = S0 from hS0)
            clear hP0 hF0 hS0 hG0
            obtain ⟨DD, hDD⟩ : ∃ DD, dcy R.y u P0 = DD := ⟨_, rfl⟩
            have HDD := hide hDD
            clear hDD
            have a0 := MR.out.cell PA0.out
            rw [EA1.out] at a0
            have cp0 := MR.out.cell D1.out
            have l8 := MR.out.cell PR8.out
            go_upto_if 109 with fail
            clear a0 cp0
            go_cut [13] (fun pv wx => pv = .int .i64 DD ∧ Below wr.heap.size wr wx)
            case first =>
              by_cases cy : 0 < R.y
              · obtain ⟨A, r1, Bv, r2, C, e1, n1, e2, n2, e3, e4⟩ := decS PIN.out
                rw [HDD.out] at e4
                have CN1 := hide n1
                have CN2 := hide n2
                have CB := hide (fun W => (show Calls Try.prog 36 #[.int .i64 C] W fun e w' => e = .returned (.int .i64 DD) ∧ Below W.heap.size W w' by rw [← e4]; exact bringS C W))
                clear n1 n2 e4
                go_wp2_with fail
                refine (CN1.out _).mono ?_; rintro e y1 ⟨rfl, z1⟩
                have Z1 := hide z1
                clear z1
                go_wp2_with fail
                refine (CN2.out _).mono ?_; rintro e y2 ⟨rfl, z2⟩
                have Z2 := hide (Z1.out.trans (z2.mono Z1.out.size))
                clear z2
                go_wp2_with fail
                refine (CB.out _).mono ?_; rintro e y3 ⟨rfl, z3⟩
                have Z3 := hide (Z2.out.trans (z3.mono Z2.out.size))
                clear z3
                go_wp2_with fail
                go_meet
                exact ⟨rfl, Z3.out⟩
              · have cn : decide (0 < R.y) = false := decide_eq_false cy
                have y0 : R.y = 0 := by have := PIN.out.y0; omega
                have ed := hide (show P0 = DD by rw [← HDD.out, y0, dcy_zero PIN.out.p0 PIN.out.p1])
                have cle : R.y ≤ 0 := by omega
                clear y0
                go_wp2_with fail
                go_meet
                exact ⟨by rw [ed.out], Below.refl _ _⟩
            case rest =>
            obtain ⟨rfl, bq⟩ := hcut
            replace MR := hide (MR.out.below bq)
            replace OR := hide (OR.out.below bq)
            replace XW := hide (Nat.le_trans XW.out bq.size)
            clear bq l8
            have a1 := MR.out.cell PA1.out
            rw [EA2.out] at a1
            have cf0 := MR.out.cell D2.out
            have l0 := MR.out.cell PR0.out
            have gk := GK.out _ OR.out
            have HK := hide (rul_of HRk.out).1
            have N0 := hide (show bd F0 from ⟨by have := PIN.out.f0; omega, by have := PIN.out.f1; omega⟩)
            have OLDP := hide ((M4.out.P.blk (blk_of EGP.out (by omega : n ≠ 0))).2)
            have OLDF := hide ((M4.out.F.blk (blk_of EGF.out (by omega : n ≠ 0))).2)
            have OLDS := hide ((M4.out.S.blk (blk_of EGS.out (by omega : n ≠ 0))).2)
            rcases (by have := HK.out; omega : R.d = 1 ∨ R.d = 2 ∨ R.d = 3) with hd | hd | hd
            · as_aux_lemma =>
                rw [hd] at ep ef es
                have t1 : (R.d == 1) = true := by rw [hd]; rfl
                have t2 : (R.d == 2) = false := by rw [hd]; rfl
                have t3 : (R.d == 3) = false := by rw [hd]; rfl
                obtain ⟨A, r1, CC0, e1, n1, e3, e4⟩ := plainS PIN.out
                rw [HDD.out] at e3
                obtain ⟨NPv, hv⟩ : ∃ NPv, nP 1 R.k R.z R.o R.y u P0 F0 S0 G0 = NPv := ⟨_, rfl⟩
                rw [hv] at e4 ep
                have EB := hide e4
                have HVP := hide ep.out
                have HVF := hide (show NF k = F0 from ef.out)
                have HVS := hide (show NS k = s.S k by rw [ESV.out]; exact es.out)
                have NP0 := hide (show bd NPv from by rw [← EB.out]; have := brg_rng CC0; unfold bd; omega)
                have NF0 := N0
                have CN1 := hide n1
                clear n1 e4 hd hv
                go_wp2_with fail
                refine (CN1.out _).mono ?_; rintro e y1 ⟨rfl, z1⟩
                replace MR := hide (MR.out.below z1)
                replace OR := hide (OR.out.below z1)
                replace XW := hide (Nat.le_trans XW.out z1.size)
                clear z1 a1 cf0 l0 gk
                have v1 := MR.out.cv.c 1 (by omega)
                replace v1 : y1.cell? ⟨v, 1, none⟩ = some (.slice f n d) := v1
                rw [EGF.out] at v1
                obtain ⟨Y1, hY1⟩ : ∃ Y1, y1.setCell ⟨gf, k, none⟩ (.int .i64 F0) = Y1 := ⟨_, rfl⟩
                have MY1 := hide (show SM X2 Y1 v n _ p f q _ _ _ from hY1 ▸ MR.out.setF (x := F0) EGF.out hlt NF0.out)
                obtain ⟨eY1, fY1⟩ := own_cell MR.out.F EGF.out hlt
                replace OR := hide (show OwnL X4.heap.size Y1 (some ⟨gg, 0, none⟩) n G from hY1 ▸ OR.out.kept (Kept.setCell y1 ⟨gf, k, none⟩ _) (fun b hb (e : b = gf) => by have q1 := (OR.out.blk hb).1; have q2 := OLDF.out; omega))
                replace XW := hide (show X4.heap.size ≤ Y1.heap.size by rw [← hY1]; simpa [World.setCell] using XW.out)
                have v0 := MY1.out.cv.c 0 (by omega)
                replace v0 : Y1.cell? ⟨v, 0, none⟩ = some (.slice p n c) := v0
                rw [EGP.out] at v0
                have CB := hide (fun dd oo => Calls.regrown_of (d := dd) (os := oo) (w := Y1) (show Calls Try.prog 36 #[.int .i64 CC0] _ fun e w' => e = .returned (.int .i64 NPv) ∧ Below _ _ w' by rw [← EB.out]; exact bringS CC0 _))
                go_wp2_with fail
                have k0 := cell_regrown v0
                clear v0 v1 eY1 fY1 hY1
                refine Qt.region_tail_below 6 (by kernel_rfl) (by kernel_rfl) ?_
                simp only [List.take_succ_cons, List.take_zero, List.drop_succ_cons, List.drop_zero]
                repeat (go_big_quiet_step (first | (go_at_call 36; exact CB.out _ _)))
                refine wpQuiet_nil ?_
                intro _ hw'
                obtain ⟨⟨dq, osq⟩, hw''⟩ := hw'
                subst hw''
                obtain ⟨Z, hZ⟩ : ∃ Z, Sort.grow (redrawn Y1 dq) osq = Z := ⟨_, rfl⟩
                have bz : Below Y1.heap.size Y1 Z := hZ ▸ below_regrown _ _ _
                rw [hZ]
                clear hZ k0 CB
                replace MY1 := hide (MY1.out.below bz)
                replace OR := hide (OR.out.below bz)
                replace XW := hide (Nat.le_trans XW.out bz.size)
                clear bz
                obtain ⟨Y2, hY2⟩ : ∃ Y2, Z.setCell ⟨gp, k, none⟩ (.int .i64 NPv) = Y2 := ⟨_, rfl⟩
                have MY2 := hide (show SM X2 Y2 v n _ p f q _ _ _ from hY2 ▸ MY1.out.setP (x := NPv) EGP.out hlt NP0.out)
                obtain ⟨eY2, fY2⟩ := own_cell MY1.out.P EGP.out hlt
                replace OR := hide (show OwnL X4.heap.size Y2 (some ⟨gg, 0, none⟩) n G from hY2 ▸ OR.out.kept (Kept.setCell Z ⟨gp, k, none⟩ _) (fun b hb (e : b = gp) => by have q1 := (OR.out.blk hb).1; have q2 := OLDP.out; omega))
                replace XW := hide (show X4.heap.size ≤ Y2.heap.size by rw [← hY2]; simpa [World.setCell] using XW.out)
                go_wp2_with fail
                go_roundw
                case rel =>
                  refine ⟨k + 1, by omega, by go_num, MY2.out.same (fun i hi => ?_) (fun i hi => ?_) (fun i hi => ?_), OR.out, XW.out⟩
                  · rw [← upto_up (N := NP) (D := s.P) k i, HVP.out]
                  · rw [← upto_up (N := NF) (D := s.F) k i, HVF.out]
                  · exact upto_skip (N := NS) (D := s.S) k i HVS.out
                case measure => simp [intOf]; omega
            · as_aux_lemma =>
                rw [hd] at ep ef es
                have t1 : (R.d == 1) = false := by rw [hd]; rfl
                have t2 : (R.d == 2) = true := by rw [hd]; rfl
                have t3 : (R.d == 3) = false := by rw [hd]; rfl
                obtain ⟨qa, r1, qb, Fv, qt, r2, CC0, e1, n1, e3, e4, e5, e6, n2, e7, e8⟩ := heavyS PIN.out
                rw [HDD.out] at e7
                obtain ⟨NPv, hv⟩ : ∃ NPv, nP 2 R.k R.z R.o R.y u P0 F0 S0 G0 = NPv := ⟨_, rfl⟩
                rw [hv] at e8 ep
                have EB := hide e8
                have HVP := hide ep.out
                have HVF := hide (show NF k = Fv by rw [e5]; exact ef.out)
                have HVS := hide (show NS k = s.S k by rw [ESV.out]; exact es.out)
                have NP0 := hide (show bd NPv from by rw [← EB.out]; have := brg_rng CC0; unfold bd; omega)
                have NF0 := hide (show bd Fv from by rw [← e4]; have := cl_rng (l := -4294967296) (m := 4294967296) qb (by decide); unfold bd; omega)
                have CN1 := hide (fun dd oo => Calls.regrown_of (d := dd) (os := oo) (w := wc) (show Calls Try.prog 33 #[.int .i64 qa, .int .i64 65536] _ fun e w' => e = .returned (.int .i64 r1) ∧ Below _ _ w' from n1 _))
                have CL := hide (fun dd oo => Calls.regrown_of (d := dd) (os := oo) (w := wc) (show Calls Try.prog 37 #[.int .i64 qb, .int .i64 (-4294967296), .int .i64 4294967296] _ fun e w' => e = .returned (.int .i64 Fv) ∧ Below _ _ w' from (clipS (-4294967296) 4294967296 qb _).mono (by rintro e w' ⟨rfl, rfl⟩; exact ⟨by rw [e4], Below.refl _ _⟩)))
                have CN2 := hide n2
                have E5 := hide e5
                have l5 := MR.out.cell PR5.out
                clear n1 n2 e4 e5 e8 hd hv
                go_wp2_with fail
                have qa1 := cell_regrown a1
                have qcf0 := cell_regrown cf0
                have ql0 := cell_regrown l0
                have qgk := cell_regrown gk
                have ql5 := cell_regrown l5
                clear a1 cf0 l0 gk l5
                refine wp_region_quiet_below (by kernel_rfl) (by kernel_rfl) ?_
                repeat (go_big_quiet_step (first | (go_at_call_of 33 (Value.int IntKind.i64 qa); exact CN1.out _ _) | (go_at_call_of 37 (Value.int IntKind.i64 qb); exact CL.out _ _)))
                refine wpQuiet_nil ?_
                intro y1 hw'
                have bz : Below wc.heap.size wc y1 := by obtain ⟨⟨dq, osq⟩, hw''⟩ := hw'; rw [hw'']; exact below_regrown _ dq osq
                clear hw' qa1 qcf0 ql0 qgk ql5
                replace MR := hide (MR.out.below bz)
                replace OR := hide (OR.out.below bz)
                replace XW := hide (Nat.le_trans XW.out bz.size)
                clear bz
                go_wp2_with fail
                refine (CN2.out _).mono ?_; rintro e y2 ⟨rfl, z1⟩
                replace MR := hide (MR.out.below z1)
                replace OR := hide (OR.out.below z1)
                replace XW := hide (Nat.le_trans XW.out z1.size)
                clear z1
                have v1 := MR.out.cv.c 1 (by omega)
                replace v1 : y2.cell? ⟨v, 1, none⟩ = some (.slice f n d) := v1
                rw [EGF.out] at v1
                obtain ⟨Y1, hY1⟩ : ∃ Y1, y2.setCell ⟨gf, k, none⟩ (.int .i64 Fv) = Y1 := ⟨_, rfl⟩
                have MY1 := hide (show SM X2 Y1 v n _ p f q _ _ _ from hY1 ▸ MR.out.setF (x := Fv) EGF.out hlt NF0.out)
                obtain ⟨eY1, fY1⟩ := own_cell MR.out.F EGF.out hlt
                replace OR := hide (show OwnL X4.heap.size Y1 (some ⟨gg, 0, none⟩) n G from hY1 ▸ OR.out.kept (Kept.setCell y2 ⟨gf, k, none⟩ _) (fun b hb (e : b = gf) => by have q1 := (OR.out.blk hb).1; have q2 := OLDF.out; omega))
                replace XW := hide (show X4.heap.size ≤ Y1.heap.size by rw [← hY1]; simpa [World.setCell] using XW.out)
                have v0 := MY1.out.cv.c 0 (by omega)
                replace v0 : Y1.cell? ⟨v, 0, none⟩ = some (.slice p n c) := v0
                rw [EGP.out] at v0
                have CB := hide (fun dd oo => Calls.regrown_of (d := dd) (os := oo) (w := Y1) (show Calls Try.prog 36 #[.int .i64 CC0] _ fun e w' => e = .returned (.int .i64 NPv) ∧ Below _ _ w' by rw [← EB.out]; exact bringS CC0 _))
                go_wp2_with fail
                have k0 := cell_regrown v0
                clear v0 v1 eY1 fY1 hY1
                refine Qt.region_tail_below 6 (by kernel_rfl) (by kernel_rfl) ?_
                simp only [List.take_succ_cons, List.take_zero, List.drop_succ_cons, List.drop_zero]
                repeat (go_big_quiet_step (first | (go_at_call 36; exact CB.out _ _)))
                refine wpQuiet_nil ?_
                intro _ hw'
                obtain ⟨⟨dq, osq⟩, hw''⟩ := hw'
                subst hw''
                obtain ⟨Z, hZ⟩ : ∃ Z, Sort.grow (redrawn Y1 dq) osq = Z := ⟨_, rfl⟩
                have bz : Below Y1.heap.size Y1 Z := hZ ▸ below_regrown _ _ _
                rw [hZ]
                clear hZ k0 CB
                replace MY1 := hide (MY1.out.below bz)
                replace OR := hide (OR.out.below bz)
                replace XW := hide (Nat.le_trans XW.out bz.size)
                clear bz
                obtain ⟨Y2, hY2⟩ : ∃ Y2, Z.setCell ⟨gp, k, none⟩ (.int .i64 NPv) = Y2 := ⟨_, rfl⟩
                have MY2 := hide (show SM X2 Y2 v n _ p f q _ _ _ from hY2 ▸ MY1.out.setP (x := NPv) EGP.out hlt NP0.out)
                obtain ⟨eY2, fY2⟩ := own_cell MY1.out.P EGP.out hlt
                replace OR := hide (show OwnL X4.heap.size Y2 (some ⟨gg, 0, none⟩) n G from hY2 ▸ OR.out.kept (Kept.setCell Z ⟨gp, k, none⟩ _) (fun b hb (e : b = gp) => by have q1 := (OR.out.blk hb).1; have q2 := OLDP.out; omega))
                replace XW := hide (show X4.heap.size ≤ Y2.heap.size by rw [← hY2]; simpa [World.setCell] using XW.out)
                go_wp2_with fail
                go_roundw
                case rel =>
                  refine ⟨k + 1, by omega, by go_num, MY2.out.same (fun i hi => ?_) (fun i hi => ?_) (fun i hi => ?_), OR.out, XW.out⟩
                  · rw [← upto_up (N := NP) (D := s.P) k i, HVP.out]
                  · rw [← upto_up (N := NF) (D := s.F) k i, HVF.out]
                  · exact upto_skip (N := NS) (D := s.S) k i HVS.out
                case measure => simp [intOf]; omega
            · as_aux_lemma =>
                rw [hd] at ep ef es
                have t1 : (R.d == 1) = false := by rw [hd]; rfl
                have t2 : (R.d == 2) = false := by rw [hd]; rfl
                have t3 : (R.d == 3) = true := by rw [hd]; rfl
                obtain ⟨qa, qb, qc, qd, Fv, qh, qi, qj, qk, ql, qm, Sv, qt, qn, rv, qq, r2, CC0, e1, e2, e3, e4, n1, e5, e6, e7, e8, n2, e9, e10, n3, e11, e12, e13, n4, e14, n5, e15, e16⟩ := evenS PIN.out
                rw [HDD.out] at e15
                obtain ⟨NPv, hv⟩ : ∃ NPv, nP 3 R.k R.z R.o R.y u P0 F0 S0 G0 = NPv := ⟨_, rfl⟩
                rw [hv] at e16 ep
                have EB := hide e16
                have HVP := hide ep.out
                have HVF := hide (show NF k = Fv by rw [e5]; exact ef.out)
                have HVS := hide (show NS k = Sv by rw [e11]; exact es.out)
                have NP0 := hide (show bd NPv from by rw [← EB.out]; have := brg_rng CC0; unfold bd; omega)
                have NF0 := hide (show bd Fv from by rw [e5]; have := nF_rng (d := 3) PIN.out.k0 PIN.out.k1 PIN.out.f0 PIN.out.f1 PIN.out.g0 PIN.out.g1; unfold bd; omega)
                have NS0 := hide (show bd Sv from by rw [e11]; have := nS_rng (d := 3) PIN.out.z0 PIN.out.z1 PIN.out.s0 PIN.out.s1 PIN.out.g0 PIN.out.g1; unfold bd; omega)
                have N1 := hide n1
                have N2 := hide n2
                have N3 := hide n3
                have N4' := hide n4
                have N5 := hide n5
                clear n1 n2 n3 n4 n5 e5 e11 e16 hd hv
                have l5 := MR.out.cell PR5.out
                have CN1 := hide (fun dd oo => Calls.regrown_of (d := dd) (os := oo) (w := wc) (show Calls Try.prog 33 #[.int .i64 qd, .int .i64 65536] _ fun e w' => e = .returned (.int .i64 Fv) ∧ Below _ _ w' from N1.out _))
                go_wp2_with fail
                have qa1 := cell_regrown a1
                have qcf0 := cell_regrown cf0
                have ql0 := cell_regrown l0
                have qgk := cell_regrown gk
                have ql5 := cell_regrown l5
                clear a1 cf0 l0 gk l5
                refine wp_region_quiet_below (by kernel_rfl) (by kernel_rfl) ?_
                repeat (go_big_quiet_step (first | (go_at_call_of 33 (Value.int IntKind.i64 qd); exact CN1.out _ _)))
                refine wpQuiet_nil ?_
                intro y1 hw'
                have bz : Below wc.heap.size wc y1 := by obtain ⟨⟨dq, osq⟩, hw''⟩ := hw'; rw [hw'']; exact below_regrown _ dq osq
                clear hw' qa1 qcf0 ql0 qgk ql5
                replace MR := hide (MR.out.below bz)
                replace OR := hide (OR.out.below bz)
                replace XW := hide (Nat.le_trans XW.out bz.size)
                clear bz
                clear CN1
                have a2 := MR.out.cell PA2.out
                rw [EA3.out] at a2
                have cs0 := MR.out.cell D3.out
                have l6 := MR.out.cell PR6.out
                have gk := GK.out _ OR.out
                have CN2 := hide (fun dd oo => Calls.regrown_of (d := dd) (os := oo) (w := y1) (show Calls Try.prog 33 #[.int .i64 qj, .int .i64 65536] _ fun e w' => e = .returned (.int .i64 qk) ∧ Below _ _ w' from N2.out _))
                have CN3 := hide (fun dd oo => Calls.regrown_of (d := dd) (os := oo) (w := y1) (show Calls Try.prog 33 #[.int .i64 qm, .int .i64 65536] _ fun e w' => e = .returned (.int .i64 Sv) ∧ Below _ _ w' from N3.out _))
                go_wp2_with fail
                have qa2 := cell_regrown a2
                have qcs0 := cell_regrown cs0
                have ql6 := cell_regrown l6
                have qgk := cell_regrown gk
                clear a2 cs0 l6 gk
                refine wp_region_quiet_below (by kernel_rfl) (by kernel_rfl) ?_
                repeat (go_big_quiet_step (first | (go_at_call_of 33 (Value.int IntKind.i64 qj); exact CN2.out _ _) | (go_at_call_of 33 (Value.int IntKind.i64 qm); exact CN3.out _ _)))
                refine wpQuiet_nil ?_
                intro y2 hw'
                have bz : Below y1.heap.size y1 y2 := by obtain ⟨⟨dq, osq⟩, hw''⟩ := hw'; rw [hw'']; exact below_regrown _ dq osq
                clear hw' qa2 qcs0 ql6 qgk
                replace MR := hide (MR.out.below bz)
                replace OR := hide (OR.out.below bz)
                replace XW := hide (Nat.le_trans XW.out bz.size)
                clear bz
                clear CN2 CN3
                have l7 := MR.out.cell PR7.out
                have CR := hide (fun dd oo => Calls.regrown_of (d := dd) (os := oo) (w := y2) (show Calls Try.prog 38 #[.int .i64 qn] _ fun e w' => e = .returned (.int .i64 rv) ∧ Below _ _ w' from N4'.out _))
                have CN5 := hide (fun dd oo => Calls.regrown_of (d := dd) (os := oo) (w := y2) (show Calls Try.prog 33 #[.int .i64 qt, .int .i64 qq] _ fun e w' => e = .returned (.int .i64 r2) ∧ Below _ _ w' from N5.out _))
                go_wp2_with fail
                have ql7 := cell_regrown l7
                clear l7
                refine wp_region_quiet_below (by kernel_rfl) (by kernel_rfl) ?_
                repeat (go_big_quiet_step (first | (go_at_call_of 38 (Value.int IntKind.i64 qn); exact CR.out _ _) | (go_at_call_of 33 (Value.int IntKind.i64 qt); exact CN5.out _ _)))
                refine wpQuiet_nil ?_
                intro y3 hw'
                have bz : Below y2.heap.size y2 y3 := by obtain ⟨⟨dq, osq⟩, hw''⟩ := hw'; rw [hw'']; exact below_regrown _ dq osq
                clear hw' ql7
                replace MR := hide (MR.out.below bz)
                replace OR := hide (OR.out.below bz)
                replace XW := hide (Nat.le_trans XW.out bz.size)
                clear bz
                clear CR CN5
                have v2 := MR.out.cv.c 2 (by omega)
                replace v2 : y3.cell? ⟨v, 2, none⟩ = some (.slice q n g) := v2
                rw [EGS.out] at v2
                obtain ⟨Y3, hY3⟩ : ∃ Y3, y3.setCell ⟨gs, k, none⟩ (.int .i64 Sv) = Y3 := ⟨_, rfl⟩
                have MY3 := hide (show SM X2 Y3 v n _ p f q _ _ _ from hY3 ▸ MR.out.setS (x := Sv) EGS.out hlt NS0.out)
                obtain ⟨eY3, fY3⟩ := own_cell MR.out.S EGS.out hlt
                replace OR := hide (show OwnL X4.heap.size Y3 (some ⟨gg, 0, none⟩) n G from hY3 ▸ OR.out.kept (Kept.setCell y3 ⟨gs, k, none⟩ _) (fun b hb (e : b = gs) => by have q1 := (OR.out.blk hb).1; have q2 := OLDS.out; omega))
                replace XW := hide (show X4.heap.size ≤ Y3.heap.size by rw [← hY3]; simpa [World.setCell] using XW.out)
                have v1 := MY3.out.cv.c 1 (by omega)
                replace v1 : Y3.cell? ⟨v, 1, none⟩ = some (.slice f n d) := v1
                rw [EGF.out] at v1
                obtain ⟨Y1, hY1⟩ : ∃ Y1, Y3.setCell ⟨gf, k, none⟩ (.int .i64 Fv) = Y1 := ⟨_, rfl⟩
                have MY1 := hide (show SM X2 Y1 v n _ p f q _ _ _ from hY1 ▸ MY3.out.setF (x := Fv) EGF.out hlt NF0.out)
                obtain ⟨eY1, fY1⟩ := own_cell MY3.out.F EGF.out hlt
                replace OR := hide (show OwnL X4.heap.size Y1 (some ⟨gg, 0, none⟩) n G from hY1 ▸ OR.out.kept (Kept.setCell Y3 ⟨gf, k, none⟩ _) (fun b hb (e : b = gf) => by have q1 := (OR.out.blk hb).1; have q2 := OLDF.out; omega))
                replace XW := hide (show X4.heap.size ≤ Y1.heap.size by rw [← hY1]; simpa [World.setCell] using XW.out)
                have v0 := MY1.out.cv.c 0 (by omega)
                replace v0 : Y1.cell? ⟨v, 0, none⟩ = some (.slice p n c) := v0
                rw [EGP.out] at v0
                have CB := hide (fun dd oo => Calls.regrown_of (d := dd) (os := oo) (w := Y1) (show Calls Try.prog 36 #[.int .i64 CC0] _ fun e w' => e = .returned (.int .i64 NPv) ∧ Below _ _ w' by rw [← EB.out]; exact bringS CC0 _))
                go_wp2_with fail
                have k0 := cell_regrown v0
                clear v0 v1 eY1 fY1 hY1
                refine Qt.region_tail_below 6 (by kernel_rfl) (by kernel_rfl) ?_
                simp only [List.take_succ_cons, List.take_zero, List.drop_succ_cons, List.drop_zero]
                repeat (go_big_quiet_step (first | (go_at_call 36; exact CB.out _ _)))
                refine wpQuiet_nil ?_
                intro _ hw'
                obtain ⟨⟨dq, osq⟩, hw''⟩ := hw'
                subst hw''
                obtain ⟨Z, hZ⟩ : ∃ Z, Sort.grow (redrawn Y1 dq) osq = Z := ⟨_, rfl⟩
                have bz : Below Y1.heap.size Y1 Z := hZ ▸ below_regrown _ _ _
                rw [hZ]
                clear hZ k0 CB
                replace MY1 := hide (MY1.out.below bz)
                replace OR := hide (OR.out.below bz)
                replace XW := hide (Nat.le_trans XW.out bz.size)
                clear bz
                obtain ⟨Y2, hY2⟩ : ∃ Y2, Z.setCell ⟨gp, k, none⟩ (.int .i64 NPv) = Y2 := ⟨_, rfl⟩
                have MY2 := hide (show SM X2 Y2 v n _ p f q _ _ _ from hY2 ▸ MY1.out.setP (x := NPv) EGP.out hlt NP0.out)
                obtain ⟨eY2, fY2⟩ := own_cell MY1.out.P EGP.out hlt
                replace OR := hide (show OwnL X4.heap.size Y2 (some ⟨gg, 0, none⟩) n G from hY2 ▸ OR.out.kept (Kept.setCell Z ⟨gp, k, none⟩ _) (fun b hb (e : b = gp) => by have q1 := (OR.out.blk hb).1; have q2 := OLDP.out; omega))
                replace XW := hide (show X4.heap.size ≤ Y2.heap.size by rw [← hY2]; simpa [World.setCell] using XW.out)
                go_wp2_with fail
                go_roundw
                case rel =>
                  refine ⟨k + 1, by omega, by go_num, MY2.out.same (fun i hi => ?_) (fun i hi => ?_) (fun i hi => ?_), OR.out, XW.out⟩
                  · rw [← upto_up (N := NP) (D := s.P) k i, HVP.out]
                  · rw [← upto_up (N := NF) (D := s.F) k i, HVF.out]
                  · rw [← upto_up (N := NS) (D := s.S) k i, HVS.out]
                case measure => simp [intOf]; omega
        · as_aux_lemma =>
            obtain rfl : n = k := by omega
            have cG : decide ((n : Int) < (n : Int)) = false := by simp
            obtain ⟨g', hg'⟩ : ∃ g', min (s.g + 1) 1000000 = g' := ⟨_, rfl⟩
            have EG' := hide hg'
            have GB := hide (show 0 ≤ s.g ∧ s.g ≤ 1000000 from HS.out.2.2.2.2.1)
            clear hg' hlt hk
            have v5 := MR.out.cv.c 5 (by omega)
            replace v5 : wr.cell? ⟨v, 5, none⟩ = some (.int .i64 s.g) := v5
            go_upto_if 228 with fail
            clear v5
            go_cut [] (fun wx => SM X2 wx v n (OV p f q n c d g (s.c + 1) s.f g') p f q (upto n NP s.P) (upto n NF s.F) (upto n NS s.S))
            case first =>
              by_cases cg : s.g < 1000000
              · have wg : s.g + 1 = g' := by have := EG'.out; omega
                have w1 : IntKind.i64.wrap (s.g + 1) = g' := by rw [← wg]; exact w64 (by have := GB.out; omega)
                have v5 := MR.out.cv.c 5 (by omega)
                replace v5 : wr.cell? ⟨v, 5, none⟩ = some (.int .i64 s.g) := v5
                obtain ⟨Y1, hY1⟩ : ∃ Y1, wr.setCell ⟨v, 5, none⟩ (.int .i64 g') = Y1 := ⟨_, rfl⟩
                have eY1 := MR.out.cv.c 5 (by omega)
                have fY1 := MR.out.cv.f 5
                replace MR := hide (show SM X2 Y1 v n (OV p f q n c d g (s.c + 1) s.f g') p f q _ _ _ from hY1 ▸ (MR.out.setV 5 (.int .i64 g') (by omega)).sameV (fun i hi => ov5 i hi))
                clear wg
                go_wp2_with fail
                go_meet
                exact MR.out
              · have cn : decide (s.g < 1000000) = false := decide_eq_false cg
                have cle : 1000000 ≤ s.g := by omega
                have wg := hide (show s.g = g' by have := EG'.out; have := GB.out; omega)
                go_wp2_with fail
                go_meet
                exact MR.out.sameV (fun i hi => by rw [← wg.out])
            case rest =>
            replace MR := hide hcut
            clear hcut OR XW
            have l10 := MR.out.cell PR10.out
            have v5 := MR.out.cv.c 5 (by omega)
            replace v5 : wc.cell? ⟨v, 5, none⟩ = some (.int .i64 g') := v5
            by_cases c0 : 0 < R.gr
            · by_cases c1 : R.gr ≤ g'
              · have GW := hide (show grows s.g R.gr from ⟨c0, by rw [EG'.out]; exact c1⟩)
                obtain ⟨Y1, hY1⟩ : ∃ Y1, wc.setCell ⟨v, 5, none⟩ (.int .i64 0) = Y1 := ⟨_, rfl⟩
                have eY1 := MR.out.cv.c 5 (by omega)
                have fY1 := MR.out.cv.f 5
                replace MR := hide (show SM X2 Y1 v n (OV p f q n c d g (s.c + 1) s.f 0) p f q _ _ _ from hY1 ▸ (MR.out.setV 5 (.int .i64 0) (by omega)).sameV (fun i hi => ov5 i hi))
                have v4 := MR.out.cv.c 4 (by omega)
                replace v4 : Y1.cell? ⟨v, 4, none⟩ = some (.int .i64 s.f) := v4
                by_cases c2 : s.f < 65536
                · obtain ⟨ff, hff⟩ : ∃ ff, s.f * 2 = ff := ⟨_, rfl⟩
                  have w2 : IntKind.i64.wrap (s.f * 2) = ff := by rw [hff]; exact w64 (by have := F16.out; omega)
                  have FF := hide hff
                  have C2 := hide c2
                  clear hff
                  obtain ⟨Y2, hY2⟩ : ∃ Y2, Y1.setCell ⟨v, 4, none⟩ (.int .i64 ff) = Y2 := ⟨_, rfl⟩
                  have eY2 := MR.out.cv.c 4 (by omega)
                  have fY2 := MR.out.cv.f 4
                  replace MR := hide (show SM X2 Y2 v n (OV p f q n c d g (s.c + 1) ff 0) p f q _ _ _ from hY2 ▸ (MR.out.setV 4 (.int .i64 ff) (by omega)).sameV (fun i hi => ov4 i hi))
                  have R1 := hide (RX.out.kept MR.out.k (fun (e : X2.heap.size ≤ W2.heap.size) => by have := RX.out.z; omega))
                  have B3 := hide (BX2.out.trans (MR.out.k.below SW.out (fun b (e : X2.heap.size ≤ b) => Nat.le_trans SW.out e)))
                  have n0 : Y2.cell? ⟨v, 0, none⟩ = some (.slice p n c) := MR.out.cv.c 0 (by omega)
                  have n1 : Y2.cell? ⟨v, 1, none⟩ = some (.slice f n d) := MR.out.cv.c 1 (by omega)
                  have n2 : Y2.cell? ⟨v, 2, none⟩ = some (.slice q n g) := MR.out.cv.c 2 (by omega)
                  have n3 : Y2.cell? ⟨v, 3, none⟩ = some (.int .i64 (s.c + 1)) := MR.out.cv.c 3 (by omega)
                  have n4 : Y2.cell? ⟨v, 4, none⟩ = some (.int .i64 ff) := MR.out.cv.c 4 (by omega)
                  have n5 : Y2.cell? ⟨v, 5, none⟩ = some (.int .i64 0) := MR.out.cv.c 5 (by omega)
                  obtain ⟨T0, hT0⟩ : ∃ T0, Y2.setCell ⟨W2.heap.size, 0, none⟩ (.slice p n c) = T0 := ⟨_, rfl⟩
                  have RT0 := hide (hT0 ▸ R1.out.set 0 (.slice p n c) (by omega) : C6 T0 W2.heap.size _)
                  have eT0 : Y2.cell? ⟨W2.heap.size, 0, none⟩ = some (.slice none 0 0) := R1.out.c 0 (by omega)
                  have fT0 := R1.out.f 0
                  have kT0 : Kept (· = W2.heap.size) Y2 T0 := hT0 ▸ Kept.setCell Y2 ⟨W2.heap.size, 0, none⟩ _
                  have BT0 := hide (hT0 ▸ B3.out.setCell (p := ⟨W2.heap.size, 0, none⟩) (by have := Y.out; show w.heap.size ≤ W2.heap.size; omega) _ : Below w.heap.size w T0)
                  obtain ⟨T1, hT1⟩ : ∃ T1, T0.setCell ⟨W2.heap.size, 1, none⟩ (.slice f n d) = T1 := ⟨_, rfl⟩
                  have RT1 := hide (hT1 ▸ RT0.out.set 1 (.slice f n d) (by omega) : C6 T1 W2.heap.size _)
                  have eT1 : T0.cell? ⟨W2.heap.size, 1, none⟩ = some (.slice none 0 0) := RT0.out.c 1 (by omega)
                  have fT1 := RT0.out.f 1
                  have kT1 : Kept (· = W2.heap.size) T0 T1 := hT1 ▸ Kept.setCell T0 ⟨W2.heap.size, 1, none⟩ _
                  have BT1 := hide (hT1 ▸ BT0.out.setCell (p := ⟨W2.heap.size, 1, none⟩) (by have := Y.out; show w.heap.size ≤ W2.heap.size; omega) _ : Below w.heap.size w T1)
                  obtain ⟨T2, hT2⟩ : ∃ T2, T1.setCell ⟨W2.heap.size, 2, none⟩ (.slice q n g) = T2 := ⟨_, rfl⟩
                  have RT2 := hide (hT2 ▸ RT1.out.set 2 (.slice q n g) (by omega) : C6 T2 W2.heap.size _)
                  have eT2 : T1.cell? ⟨W2.heap.size, 2, none⟩ = some (.slice none 0 0) := RT1.out.c 2 (by omega)
                  have fT2 := RT1.out.f 2
                  have kT2 : Kept (· = W2.heap.size) T1 T2 := hT2 ▸ Kept.setCell T1 ⟨W2.heap.size, 2, none⟩ _
                  have BT2 := hide (hT2 ▸ BT1.out.setCell (p := ⟨W2.heap.size, 2, none⟩) (by have := Y.out; show w.heap.size ≤ W2.heap.size; omega) _ : Below w.heap.size w T2)
                  obtain ⟨T3, hT3⟩ : ∃ T3, T2.setCell ⟨W2.heap.size, 3, none⟩ (.int .i64 (s.c + 1)) = T3 := ⟨_, rfl⟩
                  have RT3 := hide (hT3 ▸ RT2.out.set 3 (.int .i64 (s.c + 1)) (by omega) : C6 T3 W2.heap.size _)
                  have eT3 : T2.cell? ⟨W2.heap.size, 3, none⟩ = some (.int .i64 0) := RT2.out.c 3 (by omega)
                  have fT3 := RT2.out.f 3
                  have kT3 : Kept (· = W2.heap.size) T2 T3 := hT3 ▸ Kept.setCell T2 ⟨W2.heap.size, 3, none⟩ _
                  have BT3 := hide (hT3 ▸ BT2.out.setCell (p := ⟨W2.heap.size, 3, none⟩) (by have := Y.out; show w.heap.size ≤ W2.heap.size; omega) _ : Below w.heap.size w T3)
                  obtain ⟨T4, hT4⟩ : ∃ T4, T3.setCell ⟨W2.heap.size, 4, none⟩ (.int .i64 ff) = T4 := ⟨_, rfl⟩
                  have RT4 := hide (hT4 ▸ RT3.out.set 4 (.int .i64 ff) (by omega) : C6 T4 W2.heap.size _)
                  have eT4 : T3.cell? ⟨W2.heap.size, 4, none⟩ = some (.int .i64 0) := RT3.out.c 4 (by omega)
                  have fT4 := RT3.out.f 4
                  have kT4 : Kept (· = W2.heap.size) T3 T4 := hT4 ▸ Kept.setCell T3 ⟨W2.heap.size, 4, none⟩ _
                  have BT4 := hide (hT4 ▸ BT3.out.setCell (p := ⟨W2.heap.size, 4, none⟩) (by have := Y.out; show w.heap.size ≤ W2.heap.size; omega) _ : Below w.heap.size w T4)
                  obtain ⟨T5, hT5⟩ : ∃ T5, T4.setCell ⟨W2.heap.size, 5, none⟩ (.int .i64 0) = T5 := ⟨_, rfl⟩
                  have RT5 := hide (hT5 ▸ RT4.out.set 5 (.int .i64 0) (by omega) : C6 T5 W2.heap.size _)
                  have eT5 : T4.cell? ⟨W2.heap.size, 5, none⟩ = some (.int .i64 0) := RT4.out.c 5 (by omega)
                  have fT5 := RT4.out.f 5
                  have kT5 : Kept (· = W2.heap.size) T4 T5 := hT5 ▸ Kept.setCell T4 ⟨W2.heap.size, 5, none⟩ _
                  have BT5 := hide (hT5 ▸ BT4.out.setCell (p := ⟨W2.heap.size, 5, none⟩) (by have := Y.out; show w.heap.size ≤ W2.heap.size; omega) _ : Below w.heap.size w T5)
                  have kk := hide (((((kT0.trans kT1).trans kT2).trans kT3).trans kT4).trans kT5)
                  have r0 : T5.cell? ⟨W2.heap.size, 0, none⟩ = some (.slice p n c) := RT5.out.c 0 (by omega)
                  have r1 : T5.cell? ⟨W2.heap.size, 1, none⟩ = some (.slice f n d) := RT5.out.c 1 (by omega)
                  have r2 : T5.cell? ⟨W2.heap.size, 2, none⟩ = some (.slice q n g) := RT5.out.c 2 (by omega)
                  have r3 : T5.cell? ⟨W2.heap.size, 3, none⟩ = some (.int .i64 (s.c + 1)) := RT5.out.c 3 (by omega)
                  have r4 : T5.cell? ⟨W2.heap.size, 4, none⟩ = some (.int .i64 ff) := RT5.out.c 4 (by omega)
                  have r5 : T5.cell? ⟨W2.heap.size, 5, none⟩ = some (.int .i64 0) := RT5.out.c 5 (by omega)
                  clear kT0 kT1 kT2 kT3 kT4 kT5
                  have ZP := hide ((MR.out.P.kept kk.out (fun b hb e => by have q1 := (MR.out.P.blk hb).1; have q2 := RX.out.z; have e : b = W2.heap.size := e; omega)).mono SW.out)
                  have ZF := hide ((MR.out.F.kept kk.out (fun b hb e => by have q1 := (MR.out.F.blk hb).1; have q2 := RX.out.z; have e : b = W2.heap.size := e; omega)).mono SW.out)
                  have ZS := hide ((MR.out.S.kept kk.out (fun b hb e => by have q1 := (MR.out.S.blk hb).1; have q2 := RX.out.z; have e : b = W2.heap.size := e; omega)).mono SW.out)
                  go_wp2_with fail
                  refine bodyPost_ret (v := .tuple #[.agg #[.slice p n c, .slice f n d, .slice q n g, .int .i64 (s.c + 1), .int .i64 ff, .int .i64 0], .bool true]) (by simp [results, Try.results14, go_sem, r0, r1, r2, r3, r4, r5]) rfl (.inr ⟨id, ?_⟩)
                  rw [ENX.out]
                  have ef : nFac s.f s.g R.gr = ff := by unfold nFac; rw [if_pos GW.out]; have := FF.out; have := fac_half HS.out.2.2.2.2.2.2 C2.out; omega
                  have eg : nGood s.g R.gr = 0 := by unfold nGood; rw [if_pos GW.out]
                  exact ⟨p, f, q, c, d, g, by show _ = Ending.returned (.tuple #[.agg #[_, _, _, _, .int .i64 (nFac s.f s.g R.gr), .int .i64 (nGood s.g R.gr)], _]); rw [ef, eg], ⟨ZP.out.same (fun i hi => upto_all NP s.P hi), ZF.out.same (fun i hi => upto_all NF s.F hi), ZS.out.same (fun i hi => upto_all NS s.S hi)⟩, AP.out, BT5.out⟩
                · have c2' : decide (s.f < 65536) = false := decide_eq_false c2
                  have c2l : 65536 ≤ s.f := by omega
                  have C2 := hide c2l
                  have R1 := hide (RX.out.kept MR.out.k (fun (e : X2.heap.size ≤ W2.heap.size) => by have := RX.out.z; omega))
                  have B3 := hide (BX2.out.trans (MR.out.k.below SW.out (fun b (e : X2.heap.size ≤ b) => Nat.le_trans SW.out e)))
                  have n0 : Y1.cell? ⟨v, 0, none⟩ = some (.slice p n c) := MR.out.cv.c 0 (by omega)
                  have n1 : Y1.cell? ⟨v, 1, none⟩ = some (.slice f n d) := MR.out.cv.c 1 (by omega)
                  have n2 : Y1.cell? ⟨v, 2, none⟩ = some (.slice q n g) := MR.out.cv.c 2 (by omega)
                  have n3 : Y1.cell? ⟨v, 3, none⟩ = some (.int .i64 (s.c + 1)) := MR.out.cv.c 3 (by omega)
                  have n4 : Y1.cell? ⟨v, 4, none⟩ = some (.int .i64 s.f) := MR.out.cv.c 4 (by omega)
                  have n5 : Y1.cell? ⟨v, 5, none⟩ = some (.int .i64 0) := MR.out.cv.c 5 (by omega)
                  obtain ⟨T0, hT0⟩ : ∃ T0, Y1.setCell ⟨W2.heap.size, 0, none⟩ (.slice p n c) = T0 := ⟨_, rfl⟩
                  have RT0 := hide (hT0 ▸ R1.out.set 0 (.slice p n c) (by omega) : C6 T0 W2.heap.size _)
                  have eT0 : Y1.cell? ⟨W2.heap.size, 0, none⟩ = some (.slice none 0 0) := R1.out.c 0 (by omega)
                  have fT0 := R1.out.f 0
                  have kT0 : Kept (· = W2.heap.size) Y1 T0 := hT0 ▸ Kept.setCell Y1 ⟨W2.heap.size, 0, none⟩ _
                  have BT0 := hide (hT0 ▸ B3.out.setCell (p := ⟨W2.heap.size, 0, none⟩) (by have := Y.out; show w.heap.size ≤ W2.heap.size; omega) _ : Below w.heap.size w T0)
                  obtain ⟨T1, hT1⟩ : ∃ T1, T0.setCell ⟨W2.heap.size, 1, none⟩ (.slice f n d) = T1 := ⟨_, rfl⟩
                  have RT1 := hide (hT1 ▸ RT0.out.set 1 (.slice f n d) (by omega) : C6 T1 W2.heap.size _)
                  have eT1 : T0.cell? ⟨W2.heap.size, 1, none⟩ = some (.slice none 0 0) := RT0.out.c 1 (by omega)
                  have fT1 := RT0.out.f 1
                  have kT1 : Kept (· = W2.heap.size) T0 T1 := hT1 ▸ Kept.setCell T0 ⟨W2.heap.size, 1, none⟩ _
                  have BT1 := hide (hT1 ▸ BT0.out.setCell (p := ⟨W2.heap.size, 1, none⟩) (by have := Y.out; show w.heap.size ≤ W2.heap.size; omega) _ : Below w.heap.size w T1)
                  obtain ⟨T2, hT2⟩ : ∃ T2, T1.setCell ⟨W2.heap.size, 2, none⟩ (.slice q n g) = T2 := ⟨_, rfl⟩
                  have RT2 := hide (hT2 ▸ RT1.out.set 2 (.slice q n g) (by omega) : C6 T2 W2.heap.size _)
                  have eT2 : T1.cell? ⟨W2.heap.size, 2, none⟩ = some (.slice none 0 0) := RT1.out.c 2 (by omega)
                  have fT2 := RT1.out.f 2
                  have kT2 : Kept (· = W2.heap.size) T1 T2 := hT2 ▸ Kept.setCell T1 ⟨W2.heap.size, 2, none⟩ _
                  have BT2 := hide (hT2 ▸ BT1.out.setCell (p := ⟨W2.heap.size, 2, none⟩) (by have := Y.out; show w.heap.size ≤ W2.heap.size; omega) _ : Below w.heap.size w T2)
                  obtain ⟨T3, hT3⟩ : ∃ T3, T2.setCell ⟨W2.heap.size, 3, none⟩ (.int .i64 (s.c + 1)) = T3 := ⟨_, rfl⟩
                  have RT3 := hide (hT3 ▸ RT2.out.set 3 (.int .i64 (s.c + 1)) (by omega) : C6 T3 W2.heap.size _)
                  have eT3 : T2.cell? ⟨W2.heap.size, 3, none⟩ = some (.int .i64 0) := RT2.out.c 3 (by omega)
                  have fT3 := RT2.out.f 3
                  have kT3 : Kept (· = W2.heap.size) T2 T3 := hT3 ▸ Kept.setCell T2 ⟨W2.heap.size, 3, none⟩ _
                  have BT3 := hide (hT3 ▸ BT2.out.setCell (p := ⟨W2.heap.size, 3, none⟩) (by have := Y.out; show w.heap.size ≤ W2.heap.size; omega) _ : Below w.heap.size w T3)
                  obtain ⟨T4, hT4⟩ : ∃ T4, T3.setCell ⟨W2.heap.size, 4, none⟩ (.int .i64 s.f) = T4 := ⟨_, rfl⟩
                  have RT4 := hide (hT4 ▸ RT3.out.set 4 (.int .i64 s.f) (by omega) : C6 T4 W2.heap.size _)
                  have eT4 : T3.cell? ⟨W2.heap.size, 4, none⟩ = some (.int .i64 0) := RT3.out.c 4 (by omega)
                  have fT4 := RT3.out.f 4
                  have kT4 : Kept (· = W2.heap.size) T3 T4 := hT4 ▸ Kept.setCell T3 ⟨W2.heap.size, 4, none⟩ _
                  have BT4 := hide (hT4 ▸ BT3.out.setCell (p := ⟨W2.heap.size, 4, none⟩) (by have := Y.out; show w.heap.size ≤ W2.heap.size; omega) _ : Below w.heap.size w T4)
                  obtain ⟨T5, hT5⟩ : ∃ T5, T4.setCell ⟨W2.heap.size, 5, none⟩ (.int .i64 0) = T5 := ⟨_, rfl⟩
                  have RT5 := hide (hT5 ▸ RT4.out.set 5 (.int .i64 0) (by omega) : C6 T5 W2.heap.size _)
                  have eT5 : T4.cell? ⟨W2.heap.size, 5, none⟩ = some (.int .i64 0) := RT4.out.c 5 (by omega)
                  have fT5 := RT4.out.f 5
                  have kT5 : Kept (· = W2.heap.size) T4 T5 := hT5 ▸ Kept.setCell T4 ⟨W2.heap.size, 5, none⟩ _
                  have BT5 := hide (hT5 ▸ BT4.out.setCell (p := ⟨W2.heap.size, 5, none⟩) (by have := Y.out; show w.heap.size ≤ W2.heap.size; omega) _ : Below w.heap.size w T5)
                  have kk := hide (((((kT0.trans kT1).trans kT2).trans kT3).trans kT4).trans kT5)
                  have r0 : T5.cell? ⟨W2.heap.size, 0, none⟩ = some (.slice p n c) := RT5.out.c 0 (by omega)
                  have r1 : T5.cell? ⟨W2.heap.size, 1, none⟩ = some (.slice f n d) := RT5.out.c 1 (by omega)
                  have r2 : T5.cell? ⟨W2.heap.size, 2, none⟩ = some (.slice q n g) := RT5.out.c 2 (by omega)
                  have r3 : T5.cell? ⟨W2.heap.size, 3, none⟩ = some (.int .i64 (s.c + 1)) := RT5.out.c 3 (by omega)
                  have r4 : T5.cell? ⟨W2.heap.size, 4, none⟩ = some (.int .i64 s.f) := RT5.out.c 4 (by omega)
                  have r5 : T5.cell? ⟨W2.heap.size, 5, none⟩ = some (.int .i64 0) := RT5.out.c 5 (by omega)
                  clear kT0 kT1 kT2 kT3 kT4 kT5
                  have ZP := hide ((MR.out.P.kept kk.out (fun b hb e => by have q1 := (MR.out.P.blk hb).1; have q2 := RX.out.z; have e : b = W2.heap.size := e; omega)).mono SW.out)
                  have ZF := hide ((MR.out.F.kept kk.out (fun b hb e => by have q1 := (MR.out.F.blk hb).1; have q2 := RX.out.z; have e : b = W2.heap.size := e; omega)).mono SW.out)
                  have ZS := hide ((MR.out.S.kept kk.out (fun b hb e => by have q1 := (MR.out.S.blk hb).1; have q2 := RX.out.z; have e : b = W2.heap.size := e; omega)).mono SW.out)
                  go_wp2_with fail
                  refine bodyPost_ret (v := .tuple #[.agg #[.slice p n c, .slice f n d, .slice q n g, .int .i64 (s.c + 1), .int .i64 s.f, .int .i64 0], .bool true]) (by simp [results, Try.results14, go_sem, r0, r1, r2, r3, r4, r5]) rfl (.inr ⟨id, ?_⟩)
                  rw [ENX.out]
                  have ef : nFac s.f s.g R.gr = s.f := by unfold nFac; rw [if_pos GW.out]; have := F16.out; have := C2.out; omega
                  have eg : nGood s.g R.gr = 0 := by unfold nGood; rw [if_pos GW.out]
                  exact ⟨p, f, q, c, d, g, by show _ = Ending.returned (.tuple #[.agg #[_, _, _, _, .int .i64 (nFac s.f s.g R.gr), .int .i64 (nGood s.g R.gr)], _]); rw [ef, eg], ⟨ZP.out.same (fun i hi => upto_all NP s.P hi), ZF.out.same (fun i hi => upto_all NF s.F hi), ZS.out.same (fun i hi => upto_all NS s.S hi)⟩, AP.out, BT5.out⟩
              · have c1' : decide (R.gr ≤ g') = false := decide_eq_false c1
                have GW := hide (show ¬ grows s.g R.gr from fun q => c1 (by have := q.2; rw [EG'.out] at this; exact this))
                have R1 := hide (RX.out.kept MR.out.k (fun (e : X2.heap.size ≤ W2.heap.size) => by have := RX.out.z; omega))
                have B3 := hide (BX2.out.trans (MR.out.k.below SW.out (fun b (e : X2.heap.size ≤ b) => Nat.le_trans SW.out e)))
                have n0 : wc.cell? ⟨v, 0, none⟩ = some (.slice p n c) := MR.out.cv.c 0 (by omega)
                have n1 : wc.cell? ⟨v, 1, none⟩ = some (.slice f n d) := MR.out.cv.c 1 (by omega)
                have n2 : wc.cell? ⟨v, 2, none⟩ = some (.slice q n g) := MR.out.cv.c 2 (by omega)
                have n3 : wc.cell? ⟨v, 3, none⟩ = some (.int .i64 (s.c + 1)) := MR.out.cv.c 3 (by omega)
                have n4 : wc.cell? ⟨v, 4, none⟩ = some (.int .i64 s.f) := MR.out.cv.c 4 (by omega)
                have n5 : wc.cell? ⟨v, 5, none⟩ = some (.int .i64 g') := MR.out.cv.c 5 (by omega)
                obtain ⟨T0, hT0⟩ : ∃ T0, wc.setCell ⟨W2.heap.size, 0, none⟩ (.slice p n c) = T0 := ⟨_, rfl⟩
                have RT0 := hide (hT0 ▸ R1.out.set 0 (.slice p n c) (by omega) : C6 T0 W2.heap.size _)
                have eT0 : wc.cell? ⟨W2.heap.size, 0, none⟩ = some (.slice none 0 0) := R1.out.c 0 (by omega)
                have fT0 := R1.out.f 0
                have kT0 : Kept (· = W2.heap.size) wc T0 := hT0 ▸ Kept.setCell wc ⟨W2.heap.size, 0, none⟩ _
                have BT0 := hide (hT0 ▸ B3.out.setCell (p := ⟨W2.heap.size, 0, none⟩) (by have := Y.out; show w.heap.size ≤ W2.heap.size; omega) _ : Below w.heap.size w T0)
                obtain ⟨T1, hT1⟩ : ∃ T1, T0.setCell ⟨W2.heap.size, 1, none⟩ (.slice f n d) = T1 := ⟨_, rfl⟩
                have RT1 := hide (hT1 ▸ RT0.out.set 1 (.slice f n d) (by omega) : C6 T1 W2.heap.size _)
                have eT1 : T0.cell? ⟨W2.heap.size, 1, none⟩ = some (.slice none 0 0) := RT0.out.c 1 (by omega)
                have fT1 := RT0.out.f 1
                have kT1 : Kept (· = W2.heap.size) T0 T1 := hT1 ▸ Kept.setCell T0 ⟨W2.heap.size, 1, none⟩ _
                have BT1 := hide (hT1 ▸ BT0.out.setCell (p := ⟨W2.heap.size, 1, none⟩) (by have := Y.out; show w.heap.size ≤ W2.heap.size; omega) _ : Below w.heap.size w T1)
                obtain ⟨T2, hT2⟩ : ∃ T2, T1.setCell ⟨W2.heap.size, 2, none⟩ (.slice q n g) = T2 := ⟨_, rfl⟩
                have RT2 := hide (hT2 ▸ RT1.out.set 2 (.slice q n g) (by omega) : C6 T2 W2.heap.size _)
                have eT2 : T1.cell? ⟨W2.heap.size, 2, none⟩ = some (.slice none 0 0) := RT1.out.c 2 (by omega)
                have fT2 := RT1.out.f 2
                have kT2 : Kept (· = W2.heap.size) T1 T2 := hT2 ▸ Kept.setCell T1 ⟨W2.heap.size, 2, none⟩ _
                have BT2 := hide (hT2 ▸ BT1.out.setCell (p := ⟨W2.heap.size, 2, none⟩) (by have := Y.out; show w.heap.size ≤ W2.heap.size; omega) _ : Below w.heap.size w T2)
                obtain ⟨T3, hT3⟩ : ∃ T3, T2.setCell ⟨W2.heap.size, 3, none⟩ (.int .i64 (s.c + 1)) = T3 := ⟨_, rfl⟩
                have RT3 := hide (hT3 ▸ RT2.out.set 3 (.int .i64 (s.c + 1)) (by omega) : C6 T3 W2.heap.size _)
                have eT3 : T2.cell? ⟨W2.heap.size, 3, none⟩ = some (.int .i64 0) := RT2.out.c 3 (by omega)
                have fT3 := RT2.out.f 3
                have kT3 : Kept (· = W2.heap.size) T2 T3 := hT3 ▸ Kept.setCell T2 ⟨W2.heap.size, 3, none⟩ _
                have BT3 := hide (hT3 ▸ BT2.out.setCell (p := ⟨W2.heap.size, 3, none⟩) (by have := Y.out; show w.heap.size ≤ W2.heap.size; omega) _ : Below w.heap.size w T3)
                obtain ⟨T4, hT4⟩ : ∃ T4, T3.setCell ⟨W2.heap.size, 4, none⟩ (.int .i64 s.f) = T4 := ⟨_, rfl⟩
                have RT4 := hide (hT4 ▸ RT3.out.set 4 (.int .i64 s.f) (by omega) : C6 T4 W2.heap.size _)
                have eT4 : T3.cell? ⟨W2.heap.size, 4, none⟩ = some (.int .i64 0) := RT3.out.c 4 (by omega)
                have fT4 := RT3.out.f 4
                have kT4 : Kept (· = W2.heap.size) T3 T4 := hT4 ▸ Kept.setCell T3 ⟨W2.heap.size, 4, none⟩ _
                have BT4 := hide (hT4 ▸ BT3.out.setCell (p := ⟨W2.heap.size, 4, none⟩) (by have := Y.out; show w.heap.size ≤ W2.heap.size; omega) _ : Below w.heap.size w T4)
                obtain ⟨T5, hT5⟩ : ∃ T5, T4.setCell ⟨W2.heap.size, 5, none⟩ (.int .i64 g') = T5 := ⟨_, rfl⟩
                have RT5 := hide (hT5 ▸ RT4.out.set 5 (.int .i64 g') (by omega) : C6 T5 W2.heap.size _)
                have eT5 : T4.cell? ⟨W2.heap.size, 5, none⟩ = some (.int .i64 0) := RT4.out.c 5 (by omega)
                have fT5 := RT4.out.f 5
                have kT5 : Kept (· = W2.heap.size) T4 T5 := hT5 ▸ Kept.setCell T4 ⟨W2.heap.size, 5, none⟩ _
                have BT5 := hide (hT5 ▸ BT4.out.setCell (p := ⟨W2.heap.size, 5, none⟩) (by have := Y.out; show w.heap.size ≤ W2.heap.size; omega) _ : Below w.heap.size w T5)
                have kk := hide (((((kT0.trans kT1).trans kT2).trans kT3).trans kT4).trans kT5)
                have r0 : T5.cell? ⟨W2.heap.size, 0, none⟩ = some (.slice p n c) := RT5.out.c 0 (by omega)
                have r1 : T5.cell? ⟨W2.heap.size, 1, none⟩ = some (.slice f n d) := RT5.out.c 1 (by omega)
                have r2 : T5.cell? ⟨W2.heap.size, 2, none⟩ = some (.slice q n g) := RT5.out.c 2 (by omega)
                have r3 : T5.cell? ⟨W2.heap.size, 3, none⟩ = some (.int .i64 (s.c + 1)) := RT5.out.c 3 (by omega)
                have r4 : T5.cell? ⟨W2.heap.size, 4, none⟩ = some (.int .i64 s.f) := RT5.out.c 4 (by omega)
                have r5 : T5.cell? ⟨W2.heap.size, 5, none⟩ = some (.int .i64 g') := RT5.out.c 5 (by omega)
                clear kT0 kT1 kT2 kT3 kT4 kT5
                have ZP := hide ((MR.out.P.kept kk.out (fun b hb e => by have q1 := (MR.out.P.blk hb).1; have q2 := RX.out.z; have e : b = W2.heap.size := e; omega)).mono SW.out)
                have ZF := hide ((MR.out.F.kept kk.out (fun b hb e => by have q1 := (MR.out.F.blk hb).1; have q2 := RX.out.z; have e : b = W2.heap.size := e; omega)).mono SW.out)
                have ZS := hide ((MR.out.S.kept kk.out (fun b hb e => by have q1 := (MR.out.S.blk hb).1; have q2 := RX.out.z; have e : b = W2.heap.size := e; omega)).mono SW.out)
                go_wp2_with fail
                refine bodyPost_ret (v := .tuple #[.agg #[.slice p n c, .slice f n d, .slice q n g, .int .i64 (s.c + 1), .int .i64 s.f, .int .i64 g'], .bool true]) (by simp [results, Try.results14, go_sem, r0, r1, r2, r3, r4, r5]) rfl (.inr ⟨id, ?_⟩)
                rw [ENX.out]
                have ef : nFac s.f s.g R.gr = s.f := by unfold nFac; rw [if_neg GW.out]
                have eg : nGood s.g R.gr = g' := by unfold nGood; rw [if_neg GW.out, EG'.out]
                exact ⟨p, f, q, c, d, g, by show _ = Ending.returned (.tuple #[.agg #[_, _, _, _, .int .i64 (nFac s.f s.g R.gr), .int .i64 (nGood s.g R.gr)], _]); rw [ef, eg], ⟨ZP.out.same (fun i hi => upto_all NP s.P hi), ZF.out.same (fun i hi => upto_all NF s.F hi), ZS.out.same (fun i hi => upto_all NS s.S hi)⟩, AP.out, BT5.out⟩
            · have c0' : decide (0 < R.gr) = false := decide_eq_false c0
              have c0l : R.gr ≤ 0 := by omega
              have GW := hide (show ¬ grows s.g R.gr from fun q => c0 q.1)
              have R1 := hide (RX.out.kept MR.out.k (fun (e : X2.heap.size ≤ W2.heap.size) => by have := RX.out.z; omega))
              have B3 := hide (BX2.out.trans (MR.out.k.below SW.out (fun b (e : X2.heap.size ≤ b) => Nat.le_trans SW.out e)))
              have n0 : wc.cell? ⟨v, 0, none⟩ = some (.slice p n c) := MR.out.cv.c 0 (by omega)
              have n1 : wc.cell? ⟨v, 1, none⟩ = some (.slice f n d) := MR.out.cv.c 1 (by omega)
              have n2 : wc.cell? ⟨v, 2, none⟩ = some (.slice q n g) := MR.out.cv.c 2 (by omega)
              have n3 : wc.cell? ⟨v, 3, none⟩ = some (.int .i64 (s.c + 1)) := MR.out.cv.c 3 (by omega)
              have n4 : wc.cell? ⟨v, 4, none⟩ = some (.int .i64 s.f) := MR.out.cv.c 4 (by omega)
              have n5 : wc.cell? ⟨v, 5, none⟩ = some (.int .i64 g') := MR.out.cv.c 5 (by omega)
              obtain ⟨T0, hT0⟩ : ∃ T0, wc.setCell ⟨W2.heap.size, 0, none⟩ (.slice p n c) = T0 := ⟨_, rfl⟩
              have RT0 := hide (hT0 ▸ R1.out.set 0 (.slice p n c) (by omega) : C6 T0 W2.heap.size _)
              have eT0 : wc.cell? ⟨W2.heap.size, 0, none⟩ = some (.slice none 0 0) := R1.out.c 0 (by omega)
              have fT0 := R1.out.f 0
              have kT0 : Kept (· = W2.heap.size) wc T0 := hT0 ▸ Kept.setCell wc ⟨W2.heap.size, 0, none⟩ _
              have BT0 := hide (hT0 ▸ B3.out.setCell (p := ⟨W2.heap.size, 0, none⟩) (by have := Y.out; show w.heap.size ≤ W2.heap.size; omega) _ : Below w.heap.size w T0)
              obtain ⟨T1, hT1⟩ : ∃ T1, T0.setCell ⟨W2.heap.size, 1, none⟩ (.slice f n d) = T1 := ⟨_, rfl⟩
              have RT1 := hide (hT1 ▸ RT0.out.set 1 (.slice f n d) (by omega) : C6 T1 W2.heap.size _)
              have eT1 : T0.cell? ⟨W2.heap.size, 1, none⟩ = some (.slice none 0 0) := RT0.out.c 1 (by omega)
              have fT1 := RT0.out.f 1
              have kT1 : Kept (· = W2.heap.size) T0 T1 := hT1 ▸ Kept.setCell T0 ⟨W2.heap.size, 1, none⟩ _
              have BT1 := hide (hT1 ▸ BT0.out.setCell (p := ⟨W2.heap.size, 1, none⟩) (by have := Y.out; show w.heap.size ≤ W2.heap.size; omega) _ : Below w.heap.size w T1)
              obtain ⟨T2, hT2⟩ : ∃ T2, T1.setCell ⟨W2.heap.size, 2, none⟩ (.slice q n g) = T2 := ⟨_, rfl⟩
              have RT2 := hide (hT2 ▸ RT1.out.set 2 (.slice q n g) (by omega) : C6 T2 W2.heap.size _)
              have eT2 : T1.cell? ⟨W2.heap.size, 2, none⟩ = some (.slice none 0 0) := RT1.out.c 2 (by omega)
              have fT2 := RT1.out.f 2
              have kT2 : Kept (· = W2.heap.size) T1 T2 := hT2 ▸ Kept.setCell T1 ⟨W2.heap.size, 2, none⟩ _
              have BT2 := hide (hT2 ▸ BT1.out.setCell (p := ⟨W2.heap.size, 2, none⟩) (by have := Y.out; show w.heap.size ≤ W2.heap.size; omega) _ : Below w.heap.size w T2)
              obtain ⟨T3, hT3⟩ : ∃ T3, T2.setCell ⟨W2.heap.size, 3, none⟩ (.int .i64 (s.c + 1)) = T3 := ⟨_, rfl⟩
              have RT3 := hide (hT3 ▸ RT2.out.set 3 (.int .i64 (s.c + 1)) (by omega) : C6 T3 W2.heap.size _)
              have eT3 : T2.cell? ⟨W2.heap.size, 3, none⟩ = some (.int .i64 0) := RT2.out.c 3 (by omega)
              have fT3 := RT2.out.f 3
              have kT3 : Kept (· = W2.heap.size) T2 T3 := hT3 ▸ Kept.setCell T2 ⟨W2.heap.size, 3, none⟩ _
              have BT3 := hide (hT3 ▸ BT2.out.setCell (p := ⟨W2.heap.size, 3, none⟩) (by have := Y.out; show w.heap.size ≤ W2.heap.size; omega) _ : Below w.heap.size w T3)
              obtain ⟨T4, hT4⟩ : ∃ T4, T3.setCell ⟨W2.heap.size, 4, none⟩ (.int .i64 s.f) = T4 := ⟨_, rfl⟩
              have RT4 := hide (hT4 ▸ RT3.out.set 4 (.int .i64 s.f) (by omega) : C6 T4 W2.heap.size _)
              have eT4 : T3.cell? ⟨W2.heap.size, 4, none⟩ = some (.int .i64 0) := RT3.out.c 4 (by omega)
              have fT4 := RT3.out.f 4
              have kT4 : Kept (· = W2.heap.size) T3 T4 := hT4 ▸ Kept.setCell T3 ⟨W2.heap.size, 4, none⟩ _
              have BT4 := hide (hT4 ▸ BT3.out.setCell (p := ⟨W2.heap.size, 4, none⟩) (by have := Y.out; show w.heap.size ≤ W2.heap.size; omega) _ : Below w.heap.size w T4)
              obtain ⟨T5, hT5⟩ : ∃ T5, T4.setCell ⟨W2.heap.size, 5, none⟩ (.int .i64 g') = T5 := ⟨_, rfl⟩
              have RT5 := hide (hT5 ▸ RT4.out.set 5 (.int .i64 g') (by omega) : C6 T5 W2.heap.size _)
              have eT5 : T4.cell? ⟨W2.heap.size, 5, none⟩ = some (.int .i64 0) := RT4.out.c 5 (by omega)
              have fT5 := RT4.out.f 5
              have kT5 : Kept (· = W2.heap.size) T4 T5 := hT5 ▸ Kept.setCell T4 ⟨W2.heap.size, 5, none⟩ _
              have BT5 := hide (hT5 ▸ BT4.out.setCell (p := ⟨W2.heap.size, 5, none⟩) (by have := Y.out; show w.heap.size ≤ W2.heap.size; omega) _ : Below w.heap.size w T5)
              have kk := hide (((((kT0.trans kT1).trans kT2).trans kT3).trans kT4).trans kT5)
              have r0 : T5.cell? ⟨W2.heap.size, 0, none⟩ = some (.slice p n c) := RT5.out.c 0 (by omega)
              have r1 : T5.cell? ⟨W2.heap.size, 1, none⟩ = some (.slice f n d) := RT5.out.c 1 (by omega)
              have r2 : T5.cell? ⟨W2.heap.size, 2, none⟩ = some (.slice q n g) := RT5.out.c 2 (by omega)
              have r3 : T5.cell? ⟨W2.heap.size, 3, none⟩ = some (.int .i64 (s.c + 1)) := RT5.out.c 3 (by omega)
              have r4 : T5.cell? ⟨W2.heap.size, 4, none⟩ = some (.int .i64 s.f) := RT5.out.c 4 (by omega)
              have r5 : T5.cell? ⟨W2.heap.size, 5, none⟩ = some (.int .i64 g') := RT5.out.c 5 (by omega)
              clear kT0 kT1 kT2 kT3 kT4 kT5
              have ZP := hide ((MR.out.P.kept kk.out (fun b hb e => by have q1 := (MR.out.P.blk hb).1; have q2 := RX.out.z; have e : b = W2.heap.size := e; omega)).mono SW.out)
              have ZF := hide ((MR.out.F.kept kk.out (fun b hb e => by have q1 := (MR.out.F.blk hb).1; have q2 := RX.out.z; have e : b = W2.heap.size := e; omega)).mono SW.out)
              have ZS := hide ((MR.out.S.kept kk.out (fun b hb e => by have q1 := (MR.out.S.blk hb).1; have q2 := RX.out.z; have e : b = W2.heap.size := e; omega)).mono SW.out)
              go_wp2_with fail
              refine bodyPost_ret (v := .tuple #[.agg #[.slice p n c, .slice f n d, .slice q n g, .int .i64 (s.c + 1), .int .i64 s.f, .int .i64 g'], .bool true]) (by simp [results, Try.results14, go_sem, r0, r1, r2, r3, r4, r5]) rfl (.inr ⟨id, ?_⟩)
              rw [ENX.out]
              have ef : nFac s.f s.g R.gr = s.f := by unfold nFac; rw [if_neg GW.out]
              have eg : nGood s.g R.gr = g' := by unfold nGood; rw [if_neg GW.out, EG'.out]
              exact ⟨p, f, q, c, d, g, by show _ = Ending.returned (.tuple #[.agg #[_, _, _, _, .int .i64 (nFac s.f s.g R.gr), .int .i64 (nGood s.g R.gr)], _]); rw [ef, eg], ⟨ZP.out.same (fun i hi => upto_all NP s.P hi), ZF.out.same (fun i hi => upto_all NF s.F hi), ZS.out.same (fun i hi => upto_all NS s.S hi)⟩, AP.out, BT5.out⟩
end Vo
end Go.Proofs.Ytflbhlepmjiejaa
