/- StepOpt of the model, to where its state is copied (written by tools/genrd.py). -/
import Derived.Test.YtflbhlepmjiejaaRcc
import Derived.Test.YtflbhlepmjiejaaMrd
namespace Go.Proofs.Ytflbhlepmjiejaa
namespace Vo
open Go.ChangeShapes Go.WideShapes Go.ChangeAt Go.RowKit Go.Joins Go.Sort
open Vl
set_option linter.unusedVariables false
set_option linter.unusedSimpArgs false
theorem own_ne {B v n : Nat} {w : World} {p : Option Addr} {D : Nat → Int} {V : Nat → Value} (h : OwnL B w p n D) (c : C6 w v V) (hV : V 0 = .slice none 0 0) : ∀ k, Blk p n k → k ≠ v := by
  rintro k ⟨hn, ad, e1, e2⟩ e
  subst e
  rcases h with h | ⟨g, hp, _, hr⟩
  · exact hn h
  · rw [hp] at e1
    cases e1
    have e2 : g = k := e2
    subst e2
    have := (hr 0 (by omega)).1
    rw [c.c 0 (by omega), hV] at this
    cases this
theorem runInc {o : Oper} {A : Act} {w : World} {x : Operand} {z : Int} (ho : o.op = .binOp .add 3 x (.const (.int .i64 1)) 3) (hx : A.eval x = .int .i64 z) (hz : 0 ≤ z ∧ z ≤ 1000000) : (execOp A.eval o).run Try.prog w = .ok (.value (.int .i64 (z + 1))) w := by
  have e := w64 (x := z + 1) (by omega)
  unfold execOp
  rw [ho]
  simp only [hx]
  go_simp
theorem runBuildO {o : Oper} {A : Act} {w : World} {x0 x1 x2 x3 x4 x5 : Operand} {p f q : Option Addr} {n c d g : Nat} {v3 v4 v5 : Int} (ho : o.op = .build 30 #[(0, x0), (1, x1), (2, x2), (3, x3), (4, x4), (5, x5)]) (h0 : A.eval x0 = .slice p n c) (h1 : A.eval x1 = .slice f n d) (h2 : A.eval x2 = .slice q n g) (h3 : A.eval x3 = .int .i64 v3) (h4 : A.eval x4 = .int .i64 v4) (h5 : A.eval x5 = .int .i64 v5) : (execOp A.eval o).run Try.prog w = .ok (.value (.agg #[.slice p n c, .slice f n d, .slice q n g, .int .i64 v3, .int .i64 v4, .int .i64 v5])) w := by
  unfold execOp
  rw [ho]
  simp only [List.map_toArray, List.map_cons, List.map_nil, h0, h1, h2, h3, h4, h5]
  go_simp
theorem runAllocO {o : Oper} {A : Act} {w : World} (ho : o.op = .alloc 30) : (execOp A.eval o).run Try.prog w = .ok (.value (.pointer (some ⟨w.heap.size, 0, none⟩))) (w.alloc (.cells #[.slice none 0 0, .slice none 0 0, .slice none 0 0, .int .i64 0, .int .i64 0, .int .i64 0] 30)) := by
  unfold execOp
  rw [ho]
  go_simp
set_option maxHeartbeats 8000000 in
set_option maxRecDepth 100000 in
theorem sStepBad (R : Rl) (n r cP cF cS cl : Nat) (s : St) (aP aF aS a : Option Addr) (Gr : Nat → Int) (w : World) (h1 : Ints w.heap.size w aP n s.P) (h2 : Ints w.heap.size w aF n s.F) (h3 : Ints w.heap.size w aS n s.S) (z1 : aP = none → n = 0 ∧ True) (z2 : aF = none → n = 0 ∧ True) (z3 : aS = none → n = 0 ∧ True) (hra : (r : Int) ≤ 1048576) (hb : bd s.c ∧ bd s.f ∧ bd s.g) (hRb : R.bds) (hR : R.okB = true) (hs : s.ok n) (hI : Ints w.heap.size w a r Gr) (hc : s.c ≠ 1000000) (hrn : n = r) (hg : ib (-16777216) 16777216 n Gr = false) :
    Calls Try.prog 14 #[.agg #[.int .i64 R.d, .int .i64 R.r1, .int .i64 R.r2, .int .i64 R.r3, .int .i64 R.r4, .int .i64 R.k, .int .i64 R.z, .int .i64 R.o, .int .i64 R.y, .int .i64 R.mo, .int .i64 R.gr], .agg #[.slice aP n cP, .slice aF n cF, .slice aS n cS, .int .i64 s.c, .int .i64 s.f, .int .i64 s.g], .slice a r cl] w (StepR n False ⟨s.P, s.F, s.S, s.c + 1, max (s.f.tdiv 2) 1, 0⟩ w) := by
  obtain ⟨W1, hW1⟩ : ∃ W1, w.alloc (.cells #[.int .i64 R.d, .int .i64 R.r1, .int .i64 R.r2, .int .i64 R.r3, .int .i64 R.r4, .int .i64 R.k, .int .i64 R.z, .int .i64 R.o, .int .i64 R.y, .int .i64 R.mo, .int .i64 R.gr] 27) = W1 := ⟨_, rfl⟩
  have nw1 : Below w.heap.size w W1 := hW1 ▸ (Below.refl _ _).alloc (Nat.le_refl _) _
  have y1 : w.heap.size < W1.heap.size := by rw [← hW1]; simp
  obtain ⟨W2, hW2⟩ : ∃ W2, W1.alloc (.cells #[.slice aP n cP, .slice aF n cF, .slice aS n cS, .int .i64 s.c, .int .i64 s.f, .int .i64 s.g] 30) = W2 := ⟨_, rfl⟩
  have nw2 : Below W1.heap.size W1 W2 := hW2 ▸ (Below.refl _ _).alloc (Nat.le_refl _) _
  have y2 : W1.heap.size < W2.heap.size := by rw [← hW2]; simp
  obtain ⟨W3, hW3⟩ : ∃ W3, W2.alloc (.cells #[.slice none 0 0, .slice none 0 0, .slice none 0 0, .int .i64 0, .int .i64 0, .int .i64 0] 30) = W3 := ⟨_, rfl⟩
  have nw3 : Below W2.heap.size W2 W3 := hW3 ▸ (Below.refl _ _).alloc (Nat.le_refl _) _
  have y3 : W2.heap.size < W3.heap.size := by rw [← hW3]; simp
  have LL0 := hide (show Lis [(⟨w.heap.size, 0, none⟩, .int .i64 R.d), (⟨w.heap.size, 1, none⟩, .int .i64 R.r1), (⟨w.heap.size, 2, none⟩, .int .i64 R.r2), (⟨w.heap.size, 3, none⟩, .int .i64 R.r3), (⟨w.heap.size, 4, none⟩, .int .i64 R.r4), (⟨w.heap.size, 5, none⟩, .int .i64 R.k), (⟨w.heap.size, 6, none⟩, .int .i64 R.z), (⟨w.heap.size, 7, none⟩, .int .i64 R.o), (⟨w.heap.size, 8, none⟩, .int .i64 R.y), (⟨w.heap.size, 9, none⟩, .int .i64 R.mo), (⟨w.heap.size, 10, none⟩, .int .i64 R.gr)] W3 from ((show Lis [(⟨w.heap.size, 0, none⟩, .int .i64 R.d), (⟨w.heap.size, 1, none⟩, .int .i64 R.r1), (⟨w.heap.size, 2, none⟩, .int .i64 R.r2), (⟨w.heap.size, 3, none⟩, .int .i64 R.r3), (⟨w.heap.size, 4, none⟩, .int .i64 R.r4), (⟨w.heap.size, 5, none⟩, .int .i64 R.k), (⟨w.heap.size, 6, none⟩, .int .i64 R.z), (⟨w.heap.size, 7, none⟩, .int .i64 R.o), (⟨w.heap.size, 8, none⟩, .int .i64 R.y), (⟨w.heap.size, 9, none⟩, .int .i64 R.mo), (⟨w.heap.size, 10, none⟩, .int .i64 R.gr)] W1 from fun x hx => by
      simp only [List.mem_cons, List.not_mem_nil, or_false] at hx
      rcases hx with rfl | rfl | rfl | rfl | rfl | rfl | rfl | rfl | rfl | rfl | rfl <;> (rw [← hW1]; simp [go_sem])).below nw2).below nw3)
  have LO0 := hide (show Lis [(⟨W1.heap.size, 0, none⟩, .slice aP n cP), (⟨W1.heap.size, 1, none⟩, .slice aF n cF), (⟨W1.heap.size, 2, none⟩, .slice aS n cS), (⟨W1.heap.size, 3, none⟩, .int .i64 s.c), (⟨W1.heap.size, 4, none⟩, .int .i64 s.f), (⟨W1.heap.size, 5, none⟩, .int .i64 s.g)] W3 from (show Lis [(⟨W1.heap.size, 0, none⟩, .slice aP n cP), (⟨W1.heap.size, 1, none⟩, .slice aF n cF), (⟨W1.heap.size, 2, none⟩, .slice aS n cS), (⟨W1.heap.size, 3, none⟩, .int .i64 s.c), (⟨W1.heap.size, 4, none⟩, .int .i64 s.f), (⟨W1.heap.size, 5, none⟩, .int .i64 s.g)] W2 from fun x hx => by
      simp only [List.mem_cons, List.not_mem_nil, or_false] at hx
      rcases hx with rfl | rfl | rfl | rfl | rfl | rfl <;> (rw [← hW2]; simp [go_sem])).below nw3)
  have R1 := hide (show C6 W3 W2.heap.size (OV none none none 0 0 0 0 0 0 0) from ⟨fun i hi => by rcases (by omega : i = 0 ∨ i = 1 ∨ i = 2 ∨ i = 3 ∨ i = 4 ∨ i = 5) with rfl | rfl | rfl | rfl | rfl | rfl <;> (rw [← hW3]; simp [go_sem, OV]), fun i => by rw [← hW3]; simp [go_sem], y3⟩)
  have B3 := hide ((nw1.trans (nw2.mono nw1.size)).trans (nw3.mono (Nat.le_trans nw1.size nw2.size)))
  have Y := hide (And.intro y1 (And.intro y2 y3))
  clear nw1 nw2 nw3 y1 y2 y3
  have hok : OOk n n n s.P s.F s.S s.c s.f s.g := hs
  have n4 : (n : Int) ≤ 4096 := hok.1
  have cr : 0 ≤ s.c ∧ s.c ≤ 1000000 := hok.2.2.2.1
  have hyes : ook n n n s.P s.F s.S s.c s.f s.g = true := decide_eq_true hok
  have hR' : rulOk R.d R.r1 R.r2 R.r3 R.r4 R.k R.z R.o R.y R.mo R.gr = true := hR
  have S3 := hide (Nat.le_refl W3.heap.size)
  have CO := hide (fun X (bX : Below w.heap.size w X) => specOpt aP aF aS n n n cP cF cS s.P s.F s.S s.c s.f s.g X ((h1.below bX).mono bX.size) ((h2.below bX).mono bX.size) ((h3.below bX).mono bX.size) (by omega) hb.1 hb.2.1 hb.2.2 (by omega) (by omega))
  have CRu := hide (fun w => specRule R.d R.r1 R.r2 R.r3 R.r4 R.k R.z R.o R.y R.mo R.gr w hRb.1.1 hRb.1.2.1 hRb.1.2.2.1 hRb.1.2.2.2.1 hRb.1.2.2.2.2 hRb.2.1 hRb.2.2.1 hRb.2.2.2.1 hRb.2.2.2.2.1 hRb.2.2.2.2.2.1 hRb.2.2.2.2.2.2)
  rw [hyes] at CO
  rw [hR'] at CRu
  have H1 := hide h1
  have H2 := hide h2
  have H3 := hide h3
  have HI := hide hI
  have E1 := hide z1
  have E2 := hide z2
  have E3 := hide z3
  have N4 := hide (And.intro n4 cr)
  have HS := hide hs
  have HG := hide hg
  have q1 : (s.c == 1000000) = false := beq_eq_false_iff_ne.2 hc
  subst hrn
  clear h1 h2 h3 z1 z2 z3 hra hb hRb hR hR' hs hok hI hyes hc hg n4 cr
  have l0 : W3.cell? ⟨w.heap.size, 0, none⟩ = some (.int .i64 R.d) := LL0.out (⟨w.heap.size, 0, none⟩, .int .i64 R.d) (.head _)
  have l1 : W3.cell? ⟨w.heap.size, 1, none⟩ = some (.int .i64 R.r1) := LL0.out (⟨w.heap.size, 1, none⟩, .int .i64 R.r1) (.tail _ (.head _))
  have l2 : W3.cell? ⟨w.heap.size, 2, none⟩ = some (.int .i64 R.r2) := LL0.out (⟨w.heap.size, 2, none⟩, .int .i64 R.r2) (.tail _ (.tail _ (.head _)))
  have l3 : W3.cell? ⟨w.heap.size, 3, none⟩ = some (.int .i64 R.r3) := LL0.out (⟨w.heap.size, 3, none⟩, .int .i64 R.r3) (.tail _ (.tail _ (.tail _ (.head _))))
  have l4 : W3.cell? ⟨w.heap.size, 4, none⟩ = some (.int .i64 R.r4) := LL0.out (⟨w.heap.size, 4, none⟩, .int .i64 R.r4) (.tail _ (.tail _ (.tail _ (.tail _ (.head _)))))
  have l5 : W3.cell? ⟨w.heap.size, 5, none⟩ = some (.int .i64 R.k) := LL0.out (⟨w.heap.size, 5, none⟩, .int .i64 R.k) (.tail _ (.tail _ (.tail _ (.tail _ (.tail _ (.head _))))))
  have l6 : W3.cell? ⟨w.heap.size, 6, none⟩ = some (.int .i64 R.z) := LL0.out (⟨w.heap.size, 6, none⟩, .int .i64 R.z) (.tail _ (.tail _ (.tail _ (.tail _ (.tail _ (.tail _ (.head _)))))))
  have l7 : W3.cell? ⟨w.heap.size, 7, none⟩ = some (.int .i64 R.o) := LL0.out (⟨w.heap.size, 7, none⟩, .int .i64 R.o) (.tail _ (.tail _ (.tail _ (.tail _ (.tail _ (.tail _ (.tail _ (.head _))))))))
  have l8 : W3.cell? ⟨w.heap.size, 8, none⟩ = some (.int .i64 R.y) := LL0.out (⟨w.heap.size, 8, none⟩, .int .i64 R.y) (.tail _ (.tail _ (.tail _ (.tail _ (.tail _ (.tail _ (.tail _ (.tail _ (.head _)))))))))
  have l9 : W3.cell? ⟨w.heap.size, 9, none⟩ = some (.int .i64 R.mo) := LL0.out (⟨w.heap.size, 9, none⟩, .int .i64 R.mo) (.tail _ (.tail _ (.tail _ (.tail _ (.tail _ (.tail _ (.tail _ (.tail _ (.tail _ (.head _))))))))))
  have l10 : W3.cell? ⟨w.heap.size, 10, none⟩ = some (.int .i64 R.gr) := LL0.out (⟨w.heap.size, 10, none⟩, .int .i64 R.gr) (.tail _ (.tail _ (.tail _ (.tail _ (.tail _ (.tail _ (.tail _ (.tail _ (.tail _ (.tail _ (.head _)))))))))))
  go_enter Try.func14, Try.ntmps14
  go_wp2_with fail
  refine (CRu.out _).mono ?_; rintro e X ⟨rfl, bx⟩
  clear hW1 hW2 hW3 CRu l0 l1 l2 l3 l4 l5 l6 l7 l8 l9 l10
  replace LL0 := hide (LL0.out.below bx)
  replace LO0 := hide (LO0.out.below bx)
  replace R1 := hide (R1.out.kept (Kept.of_below (S := fun _ => False) bx) id)
  replace B3 := hide (B3.out.trans (bx.mono B3.out.size))
  replace S3 := hide (Nat.le_trans S3.out bx.size)
  clear bx
  have o0 : X.cell? ⟨W1.heap.size, 0, none⟩ = some (.slice aP n cP) := LO0.out (⟨W1.heap.size, 0, none⟩, .slice aP n cP) (.head _)
  have o1 : X.cell? ⟨W1.heap.size, 1, none⟩ = some (.slice aF n cF) := LO0.out (⟨W1.heap.size, 1, none⟩, .slice aF n cF) (.tail _ (.head _))
  have o2 : X.cell? ⟨W1.heap.size, 2, none⟩ = some (.slice aS n cS) := LO0.out (⟨W1.heap.size, 2, none⟩, .slice aS n cS) (.tail _ (.tail _ (.head _)))
  have o3 : X.cell? ⟨W1.heap.size, 3, none⟩ = some (.int .i64 s.c) := LO0.out (⟨W1.heap.size, 3, none⟩, .int .i64 s.c) (.tail _ (.tail _ (.tail _ (.head _))))
  have o4 : X.cell? ⟨W1.heap.size, 4, none⟩ = some (.int .i64 s.f) := LO0.out (⟨W1.heap.size, 4, none⟩, .int .i64 s.f) (.tail _ (.tail _ (.tail _ (.tail _ (.head _)))))
  have o5 : X.cell? ⟨W1.heap.size, 5, none⟩ = some (.int .i64 s.g) := LO0.out (⟨W1.heap.size, 5, none⟩, .int .i64 s.g) (.tail _ (.tail _ (.tail _ (.tail _ (.tail _ (.head _))))))
  go_wp2_with fail
  refine (CO.out _ B3.out).mono ?_; rintro e X2 ⟨rfl, bx⟩
  clear CO o0 o1 o2 o3 o4 o5
  replace LL0 := hide (LL0.out.below bx)
  replace LO0 := hide (LO0.out.below bx)
  replace R1 := hide (R1.out.kept (Kept.of_below (S := fun _ => False) bx) id)
  replace B3 := hide (B3.out.trans (bx.mono B3.out.size))
  replace S3 := hide (Nat.le_trans S3.out bx.size)
  clear bx
  have o0 : X2.cell? ⟨W1.heap.size, 0, none⟩ = some (.slice aP n cP) := LO0.out (⟨W1.heap.size, 0, none⟩, .slice aP n cP) (.head _)
  have o1 : X2.cell? ⟨W1.heap.size, 1, none⟩ = some (.slice aF n cF) := LO0.out (⟨W1.heap.size, 1, none⟩, .slice aF n cF) (.tail _ (.head _))
  have o2 : X2.cell? ⟨W1.heap.size, 2, none⟩ = some (.slice aS n cS) := LO0.out (⟨W1.heap.size, 2, none⟩, .slice aS n cS) (.tail _ (.tail _ (.head _)))
  have o3 : X2.cell? ⟨W1.heap.size, 3, none⟩ = some (.int .i64 s.c) := LO0.out (⟨W1.heap.size, 3, none⟩, .int .i64 s.c) (.tail _ (.tail _ (.tail _ (.head _))))
  have o4 : X2.cell? ⟨W1.heap.size, 4, none⟩ = some (.int .i64 s.f) := LO0.out (⟨W1.heap.size, 4, none⟩, .int .i64 s.f) (.tail _ (.tail _ (.tail _ (.tail _ (.head _)))))
  have o5 : X2.cell? ⟨W1.heap.size, 5, none⟩ = some (.int .i64 s.g) := LO0.out (⟨W1.heap.size, 5, none⟩, .int .i64 s.g) (.tail _ (.tail _ (.tail _ (.tail _ (.tail _ (.head _))))))
  go_wp2_with fail
  have PA0 := hide o0
  have PA1 := hide o1
  have PA2 := hide o2
  have PA3 := hide o3
  have PA4 := hide o4
  have PA5 := hide o5
  have PZ := hide (show W1.heap.size < X2.heap.size from Nat.lt_of_lt_of_le (Nat.lt_trans Y.out.2.1 Y.out.2.2) S3.out)
  clear o0 o1 o2 o3 o4 o5
  refine Qf.factsJ2 18 (by kernel_rfl) (by kernel_rfl) (by kernel_rfl) (fun i s0 wx => match i with | 0 => s0 0 = .pointer (some ⟨W1.heap.size, 0, none⟩) | 1 => s0 1 = .slice aP n cP | 2 => ∃ a c, s0 2 = .slice a n c ∧ OwnL X2.heap.size wx a n s.P | 3 => s0 3 = .pointer (some ⟨W1.heap.size, 1, none⟩) | 4 => s0 4 = .slice aF n cF | 5 => ∃ a c, s0 5 = .slice a n c ∧ OwnL X2.heap.size wx a n s.F ∧ ∀ a2 c2, s0 2 = .slice a2 n c2 → Bhd a2 a n | 6 => s0 6 = .pointer (some ⟨W1.heap.size, 2, none⟩) | 7 => s0 7 = .slice aS n cS | 8 => ∃ a c, s0 8 = .slice a n c ∧ OwnL X2.heap.size wx a n s.S ∧ ∀ a2 c2, s0 5 = .slice a2 n c2 → Bhd a2 a n | 9 => s0 9 = .pointer (some ⟨W1.heap.size, 3, none⟩) | 10 => s0 10 = .int .i64 s.c | 11 => s0 11 = .int .i64 (s.c + 1) | 12 => s0 12 = .pointer (some ⟨W1.heap.size, 4, none⟩) | 13 => s0 13 = .int .i64 s.f | 14 => s0 14 = .pointer (some ⟨W1.heap.size, 5, none⟩) | 15 => s0 15 = .int .i64 s.g | 16 => s0 16 = .agg #[s0 2, s0 5, s0 8, .int .i64 (s.c + 1), .int .i64 s.f, .int .i64 s.g] | 17 => ∃ g, s0 17 = .pointer (some ⟨g, 0, none⟩) ∧ X2.heap.size ≤ g ∧ C6 wx g (OV none none none 0 0 0 0 0 0 0) | _ => True) ?loc ?stable ?steps ?rest
  case loc =>
    intro i s s' w1 hs h
    match i, h with
    | 0, h => exact (hs 0 (.inl rfl)).symm.trans h
    | 1, h => exact (hs 1 (.inl rfl)).symm.trans h
    | 2, ⟨a, c, h1, h2⟩ => exact ⟨a, c, (hs 2 (.inl rfl)).symm.trans h1, h2⟩
    | 3, h => exact (hs 3 (.inl rfl)).symm.trans h
    | 4, h => exact (hs 4 (.inl rfl)).symm.trans h
    | 5, ⟨a, c, h1, h2, h3⟩ => exact ⟨a, c, (hs 5 (.inl rfl)).symm.trans h1, h2, fun a2 c2 e => h3 a2 c2 ((hs 2 (.inr (by kernel_rfl))).trans e)⟩
    | 6, h => exact (hs 6 (.inl rfl)).symm.trans h
    | 7, h => exact (hs 7 (.inl rfl)).symm.trans h
    | 8, ⟨a, c, h1, h2, h3⟩ => exact ⟨a, c, (hs 8 (.inl rfl)).symm.trans h1, h2, fun a2 c2 e => h3 a2 c2 ((hs 5 (.inr (by kernel_rfl))).trans e)⟩
    | 9, h => exact (hs 9 (.inl rfl)).symm.trans h
    | 10, h => exact (hs 10 (.inl rfl)).symm.trans h
    | 11, h => exact (hs 11 (.inl rfl)).symm.trans h
    | 12, h => exact (hs 12 (.inl rfl)).symm.trans h
    | 13, h => exact (hs 13 (.inl rfl)).symm.trans h
    | 14, h => exact (hs 14 (.inl rfl)).symm.trans h
    | 15, h => exact (hs 15 (.inl rfl)).symm.trans h
    | 16, h => exact (hs 16 (.inl rfl)).symm.trans (by rw [← hs 2 (.inr (by kernel_rfl)), ← hs 5 (.inr (by kernel_rfl)), ← hs 8 (.inr (by kernel_rfl))]; exact h)
    | 17, ⟨g, h1, h2⟩ => exact ⟨g, (hs 17 (.inl rfl)).symm.trans h1, h2⟩
    | _ + 18, h => exact h
  case stable =>
    intro i s w1 w2 h hb
    match i, h with
    | 0, h => exact h
    | 1, h => exact h
    | 2, ⟨a, c, h1, h2⟩ => exact ⟨a, c, h1, h2.below hb⟩
    | 3, h => exact h
    | 4, h => exact h
    | 5, ⟨a, c, h1, h2, h3⟩ => exact ⟨a, c, h1, h2.below hb, h3⟩
    | 6, h => exact h
    | 7, h => exact h
    | 8, ⟨a, c, h1, h2, h3⟩ => exact ⟨a, c, h1, h2.below hb, h3⟩
    | 9, h => exact h
    | 10, h => exact h
    | 11, h => exact h
    | 12, h => exact h
    | 13, h => exact h
    | 14, h => exact h
    | 15, h => exact h
    | 16, h => exact h
    | 17, ⟨g, h1, h2, h3⟩ => exact ⟨g, h1, h2, h3.kept (Kept.of_below (S := fun _ => False) hb) id⟩
    | _ + 18, h => exact h
  case steps =>
    intro i o hi ho s0 A wS hb hk hA hO
    match i, hi, ho, hk with
    | 0, _, ho, hk =>
      cases ho
      exact Qf.lands_val _ _ (runFO0 rfl ((hO 4 (by rfl)).trans rfl)) ⟨Below.refl _ _, by simp [Qf.upd]⟩
    | 1, _, ho, hk =>
      cases ho
      have h0 := hA 0 _ 38 (by decide) rfl rfl (by simp)
      have e0 := hk 0 (by kernel_rfl)
      rw [e0] at h0
      exact Qf.lands_val _ _ (runLL rfl h0 ((hb.cell (p := ⟨W1.heap.size, 0, none⟩) PZ.out).trans PA0.out)) ⟨Below.refl _ _, by simp [Qf.upd]⟩
    | 2, _, ho, hk =>
      cases ho
      have h1 := hA 1 _ 39 (by decide) rfl rfl (by simp)
      have e1 := hk 1 (by kernel_rfl)
      rw [e1] at h1
      refine Qf.lands_call 31 _ _ rfl (enters_of Try.func31 (by kernel_rfl) rfl) _ (by simp [h1]) ((l3IntsO w.heap.size aP n cP s.P wS ((H1.out.below B3.out).below (hb.mono B3.out.size)) (Nat.le_trans B3.out.size hb.size) (by have := N4.out; omega) E1.out).mono ?_)
      rintro e wT ⟨v, rfl, hrow, bT⟩
      obtain ⟨aT, cT, rfl, hO'⟩ := hrow.own
      exact ⟨_, rfl, bT, aT, cT, by simp [Qf.upd], hO'.mono hb.size⟩
    | 3, _, ho, hk =>
      cases ho
      exact Qf.lands_val _ _ (runFO1 rfl ((hO 4 (by rfl)).trans rfl)) ⟨Below.refl _ _, by simp [Qf.upd]⟩
    | 4, _, ho, hk =>
      cases ho
      have h3 := hA 3 _ 41 (by decide) rfl rfl (by simp)
      have e3 := hk 3 (by kernel_rfl)
      rw [e3] at h3
      exact Qf.lands_val _ _ (runLL rfl h3 ((hb.cell (p := ⟨W1.heap.size, 1, none⟩) PZ.out).trans PA1.out)) ⟨Below.refl _ _, by simp [Qf.upd]⟩
    | 5, _, ho, hk =>
      cases ho
      have h4 := hA 4 _ 42 (by decide) rfl rfl (by simp)
      have e4 := hk 4 (by kernel_rfl)
      rw [e4] at h4
      obtain ⟨ap, cp, ep, op⟩ := hk 2 (by kernel_rfl)
      refine Qf.lands_call 31 _ _ rfl (enters_of Try.func31 (by kernel_rfl) rfl) _ (by simp [h4]) ((l3IntsO w.heap.size aF n cF s.F wS ((H2.out.below B3.out).below (hb.mono B3.out.size)) (Nat.le_trans B3.out.size hb.size) (by have := N4.out; omega) E2.out).mono ?_)
      rintro e wT ⟨v, rfl, hrow, bT⟩
      obtain ⟨aT, cT, rfl, hO'⟩ := hrow.own
      refine ⟨_, rfl, bT, aT, cT, by simp [Qf.upd], hO'.mono hb.size, fun a2 c2 e2 => ?_⟩
      have e3 : s0 2 = .slice a2 n c2 := by simpa [Qf.upd] using e2
      rw [ep] at e3
      injection e3 with e3 _ _
      subst e3
      exact ⟨wS.heap.size, fun k hk => (op.blk hk).2, fun k hk => (hO'.blk hk).1⟩
    | 6, _, ho, hk =>
      cases ho
      exact Qf.lands_val _ _ (runFO2 rfl ((hO 4 (by rfl)).trans rfl)) ⟨Below.refl _ _, by simp [Qf.upd]⟩
    | 7, _, ho, hk =>
      cases ho
      have h6 := hA 6 _ 44 (by decide) rfl rfl (by simp)
      have e6 := hk 6 (by kernel_rfl)
      rw [e6] at h6
      exact Qf.lands_val _ _ (runLL rfl h6 ((hb.cell (p := ⟨W1.heap.size, 2, none⟩) PZ.out).trans PA2.out)) ⟨Below.refl _ _, by simp [Qf.upd]⟩
    | 8, _, ho, hk =>
      cases ho
      have h7 := hA 7 _ 45 (by decide) rfl rfl (by simp)
      have e7 := hk 7 (by kernel_rfl)
      rw [e7] at h7
      obtain ⟨ap, cp, ep, op, -⟩ := hk 5 (by kernel_rfl)
      refine Qf.lands_call 31 _ _ rfl (enters_of Try.func31 (by kernel_rfl) rfl) _ (by simp [h7]) ((l3IntsO w.heap.size aS n cS s.S wS ((H3.out.below B3.out).below (hb.mono B3.out.size)) (Nat.le_trans B3.out.size hb.size) (by have := N4.out; omega) E3.out).mono ?_)
      rintro e wT ⟨v, rfl, hrow, bT⟩
      obtain ⟨aT, cT, rfl, hO'⟩ := hrow.own
      refine ⟨_, rfl, bT, aT, cT, by simp [Qf.upd], hO'.mono hb.size, fun a2 c2 e2 => ?_⟩
      have e3 : s0 5 = .slice a2 n c2 := by simpa [Qf.upd] using e2
      rw [ep] at e3
      injection e3 with e3 _ _
      subst e3
      exact ⟨wS.heap.size, fun k hk => (op.blk hk).2, fun k hk => (hO'.blk hk).1⟩
    | 9, _, ho, hk =>
      cases ho
      exact Qf.lands_val _ _ (runFO3 rfl ((hO 4 (by rfl)).trans rfl)) ⟨Below.refl _ _, by simp [Qf.upd]⟩
    | 10, _, ho, hk =>
      cases ho
      have h9 := hA 9 _ 47 (by decide) rfl rfl (by simp)
      have e9 := hk 9 (by kernel_rfl)
      rw [e9] at h9
      exact Qf.lands_val _ _ (runLI rfl h9 ((hb.cell (p := ⟨W1.heap.size, 3, none⟩) PZ.out).trans PA3.out)) ⟨Below.refl _ _, by simp [Qf.upd]⟩
    | 11, _, ho, hk =>
      cases ho
      have h10 := hA 10 _ 48 (by decide) rfl rfl (by simp)
      have e10 := hk 10 (by kernel_rfl)
      rw [e10] at h10
      exact Qf.lands_val _ _ (runInc rfl h10 (by have := N4.out; omega)) ⟨Below.refl _ _, by simp [Qf.upd]⟩
    | 12, _, ho, hk =>
      cases ho
      exact Qf.lands_val _ _ (runFO4 rfl ((hO 4 (by rfl)).trans rfl)) ⟨Below.refl _ _, by simp [Qf.upd]⟩
    | 13, _, ho, hk =>
      cases ho
      have h12 := hA 12 _ 50 (by decide) rfl rfl (by simp)
      have e12 := hk 12 (by kernel_rfl)
      rw [e12] at h12
      exact Qf.lands_val _ _ (runLI rfl h12 ((hb.cell (p := ⟨W1.heap.size, 4, none⟩) PZ.out).trans PA4.out)) ⟨Below.refl _ _, by simp [Qf.upd]⟩
    | 14, _, ho, hk =>
      cases ho
      exact Qf.lands_val _ _ (runFO5 rfl ((hO 4 (by rfl)).trans rfl)) ⟨Below.refl _ _, by simp [Qf.upd]⟩
    | 15, _, ho, hk =>
      cases ho
      have h14 := hA 14 _ 52 (by decide) rfl rfl (by simp)
      have e14 := hk 14 (by kernel_rfl)
      rw [e14] at h14
      exact Qf.lands_val _ _ (runLI rfl h14 ((hb.cell (p := ⟨W1.heap.size, 5, none⟩) PZ.out).trans PA5.out)) ⟨Below.refl _ _, by simp [Qf.upd]⟩
    | 16, _, ho, hk =>
      cases ho
      have h2 := hA 2 _ 40 (by decide) rfl rfl (by simp)
      have h5 := hA 5 _ 43 (by decide) rfl rfl (by simp)
      have h8 := hA 8 _ 46 (by decide) rfl rfl (by simp)
      obtain ⟨p, c, e2, -⟩ := hk 2 (by kernel_rfl)
      obtain ⟨f, d, e5, -, -⟩ := hk 5 (by kernel_rfl)
      obtain ⟨q, g, e8, -, -⟩ := hk 8 (by kernel_rfl)
      rw [e2] at h2
      rw [e5] at h5
      rw [e8] at h8
      have h11 := hA 11 _ 49 (by decide) rfl rfl (by simp)
      have e11 := hk 11 (by kernel_rfl)
      rw [e11] at h11
      have h13 := hA 13 _ 51 (by decide) rfl rfl (by simp)
      have e13 := hk 13 (by kernel_rfl)
      rw [e13] at h13
      have h15 := hA 15 _ 53 (by decide) rfl rfl (by simp)
      have e15 := hk 15 (by kernel_rfl)
      rw [e15] at h15
      exact Qf.lands_val _ _ (runBuildO rfl h2 h5 h8 h11 h13 h15) ⟨Below.refl _ _, by simp [Qf.upd, e2, e5, e8]⟩
    | 17, _, ho, hk =>
      cases ho
      exact Qf.lands_val _ _ (runAllocO rfl) ⟨(Below.refl _ _).alloc (Nat.le_refl _) _, _, by simp [Qf.upd], hb.size, ⟨fun i hi => by rcases (by omega : i = 0 ∨ i = 1 ∨ i = 2 ∨ i = 3 ∨ i = 4 ∨ i = 5) with rfl | rfl | rfl | rfl | rfl | rfl <;> simp [go_sem, OV], fun i => by simp [go_sem], by simp⟩⟩
    | _ + 18, hi, _, _ => exact absurd hi (by omega)
  case rest =>
  intro s' X3 bz hk9
  have e0 : s' 0 = .pointer (some ⟨W1.heap.size, 0, none⟩) := hk9 0 (by decide)
  have e1 : s' 1 = .slice aP n cP := hk9 1 (by decide)
  have e3 : s' 3 = .pointer (some ⟨W1.heap.size, 1, none⟩) := hk9 3 (by decide)
  have e4 : s' 4 = .slice aF n cF := hk9 4 (by decide)
  have e6 : s' 6 = .pointer (some ⟨W1.heap.size, 2, none⟩) := hk9 6 (by decide)
  have e7 : s' 7 = .slice aS n cS := hk9 7 (by decide)
  have e9 : s' 9 = .pointer (some ⟨W1.heap.size, 3, none⟩) := hk9 9 (by decide)
  have e10 : s' 10 = .int .i64 s.c := hk9 10 (by decide)
  have e11 : s' 11 = .int .i64 (s.c + 1) := hk9 11 (by decide)
  have e12 : s' 12 = .pointer (some ⟨W1.heap.size, 4, none⟩) := hk9 12 (by decide)
  have e13 : s' 13 = .int .i64 s.f := hk9 13 (by decide)
  have e14 : s' 14 = .pointer (some ⟨W1.heap.size, 5, none⟩) := hk9 14 (by decide)
  have e15 : s' 15 = .int .i64 s.g := hk9 15 (by decide)
  obtain ⟨p, c, e2, oP⟩ := hk9 2 (by decide)
  obtain ⟨f, d, e5, oF, bF⟩ := hk9 5 (by decide)
  obtain ⟨q, g, e8, oS, bS⟩ := hk9 8 (by decide)
  obtain ⟨v, e17, hv, oV⟩ := hk9 17 (by decide)
  have e16 : s' 16 = .agg #[s' 2, s' 5, s' 8, .int .i64 (s.c + 1), .int .i64 s.f, .int .i64 s.g] := hk9 16 (by decide)
  rw [e2, e5, e8] at e16
  simp only [List.take_succ_cons, List.take_zero, List.drop_succ_cons, List.drop_zero, Qf.lay, Qf.all1, if_true, e0, e1, e2, e3, e4, e5, e6, e7, e8, e9, e10, e11, e12, e13, e14, e15, e16, e17]
  simp only [Act.put, List.setIfInBounds_toArray, List.set_cons_succ, List.set_cons_zero]
  have AP := hide (And.intro (bF p c e2) (bS f d e5))
  have UP := hide (own_ne oP oV rfl)
  have UF := hide (own_ne oF oV rfl)
  have US := hide (own_ne oS oV rfl)
  have QP := hide oP
  have QF := hide oF
  have QS := hide oS
  have VV := hide oV
  have HV := hide hv
  have SX := hide S3.out
  replace LL0 := hide (LL0.out.below bz)
  replace LO0 := hide (LO0.out.below bz)
  replace R1 := hide (R1.out.kept (Kept.of_below (S := fun _ => False) bz) id)
  replace B3 := hide (B3.out.trans (bz.mono B3.out.size))
  replace S3 := hide (Nat.le_trans S3.out bz.size)
  clear hk9 e0 e1 e2 e3 e4 e5 e6 e7 e8 e9 e10 e11 e12 e13 e14 e15 e16 e17 oP oF oS bF bS bz oV hv PA0 PA1 PA2 PA3 PA4 PA5
  obtain ⟨V0, hV0⟩ : ∃ V0, X3.setCell ⟨v, 0, none⟩ (.slice p n c) = V0 := ⟨_, rfl⟩
  have eV0 : X3.cell? ⟨v, 0, none⟩ = some (.slice none 0 0) := VV.out.c 0 (by omega)
  have fV0 := VV.out.f 0
  replace VV := hide (hV0 ▸ VV.out.set 0 (.slice p n c) (by omega) : C6 V0 v _)
  have kV0 : Kept (· = v) X3 V0 := hV0 ▸ Kept.setCell X3 ⟨v, 0, none⟩ _
  replace R1 := hide (R1.out.kept kV0 (by have := HV.out; have := SX.out; have := Y.out; show ¬ W2.heap.size = v; omega))
  replace B3 := hide (hV0 ▸ B3.out.setCell (p := ⟨v, 0, none⟩) (by have := HV.out; have := SX.out; have := Y.out; show w.heap.size ≤ v; omega) _ : Below w.heap.size w V0)
  replace QP := hide (QP.out.kept kV0 (fun k hb e => UP.out k hb e))
  replace QF := hide (QF.out.kept kV0 (fun k hb e => UF.out k hb e))
  replace QS := hide (QS.out.kept kV0 (fun k hb e => US.out k hb e))
  clear kV0
  obtain ⟨V1, hV1⟩ : ∃ V1, V0.setCell ⟨v, 1, none⟩ (.slice f n d) = V1 := ⟨_, rfl⟩
  have eV1 : V0.cell? ⟨v, 1, none⟩ = some (.slice none 0 0) := VV.out.c 1 (by omega)
  have fV1 := VV.out.f 1
  replace VV := hide (hV1 ▸ VV.out.set 1 (.slice f n d) (by omega) : C6 V1 v _)
  have kV1 : Kept (· = v) V0 V1 := hV1 ▸ Kept.setCell V0 ⟨v, 1, none⟩ _
  replace R1 := hide (R1.out.kept kV1 (by have := HV.out; have := SX.out; have := Y.out; show ¬ W2.heap.size = v; omega))
  replace B3 := hide (hV1 ▸ B3.out.setCell (p := ⟨v, 1, none⟩) (by have := HV.out; have := SX.out; have := Y.out; show w.heap.size ≤ v; omega) _ : Below w.heap.size w V1)
  replace QP := hide (QP.out.kept kV1 (fun k hb e => UP.out k hb e))
  replace QF := hide (QF.out.kept kV1 (fun k hb e => UF.out k hb e))
  replace QS := hide (QS.out.kept kV1 (fun k hb e => US.out k hb e))
  clear kV1
  obtain ⟨V2, hV2⟩ : ∃ V2, V1.setCell ⟨v, 2, none⟩ (.slice q n g) = V2 := ⟨_, rfl⟩
  have eV2 : V1.cell? ⟨v, 2, none⟩ = some (.slice none 0 0) := VV.out.c 2 (by omega)
  have fV2 := VV.out.f 2
  replace VV := hide (hV2 ▸ VV.out.set 2 (.slice q n g) (by omega) : C6 V2 v _)
  have kV2 : Kept (· = v) V1 V2 := hV2 ▸ Kept.setCell V1 ⟨v, 2, none⟩ _
  replace R1 := hide (R1.out.kept kV2 (by have := HV.out; have := SX.out; have := Y.out; show ¬ W2.heap.size = v; omega))
  replace B3 := hide (hV2 ▸ B3.out.setCell (p := ⟨v, 2, none⟩) (by have := HV.out; have := SX.out; have := Y.out; show w.heap.size ≤ v; omega) _ : Below w.heap.size w V2)
  replace QP := hide (QP.out.kept kV2 (fun k hb e => UP.out k hb e))
  replace QF := hide (QF.out.kept kV2 (fun k hb e => UF.out k hb e))
  replace QS := hide (QS.out.kept kV2 (fun k hb e => US.out k hb e))
  clear kV2
  obtain ⟨V3, hV3⟩ : ∃ V3, V2.setCell ⟨v, 3, none⟩ (.int .i64 (s.c + 1)) = V3 := ⟨_, rfl⟩
  have eV3 : V2.cell? ⟨v, 3, none⟩ = some (.int .i64 0) := VV.out.c 3 (by omega)
  have fV3 := VV.out.f 3
  replace VV := hide (hV3 ▸ VV.out.set 3 (.int .i64 (s.c + 1)) (by omega) : C6 V3 v _)
  have kV3 : Kept (· = v) V2 V3 := hV3 ▸ Kept.setCell V2 ⟨v, 3, none⟩ _
  replace R1 := hide (R1.out.kept kV3 (by have := HV.out; have := SX.out; have := Y.out; show ¬ W2.heap.size = v; omega))
  replace B3 := hide (hV3 ▸ B3.out.setCell (p := ⟨v, 3, none⟩) (by have := HV.out; have := SX.out; have := Y.out; show w.heap.size ≤ v; omega) _ : Below w.heap.size w V3)
  replace QP := hide (QP.out.kept kV3 (fun k hb e => UP.out k hb e))
  replace QF := hide (QF.out.kept kV3 (fun k hb e => UF.out k hb e))
  replace QS := hide (QS.out.kept kV3 (fun k hb e => US.out k hb e))
  clear kV3
  obtain ⟨V4, hV4⟩ : ∃ V4, V3.setCell ⟨v, 4, none⟩ (.int .i64 s.f) = V4 := ⟨_, rfl⟩
  have eV4 : V3.cell? ⟨v, 4, none⟩ = some (.int .i64 0) := VV.out.c 4 (by omega)
  have fV4 := VV.out.f 4
  replace VV := hide (hV4 ▸ VV.out.set 4 (.int .i64 s.f) (by omega) : C6 V4 v _)
  have kV4 : Kept (· = v) V3 V4 := hV4 ▸ Kept.setCell V3 ⟨v, 4, none⟩ _
  replace R1 := hide (R1.out.kept kV4 (by have := HV.out; have := SX.out; have := Y.out; show ¬ W2.heap.size = v; omega))
  replace B3 := hide (hV4 ▸ B3.out.setCell (p := ⟨v, 4, none⟩) (by have := HV.out; have := SX.out; have := Y.out; show w.heap.size ≤ v; omega) _ : Below w.heap.size w V4)
  replace QP := hide (QP.out.kept kV4 (fun k hb e => UP.out k hb e))
  replace QF := hide (QF.out.kept kV4 (fun k hb e => UF.out k hb e))
  replace QS := hide (QS.out.kept kV4 (fun k hb e => US.out k hb e))
  clear kV4
  obtain ⟨V5, hV5⟩ : ∃ V5, V4.setCell ⟨v, 5, none⟩ (.int .i64 s.g) = V5 := ⟨_, rfl⟩
  have eV5 : V4.cell? ⟨v, 5, none⟩ = some (.int .i64 0) := VV.out.c 5 (by omega)
  have fV5 := VV.out.f 5
  replace VV := hide (hV5 ▸ VV.out.set 5 (.int .i64 s.g) (by omega) : C6 V5 v _)
  have kV5 : Kept (· = v) V4 V5 := hV5 ▸ Kept.setCell V4 ⟨v, 5, none⟩ _
  replace R1 := hide (R1.out.kept kV5 (by have := HV.out; have := SX.out; have := Y.out; show ¬ W2.heap.size = v; omega))
  replace B3 := hide (hV5 ▸ B3.out.setCell (p := ⟨v, 5, none⟩) (by have := HV.out; have := SX.out; have := Y.out; show w.heap.size ≤ v; omega) _ : Below w.heap.size w V5)
  replace QP := hide (QP.out.kept kV5 (fun k hb e => UP.out k hb e))
  replace QF := hide (QF.out.kept kV5 (fun k hb e => UF.out k hb e))
  replace QS := hide (QS.out.kept kV5 (fun k hb e => US.out k hb e))
  clear kV5
  clear LL0 LO0 S3
  have CG := hide (gradS w.heap.size a n cl Gr V5 B3.out.size (HI.out.below B3.out) (by have := N4.out; omega))
  have GF : grd n Gr = false := by unfold grd; rw [HG.out]; rfl
  rw [GF] at CG
  clear GF
  go_wp2_with fail
  refine CG.out.mono ?_; rintro e X4 ⟨rfl, bx⟩
  clear CG hV0 eV0 fV0 hV1 eV1 fV1 hV2 eV2 fV2 hV3 eV3 fV3 hV4 eV4 fV4 hV5 eV5 fV5
  replace VV := hide (VV.out.kept (Kept.of_below (S := fun _ => False) bx) id)
  replace R1 := hide (R1.out.kept (Kept.of_below (S := fun _ => False) bx) id)
  replace B3 := hide (B3.out.trans (bx.mono B3.out.size))
  replace QP := hide (QP.out.below bx)
  replace QF := hide (QF.out.below bx)
  replace QS := hide (QS.out.below bx)
  clear bx
  obtain ⟨G5, hG5⟩ : ∃ G5, X4.setCell ⟨v, 5, none⟩ (.int .i64 0) = G5 := ⟨_, rfl⟩
  have eG5 : X4.cell? ⟨v, 5, none⟩ = some (.int .i64 s.g) := VV.out.c 5 (by omega)
  have fG5 := VV.out.f 5
  replace VV := hide (hG5 ▸ VV.out.set 5 (.int .i64 0) (by omega) : C6 G5 v _)
  have kG5 : Kept (· = v) X4 G5 := hG5 ▸ Kept.setCell X4 ⟨v, 5, none⟩ _
  replace R1 := hide (R1.out.kept kG5 (by have := HV.out; have := SX.out; have := Y.out; show ¬ W2.heap.size = v; omega))
  replace B3 := hide (hG5 ▸ B3.out.setCell (p := ⟨v, 5, none⟩) (by have := HV.out; have := SX.out; have := Y.out; show w.heap.size ≤ v; omega) _ : Below w.heap.size w G5)
  replace QP := hide (QP.out.kept kG5 (fun k hb e => UP.out k hb e))
  replace QF := hide (QF.out.kept kG5 (fun k hb e => UF.out k hb e))
  replace QS := hide (QS.out.kept kG5 (fun k hb e => US.out k hb e))
  clear kG5
  have m4 : G5.cell? ⟨v, 4, none⟩ = some (.int .i64 s.f) := VV.out.c 4 (by omega)
  have FR := hide (fac_rng HS.out.2.2.2.2.2.2)
  by_cases qf : 1 < s.f
  · have qd : decide (1 < s.f) = true := decide_eq_true qf
    obtain ⟨y, hy⟩ : ∃ y, s.f.tdiv 2 = y := ⟨_, rfl⟩
    have hw : wrap64 y = y := by
      have := FR.out
      have e := Int.tdiv_eq_ediv_of_nonneg (a := s.f) (b := 2) (by omega)
      have yb : 0 ≤ y ∧ y ≤ 65536 := by omega
      first | (unfold wrap64; omega) | (exact w64 (x := y) (by omega)) | (have q := w64 (x := y) (by omega); simpa using q)
    obtain ⟨G4, hG4⟩ : ∃ G4, G5.setCell ⟨v, 4, none⟩ (.int .i64 y) = G4 := ⟨_, rfl⟩
    have eG4 : G5.cell? ⟨v, 4, none⟩ = some (.int .i64 s.f) := VV.out.c 4 (by omega)
    have fG4 := VV.out.f 4
    replace VV := hide (hG4 ▸ VV.out.set 4 (.int .i64 y) (by omega) : C6 G4 v _)
    have kG4 : Kept (· = v) G5 G4 := hG4 ▸ Kept.setCell G5 ⟨v, 4, none⟩ _
    replace R1 := hide (R1.out.kept kG4 (by have := HV.out; have := SX.out; have := Y.out; show ¬ W2.heap.size = v; omega))
    replace B3 := hide (hG4 ▸ B3.out.setCell (p := ⟨v, 4, none⟩) (by have := HV.out; have := SX.out; have := Y.out; show w.heap.size ≤ v; omega) _ : Below w.heap.size w G4)
    replace QP := hide (QP.out.kept kG4 (fun k hb e => UP.out k hb e))
    replace QF := hide (QF.out.kept kG4 (fun k hb e => UF.out k hb e))
    replace QS := hide (QS.out.kept kG4 (fun k hb e => US.out k hb e))
    clear kG4
    have n0 : G4.cell? ⟨v, 0, none⟩ = some (.slice p n c) := VV.out.c 0 (by omega)
    have n1 : G4.cell? ⟨v, 1, none⟩ = some (.slice f n d) := VV.out.c 1 (by omega)
    have n2 : G4.cell? ⟨v, 2, none⟩ = some (.slice q n g) := VV.out.c 2 (by omega)
    have n3 : G4.cell? ⟨v, 3, none⟩ = some (.int .i64 (s.c + 1)) := VV.out.c 3 (by omega)
    have n4 : G4.cell? ⟨v, 4, none⟩ = some (.int .i64 y) := VV.out.c 4 (by omega)
    have n5 : G4.cell? ⟨v, 5, none⟩ = some (.int .i64 0) := VV.out.c 5 (by omega)
    obtain ⟨T0, hT0⟩ : ∃ T0, G4.setCell ⟨W2.heap.size, 0, none⟩ (.slice p n c) = T0 := ⟨_, rfl⟩
    have RT0 := hide (hT0 ▸ R1.out.set 0 (.slice p n c) (by omega) : C6 T0 W2.heap.size _)
    have eT0 : G4.cell? ⟨W2.heap.size, 0, none⟩ = some (.slice none 0 0) := R1.out.c 0 (by omega)
    have fT0 := R1.out.f 0
    have kT0 : Kept (· = W2.heap.size) G4 T0 := hT0 ▸ Kept.setCell G4 ⟨W2.heap.size, 0, none⟩ _
    have BT0 := hide (hT0 ▸ B3.out.setCell (p := ⟨W2.heap.size, 0, none⟩) (by have := Y.out; show w.heap.size ≤ W2.heap.size; omega) _ : Below w.heap.size w T0)
    obtain ⟨T1, hT1⟩ : ∃ T1, T0.setCell ⟨W2.heap.size, 1, none⟩ (.slice f n d) = T1 := ⟨_, rfl⟩
    have RT1 := hide (hT1 ▸ RT0.out.set 1 (.slice f n d) (by omega) : C6 T1 W2.heap.size _)
    have eT1 : T0.cell? ⟨W2.heap.size, 1, none⟩ = some (.slice none 0 0) := RT0.out.c 1 (by omega)
    have fT1 := RT0.out.f 1
    have kT1 : Kept (· = W2.heap.size) T0 T1 := hT1 ▸ Kept.setCell T0 ⟨W2.heap.size, 1, none⟩ _
    have BT1 := hide (hT1 ▸ BT0.out.setCell (p := ⟨W2.heap.size, 1, none⟩) (by have := Y.out; show w.heap.size ≤ W2.heap.size; omega) _ : Below w.heap.size w T1)
    obtain ⟨T2, hT2⟩ : ∃ T2, T1.setCell ⟨W2.heap.size, 2, none⟩ (.slice q n g) = T2 := ⟨_, rfl⟩
    have RT2 := hide (hT2 ▸ RT1.out.set 2 (.slice q n g) (by omega) : C6 T2 W2.heap.size _)
    have eT2 : T1.cell? ⟨W2.heap.size, 2, none⟩ = some (.slice none 0 0) := RT1.out.c 2 (by omega)
    have fT2 := RT1.out.f 2
    have kT2 : Kept (· = W2.heap.size) T1 T2 := hT2 ▸ Kept.setCell T1 ⟨W2.heap.size, 2, none⟩ _
    have BT2 := hide (hT2 ▸ BT1.out.setCell (p := ⟨W2.heap.size, 2, none⟩) (by have := Y.out; show w.heap.size ≤ W2.heap.size; omega) _ : Below w.heap.size w T2)
    obtain ⟨T3, hT3⟩ : ∃ T3, T2.setCell ⟨W2.heap.size, 3, none⟩ (.int .i64 (s.c + 1)) = T3 := ⟨_, rfl⟩
    have RT3 := hide (hT3 ▸ RT2.out.set 3 (.int .i64 (s.c + 1)) (by omega) : C6 T3 W2.heap.size _)
    have eT3 : T2.cell? ⟨W2.heap.size, 3, none⟩ = some (.int .i64 0) := RT2.out.c 3 (by omega)
    have fT3 := RT2.out.f 3
    have kT3 : Kept (· = W2.heap.size) T2 T3 := hT3 ▸ Kept.setCell T2 ⟨W2.heap.size, 3, none⟩ _
    have BT3 := hide (hT3 ▸ BT2.out.setCell (p := ⟨W2.heap.size, 3, none⟩) (by have := Y.out; show w.heap.size ≤ W2.heap.size; omega) _ : Below w.heap.size w T3)
    obtain ⟨T4, hT4⟩ : ∃ T4, T3.setCell ⟨W2.heap.size, 4, none⟩ (.int .i64 y) = T4 := ⟨_, rfl⟩
    have RT4 := hide (hT4 ▸ RT3.out.set 4 (.int .i64 y) (by omega) : C6 T4 W2.heap.size _)
    have eT4 : T3.cell? ⟨W2.heap.size, 4, none⟩ = some (.int .i64 0) := RT3.out.c 4 (by omega)
    have fT4 := RT3.out.f 4
    have kT4 : Kept (· = W2.heap.size) T3 T4 := hT4 ▸ Kept.setCell T3 ⟨W2.heap.size, 4, none⟩ _
    have BT4 := hide (hT4 ▸ BT3.out.setCell (p := ⟨W2.heap.size, 4, none⟩) (by have := Y.out; show w.heap.size ≤ W2.heap.size; omega) _ : Below w.heap.size w T4)
    obtain ⟨T5, hT5⟩ : ∃ T5, T4.setCell ⟨W2.heap.size, 5, none⟩ (.int .i64 0) = T5 := ⟨_, rfl⟩
    have RT5 := hide (hT5 ▸ RT4.out.set 5 (.int .i64 0) (by omega) : C6 T5 W2.heap.size _)
    have eT5 : T4.cell? ⟨W2.heap.size, 5, none⟩ = some (.int .i64 0) := RT4.out.c 5 (by omega)
    have fT5 := RT4.out.f 5
    have kT5 : Kept (· = W2.heap.size) T4 T5 := hT5 ▸ Kept.setCell T4 ⟨W2.heap.size, 5, none⟩ _
    have BT5 := hide (hT5 ▸ BT4.out.setCell (p := ⟨W2.heap.size, 5, none⟩) (by have := Y.out; show w.heap.size ≤ W2.heap.size; omega) _ : Below w.heap.size w T5)
    have kk := hide (((((kT0.trans kT1).trans kT2).trans kT3).trans kT4).trans kT5)
    have r0 : T5.cell? ⟨W2.heap.size, 0, none⟩ = some (.slice p n c) := RT5.out.c 0 (by omega)
    have r1 : T5.cell? ⟨W2.heap.size, 1, none⟩ = some (.slice f n d) := RT5.out.c 1 (by omega)
    have r2 : T5.cell? ⟨W2.heap.size, 2, none⟩ = some (.slice q n g) := RT5.out.c 2 (by omega)
    have r3 : T5.cell? ⟨W2.heap.size, 3, none⟩ = some (.int .i64 (s.c + 1)) := RT5.out.c 3 (by omega)
    have r4 : T5.cell? ⟨W2.heap.size, 4, none⟩ = some (.int .i64 y) := RT5.out.c 4 (by omega)
    have r5 : T5.cell? ⟨W2.heap.size, 5, none⟩ = some (.int .i64 0) := RT5.out.c 5 (by omega)
    clear kT0 kT1 kT2 kT3 kT4 kT5
    have ZP := hide ((QP.out.kept kk.out (fun b hb e => by have := (QP.out.blk hb).1; have := Y.out; have := SX.out; have e : b = W2.heap.size := e; omega)).mono (by have := Y.out; have := SX.out; omega : w.heap.size ≤ X2.heap.size))
    have ZF := hide ((QF.out.kept kk.out (fun b hb e => by have := (QF.out.blk hb).1; have := Y.out; have := SX.out; have e : b = W2.heap.size := e; omega)).mono (by have := Y.out; have := SX.out; omega : w.heap.size ≤ X2.heap.size))
    have ZS := hide ((QS.out.kept kk.out (fun b hb e => by have := (QS.out.blk hb).1; have := Y.out; have := SX.out; have e : b = W2.heap.size := e; omega)).mono (by have := Y.out; have := SX.out; omega : w.heap.size ≤ X2.heap.size))
    go_wp2_with fail
    refine bodyPost_ret (v := .tuple #[.agg #[.slice p n c, .slice f n d, .slice q n g, .int .i64 (s.c + 1), .int .i64 y, .int .i64 0], .bool true]) (by simp [results, Try.results14, go_sem, r0, r1, r2, r3, r4, r5]) rfl (.inr ⟨id, ?_⟩)
    have ef : max (s.f.tdiv 2) 1 = y := by have := FR.out; have e := Int.tdiv_eq_ediv_of_nonneg (a := s.f) (b := 2) (by omega); omega
    exact ⟨p, f, q, c, d, g, by show _ = Ending.returned (.tuple #[.agg #[_, _, _, _, .int .i64 (max (s.f.tdiv 2) 1), _], _]); rw [ef], ⟨ZP.out, ZF.out, ZS.out⟩, AP.out, BT5.out⟩
  · have qd : decide (1 < s.f) = false := decide_eq_false qf
    have n0 : G5.cell? ⟨v, 0, none⟩ = some (.slice p n c) := VV.out.c 0 (by omega)
    have n1 : G5.cell? ⟨v, 1, none⟩ = some (.slice f n d) := VV.out.c 1 (by omega)
    have n2 : G5.cell? ⟨v, 2, none⟩ = some (.slice q n g) := VV.out.c 2 (by omega)
    have n3 : G5.cell? ⟨v, 3, none⟩ = some (.int .i64 (s.c + 1)) := VV.out.c 3 (by omega)
    have n4 : G5.cell? ⟨v, 4, none⟩ = some (.int .i64 s.f) := VV.out.c 4 (by omega)
    have n5 : G5.cell? ⟨v, 5, none⟩ = some (.int .i64 0) := VV.out.c 5 (by omega)
    obtain ⟨T0, hT0⟩ : ∃ T0, G5.setCell ⟨W2.heap.size, 0, none⟩ (.slice p n c) = T0 := ⟨_, rfl⟩
    have RT0 := hide (hT0 ▸ R1.out.set 0 (.slice p n c) (by omega) : C6 T0 W2.heap.size _)
    have eT0 : G5.cell? ⟨W2.heap.size, 0, none⟩ = some (.slice none 0 0) := R1.out.c 0 (by omega)
    have fT0 := R1.out.f 0
    have kT0 : Kept (· = W2.heap.size) G5 T0 := hT0 ▸ Kept.setCell G5 ⟨W2.heap.size, 0, none⟩ _
    have BT0 := hide (hT0 ▸ B3.out.setCell (p := ⟨W2.heap.size, 0, none⟩) (by have := Y.out; show w.heap.size ≤ W2.heap.size; omega) _ : Below w.heap.size w T0)
    obtain ⟨T1, hT1⟩ : ∃ T1, T0.setCell ⟨W2.heap.size, 1, none⟩ (.slice f n d) = T1 := ⟨_, rfl⟩
    have RT1 := hide (hT1 ▸ RT0.out.set 1 (.slice f n d) (by omega) : C6 T1 W2.heap.size _)
    have eT1 : T0.cell? ⟨W2.heap.size, 1, none⟩ = some (.slice none 0 0) := RT0.out.c 1 (by omega)
    have fT1 := RT0.out.f 1
    have kT1 : Kept (· = W2.heap.size) T0 T1 := hT1 ▸ Kept.setCell T0 ⟨W2.heap.size, 1, none⟩ _
    have BT1 := hide (hT1 ▸ BT0.out.setCell (p := ⟨W2.heap.size, 1, none⟩) (by have := Y.out; show w.heap.size ≤ W2.heap.size; omega) _ : Below w.heap.size w T1)
    obtain ⟨T2, hT2⟩ : ∃ T2, T1.setCell ⟨W2.heap.size, 2, none⟩ (.slice q n g) = T2 := ⟨_, rfl⟩
    have RT2 := hide (hT2 ▸ RT1.out.set 2 (.slice q n g) (by omega) : C6 T2 W2.heap.size _)
    have eT2 : T1.cell? ⟨W2.heap.size, 2, none⟩ = some (.slice none 0 0) := RT1.out.c 2 (by omega)
    have fT2 := RT1.out.f 2
    have kT2 : Kept (· = W2.heap.size) T1 T2 := hT2 ▸ Kept.setCell T1 ⟨W2.heap.size, 2, none⟩ _
    have BT2 := hide (hT2 ▸ BT1.out.setCell (p := ⟨W2.heap.size, 2, none⟩) (by have := Y.out; show w.heap.size ≤ W2.heap.size; omega) _ : Below w.heap.size w T2)
    obtain ⟨T3, hT3⟩ : ∃ T3, T2.setCell ⟨W2.heap.size, 3, none⟩ (.int .i64 (s.c + 1)) = T3 := ⟨_, rfl⟩
    have RT3 := hide (hT3 ▸ RT2.out.set 3 (.int .i64 (s.c + 1)) (by omega) : C6 T3 W2.heap.size _)
    have eT3 : T2.cell? ⟨W2.heap.size, 3, none⟩ = some (.int .i64 0) := RT2.out.c 3 (by omega)
    have fT3 := RT2.out.f 3
    have kT3 : Kept (· = W2.heap.size) T2 T3 := hT3 ▸ Kept.setCell T2 ⟨W2.heap.size, 3, none⟩ _
    have BT3 := hide (hT3 ▸ BT2.out.setCell (p := ⟨W2.heap.size, 3, none⟩) (by have := Y.out; show w.heap.size ≤ W2.heap.size; omega) _ : Below w.heap.size w T3)
    obtain ⟨T4, hT4⟩ : ∃ T4, T3.setCell ⟨W2.heap.size, 4, none⟩ (.int .i64 s.f) = T4 := ⟨_, rfl⟩
    have RT4 := hide (hT4 ▸ RT3.out.set 4 (.int .i64 s.f) (by omega) : C6 T4 W2.heap.size _)
    have eT4 : T3.cell? ⟨W2.heap.size, 4, none⟩ = some (.int .i64 0) := RT3.out.c 4 (by omega)
    have fT4 := RT3.out.f 4
    have kT4 : Kept (· = W2.heap.size) T3 T4 := hT4 ▸ Kept.setCell T3 ⟨W2.heap.size, 4, none⟩ _
    have BT4 := hide (hT4 ▸ BT3.out.setCell (p := ⟨W2.heap.size, 4, none⟩) (by have := Y.out; show w.heap.size ≤ W2.heap.size; omega) _ : Below w.heap.size w T4)
    obtain ⟨T5, hT5⟩ : ∃ T5, T4.setCell ⟨W2.heap.size, 5, none⟩ (.int .i64 0) = T5 := ⟨_, rfl⟩
    have RT5 := hide (hT5 ▸ RT4.out.set 5 (.int .i64 0) (by omega) : C6 T5 W2.heap.size _)
    have eT5 : T4.cell? ⟨W2.heap.size, 5, none⟩ = some (.int .i64 0) := RT4.out.c 5 (by omega)
    have fT5 := RT4.out.f 5
    have kT5 : Kept (· = W2.heap.size) T4 T5 := hT5 ▸ Kept.setCell T4 ⟨W2.heap.size, 5, none⟩ _
    have BT5 := hide (hT5 ▸ BT4.out.setCell (p := ⟨W2.heap.size, 5, none⟩) (by have := Y.out; show w.heap.size ≤ W2.heap.size; omega) _ : Below w.heap.size w T5)
    have kk := hide (((((kT0.trans kT1).trans kT2).trans kT3).trans kT4).trans kT5)
    have r0 : T5.cell? ⟨W2.heap.size, 0, none⟩ = some (.slice p n c) := RT5.out.c 0 (by omega)
    have r1 : T5.cell? ⟨W2.heap.size, 1, none⟩ = some (.slice f n d) := RT5.out.c 1 (by omega)
    have r2 : T5.cell? ⟨W2.heap.size, 2, none⟩ = some (.slice q n g) := RT5.out.c 2 (by omega)
    have r3 : T5.cell? ⟨W2.heap.size, 3, none⟩ = some (.int .i64 (s.c + 1)) := RT5.out.c 3 (by omega)
    have r4 : T5.cell? ⟨W2.heap.size, 4, none⟩ = some (.int .i64 s.f) := RT5.out.c 4 (by omega)
    have r5 : T5.cell? ⟨W2.heap.size, 5, none⟩ = some (.int .i64 0) := RT5.out.c 5 (by omega)
    clear kT0 kT1 kT2 kT3 kT4 kT5
    have ZP := hide ((QP.out.kept kk.out (fun b hb e => by have := (QP.out.blk hb).1; have := Y.out; have := SX.out; have e : b = W2.heap.size := e; omega)).mono (by have := Y.out; have := SX.out; omega : w.heap.size ≤ X2.heap.size))
    have ZF := hide ((QF.out.kept kk.out (fun b hb e => by have := (QF.out.blk hb).1; have := Y.out; have := SX.out; have e : b = W2.heap.size := e; omega)).mono (by have := Y.out; have := SX.out; omega : w.heap.size ≤ X2.heap.size))
    have ZS := hide ((QS.out.kept kk.out (fun b hb e => by have := (QS.out.blk hb).1; have := Y.out; have := SX.out; have e : b = W2.heap.size := e; omega)).mono (by have := Y.out; have := SX.out; omega : w.heap.size ≤ X2.heap.size))
    go_wp2_with fail
    refine bodyPost_ret (v := .tuple #[.agg #[.slice p n c, .slice f n d, .slice q n g, .int .i64 (s.c + 1), .int .i64 s.f, .int .i64 0], .bool true]) (by simp [results, Try.results14, go_sem, r0, r1, r2, r3, r4, r5]) rfl (.inr ⟨id, ?_⟩)
    have ef : max (s.f.tdiv 2) 1 = s.f := by have := FR.out; have e := Int.tdiv_eq_ediv_of_nonneg (a := s.f) (b := 2) (by omega); omega
    exact ⟨p, f, q, c, d, g, by show _ = Ending.returned (.tuple #[.agg #[_, _, _, _, .int .i64 (max (s.f.tdiv 2) 1), _], _]); rw [ef], ⟨ZP.out, ZF.out, ZS.out⟩, AP.out, BT5.out⟩
end Vo
end Go.Proofs.Ytflbhlepmjiejaa
