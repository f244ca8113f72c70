/- A state is copied: the model (written by tools/genrb.py). -/
import Derived.Test.YtflbhlepmjiejaaMra
import Derived.Test.YtflbhlepmjiejaaMrc
namespace Go.Proofs.Ytflbhlepmjiejaa
namespace Vo
open Go.ChangeShapes Go.WideShapes Go.ChangeAt Go.RowKit Go.Joins Go.Sort
open Vl Vp Vr
set_option linter.unusedVariables false
set_option linter.unusedSimpArgs false
theorem runFO3 {o : Oper} {A : Act} {w : World} {x : Operand} {b : Nat} (ho : o.op = .fieldAddr 30 x 3) (hx : A.eval x = .pointer (some ⟨b, 0, none⟩)) : (execOp A.eval o).run Try.prog w = .ok (.value (.pointer (some ⟨b, 3, none⟩))) w := by
  unfold execOp
  rw [ho]
  simp only [hx]
  go_simp
theorem runFO5 {o : Oper} {A : Act} {w : World} {x : Operand} {b : Nat} (ho : o.op = .fieldAddr 30 x 5) (hx : A.eval x = .pointer (some ⟨b, 0, none⟩)) : (execOp A.eval o).run Try.prog w = .ok (.value (.pointer (some ⟨b, 5, none⟩))) w := by
  unfold execOp
  rw [ho]
  simp only [hx]
  go_simp
set_option maxHeartbeats 1000000 in
theorem l3IntsO (B : Nat) (a : Option Addr) (r cap : Nat) (D : Nat → Int) (w : World) (h : Ints B w a r D) (hB : B ≤ w.heap.size) (hr : (r : Int) ≤ 1048576) (hn : a = none → r = 0 ∧ True) :
    Calls Try.prog 31 #[.slice a r cap] w fun e w' => ∃ v, e = .returned v ∧ RowV w.heap.size w' v r D ∧ Below w.heap.size w w' := by
  cases a with
  | some ad => exact l3Ints B ad r cap D w h hB hr
  | none =>
    obtain rfl := (hn rfl).1
    have hbd : ∀ j, j < 0 → bd (D j) := fun j hj => by omega
    have B0 := hide (show Below w.heap.size w (w.alloc (.cells #[] 3)) from (Below.refl _ _).alloc (Nat.le_refl _) _)
    have hown0 : (w.alloc (.cells #[] 3)).ownsRow w.heap.size 3 1 (.slice (some ⟨w.heap.size, 0, none⟩) 0 0) 0 [] :=
      ⟨rfl, .inr ⟨w.heap.size, 0, #[], rfl, Nat.le_refl _, heap_alloc_new w _, Nat.le_refl _, by simp [maxLen], rfl, rfl⟩⟩
    clear h hn
    go_enter Try.func31, Try.ntmps31
    go_wp2_with fail
    go_ret
    exact ⟨_, rfl, ⟨hown0, hbd⟩, B0.out⟩
set_option maxHeartbeats 4000000 in
set_option maxRecDepth 100000 in
theorem specCopyO (aP aF aS : Option Addr) (n cP cF cS : Nat) (PP FF SS : Nat → Int) (cnt fac good : Int) (w : World) (h1 : Ints w.heap.size w aP n PP) (h2 : Ints w.heap.size w aF n FF) (h3 : Ints w.heap.size w aS n SS) (z1 : aP = none → n = 0 ∧ True) (z2 : aF = none → n = 0 ∧ True) (z3 : aS = none → n = 0 ∧ True) (n4 : (n : Int) ≤ 4096) :
    Calls Try.prog 28 #[.agg #[.slice aP n cP, .slice aF n cF, .slice aS n cS, .int .i64 cnt, .int .i64 fac, .int .i64 good]] w (CpR n PP FF SS cnt fac good w) := by
  obtain ⟨W1, hW1⟩ : ∃ W1, w.alloc (.cells #[.slice aP n cP, .slice aF n cF, .slice aS n cS, .int .i64 cnt, .int .i64 fac, .int .i64 good] 30) = W1 := ⟨_, rfl⟩
  have n1 : Below w.heap.size w W1 := hW1 ▸ (Below.refl _ _).alloc (Nat.le_refl _) _
  have y1 : w.heap.size < W1.heap.size := by rw [← hW1]; simp
  obtain ⟨W2, hW2⟩ : ∃ W2, W1.alloc (.cells #[.slice none 0 0, .slice none 0 0, .slice none 0 0, .int .i64 0, .int .i64 0, .int .i64 0] 30) = W2 := ⟨_, rfl⟩
  have n2 : Below W1.heap.size W1 W2 := hW2 ▸ (Below.refl _ _).alloc (Nat.le_refl _) _
  have y2 : W1.heap.size < W2.heap.size := by rw [← hW2]; simp
  have O1 := hide ((show C6 W1 w.heap.size (OV aP aF aS n cP cF cS cnt fac good) from ⟨fun i hi => by rcases (by omega : i = 0 ∨ i = 1 ∨ i = 2 ∨ i = 3 ∨ i = 4 ∨ i = 5) with rfl | rfl | rfl | rfl | rfl | rfl <;> (rw [← hW1]; simp [go_sem, OV]), fun i => by rw [← hW1]; simp [go_sem], y1⟩).kept (Kept.of_below (S := fun _ => False) n2) id)
  have R1 := hide (show C6 W2 W1.heap.size (OV none none none 0 0 0 0 0 0 0) from ⟨fun i hi => by rcases (by omega : i = 0 ∨ i = 1 ∨ i = 2 ∨ i = 3 ∨ i = 4 ∨ i = 5) with rfl | rfl | rfl | rfl | rfl | rfl <;> (rw [← hW2]; simp [go_sem, OV]), fun i => by rw [← hW2]; simp [go_sem], y2⟩)
  have BL := hide (n1.trans (n2.mono n1.size))
  have Y := hide (And.intro y1 y2)
  have H1 := hide (h1.below BL.out)
  have H2 := hide (h2.below BL.out)
  have H3 := hide (h3.below BL.out)
  have E1 := hide z1
  have E2 := hide z2
  have E3 := hide z3
  have PA0 := hide (show W2.cell? ⟨w.heap.size, 0, none⟩ = some (.slice aP n cP) from O1.out.c 0 (by omega))
  have PA1 := hide (show W2.cell? ⟨w.heap.size, 1, none⟩ = some (.slice aF n cF) from O1.out.c 1 (by omega))
  have PA2 := hide (show W2.cell? ⟨w.heap.size, 2, none⟩ = some (.slice aS n cS) from O1.out.c 2 (by omega))
  have PA3 := hide (show W2.cell? ⟨w.heap.size, 3, none⟩ = some (.int .i64 cnt) from O1.out.c 3 (by omega))
  have PA4 := hide (show W2.cell? ⟨w.heap.size, 4, none⟩ = some (.int .i64 fac) from O1.out.c 4 (by omega))
  have PA5 := hide (show W2.cell? ⟨w.heap.size, 5, none⟩ = some (.int .i64 good) from O1.out.c 5 (by omega))
  have PZ := hide O1.out.z
  clear h1 h2 h3 z1 z2 z3 n1 n2 y1 y2
  go_enter Try.func28, Try.ntmps28
  go_wp2_with fail
  clear hW1 hW2
  refine Qf.factsJ2 15 (by kernel_rfl) (by kernel_rfl) (by kernel_rfl) (fun i s wx => match i with | 0 => s 0 = .pointer (some ⟨w.heap.size, 0, none⟩) | 1 => s 1 = .slice aP n cP | 2 => ∃ a c, s 2 = .slice a n c ∧ OwnL W2.heap.size wx a n PP | 3 => s 3 = .pointer (some ⟨w.heap.size, 1, none⟩) | 4 => s 4 = .slice aF n cF | 5 => ∃ a c, s 5 = .slice a n c ∧ OwnL W2.heap.size wx a n FF ∧ ∀ a2 c2, s 2 = .slice a2 n c2 → Bhd a2 a n | 6 => s 6 = .pointer (some ⟨w.heap.size, 2, none⟩) | 7 => s 7 = .slice aS n cS | 8 => ∃ a c, s 8 = .slice a n c ∧ OwnL W2.heap.size wx a n SS ∧ ∀ a2 c2, s 5 = .slice a2 n c2 → Bhd a2 a n | 9 => s 9 = .pointer (some ⟨w.heap.size, 3, none⟩) | 10 => s 10 = .int .i64 cnt | 11 => s 11 = .pointer (some ⟨w.heap.size, 4, none⟩) | 12 => s 12 = .int .i64 fac | 13 => s 13 = .pointer (some ⟨w.heap.size, 5, none⟩) | 14 => s 14 = .int .i64 good | _ => True) ?loc ?stable ?steps ?rest
  case loc =>
    intro i s s' w1 hs h
    match i, h with
    | 0, h => exact (hs 0 (.inl rfl)).symm.trans h
    | 1, h => exact (hs 1 (.inl rfl)).symm.trans h
    | 2, ⟨a, c, h1, h2⟩ => exact ⟨a, c, (hs 2 (.inl rfl)).symm.trans h1, h2⟩
    | 3, h => exact (hs 3 (.inl rfl)).symm.trans h
    | 4, h => exact (hs 4 (.inl rfl)).symm.trans h
    | 5, ⟨a, c, h1, h2, h3⟩ => exact ⟨a, c, (hs 5 (.inl rfl)).symm.trans h1, h2, fun a2 c2 e => h3 a2 c2 ((hs 2 (.inr (by kernel_rfl))).trans e)⟩
    | 6, h => exact (hs 6 (.inl rfl)).symm.trans h
    | 7, h => exact (hs 7 (.inl rfl)).symm.trans h
    | 8, ⟨a, c, h1, h2, h3⟩ => exact ⟨a, c, (hs 8 (.inl rfl)).symm.trans h1, h2, fun a2 c2 e => h3 a2 c2 ((hs 5 (.inr (by kernel_rfl))).trans e)⟩
    | 9, h => exact (hs 9 (.inl rfl)).symm.trans h
    | 10, h => exact (hs 10 (.inl rfl)).symm.trans h
    | 11, h => exact (hs 11 (.inl rfl)).symm.trans h
    | 12, h => exact (hs 12 (.inl rfl)).symm.trans h
    | 13, h => exact (hs 13 (.inl rfl)).symm.trans h
    | 14, h => exact (hs 14 (.inl rfl)).symm.trans h
    | _ + 15, h => exact h
  case stable =>
    intro i s w1 w2 h hb
    match i, h with
    | 0, h => exact h
    | 1, h => exact h
    | 2, ⟨a, c, h1, h2⟩ => exact ⟨a, c, h1, h2.below hb⟩
    | 3, h => exact h
    | 4, h => exact h
    | 5, ⟨a, c, h1, h2, h3⟩ => exact ⟨a, c, h1, h2.below hb, h3⟩
    | 6, h => exact h
    | 7, h => exact h
    | 8, ⟨a, c, h1, h2, h3⟩ => exact ⟨a, c, h1, h2.below hb, h3⟩
    | 9, h => exact h
    | 10, h => exact h
    | 11, h => exact h
    | 12, h => exact h
    | 13, h => exact h
    | 14, h => exact h
    | _ + 15, h => exact h
  case steps =>
    intro i o hi ho s A wS hb hk hA hO
    match i, hi, ho, hk with
    | 0, _, ho, hk =>
      cases ho
      exact Qf.lands_val _ _ (runFO0 rfl ((hO 1 (by rfl)).trans rfl)) ⟨Below.refl _ _, by simp [Qf.upd]⟩
    | 1, _, ho, hk =>
      cases ho
      have h0 := hA 0 _ 3 (by decide) rfl rfl (by simp)
      have e0 := hk 0 (by kernel_rfl)
      rw [e0] at h0
      exact Qf.lands_val _ _ (runLL rfl h0 ((hb.cell (p := ⟨w.heap.size, 0, none⟩) PZ.out).trans PA0.out)) ⟨Below.refl _ _, by simp [Qf.upd]⟩
    | 2, _, ho, hk =>
      cases ho
      have h1 := hA 1 _ 4 (by decide) rfl rfl (by simp)
      have e1 := hk 1 (by kernel_rfl)
      rw [e1] at h1
      refine Qf.lands_call 31 _ _ rfl (enters_of Try.func31 (by kernel_rfl) rfl) _ (by simp [h1]) ((l3IntsO w.heap.size aP n cP PP wS (H1.out.below (hb.mono (Nat.le_of_lt (Nat.lt_trans Y.out.1 Y.out.2)))) (Nat.le_trans (Nat.le_of_lt (Nat.lt_trans Y.out.1 Y.out.2)) hb.size) (by omega) E1.out).mono ?_)
      rintro e wT ⟨v, rfl, hrow, bT⟩
      obtain ⟨aT, cT, rfl, hO'⟩ := hrow.own
      exact ⟨_, rfl, bT, aT, cT, by simp [Qf.upd], hO'.mono hb.size⟩
    | 3, _, ho, hk =>
      cases ho
      exact Qf.lands_val _ _ (runFO1 rfl ((hO 1 (by rfl)).trans rfl)) ⟨Below.refl _ _, by simp [Qf.upd]⟩
    | 4, _, ho, hk =>
      cases ho
      have h3 := hA 3 _ 6 (by decide) rfl rfl (by simp)
      have e3 := hk 3 (by kernel_rfl)
      rw [e3] at h3
      exact Qf.lands_val _ _ (runLL rfl h3 ((hb.cell (p := ⟨w.heap.size, 1, none⟩) PZ.out).trans PA1.out)) ⟨Below.refl _ _, by simp [Qf.upd]⟩
    | 5, _, ho, hk =>
      cases ho
      have h4 := hA 4 _ 7 (by decide) rfl rfl (by simp)
      have e4 := hk 4 (by kernel_rfl)
      rw [e4] at h4
      obtain ⟨ap, cp, ep, op⟩ := hk 2 (by kernel_rfl)
      refine Qf.lands_call 31 _ _ rfl (enters_of Try.func31 (by kernel_rfl) rfl) _ (by simp [h4]) ((l3IntsO w.heap.size aF n cF FF wS (H2.out.below (hb.mono (Nat.le_of_lt (Nat.lt_trans Y.out.1 Y.out.2)))) (Nat.le_trans (Nat.le_of_lt (Nat.lt_trans Y.out.1 Y.out.2)) hb.size) (by omega) E2.out).mono ?_)
      rintro e wT ⟨v, rfl, hrow, bT⟩
      obtain ⟨aT, cT, rfl, hO'⟩ := hrow.own
      refine ⟨_, rfl, bT, aT, cT, by simp [Qf.upd], hO'.mono hb.size, fun a2 c2 e2 => ?_⟩
      have e3 : s 2 = .slice a2 n c2 := by simpa [Qf.upd] using e2
      rw [ep] at e3
      injection e3 with e3 _ _
      subst e3
      exact ⟨wS.heap.size, fun k hk => (op.blk hk).2, fun k hk => (hO'.blk hk).1⟩
    | 6, _, ho, hk =>
      cases ho
      exact Qf.lands_val _ _ (runFO2 rfl ((hO 1 (by rfl)).trans rfl)) ⟨Below.refl _ _, by simp [Qf.upd]⟩
    | 7, _, ho, hk =>
      cases ho
      have h6 := hA 6 _ 9 (by decide) rfl rfl (by simp)
      have e6 := hk 6 (by kernel_rfl)
      rw [e6] at h6
      exact Qf.lands_val _ _ (runLL rfl h6 ((hb.cell (p := ⟨w.heap.size, 2, none⟩) PZ.out).trans PA2.out)) ⟨Below.refl _ _, by simp [Qf.upd]⟩
    | 8, _, ho, hk =>
      cases ho
      have h7 := hA 7 _ 10 (by decide) rfl rfl (by simp)
      have e7 := hk 7 (by kernel_rfl)
      rw [e7] at h7
      obtain ⟨ap, cp, ep, op, -⟩ := hk 5 (by kernel_rfl)
      refine Qf.lands_call 31 _ _ rfl (enters_of Try.func31 (by kernel_rfl) rfl) _ (by simp [h7]) ((l3IntsO w.heap.size aS n cS SS wS (H3.out.below (hb.mono (Nat.le_of_lt (Nat.lt_trans Y.out.1 Y.out.2)))) (Nat.le_trans (Nat.le_of_lt (Nat.lt_trans Y.out.1 Y.out.2)) hb.size) (by omega) E3.out).mono ?_)
      rintro e wT ⟨v, rfl, hrow, bT⟩
      obtain ⟨aT, cT, rfl, hO'⟩ := hrow.own
      refine ⟨_, rfl, bT, aT, cT, by simp [Qf.upd], hO'.mono hb.size, fun a2 c2 e2 => ?_⟩
      have e3 : s 5 = .slice a2 n c2 := by simpa [Qf.upd] using e2
      rw [ep] at e3
      injection e3 with e3 _ _
      subst e3
      exact ⟨wS.heap.size, fun k hk => (op.blk hk).2, fun k hk => (hO'.blk hk).1⟩
    | 9, _, ho, hk =>
      cases ho
      exact Qf.lands_val _ _ (runFO3 rfl ((hO 1 (by rfl)).trans rfl)) ⟨Below.refl _ _, by simp [Qf.upd]⟩
    | 10, _, ho, hk =>
      cases ho
      have h9 := hA 9 _ 12 (by decide) rfl rfl (by simp)
      have e9 := hk 9 (by kernel_rfl)
      rw [e9] at h9
      exact Qf.lands_val _ _ (runLI rfl h9 ((hb.cell (p := ⟨w.heap.size, 3, none⟩) PZ.out).trans PA3.out)) ⟨Below.refl _ _, by simp [Qf.upd]⟩
    | 11, _, ho, hk =>
      cases ho
      exact Qf.lands_val _ _ (runFO4 rfl ((hO 1 (by rfl)).trans rfl)) ⟨Below.refl _ _, by simp [Qf.upd]⟩
    | 12, _, ho, hk =>
      cases ho
      have h11 := hA 11 _ 14 (by decide) rfl rfl (by simp)
      have e11 := hk 11 (by kernel_rfl)
      rw [e11] at h11
      exact Qf.lands_val _ _ (runLI rfl h11 ((hb.cell (p := ⟨w.heap.size, 4, none⟩) PZ.out).trans PA4.out)) ⟨Below.refl _ _, by simp [Qf.upd]⟩
    | 13, _, ho, hk =>
      cases ho
      exact Qf.lands_val _ _ (runFO5 rfl ((hO 1 (by rfl)).trans rfl)) ⟨Below.refl _ _, by simp [Qf.upd]⟩
    | 14, _, ho, hk =>
      cases ho
      have h13 := hA 13 _ 16 (by decide) rfl rfl (by simp)
      have e13 := hk 13 (by kernel_rfl)
      rw [e13] at h13
      exact Qf.lands_val _ _ (runLI rfl h13 ((hb.cell (p := ⟨w.heap.size, 5, none⟩) PZ.out).trans PA5.out)) ⟨Below.refl _ _, by simp [Qf.upd]⟩
    | _ + 15, hi, _, _ => exact absurd hi (by omega)
  case rest =>
  intro s' X1 bz hk9
  have e0 := hk9 0 (by decide)
  have e1 := hk9 1 (by decide)
  have e3 := hk9 3 (by decide)
  have e4 := hk9 4 (by decide)
  have e6 := hk9 6 (by decide)
  have e7 := hk9 7 (by decide)
  have e9 := hk9 9 (by decide)
  have e10 := hk9 10 (by decide)
  have e11 := hk9 11 (by decide)
  have e12 := hk9 12 (by decide)
  have e13 := hk9 13 (by decide)
  have e14 := hk9 14 (by decide)
  obtain ⟨p, c, e2, oP⟩ := hk9 2 (by decide)
  obtain ⟨f, d, e5, oF, bF⟩ := hk9 5 (by decide)
  obtain ⟨s, g, e8, oS, bS⟩ := hk9 8 (by decide)
  have e0 : s' 0 = .pointer (some ⟨w.heap.size, 0, none⟩) := e0
  have e1 : s' 1 = .slice aP n cP := e1
  have e3 : s' 3 = .pointer (some ⟨w.heap.size, 1, none⟩) := e3
  have e4 : s' 4 = .slice aF n cF := e4
  have e6 : s' 6 = .pointer (some ⟨w.heap.size, 2, none⟩) := e6
  have e7 : s' 7 = .slice aS n cS := e7
  have e9 : s' 9 = .pointer (some ⟨w.heap.size, 3, none⟩) := e9
  have e10 : s' 10 = .int .i64 cnt := e10
  have e11 : s' 11 = .pointer (some ⟨w.heap.size, 4, none⟩) := e11
  have e12 : s' 12 = .int .i64 fac := e12
  have e13 : s' 13 = .pointer (some ⟨w.heap.size, 5, none⟩) := e13
  have e14 : s' 14 = .int .i64 good := e14
  simp only [List.take_succ_cons, List.take_zero, List.drop_succ_cons, List.drop_zero, Qf.lay, Qf.all1, if_true, e0, e1, e2, e3, e4, e5, e6, e7, e8, e9, e10, e11, e12, e13, e14]
  simp only [Act.put, List.setIfInBounds_toArray, List.set_cons_succ, List.set_cons_zero]
  have APT := hide (And.intro (bF p c e2) (bS f d e5))
  have QP := hide (oP.mono (Nat.le_of_lt (Nat.lt_trans Y.out.1 Y.out.2)))
  have QF := hide (oF.mono (Nat.le_of_lt (Nat.lt_trans Y.out.1 Y.out.2)))
  have QS := hide (oS.mono (Nat.le_of_lt (Nat.lt_trans Y.out.1 Y.out.2)))
  have UP := hide (fun k (q : Blk p n k) => (oP.blk q).1)
  have UF := hide (fun k (q : Blk f n k) => (oF.blk q).1)
  have US := hide (fun k (q : Blk s n k) => (oS.blk q).1)
  have OX := hide (O1.out.kept (Kept.of_below (S := fun _ => False) bz) id)
  have RX := hide (R1.out.kept (Kept.of_below (S := fun _ => False) bz) id)
  have BX := hide (BL.out.trans (bz.mono BL.out.size))
  clear hk9 e0 e1 e2 e3 e4 e5 e6 e7 e8 e9 e10 e11 e12 e13 e14 oP oF oS bF bS bz O1 R1 PA0 PA1 PA2 PA3 PA4 PA5
  obtain ⟨T0, hT0⟩ : ∃ T0, X1.setCell ⟨W1.heap.size, 0, none⟩ (.slice p n c) = T0 := ⟨_, rfl⟩
  have RT0 := hide (hT0 ▸ RX.out.set 0 (.slice p n c) (by omega) : C6 T0 W1.heap.size _)
  have eT0 : X1.cell? ⟨W1.heap.size, 0, none⟩ = some (.slice none 0 0) := RX.out.c 0 (by omega)
  have fT0 := RX.out.f 0
  have kT0 : Kept (· = W1.heap.size) X1 T0 := hT0 ▸ Kept.setCell X1 ⟨W1.heap.size, 0, none⟩ _
  have BT0 := hide (hT0 ▸ BX.out.setCell (p := ⟨W1.heap.size, 0, none⟩) (Nat.le_of_lt Y.out.1) _ : Below w.heap.size w T0)
  replace QP := hide (QP.out.kept kT0 (fun k q e => by have := UP.out k q; have := Y.out; have e : k = W1.heap.size := e; omega))
  replace QF := hide (QF.out.kept kT0 (fun k q e => by have := UF.out k q; have := Y.out; have e : k = W1.heap.size := e; omega))
  replace QS := hide (QS.out.kept kT0 (fun k q e => by have := US.out k q; have := Y.out; have e : k = W1.heap.size := e; omega))
  clear kT0
  obtain ⟨T1, hT1⟩ : ∃ T1, T0.setCell ⟨W1.heap.size, 1, none⟩ (.slice f n d) = T1 := ⟨_, rfl⟩
  have RT1 := hide (hT1 ▸ RT0.out.set 1 (.slice f n d) (by omega) : C6 T1 W1.heap.size _)
  have eT1 : T0.cell? ⟨W1.heap.size, 1, none⟩ = some (.slice none 0 0) := RT0.out.c 1 (by omega)
  have fT1 := RT0.out.f 1
  have kT1 : Kept (· = W1.heap.size) T0 T1 := hT1 ▸ Kept.setCell T0 ⟨W1.heap.size, 1, none⟩ _
  have BT1 := hide (hT1 ▸ BT0.out.setCell (p := ⟨W1.heap.size, 1, none⟩) (Nat.le_of_lt Y.out.1) _ : Below w.heap.size w T1)
  replace QP := hide (QP.out.kept kT1 (fun k q e => by have := UP.out k q; have := Y.out; have e : k = W1.heap.size := e; omega))
  replace QF := hide (QF.out.kept kT1 (fun k q e => by have := UF.out k q; have := Y.out; have e : k = W1.heap.size := e; omega))
  replace QS := hide (QS.out.kept kT1 (fun k q e => by have := US.out k q; have := Y.out; have e : k = W1.heap.size := e; omega))
  clear kT1
  obtain ⟨T2, hT2⟩ : ∃ T2, T1.setCell ⟨W1.heap.size, 2, none⟩ (.slice s n g) = T2 := ⟨_, rfl⟩
  have RT2 := hide (hT2 ▸ RT1.out.set 2 (.slice s n g) (by omega) : C6 T2 W1.heap.size _)
  have eT2 : T1.cell? ⟨W1.heap.size, 2, none⟩ = some (.slice none 0 0) := RT1.out.c 2 (by omega)
  have fT2 := RT1.out.f 2
  have kT2 : Kept (· = W1.heap.size) T1 T2 := hT2 ▸ Kept.setCell T1 ⟨W1.heap.size, 2, none⟩ _
  have BT2 := hide (hT2 ▸ BT1.out.setCell (p := ⟨W1.heap.size, 2, none⟩) (Nat.le_of_lt Y.out.1) _ : Below w.heap.size w T2)
  replace QP := hide (QP.out.kept kT2 (fun k q e => by have := UP.out k q; have := Y.out; have e : k = W1.heap.size := e; omega))
  replace QF := hide (QF.out.kept kT2 (fun k q e => by have := UF.out k q; have := Y.out; have e : k = W1.heap.size := e; omega))
  replace QS := hide (QS.out.kept kT2 (fun k q e => by have := US.out k q; have := Y.out; have e : k = W1.heap.size := e; omega))
  clear kT2
  obtain ⟨T3, hT3⟩ : ∃ T3, T2.setCell ⟨W1.heap.size, 3, none⟩ (.int .i64 cnt) = T3 := ⟨_, rfl⟩
  have RT3 := hide (hT3 ▸ RT2.out.set 3 (.int .i64 cnt) (by omega) : C6 T3 W1.heap.size _)
  have eT3 : T2.cell? ⟨W1.heap.size, 3, none⟩ = some (.int .i64 0) := RT2.out.c 3 (by omega)
  have fT3 := RT2.out.f 3
  have kT3 : Kept (· = W1.heap.size) T2 T3 := hT3 ▸ Kept.setCell T2 ⟨W1.heap.size, 3, none⟩ _
  have BT3 := hide (hT3 ▸ BT2.out.setCell (p := ⟨W1.heap.size, 3, none⟩) (Nat.le_of_lt Y.out.1) _ : Below w.heap.size w T3)
  replace QP := hide (QP.out.kept kT3 (fun k q e => by have := UP.out k q; have := Y.out; have e : k = W1.heap.size := e; omega))
  replace QF := hide (QF.out.kept kT3 (fun k q e => by have := UF.out k q; have := Y.out; have e : k = W1.heap.size := e; omega))
  replace QS := hide (QS.out.kept kT3 (fun k q e => by have := US.out k q; have := Y.out; have e : k = W1.heap.size := e; omega))
  clear kT3
  obtain ⟨T4, hT4⟩ : ∃ T4, T3.setCell ⟨W1.heap.size, 4, none⟩ (.int .i64 fac) = T4 := ⟨_, rfl⟩
  have RT4 := hide (hT4 ▸ RT3.out.set 4 (.int .i64 fac) (by omega) : C6 T4 W1.heap.size _)
  have eT4 : T3.cell? ⟨W1.heap.size, 4, none⟩ = some (.int .i64 0) := RT3.out.c 4 (by omega)
  have fT4 := RT3.out.f 4
  have kT4 : Kept (· = W1.heap.size) T3 T4 := hT4 ▸ Kept.setCell T3 ⟨W1.heap.size, 4, none⟩ _
  have BT4 := hide (hT4 ▸ BT3.out.setCell (p := ⟨W1.heap.size, 4, none⟩) (Nat.le_of_lt Y.out.1) _ : Below w.heap.size w T4)
  replace QP := hide (QP.out.kept kT4 (fun k q e => by have := UP.out k q; have := Y.out; have e : k = W1.heap.size := e; omega))
  replace QF := hide (QF.out.kept kT4 (fun k q e => by have := UF.out k q; have := Y.out; have e : k = W1.heap.size := e; omega))
  replace QS := hide (QS.out.kept kT4 (fun k q e => by have := US.out k q; have := Y.out; have e : k = W1.heap.size := e; omega))
  clear kT4
  obtain ⟨T5, hT5⟩ : ∃ T5, T4.setCell ⟨W1.heap.size, 5, none⟩ (.int .i64 good) = T5 := ⟨_, rfl⟩
  have RT5 := hide (hT5 ▸ RT4.out.set 5 (.int .i64 good) (by omega) : C6 T5 W1.heap.size _)
  have eT5 : T4.cell? ⟨W1.heap.size, 5, none⟩ = some (.int .i64 0) := RT4.out.c 5 (by omega)
  have fT5 := RT4.out.f 5
  have kT5 : Kept (· = W1.heap.size) T4 T5 := hT5 ▸ Kept.setCell T4 ⟨W1.heap.size, 5, none⟩ _
  have BT5 := hide (hT5 ▸ BT4.out.setCell (p := ⟨W1.heap.size, 5, none⟩) (Nat.le_of_lt Y.out.1) _ : Below w.heap.size w T5)
  replace QP := hide (QP.out.kept kT5 (fun k q e => by have := UP.out k q; have := Y.out; have e : k = W1.heap.size := e; omega))
  replace QF := hide (QF.out.kept kT5 (fun k q e => by have := UF.out k q; have := Y.out; have e : k = W1.heap.size := e; omega))
  replace QS := hide (QS.out.kept kT5 (fun k q e => by have := US.out k q; have := Y.out; have e : k = W1.heap.size := e; omega))
  clear kT5
  have r0 : T5.cell? ⟨W1.heap.size, 0, none⟩ = some (.slice p n c) := RT5.out.c 0 (by omega)
  have r1 : T5.cell? ⟨W1.heap.size, 1, none⟩ = some (.slice f n d) := RT5.out.c 1 (by omega)
  have r2 : T5.cell? ⟨W1.heap.size, 2, none⟩ = some (.slice s n g) := RT5.out.c 2 (by omega)
  have r3 : T5.cell? ⟨W1.heap.size, 3, none⟩ = some (.int .i64 cnt) := RT5.out.c 3 (by omega)
  have r4 : T5.cell? ⟨W1.heap.size, 4, none⟩ = some (.int .i64 fac) := RT5.out.c 4 (by omega)
  have r5 : T5.cell? ⟨W1.heap.size, 5, none⟩ = some (.int .i64 good) := RT5.out.c 5 (by omega)
  go_wp2_with fail
  exact bodyPost_ret (v := .agg #[.slice p n c, .slice f n d, .slice s n g, .int .i64 cnt, .int .i64 fac, .int .i64 good]) (by simp [results, Try.results28, go_sem, r0, r1, r2, r3, r4, r5]) rfl ⟨p, f, s, c, d, g, rfl, ⟨QP.out, QF.out, QS.out⟩, APT.out, BT5.out⟩
end Vo
end Go.Proofs.Ytflbhlepmjiejaa
