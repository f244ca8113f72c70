/- A step moves the parameters: the program, rules of kind 3 (written by tools/genom.py). -/
import Derived.Test.YtflbhlepmjiejaaOm
namespace Go.Proofs.Ytflbhlepmjiejaa
namespace Vo
open Go.ChangeShapes Go.WideShapes Go.ChangeAt Go.RowKit Go.Joins Go.Sort
open Vl
set_option linter.unusedVariables false
set_option linter.unusedSimpArgs false
set_option maxHeartbeats 4000000 in
set_option maxRecDepth 100000 in
theorem move3 (B P n cP cF cS cap gP gF gS : Nat) (aP aF aS a : Option Addr) (cnt fac good u r1 r2 r3 r4 r5 r6 r7 r8 r9 r10 : Int) (PP FF SS G Gr NP NF NS A Y Bb Z Dd : Nat → Int) (w : World)
    (hO : C6 w P (OV aP aF aS n cP cF cS cnt fac good)) (hA : n = 0 ∨ (aP = some ⟨gP, 0, none⟩ ∧ aF = some ⟨gF, 0, none⟩ ∧ aS = some ⟨gS, 0, none⟩)) (hP : Rw w gP n PP) (hF : Rw w gF n FF) (hS : Rw w gS n SS)
    (dd : (gP ≠ gF ∧ gP ≠ gS ∧ gF ≠ gS) ∧ (P ≠ gP ∧ P ≠ gF ∧ P ≠ gS) ∧ (B ≤ gP ∧ B ≤ gF ∧ B ≤ gS)) (hB : B ≤ w.heap.size) (hI : Ints B w a n Gr) (n4 : (n : Int) ≤ 4096)
    (hRt : ∀ w, Calls Try.prog 63 #[.agg #[.int .i64 r1, .int .i64 r2, .int .i64 r3, .int .i64 r4], .int .i64 cnt] w fun e w' => e = .returned (.int .i64 u) ∧ Below w.heap.size w w')
    (hG : ∀ w, Ints w.heap.size w a n Gr → Calls Try.prog 65 #[.agg #[.int .i64 3, .int .i64 r1, .int .i64 r2, .int .i64 r3, .int .i64 r4, .int .i64 r5, .int .i64 r6, .int .i64 r7, .int .i64 r8, .int .i64 r9, .int .i64 r10], .slice a n cap, .int .i64 fac] w (ListR n G w))
    (hD : ∀ j, j < n → (IntKind.i64.wrap (r8 * PP j) = A j ∧ IntKind.i64.wrap (u * Y j) = Bb j) ∧ (∀ w, Calls Try.prog 67 #[.int .i64 (A j)] w fun e w' => e = .returned (.int .i64 (Y j)) ∧ Below w.heap.size w w') ∧ (∀ w, Calls Try.prog 67 #[.int .i64 (Bb j)] w fun e w' => e = .returned (.int .i64 (Z j)) ∧ Below w.heap.size w w') ∧
      (∀ w, Calls Try.prog 66 #[.agg #[.int .i64 (PP j), .int .i64 (FF j), .int .i64 (SS j)], .int .i64 (Z j)] w fun e w' => e = .returned (.agg #[.int .i64 (Dd j), .int .i64 (FF j), .int .i64 (SS j)]) ∧ Below w.heap.size w w'))
    (hM : ∀ j, j < n → (bd (NP j) ∧ bd (NF j) ∧ bd (NS j)) ∧ ∀ w, Calls Try.prog 93 #[.agg #[.int .i64 r5, .int .i64 r6, .int .i64 r7], .agg #[.int .i64 (Dd j), .int .i64 (FF j), .int .i64 (SS j)], .int .i64 (G j), .int .i64 u] w fun e w' => e = .returned (.agg #[.int .i64 (NP j), .int .i64 (NF j), .int .i64 (NS j)]) ∧ Below w.heap.size w w') :
    Calls Try.prog 61 #[.pointer (some ⟨P, 0, none⟩), .agg #[.int .i64 3, .int .i64 r1, .int .i64 r2, .int .i64 r3, .int .i64 r4, .int .i64 r5, .int .i64 r6, .int .i64 r7, .int .i64 r8, .int .i64 r9, .int .i64 r10], .slice a n cap] w fun e w' => (∃ v, e = .returned v) ∧ (Rw w' gP n NP ∧ Rw w' gF n NF ∧ Rw w' gS n NS) ∧ Kept (T3 gP gF gS) w w' := by
  obtain ⟨W1, hW1⟩ : ∃ W1, w.alloc (.cells #[.int .i64 3, .int .i64 r1, .int .i64 r2, .int .i64 r3, .int .i64 r4, .int .i64 r5, .int .i64 r6, .int .i64 r7, .int .i64 r8, .int .i64 r9, .int .i64 r10] 27) = W1 := ⟨_, rfl⟩
  have n1 : Below w.heap.size w W1 := hW1 ▸ (Below.refl _ _).alloc (Nat.le_refl _) _
  have z1 : w.heap.size < W1.heap.size := by rw [← hW1]; simp
  have L1 := hide (show Lis [(⟨w.heap.size, 0, none⟩, .int .i64 3), (⟨w.heap.size, 1, none⟩, .int .i64 r1), (⟨w.heap.size, 2, none⟩, .int .i64 r2), (⟨w.heap.size, 3, none⟩, .int .i64 r3), (⟨w.heap.size, 4, none⟩, .int .i64 r4), (⟨w.heap.size, 5, none⟩, .int .i64 r5), (⟨w.heap.size, 6, none⟩, .int .i64 r6), (⟨w.heap.size, 7, none⟩, .int .i64 r7), (⟨w.heap.size, 8, none⟩, .int .i64 r8), (⟨w.heap.size, 9, none⟩, .int .i64 r9), (⟨w.heap.size, 10, none⟩, .int .i64 r10)] W1 from fun x hx => by
      simp only [List.mem_cons, List.not_mem_nil, or_false] at hx
      rcases hx with rfl | rfl | rfl | rfl | rfl | rfl | rfl | rfl | rfl | rfl | rfl <;> (rw [← hW1]; simp [go_sem]))
  have O1 := hide (hO.kept (Kept.of_below (S := fun _ => False) n1) id)
  have HP := hide (hP.kept (Kept.of_below (S := fun _ => False) n1) id)
  have HF := hide (hF.kept (Kept.of_below (S := fun _ => False) n1) id)
  have HS := hide (hS.kept (Kept.of_below (S := fun _ => False) n1) id)
  have HI := hide (hI.below (n1.mono hB))
  have HA := hide hA
  have GLT := hide (show n ≠ 0 → (gP < w.heap.size ∧ gF < w.heap.size ∧ gS < w.heap.size) from fun q => ⟨hP.lt q, hF.lt q, hS.lt q⟩)
  have DD := hide dd
  have HB := hide hB
  have PW := hide hO.z
  have CT := hide hRt
  have CG := hide hG
  have CD := hide hD
  have CM := hide hM
  have CMv := hide (fun w => mover3 r1 r2 r3 r4 r5 r6 r7 r8 r9 r10 w)
  have KK := hide (Kept.of_below (S := T3 gP gF gS) n1)
  have Z1 := hide z1
  clear hO hA hP hF hS dd hB hI hRt hG hD hM n1 z1
  have l0 := cell_regrown (show W1.cell? ⟨w.heap.size, 0, none⟩ = some (.int .i64 3) from L1.out (⟨w.heap.size, 0, none⟩, .int .i64 3) (.head _))
  have l1 := cell_regrown (show W1.cell? ⟨w.heap.size, 1, none⟩ = some (.int .i64 r1) from L1.out (⟨w.heap.size, 1, none⟩, .int .i64 r1) (.tail _ (.head _)))
  have l2 := cell_regrown (show W1.cell? ⟨w.heap.size, 2, none⟩ = some (.int .i64 r2) from L1.out (⟨w.heap.size, 2, none⟩, .int .i64 r2) (.tail _ (.tail _ (.head _))))
  have l3 := cell_regrown (show W1.cell? ⟨w.heap.size, 3, none⟩ = some (.int .i64 r3) from L1.out (⟨w.heap.size, 3, none⟩, .int .i64 r3) (.tail _ (.tail _ (.tail _ (.head _)))))
  have l4 := cell_regrown (show W1.cell? ⟨w.heap.size, 4, none⟩ = some (.int .i64 r4) from L1.out (⟨w.heap.size, 4, none⟩, .int .i64 r4) (.tail _ (.tail _ (.tail _ (.tail _ (.head _))))))
  have l5 := cell_regrown (show W1.cell? ⟨w.heap.size, 5, none⟩ = some (.int .i64 r5) from L1.out (⟨w.heap.size, 5, none⟩, .int .i64 r5) (.tail _ (.tail _ (.tail _ (.tail _ (.tail _ (.head _)))))))
  have l6 := cell_regrown (show W1.cell? ⟨w.heap.size, 6, none⟩ = some (.int .i64 r6) from L1.out (⟨w.heap.size, 6, none⟩, .int .i64 r6) (.tail _ (.tail _ (.tail _ (.tail _ (.tail _ (.tail _ (.head _))))))))
  have l7 := cell_regrown (show W1.cell? ⟨w.heap.size, 7, none⟩ = some (.int .i64 r7) from L1.out (⟨w.heap.size, 7, none⟩, .int .i64 r7) (.tail _ (.tail _ (.tail _ (.tail _ (.tail _ (.tail _ (.tail _ (.head _)))))))))
  have l8 := cell_regrown (show W1.cell? ⟨w.heap.size, 8, none⟩ = some (.int .i64 r8) from L1.out (⟨w.heap.size, 8, none⟩, .int .i64 r8) (.tail _ (.tail _ (.tail _ (.tail _ (.tail _ (.tail _ (.tail _ (.tail _ (.head _))))))))))
  have l9 := cell_regrown (show W1.cell? ⟨w.heap.size, 9, none⟩ = some (.int .i64 r9) from L1.out (⟨w.heap.size, 9, none⟩, .int .i64 r9) (.tail _ (.tail _ (.tail _ (.tail _ (.tail _ (.tail _ (.tail _ (.tail _ (.tail _ (.head _)))))))))))
  have l10 := cell_regrown (show W1.cell? ⟨w.heap.size, 10, none⟩ = some (.int .i64 r10) from L1.out (⟨w.heap.size, 10, none⟩, .int .i64 r10) (.tail _ (.tail _ (.tail _ (.tail _ (.tail _ (.tail _ (.tail _ (.tail _ (.tail _ (.tail _ (.head _))))))))))))
  have p3 := cell_regrown (show W1.cell? ⟨P, 3, none⟩ = some (.int .i64 cnt) from O1.out.c 3 (by omega))
  have CTr := hide (fun d os => Calls.regrown_of (d := d) (os := os) (w := W1) (CT.out _))
  have CMr := hide (fun d os => Calls.regrown_of (d := d) (os := os) (w := W1) (CMv.out _))
  go_enter Try.func61, Try.ntmps61
  go_wp2_with fail
  refine wp_region_quiet_below (by kernel_rfl) (by kernel_rfl) ?_
  repeat (go_big_quiet_step (first | (go_at_call 63; exact CTr.out _ _) | (go_at_call 64; exact CMr.out _ _)))
  refine wpQuiet_nil ?_
  intro _ hw'
  obtain ⟨⟨dq, osq⟩, hw''⟩ := hw'
  subst hw''
  obtain ⟨W2, hZ⟩ : ∃ Z, Sort.grow (redrawn W1 dq) osq = Z := ⟨_, rfl⟩
  have bz : Below W1.heap.size W1 W2 := hZ ▸ below_regrown _ _ _
  rw [hZ]
  clear hZ l0 l1 l2 l3 l4 l5 l6 l7 l8 l9 l10 p3 CTr CMr CT CMv hW1
  have Z1' := hide Z1.out
  replace L1 := hide (L1.out.below bz)
  replace O1 := hide (O1.out.kept (Kept.of_below (S := fun _ => False) bz) id)
  replace HP := hide (HP.out.kept (Kept.of_below (S := fun _ => False) bz) id)
  replace HF := hide (HF.out.kept (Kept.of_below (S := fun _ => False) bz) id)
  replace HS := hide (HS.out.kept (Kept.of_below (S := fun _ => False) bz) id)
  replace KK := hide (KK.out.trans (Kept.of_below bz))
  replace Z1 := hide (Nat.lt_of_lt_of_le Z1.out bz.size)
  replace HI := hide (HI.out.below (bz.mono (Nat.le_trans HB.out (Nat.le_of_lt Z1'.out))))
  clear bz Z1'
  have GI := hide (HI.out.mono (Nat.le_trans HB.out (Nat.le_of_lt Z1.out)))
  have CGd := hide (CG.out W2.drew (by have := GI.out.below (Below.refl W2.heap.size W2).drew; simpa using this))
  have DB := hide ((Below.refl W2.heap.size W2).drew)
  have FL := hide (show ∀ W, Below W2.heap.size W2 W → W.cell? ⟨w.heap.size, 0, none⟩ = some (.int .i64 3) ∧ W.cell? ⟨w.heap.size, 1, none⟩ = some (.int .i64 r1) ∧ W.cell? ⟨w.heap.size, 2, none⟩ = some (.int .i64 r2) ∧ W.cell? ⟨w.heap.size, 3, none⟩ = some (.int .i64 r3) ∧ W.cell? ⟨w.heap.size, 4, none⟩ = some (.int .i64 r4) ∧ W.cell? ⟨w.heap.size, 5, none⟩ = some (.int .i64 r5) ∧ W.cell? ⟨w.heap.size, 6, none⟩ = some (.int .i64 r6) ∧ W.cell? ⟨w.heap.size, 7, none⟩ = some (.int .i64 r7) ∧ W.cell? ⟨w.heap.size, 8, none⟩ = some (.int .i64 r8) ∧ W.cell? ⟨w.heap.size, 9, none⟩ = some (.int .i64 r9) ∧ W.cell? ⟨w.heap.size, 10, none⟩ = some (.int .i64 r10) ∧ W.cell? ⟨P, 4, none⟩ = some (.int .i64 fac) from fun W bW => by
      have lw := L1.out.below bW
      exact ⟨lw (⟨w.heap.size, 0, none⟩, .int .i64 3) (.head _), lw (⟨w.heap.size, 1, none⟩, .int .i64 r1) (.tail _ (.head _)), lw (⟨w.heap.size, 2, none⟩, .int .i64 r2) (.tail _ (.tail _ (.head _))), lw (⟨w.heap.size, 3, none⟩, .int .i64 r3) (.tail _ (.tail _ (.tail _ (.head _)))), lw (⟨w.heap.size, 4, none⟩, .int .i64 r4) (.tail _ (.tail _ (.tail _ (.tail _ (.head _))))), lw (⟨w.heap.size, 5, none⟩, .int .i64 r5) (.tail _ (.tail _ (.tail _ (.tail _ (.tail _ (.head _)))))), lw (⟨w.heap.size, 6, none⟩, .int .i64 r6) (.tail _ (.tail _ (.tail _ (.tail _ (.tail _ (.tail _ (.head _))))))), lw (⟨w.heap.size, 7, none⟩, .int .i64 r7) (.tail _ (.tail _ (.tail _ (.tail _ (.tail _ (.tail _ (.tail _ (.head _)))))))), lw (⟨w.heap.size, 8, none⟩, .int .i64 r8) (.tail _ (.tail _ (.tail _ (.tail _ (.tail _ (.tail _ (.tail _ (.tail _ (.head _))))))))), lw (⟨w.heap.size, 9, none⟩, .int .i64 r9) (.tail _ (.tail _ (.tail _ (.tail _ (.tail _ (.tail _ (.tail _ (.tail _ (.tail _ (.head _)))))))))), lw (⟨w.heap.size, 10, none⟩, .int .i64 r10) (.tail _ (.tail _ (.tail _ (.tail _ (.tail _ (.tail _ (.tail _ (.tail _ (.tail _ (.tail _ (.head _))))))))))), (bW.cell (p := ⟨P, 4, none⟩) O1.out.z).trans (O1.out.c 4 (by omega))⟩)
  have l0 : W2.cell? ⟨w.heap.size, 0, none⟩ = some (.int .i64 3) := L1.out (⟨w.heap.size, 0, none⟩, .int .i64 3) (.head _)
  have l1 : W2.cell? ⟨w.heap.size, 1, none⟩ = some (.int .i64 r1) := L1.out (⟨w.heap.size, 1, none⟩, .int .i64 r1) (.tail _ (.head _))
  have l2 : W2.cell? ⟨w.heap.size, 2, none⟩ = some (.int .i64 r2) := L1.out (⟨w.heap.size, 2, none⟩, .int .i64 r2) (.tail _ (.tail _ (.head _)))
  have l3 : W2.cell? ⟨w.heap.size, 3, none⟩ = some (.int .i64 r3) := L1.out (⟨w.heap.size, 3, none⟩, .int .i64 r3) (.tail _ (.tail _ (.tail _ (.head _))))
  have l4 : W2.cell? ⟨w.heap.size, 4, none⟩ = some (.int .i64 r4) := L1.out (⟨w.heap.size, 4, none⟩, .int .i64 r4) (.tail _ (.tail _ (.tail _ (.tail _ (.head _)))))
  have l5 : W2.cell? ⟨w.heap.size, 5, none⟩ = some (.int .i64 r5) := L1.out (⟨w.heap.size, 5, none⟩, .int .i64 r5) (.tail _ (.tail _ (.tail _ (.tail _ (.tail _ (.head _))))))
  have l6 : W2.cell? ⟨w.heap.size, 6, none⟩ = some (.int .i64 r6) := L1.out (⟨w.heap.size, 6, none⟩, .int .i64 r6) (.tail _ (.tail _ (.tail _ (.tail _ (.tail _ (.tail _ (.head _)))))))
  have l7 : W2.cell? ⟨w.heap.size, 7, none⟩ = some (.int .i64 r7) := L1.out (⟨w.heap.size, 7, none⟩, .int .i64 r7) (.tail _ (.tail _ (.tail _ (.tail _ (.tail _ (.tail _ (.tail _ (.head _))))))))
  have l8 : W2.cell? ⟨w.heap.size, 8, none⟩ = some (.int .i64 r8) := L1.out (⟨w.heap.size, 8, none⟩, .int .i64 r8) (.tail _ (.tail _ (.tail _ (.tail _ (.tail _ (.tail _ (.tail _ (.tail _ (.head _)))))))))
  have l9 : W2.cell? ⟨w.heap.size, 9, none⟩ = some (.int .i64 r9) := L1.out (⟨w.heap.size, 9, none⟩, .int .i64 r9) (.tail _ (.tail _ (.tail _ (.tail _ (.tail _ (.tail _ (.tail _ (.tail _ (.tail _ (.head _))))))))))
  have l10 : W2.cell? ⟨w.heap.size, 10, none⟩ = some (.int .i64 r10) := L1.out (⟨w.heap.size, 10, none⟩, .int .i64 r10) (.tail _ (.tail _ (.tail _ (.tail _ (.tail _ (.tail _ (.tail _ (.tail _ (.tail _ (.tail _ (.head _)))))))))))
  have p4 : W2.cell? ⟨P, 4, none⟩ = some (.int .i64 fac) := O1.out.c 4 (by omega)
  go_wp2_with fail
  go_region_held3 (fun w' => w'.cell? ⟨w.heap.size, 0, none⟩ = some (.int .i64 3) ∧ w'.cell? ⟨w.heap.size, 1, none⟩ = some (.int .i64 r1) ∧ w'.cell? ⟨w.heap.size, 2, none⟩ = some (.int .i64 r2) ∧ w'.cell? ⟨w.heap.size, 3, none⟩ = some (.int .i64 r3) ∧ w'.cell? ⟨w.heap.size, 4, none⟩ = some (.int .i64 r4) ∧ w'.cell? ⟨w.heap.size, 5, none⟩ = some (.int .i64 r5) ∧ w'.cell? ⟨w.heap.size, 6, none⟩ = some (.int .i64 r6) ∧ w'.cell? ⟨w.heap.size, 7, none⟩ = some (.int .i64 r7) ∧ w'.cell? ⟨w.heap.size, 8, none⟩ = some (.int .i64 r8) ∧ w'.cell? ⟨w.heap.size, 9, none⟩ = some (.int .i64 r9) ∧ w'.cell? ⟨w.heap.size, 10, none⟩ = some (.int .i64 r10) ∧ w'.cell? ⟨P, 4, none⟩ = some (.int .i64 fac))
    ((try dsimp only) <;> (repeat' apply And.intro) <;> (first | with_reducible assumption | assumption))
    (first | (go_at_call 65
              refine CGd.out.mono ?_
              rintro e W3 ⟨ga, gc, rfl, hGO, bz0⟩
              have bz : Below W2.heap.size W2 W3 := DB.out.trans (by simpa using bz0)
              obtain ⟨j0, j1, j2, j3, j4, j5, j6, j7, j8, j9, j10, j11⟩ := FL.out W3 bz))
  have GO := hide (show OwnL W2.heap.size W3 ga n G by simpa using hGO)
  have Z1' := hide Z1.out
  have S23 := hide bz.size
  have ZW2 := hide (show w.heap.size < W2.heap.size from Z1.out)
  replace L1 := hide (L1.out.below bz)
  replace O1 := hide (O1.out.kept (Kept.of_below (S := fun _ => False) bz) id)
  replace HP := hide (HP.out.kept (Kept.of_below (S := fun _ => False) bz) id)
  replace HF := hide (HF.out.kept (Kept.of_below (S := fun _ => False) bz) id)
  replace HS := hide (HS.out.kept (Kept.of_below (S := fun _ => False) bz) id)
  replace KK := hide (KK.out.trans (Kept.of_below bz))
  replace Z1 := hide (Nat.lt_of_lt_of_le Z1.out bz.size)
  replace HI := hide (HI.out.below (bz.mono (Nat.le_trans HB.out (Nat.le_of_lt Z1'.out))))
  clear bz Z1' hGO GI CG bz0 CGd DB l0 l1 l2 l3 l4 l5 l6 l7 l8 l9 l10 p4 FL j0 j1 j2 j3 j4 j5 j6 j7 j8 j9 j10 j11
  skip
  go_wp2_with fail
  go_loopw [28] (fun i wx => ∃ k : Nat, k ≤ n ∧ i = .int .i64 k ∧ (Rw wx gP n (fun t => if t < k then NP t else PP t) ∧ Rw wx gF n (fun t => if t < k then NF t else FF t) ∧ Rw wx gS n (fun t => if t < k then NS t else SS t)) ∧ Kept (T3 gP gF gS) W3 wx) (fun i _ => n - (intOf i).toNat)
  case atStart => exact ⟨0, Nat.zero_le _, rfl, ⟨HP.out.same (fun t ht => by simp), HF.out.same (fun t ht => by simp), HS.out.same (fun t ht => by simp)⟩, Kept.refl _ _⟩
  case round =>
    obtain ⟨k, hk, rfl, ⟨q1, q2, q3⟩, hK⟩ := hrel
    have QP := hide q1
    have QF := hide q2
    have QS := hide q3
    have HK := hide hK
    clear q1 q2 q3 hK
    by_cases hkn : k < n
    · have kI : (k : Int) < (n : Int) := by omega
      have wk : IntKind.i64.wrap ((k : Int) + 1) = (k : Int) + 1 := by rw [IntKind.wrap_i64]; omega
      rcases HA.out with h0 | ⟨rfl, rfl, rfl⟩
      · omega
      obtain ⟨lP, lF, lS⟩ := GLT.out (by omega)
      obtain ⟨⟨d1, d2, d3⟩, ⟨d4, d5, d6⟩, -⟩ := DD.out
      have OX := hide (O1.out.kept HK.out (by unfold T3; omega))
      have ZX := hide (show w.heap.size < wr.heap.size from Nat.lt_of_lt_of_le Z1.out HK.out.size)
      have rb : ∀ i : Nat, wr.cell? ⟨w.heap.size, i, none⟩ = W3.cell? ⟨w.heap.size, i, none⟩ := fun i => World.cell?_of_block (w := W3) (a := ⟨w.heap.size, i, none⟩) (HK.out.block _ Z1.out (by show ¬ (w.heap.size = gP ∨ w.heap.size = gF ∨ w.heap.size = gS); omega))
      have RD := hide (show wr.cell? ⟨w.heap.size, 8, none⟩ = some (.int .i64 r8) from (rb 8).trans (L1.out (⟨w.heap.size, 8, none⟩, .int .i64 r8) (.tail _ (.tail _ (.tail _ (.tail _ (.tail _ (.tail _ (.tail _ (.tail _ (.head _)))))))))))
      obtain ⟨gg, hga, gge, gRw⟩ : ∃ gg, ga = some ⟨gg, 0, none⟩ ∧ W2.heap.size ≤ gg ∧ Rw W3 gg n G := by
        rcases GO.out with e | ⟨gg, e, h1, h2⟩
        · omega
        · exact ⟨gg, e, h1, h2⟩
      subst hga
      have cg : wr.cell? ⟨gg, k, none⟩ = some (.int .i64 (G k)) := (World.cell?_of_block (w := W3) (a := ⟨gg, k, none⟩) (HK.out.block _ (gRw.lt (by omega)) (by have := ZW2.out; show ¬ (gg = gP ∨ gg = gF ∨ gg = gS); omega))).trans (gRw k hkn).1
      have PA0 := hide (show wr.cell? ⟨P, 0, none⟩ = some (.slice (some ⟨gP, 0, none⟩) n cP) from OX.out.c 0 (by omega))
      have PA1 := hide (show wr.cell? ⟨P, 1, none⟩ = some (.slice (some ⟨gF, 0, none⟩) n cF) from OX.out.c 1 (by omega))
      have PA2 := hide (show wr.cell? ⟨P, 2, none⟩ = some (.slice (some ⟨gS, 0, none⟩) n cS) from OX.out.c 2 (by omega))
      have PZ := hide OX.out.z
      have VP := hide (show wr.cell? ⟨gP, k, none⟩ = some (.int .i64 (PP k)) from by have := (QP.out k hkn).1; simpa using this)
      have VF := hide (show wr.cell? ⟨gF, k, none⟩ = some (.int .i64 (FF k)) from by have := (QF.out k hkn).1; simpa using this)
      have VS := hide (show wr.cell? ⟨gS, k, none⟩ = some (.int .i64 (SS k)) from by have := (QS.out k hkn).1; simpa using this)
      have LL := hide (show (gP < wr.heap.size ∧ gF < wr.heap.size ∧ gS < wr.heap.size) from ⟨World.block_lt_of_cell? _ _ VP.out, World.block_lt_of_cell? _ _ VF.out, World.block_lt_of_cell? _ _ VS.out⟩)
      have DN := hide (And.intro d1 (And.intro d2 d3))
      clear d1 d2 d3 d4 d5 d6 lP lF lS rb gRw gge OX
      obtain ⟨⟨wA, wB⟩, cA, cB, cL⟩ := CD.out k hkn
      obtain ⟨⟨bP, bF, bS⟩, cM⟩ := CM.out k hkn
      have BN := hide (And.intro bP (And.intro bF bS))
      obtain ⟨pk, hpk⟩ : ∃ pk, PP k = pk := ⟨_, rfl⟩
      obtain ⟨fk, hfk⟩ : ∃ fk, FF k = fk := ⟨_, rfl⟩
      obtain ⟨sk, hsk⟩ : ∃ sk, SS k = sk := ⟨_, rfl⟩
      obtain ⟨gk, hgk⟩ : ∃ gk, G k = gk := ⟨_, rfl⟩
      obtain ⟨av, hav⟩ : ∃ av, A k = av := ⟨_, rfl⟩
      obtain ⟨yv, hyv⟩ : ∃ yv, Y k = yv := ⟨_, rfl⟩
      obtain ⟨bv, hbv⟩ : ∃ bv, Bb k = bv := ⟨_, rfl⟩
      obtain ⟨zv, hzv⟩ : ∃ zv, Z k = zv := ⟨_, rfl⟩
      obtain ⟨dv, hdv⟩ : ∃ dv, Dd k = dv := ⟨_, rfl⟩
      obtain ⟨np, hnp⟩ : ∃ np, NP k = np := ⟨_, rfl⟩
      obtain ⟨nf, hnf⟩ : ∃ nf, NF k = nf := ⟨_, rfl⟩
      obtain ⟨ns, hns⟩ : ∃ ns, NS k = ns := ⟨_, rfl⟩
      rw [hpk, hav] at wA
      rw [hyv, hbv] at wB
      rw [hav, hyv] at cA
      rw [hbv, hzv] at cB
      rw [hpk, hfk, hsk, hzv, hdv] at cL
      rw [hdv, hfk, hsk, hgk, hnp, hnf, hns] at cM
      rw [hpk] at VP
      rw [hfk] at VF
      rw [hsk] at VS
      rw [hgk] at cg
      have EN := hide (And.intro hnp (And.intro hnf hns))
      have cA := hide cA
      have cB := hide cB
      have cL := hide cL
      have cM := hide cM
      clear hpk hfk hsk hgk hav hyv hbv hzv hdv hnp hnf hns bP bF bS
      go_wp2_with fail
      refine Qf.facts2 23 (by kernel_rfl) (by kernel_rfl) (by kernel_rfl) (fun i v wx => match i with | 0 => v = .pointer (some ⟨P, 0, none⟩) | 1 => v = .pointer (some ⟨P, 0, none⟩) | 2 => v = .pointer (some ⟨P, 0, none⟩) | 3 => v = .slice (some ⟨gP, 0, none⟩) n cP | 4 => v = .int .i64 ((k : Nat) : Int) | 5 => v = .pointer (some ⟨gP, k, none⟩) | 6 => v = .int .i64 pk | 7 => v = .pointer (some ⟨P, 0, none⟩) | 8 => v = .pointer (some ⟨P, 0, none⟩) | 9 => v = .pointer (some ⟨P, 1, none⟩) | 10 => v = .slice (some ⟨gF, 0, none⟩) n cF | 11 => v = .int .i64 ((k : Nat) : Int) | 12 => v = .pointer (some ⟨gF, k, none⟩) | 13 => v = .int .i64 fk | 14 => v = .pointer (some ⟨P, 0, none⟩) | 15 => v = .pointer (some ⟨P, 0, none⟩) | 16 => v = .pointer (some ⟨P, 2, none⟩) | 17 => v = .slice (some ⟨gS, 0, none⟩) n cS | 18 => v = .int .i64 ((k : Nat) : Int) | 19 => v = .pointer (some ⟨gS, k, none⟩) | 20 => v = .int .i64 sk | 21 => v = .agg #[.int .i64 pk, .int .i64 fk, .int .i64 sk] | 22 => ∃ g, v = .pointer (some ⟨g, 0, none⟩) ∧ C3 wx g (fun _ => .int .i64 0) ∧ wr.heap.size ≤ g | _ => True) ?stable ?steps ?rest
      case stable =>
        intro i v w1 w2 h hb
        match i, h with
        | 0, h => exact h
        | 1, h => exact h
        | 2, h => exact h
        | 3, h => exact h
        | 4, h => exact h
        | 5, h => exact h
        | 6, h => exact h
        | 7, h => exact h
        | 8, h => exact h
        | 9, h => exact h
        | 10, h => exact h
        | 11, h => exact h
        | 12, h => exact h
        | 13, h => exact h
        | 14, h => exact h
        | 15, h => exact h
        | 16, h => exact h
        | 17, h => exact h
        | 18, h => exact h
        | 19, h => exact h
        | 20, h => exact h
        | 21, h => exact h
        | 22, h => exact (by obtain ⟨g, h1, h2, h3⟩ := h; exact ⟨g, h1, h2.below hb, h3⟩)
        | _ + 23, h => exact h
      case steps =>
        intro i o hi ho s A wS hb hk hA hO
        match i, hi, ho, hk with
        | 0, _, ho, hk =>
          cases ho
          exact Qf.lands_move _ rfl _ ((hO 0 (by rfl)).trans rfl) ⟨Below.refl _ _, rfl⟩
        | 1, _, ho, hk =>
          cases ho
          have h0 := hA 0 _ 33 (by decide) rfl rfl (by simp)
          have e0 := hk 0 (by kernel_rfl)
          rw [e0] at h0
          exact Qf.lands_val _ _ (runNilC rfl h0) ⟨Below.refl _ _, rfl⟩
        | 2, _, ho, hk =>
          cases ho
          have h1 := hA 1 _ 34 (by decide) rfl rfl (by simp)
          have e1 := hk 1 (by kernel_rfl)
          rw [e1] at h1
          exact Qf.lands_val _ _ (runFO0 rfl h1) ⟨Below.refl _ _, rfl⟩
        | 3, _, ho, hk =>
          cases ho
          have h2 := hA 2 _ 35 (by decide) rfl rfl (by simp)
          have e2 := hk 2 (by kernel_rfl)
          rw [e2] at h2
          exact Qf.lands_val _ _ (runLL rfl h2 ((hb.cell (p := ⟨P, 0, none⟩) PZ.out).trans PA0.out)) ⟨Below.refl _ _, rfl⟩
        | 4, _, ho, hk =>
          cases ho
          exact Qf.lands_move _ rfl _ ((hO 8 (by rfl)).trans rfl) ⟨Below.refl _ _, rfl⟩
        | 5, _, ho, hk =>
          cases ho
          have h3 := hA 3 _ 36 (by decide) rfl rfl (by simp)
          have e3 := hk 3 (by kernel_rfl)
          rw [e3] at h3
          have h4 := hA 4 _ 37 (by decide) rfl rfl (by simp)
          have e4 := hk 4 (by kernel_rfl)
          rw [e4] at h4
          exact Qf.lands_val _ _ (runIx rfl h3 h4 hkn) ⟨Below.refl _ _, rfl⟩
        | 6, _, ho, hk =>
          cases ho
          have h5 := hA 5 _ 38 (by decide) rfl rfl (by simp)
          have e5 := hk 5 (by kernel_rfl)
          rw [e5] at h5
          exact Qf.lands_val _ _ (runLI rfl h5 ((hb.cell (p := ⟨gP, k, none⟩) LL.out.1).trans VP.out)) ⟨Below.refl _ _, rfl⟩
        | 7, _, ho, hk =>
          cases ho
          exact Qf.lands_move _ rfl _ ((hO 0 (by rfl)).trans rfl) ⟨Below.refl _ _, rfl⟩
        | 8, _, ho, hk =>
          cases ho
          have h7 := hA 7 _ 40 (by decide) rfl rfl (by simp)
          have e7 := hk 7 (by kernel_rfl)
          rw [e7] at h7
          exact Qf.lands_val _ _ (runNilC rfl h7) ⟨Below.refl _ _, rfl⟩
        | 9, _, ho, hk =>
          cases ho
          have h8 := hA 8 _ 41 (by decide) rfl rfl (by simp)
          have e8 := hk 8 (by kernel_rfl)
          rw [e8] at h8
          exact Qf.lands_val _ _ (runFO1 rfl h8) ⟨Below.refl _ _, rfl⟩
        | 10, _, ho, hk =>
          cases ho
          have h9 := hA 9 _ 42 (by decide) rfl rfl (by simp)
          have e9 := hk 9 (by kernel_rfl)
          rw [e9] at h9
          exact Qf.lands_val _ _ (runLL rfl h9 ((hb.cell (p := ⟨P, 1, none⟩) PZ.out).trans PA1.out)) ⟨Below.refl _ _, rfl⟩
        | 11, _, ho, hk =>
          cases ho
          exact Qf.lands_move _ rfl _ ((hO 8 (by rfl)).trans rfl) ⟨Below.refl _ _, rfl⟩
        | 12, _, ho, hk =>
          cases ho
          have h10 := hA 10 _ 43 (by decide) rfl rfl (by simp)
          have e10 := hk 10 (by kernel_rfl)
          rw [e10] at h10
          have h11 := hA 11 _ 44 (by decide) rfl rfl (by simp)
          have e11 := hk 11 (by kernel_rfl)
          rw [e11] at h11
          exact Qf.lands_val _ _ (runIx rfl h10 h11 hkn) ⟨Below.refl _ _, rfl⟩
        | 13, _, ho, hk =>
          cases ho
          have h12 := hA 12 _ 45 (by decide) rfl rfl (by simp)
          have e12 := hk 12 (by kernel_rfl)
          rw [e12] at h12
          exact Qf.lands_val _ _ (runLI rfl h12 ((hb.cell (p := ⟨gF, k, none⟩) LL.out.2.1).trans VF.out)) ⟨Below.refl _ _, rfl⟩
        | 14, _, ho, hk =>
          cases ho
          exact Qf.lands_move _ rfl _ ((hO 0 (by rfl)).trans rfl) ⟨Below.refl _ _, rfl⟩
        | 15, _, ho, hk =>
          cases ho
          have h14 := hA 14 _ 47 (by decide) rfl rfl (by simp)
          have e14 := hk 14 (by kernel_rfl)
          rw [e14] at h14
          exact Qf.lands_val _ _ (runNilC rfl h14) ⟨Below.refl _ _, rfl⟩
        | 16, _, ho, hk =>
          cases ho
          have h15 := hA 15 _ 48 (by decide) rfl rfl (by simp)
          have e15 := hk 15 (by kernel_rfl)
          rw [e15] at h15
          exact Qf.lands_val _ _ (runFO2 rfl h15) ⟨Below.refl _ _, rfl⟩
        | 17, _, ho, hk =>
          cases ho
          have h16 := hA 16 _ 49 (by decide) rfl rfl (by simp)
          have e16 := hk 16 (by kernel_rfl)
          rw [e16] at h16
          exact Qf.lands_val _ _ (runLL rfl h16 ((hb.cell (p := ⟨P, 2, none⟩) PZ.out).trans PA2.out)) ⟨Below.refl _ _, rfl⟩
        | 18, _, ho, hk =>
          cases ho
          exact Qf.lands_move _ rfl _ ((hO 8 (by rfl)).trans rfl) ⟨Below.refl _ _, rfl⟩
        | 19, _, ho, hk =>
          cases ho
          have h17 := hA 17 _ 50 (by decide) rfl rfl (by simp)
          have e17 := hk 17 (by kernel_rfl)
          rw [e17] at h17
          have h18 := hA 18 _ 51 (by decide) rfl rfl (by simp)
          have e18 := hk 18 (by kernel_rfl)
          rw [e18] at h18
          exact Qf.lands_val _ _ (runIx rfl h17 h18 hkn) ⟨Below.refl _ _, rfl⟩
        | 20, _, ho, hk =>
          cases ho
          have h19 := hA 19 _ 52 (by decide) rfl rfl (by simp)
          have e19 := hk 19 (by kernel_rfl)
          rw [e19] at h19
          exact Qf.lands_val _ _ (runLI rfl h19 ((hb.cell (p := ⟨gS, k, none⟩) LL.out.2.2).trans VS.out)) ⟨Below.refl _ _, rfl⟩
        | 21, _, ho, hk =>
          cases ho
          have h6 := hA 6 _ 39 (by decide) rfl rfl (by simp)
          have e6 := hk 6 (by kernel_rfl)
          rw [e6] at h6
          have h13 := hA 13 _ 46 (by decide) rfl rfl (by simp)
          have e13 := hk 13 (by kernel_rfl)
          rw [e13] at h13
          have h20 := hA 20 _ 53 (by decide) rfl rfl (by simp)
          have e20 := hk 20 (by kernel_rfl)
          rw [e20] at h20
          exact Qf.lands_val _ _ (runBP rfl h6 h13 h20) ⟨Below.refl _ _, rfl⟩
        | 22, _, ho, hk =>
          cases ho
          exact Qf.lands_val _ _ (runAP rfl) ⟨(Below.refl _ _).alloc (Nat.le_refl _) _, _, rfl, ⟨fun i hi => by rcases (by omega : i = 0 ∨ i = 1 ∨ i = 2) with rfl | rfl | rfl <;> simp [go_sem], fun i => by simp [go_sem], by simp⟩, hb.size⟩
        | _ + 23, hi, _, _ => exact absurd hi (by omega)
      case rest =>
      intro s' X1 bz hk23
      have e0 : s' 0 = .pointer (some ⟨P, 0, none⟩) := hk23 0 (by decide)
      have e1 : s' 1 = .pointer (some ⟨P, 0, none⟩) := hk23 1 (by decide)
      have e2 : s' 2 = .pointer (some ⟨P, 0, none⟩) := hk23 2 (by decide)
      have e3 : s' 3 = .slice (some ⟨gP, 0, none⟩) n cP := hk23 3 (by decide)
      have e4 : s' 4 = .int .i64 ((k : Nat) : Int) := hk23 4 (by decide)
      have e5 : s' 5 = .pointer (some ⟨gP, k, none⟩) := hk23 5 (by decide)
      have e6 : s' 6 = .int .i64 pk := hk23 6 (by decide)
      have e7 : s' 7 = .pointer (some ⟨P, 0, none⟩) := hk23 7 (by decide)
      have e8 : s' 8 = .pointer (some ⟨P, 0, none⟩) := hk23 8 (by decide)
      have e9 : s' 9 = .pointer (some ⟨P, 1, none⟩) := hk23 9 (by decide)
      have e10 : s' 10 = .slice (some ⟨gF, 0, none⟩) n cF := hk23 10 (by decide)
      have e11 : s' 11 = .int .i64 ((k : Nat) : Int) := hk23 11 (by decide)
      have e12 : s' 12 = .pointer (some ⟨gF, k, none⟩) := hk23 12 (by decide)
      have e13 : s' 13 = .int .i64 fk := hk23 13 (by decide)
      have e14 : s' 14 = .pointer (some ⟨P, 0, none⟩) := hk23 14 (by decide)
      have e15 : s' 15 = .pointer (some ⟨P, 0, none⟩) := hk23 15 (by decide)
      have e16 : s' 16 = .pointer (some ⟨P, 2, none⟩) := hk23 16 (by decide)
      have e17 : s' 17 = .slice (some ⟨gS, 0, none⟩) n cS := hk23 17 (by decide)
      have e18 : s' 18 = .int .i64 ((k : Nat) : Int) := hk23 18 (by decide)
      have e19 : s' 19 = .pointer (some ⟨gS, k, none⟩) := hk23 19 (by decide)
      have e20 : s' 20 = .int .i64 sk := hk23 20 (by decide)
      have e21 : s' 21 = .agg #[.int .i64 pk, .int .i64 fk, .int .i64 sk] := hk23 21 (by decide)
      obtain ⟨g, e22, hC3, hgW⟩ := hk23 22 (by decide)
      simp only [List.take_succ_cons, List.take_zero, List.drop_succ_cons, List.drop_zero, Qf.lay, Qf.all1, if_true, e0, e1, e2, e3, e4, e5, e6, e7, e8, e9, e10, e11, e12, e13, e14, e15, e16, e17, e18, e19, e20, e21, e22]
      simp only [Act.put, List.setIfInBounds_toArray, List.set_cons_succ, List.set_cons_zero]
      have KG := hide hC3
      have GW := hide hgW
      have BY := hide bz
      clear hk23 hC3 hgW bz cg e0 e1 e2 e3 e4 e5 e6 e7 e8 e9 e10 e11 e12 e13 e14 e15 e16 e17 e18 e19 e20 e21 e22
      obtain ⟨Ya0, hYa0⟩ : ∃ Ya0, X1.setCell ⟨g, 0, none⟩ (.int .i64 pk) = Ya0 := ⟨_, rfl⟩
      have HYa0 := hide (show C3 Ya0 g _ from hYa0 ▸ KG.out.set 0 (.int .i64 pk) (by omega))
      obtain ⟨uYa0, eYa0⟩ : ∃ u, X1.cell? ⟨g, 0, none⟩ = some u := ⟨_, KG.out.c 0 (by omega)⟩
      have fYa0 : X1.frozen? ⟨g, 0, none⟩ = false := KG.out.f 0
      have BYa0 := hide (show Below wr.heap.size wr Ya0 from hYa0 ▸ BY.out.setCell (p := ⟨g, 0, none⟩) GW.out _)
      obtain ⟨Ya1, hYa1⟩ : ∃ Ya1, Ya0.setCell ⟨g, 1, none⟩ (.int .i64 fk) = Ya1 := ⟨_, rfl⟩
      have HYa1 := hide (show C3 Ya1 g _ from hYa1 ▸ HYa0.out.set 1 (.int .i64 fk) (by omega))
      obtain ⟨uYa1, eYa1⟩ : ∃ u, Ya0.cell? ⟨g, 1, none⟩ = some u := ⟨_, HYa0.out.c 1 (by omega)⟩
      have fYa1 : Ya0.frozen? ⟨g, 1, none⟩ = false := HYa0.out.f 1
      have BYa1 := hide (show Below wr.heap.size wr Ya1 from hYa1 ▸ BYa0.out.setCell (p := ⟨g, 1, none⟩) GW.out _)
      obtain ⟨Ya2, hYa2⟩ : ∃ Ya2, Ya1.setCell ⟨g, 2, none⟩ (.int .i64 sk) = Ya2 := ⟨_, rfl⟩
      have HYa2 := hide (show C3 Ya2 g _ from hYa2 ▸ HYa1.out.set 2 (.int .i64 sk) (by omega))
      obtain ⟨uYa2, eYa2⟩ : ∃ u, Ya1.cell? ⟨g, 2, none⟩ = some u := ⟨_, HYa1.out.c 2 (by omega)⟩
      have fYa2 : Ya1.frozen? ⟨g, 2, none⟩ = false := HYa1.out.f 2
      have BYa2 := hide (show Below wr.heap.size wr Ya2 from hYa2 ▸ BYa1.out.setCell (p := ⟨g, 2, none⟩) GW.out _)
      have c0 := cell_regrown (show Ya2.cell? ⟨g, 0, none⟩ = some (.int .i64 pk) from HYa2.out.c 0 (by omega))
      have c1 := cell_regrown (show Ya2.cell? ⟨g, 1, none⟩ = some (.int .i64 fk) from HYa2.out.c 1 (by omega))
      have c2 := cell_regrown (show Ya2.cell? ⟨g, 2, none⟩ = some (.int .i64 sk) from HYa2.out.c 2 (by omega))
      have c8 := cell_regrown (show Ya2.cell? ⟨w.heap.size, 8, none⟩ = some (.int .i64 r8) from (BYa2.out.cell (p := ⟨w.heap.size, 8, none⟩) ZX.out).trans RD.out)
      have cAr := hide (fun d os => Calls.regrown_of (d := d) (os := os) (w := Ya2) (cA.out _))
      have cBr := hide (fun d os => Calls.regrown_of (d := d) (os := os) (w := Ya2) (cB.out _))
      have cLr := hide (fun d os => Calls.regrown_of (d := d) (os := os) (w := Ya2) (cL.out _))
      go_wp2_with fail
      clear eYa0 fYa0 hYa0 eYa1 fYa1 hYa1 eYa2 fYa2 hYa2
      replace KG := HYa2
      replace BY := BYa2
      clear HYa0 HYa1 BYa0 BYa1
      refine Qt.region_tail_below 11 (by kernel_rfl) (by kernel_rfl) ?_
      simp only [List.take_succ_cons, List.take_zero, List.drop_succ_cons, List.drop_zero]
      repeat (go_big_quiet_step (first | (go_at_call_of 67 (Value.int IntKind.i64 av); exact cAr.out _ _) | (go_at_call_of 67 (Value.int IntKind.i64 bv); exact cBr.out _ _) | (go_at_call 66; exact cLr.out _ _)))
      refine wpQuiet_nil ?_
      intro _ hw'
      obtain ⟨⟨dq, osq⟩, hw''⟩ := hw'
      subst hw''
      obtain ⟨X2, hZ⟩ : ∃ Z, Sort.grow (redrawn Ya2 dq) osq = Z := ⟨_, rfl⟩
      have bz : Below Ya2.heap.size Ya2 X2 := hZ ▸ below_regrown _ _ _
      rw [hZ]
      clear hZ c0 c1 c2 c8 cAr cBr cLr cA cB cL wA wB
      replace KG := hide (KG.out.below bz)
      replace BY := hide (BY.out.trans (bz.mono BY.out.size))
      clear bz
      obtain ⟨Yb0, hYb0⟩ : ∃ Yb0, X2.setCell ⟨g, 0, none⟩ (.int .i64 dv) = Yb0 := ⟨_, rfl⟩
      have HYb0 := hide (show C3 Yb0 g _ from hYb0 ▸ KG.out.set 0 (.int .i64 dv) (by omega))
      obtain ⟨uYb0, eYb0⟩ : ∃ u, X2.cell? ⟨g, 0, none⟩ = some u := ⟨_, KG.out.c 0 (by omega)⟩
      have fYb0 : X2.frozen? ⟨g, 0, none⟩ = false := KG.out.f 0
      have BYb0 := hide (show Below wr.heap.size wr Yb0 from hYb0 ▸ BY.out.setCell (p := ⟨g, 0, none⟩) GW.out _)
      obtain ⟨Yb1, hYb1⟩ : ∃ Yb1, Yb0.setCell ⟨g, 1, none⟩ (.int .i64 fk) = Yb1 := ⟨_, rfl⟩
      have HYb1 := hide (show C3 Yb1 g _ from hYb1 ▸ HYb0.out.set 1 (.int .i64 fk) (by omega))
      obtain ⟨uYb1, eYb1⟩ : ∃ u, Yb0.cell? ⟨g, 1, none⟩ = some u := ⟨_, HYb0.out.c 1 (by omega)⟩
      have fYb1 : Yb0.frozen? ⟨g, 1, none⟩ = false := HYb0.out.f 1
      have BYb1 := hide (show Below wr.heap.size wr Yb1 from hYb1 ▸ BYb0.out.setCell (p := ⟨g, 1, none⟩) GW.out _)
      obtain ⟨Yb2, hYb2⟩ : ∃ Yb2, Yb1.setCell ⟨g, 2, none⟩ (.int .i64 sk) = Yb2 := ⟨_, rfl⟩
      have HYb2 := hide (show C3 Yb2 g _ from hYb2 ▸ HYb1.out.set 2 (.int .i64 sk) (by omega))
      obtain ⟨uYb2, eYb2⟩ : ∃ u, Yb1.cell? ⟨g, 2, none⟩ = some u := ⟨_, HYb1.out.c 2 (by omega)⟩
      have fYb2 : Yb1.frozen? ⟨g, 2, none⟩ = false := HYb1.out.f 2
      have BYb2 := hide (show Below wr.heap.size wr Yb2 from hYb2 ▸ BYb1.out.setCell (p := ⟨g, 2, none⟩) GW.out _)
      have c0 : Yb2.cell? ⟨g, 0, none⟩ = some (.int .i64 dv) := HYb2.out.c 0 (by omega)
      have c1 : Yb2.cell? ⟨g, 1, none⟩ = some (.int .i64 fk) := HYb2.out.c 1 (by omega)
      have c2 : Yb2.cell? ⟨g, 2, none⟩ = some (.int .i64 sk) := HYb2.out.c 2 (by omega)
      go_wp2_with fail
      clear eYb0 fYb0 hYb0 eYb1 fYb1 hYb1 eYb2 fYb2 hYb2
      replace KG := HYb2
      replace BY := BYb2
      clear HYb0 HYb1 BYb0 BYb1
      refine (cM.out _).mono ?_; rintro e X3 ⟨rfl, bz⟩
      replace KG := hide (KG.out.below bz)
      replace BY := hide (BY.out.trans (bz.mono BY.out.size))
      clear bz c0 c1 c2 cM
      obtain ⟨Yc0, hYc0⟩ : ∃ Yc0, X3.setCell ⟨g, 0, none⟩ (.int .i64 np) = Yc0 := ⟨_, rfl⟩
      have HYc0 := hide (show C3 Yc0 g _ from hYc0 ▸ KG.out.set 0 (.int .i64 np) (by omega))
      obtain ⟨uYc0, eYc0⟩ : ∃ u, X3.cell? ⟨g, 0, none⟩ = some u := ⟨_, KG.out.c 0 (by omega)⟩
      have fYc0 : X3.frozen? ⟨g, 0, none⟩ = false := KG.out.f 0
      have BYc0 := hide (show Below wr.heap.size wr Yc0 from hYc0 ▸ BY.out.setCell (p := ⟨g, 0, none⟩) GW.out _)
      obtain ⟨Yc1, hYc1⟩ : ∃ Yc1, Yc0.setCell ⟨g, 1, none⟩ (.int .i64 nf) = Yc1 := ⟨_, rfl⟩
      have HYc1 := hide (show C3 Yc1 g _ from hYc1 ▸ HYc0.out.set 1 (.int .i64 nf) (by omega))
      obtain ⟨uYc1, eYc1⟩ : ∃ u, Yc0.cell? ⟨g, 1, none⟩ = some u := ⟨_, HYc0.out.c 1 (by omega)⟩
      have fYc1 : Yc0.frozen? ⟨g, 1, none⟩ = false := HYc0.out.f 1
      have BYc1 := hide (show Below wr.heap.size wr Yc1 from hYc1 ▸ BYc0.out.setCell (p := ⟨g, 1, none⟩) GW.out _)
      obtain ⟨Yc2, hYc2⟩ : ∃ Yc2, Yc1.setCell ⟨g, 2, none⟩ (.int .i64 ns) = Yc2 := ⟨_, rfl⟩
      have HYc2 := hide (show C3 Yc2 g _ from hYc2 ▸ HYc1.out.set 2 (.int .i64 ns) (by omega))
      obtain ⟨uYc2, eYc2⟩ : ∃ u, Yc1.cell? ⟨g, 2, none⟩ = some u := ⟨_, HYc1.out.c 2 (by omega)⟩
      have fYc2 : Yc1.frozen? ⟨g, 2, none⟩ = false := HYc1.out.f 2
      have BYc2 := hide (show Below wr.heap.size wr Yc2 from hYc2 ▸ BYc1.out.setCell (p := ⟨g, 2, none⟩) GW.out _)
      have c0 : Yc2.cell? ⟨g, 0, none⟩ = some (.int .i64 np) := HYc2.out.c 0 (by omega)
      have c1 : Yc2.cell? ⟨g, 1, none⟩ = some (.int .i64 nf) := HYc2.out.c 1 (by omega)
      have c2 : Yc2.cell? ⟨g, 2, none⟩ = some (.int .i64 ns) := HYc2.out.c 2 (by omega)
      have c3 : Yc2.cell? ⟨P, 0, none⟩ = some _ := (BYc2.out.cell (p := ⟨P, 0, none⟩) PZ.out).trans PA0.out
      have c4 : Yc2.cell? ⟨P, 1, none⟩ = some _ := (BYc2.out.cell (p := ⟨P, 1, none⟩) PZ.out).trans PA1.out
      have c5 : Yc2.cell? ⟨P, 2, none⟩ = some _ := (BYc2.out.cell (p := ⟨P, 2, none⟩) PZ.out).trans PA2.out
      go_wp2_with fail
      clear eYc0 fYc0 hYc0 eYc1 fYc1 hYc1 eYc2 fYc2 hYc2
      replace KG := HYc2
      replace BY := BYc2
      clear HYc0 HYc1 BYc0 BYc1
      have RP := hide (QP.out.kept (Kept.of_below (S := fun _ => False) BY.out) id)
      have RF := hide (QF.out.kept (Kept.of_below (S := fun _ => False) BY.out) id)
      have RS := hide (QS.out.kept (Kept.of_below (S := fun _ => False) BY.out) id)
      have KX := hide (HK.out.trans (Kept.of_below (S := T3 gP gF gS) BY.out))
      obtain ⟨X4, hX4⟩ : ∃ X4, Yc2 = X4 := ⟨_, rfl⟩
      subst hX4
      obtain ⟨-, ⟨d4, d5, d6⟩, -⟩ := DD.out
      have x1 : ¬ P = gP := d4
      have x2 : ¬ P = gF := d5
      have x3 : ¬ P = gS := d6
      have x4 : ¬ g = gP := by have := LL.out.1; have := GW.out; omega
      have x5 : ¬ g = gF := by have := LL.out.2.1; have := GW.out; omega
      have x6 : ¬ g = gS := by have := LL.out.2.2; have := GW.out; omega
      have x1' : ¬ gP = P := fun e => x1 e.symm
      have x2' : ¬ gF = P := fun e => x2 e.symm
      have x3' : ¬ gS = P := fun e => x3 e.symm
      have x4' : ¬ gP = g := fun e => x4 e.symm
      have x5' : ¬ gF = g := fun e => x5 e.symm
      have x6' : ¬ gS = g := fun e => x6 e.symm
      clear d4 d5 d6
      obtain ⟨d1, d2, d3⟩ := DN.out
      obtain ⟨S1, hS1⟩ : ∃ S1, Yc2.setCell ⟨gP, k, none⟩ (.int .i64 np) = S1 := ⟨_, rfl⟩
      have e1 := (RP.out k hkn).1
      have f1 := (RP.out k hkn).2.1
      have ks1 : Kept (· = gP) Yc2 S1 := hS1 ▸ Kept.setCell Yc2 ⟨gP, k, none⟩ _
      have RP1 := hide (hS1 ▸ RP.out.set k np (by have := BN.out.1; rw [EN.out.1] at this; exact this) : Rw S1 gP n _)
      have RF1 := hide (RF.out.kept ks1 (fun e => d1 e.symm))
      have RS1 := hide (RS.out.kept ks1 (fun e => d2 e.symm))
      obtain ⟨S2, hS2⟩ : ∃ S2, S1.setCell ⟨gF, k, none⟩ (.int .i64 nf) = S2 := ⟨_, rfl⟩
      have e2 := (RF1.out k hkn).1
      have f2 := (RF1.out k hkn).2.1
      have ks2 : Kept (· = gF) S1 S2 := hS2 ▸ Kept.setCell S1 ⟨gF, k, none⟩ _
      have RP2 := hide (RP1.out.kept ks2 (fun e => d1 e))
      have RF2 := hide (hS2 ▸ RF1.out.set k nf (by have := BN.out.2.1; rw [EN.out.2.1] at this; exact this) : Rw S2 gF n _)
      have RS2 := hide (RS1.out.kept ks2 (fun e => d3 e.symm))
      obtain ⟨S3, hS3⟩ : ∃ S3, S2.setCell ⟨gS, k, none⟩ (.int .i64 ns) = S3 := ⟨_, rfl⟩
      have e3 := (RS2.out k hkn).1
      have f3 := (RS2.out k hkn).2.1
      have ks3 : Kept (· = gS) S2 S3 := hS3 ▸ Kept.setCell S2 ⟨gS, k, none⟩ _
      have RP3 := hide (RP2.out.kept ks3 (fun e => d2 e))
      have RF3 := hide (RF2.out.kept ks3 (fun e => d3 e))
      have RS3 := hide (hS3 ▸ RS2.out.set k ns (by have := BN.out.2.2; rw [EN.out.2.2] at this; exact this) : Rw S3 gS n _)
      have KF := hide (KX.out.trans (((ks1.mono (fun _ _ q => .inl q)).trans (ks2.mono (fun _ _ q => .inr (.inl q)))).trans (ks3.mono (fun _ _ q => .inr (.inr q)))))
      have y1 : ¬ gP = gF := d1
      have y2 : ¬ gP = gS := d2
      have y3 : ¬ gF = gS := d3
      have y1' : ¬ gF = gP := fun e => d1 e.symm
      have y2' : ¬ gS = gP := fun e => d2 e.symm
      have y3' : ¬ gS = gF := fun e => d3 e.symm
      have g2 := (RF.out k hkn).1
      have h2 := (RF.out k hkn).2.1
      have g3 := (RS.out k hkn).1
      have h3 := (RS.out k hkn).2.1
      have zg := KG.out.z
      have zP := Nat.lt_of_lt_of_le PZ.out BY.out.size
      have zF : gF < Yc2.heap.size := World.block_lt_of_cell? _ _ g2
      have zS : gS < Yc2.heap.size := World.block_lt_of_cell? _ _ g3
      have mg0 : S1.cell? ⟨g, 0, none⟩ = some _ := (World.cell?_of_block (w := Yc2) (a := ⟨g, 0, none⟩) (ks1.block g zg (fun e => x4 e))).trans c0
      have mg1 : S1.cell? ⟨g, 1, none⟩ = some _ := (World.cell?_of_block (w := Yc2) (a := ⟨g, 1, none⟩) (ks1.block g zg (fun e => x4 e))).trans c1
      have mg2 : S1.cell? ⟨g, 2, none⟩ = some _ := (World.cell?_of_block (w := Yc2) (a := ⟨g, 2, none⟩) (ks1.block g zg (fun e => x4 e))).trans c2
      have mP0 : S1.cell? ⟨P, 0, none⟩ = some _ := (World.cell?_of_block (w := Yc2) (a := ⟨P, 0, none⟩) (ks1.block P zP (fun e => x1 e))).trans c3
      have mP1 : S1.cell? ⟨P, 1, none⟩ = some _ := (World.cell?_of_block (w := Yc2) (a := ⟨P, 1, none⟩) (ks1.block P zP (fun e => x1 e))).trans c4
      have mP2 : S1.cell? ⟨P, 2, none⟩ = some _ := (World.cell?_of_block (w := Yc2) (a := ⟨P, 2, none⟩) (ks1.block P zP (fun e => x1 e))).trans c5
      have og0 : S2.cell? ⟨g, 0, none⟩ = some _ := (World.cell?_of_block (w := S1) (a := ⟨g, 0, none⟩) (ks2.block g (Nat.lt_of_lt_of_le zg ks1.size) (fun e => x5 e))).trans mg0
      have og1 : S2.cell? ⟨g, 1, none⟩ = some _ := (World.cell?_of_block (w := S1) (a := ⟨g, 1, none⟩) (ks2.block g (Nat.lt_of_lt_of_le zg ks1.size) (fun e => x5 e))).trans mg1
      have og2 : S2.cell? ⟨g, 2, none⟩ = some _ := (World.cell?_of_block (w := S1) (a := ⟨g, 2, none⟩) (ks2.block g (Nat.lt_of_lt_of_le zg ks1.size) (fun e => x5 e))).trans mg2
      have oP0 : S2.cell? ⟨P, 0, none⟩ = some _ := (World.cell?_of_block (w := S1) (a := ⟨P, 0, none⟩) (ks2.block P (Nat.lt_of_lt_of_le zP ks1.size) (fun e => x2 e))).trans mP0
      have oP1 : S2.cell? ⟨P, 1, none⟩ = some _ := (World.cell?_of_block (w := S1) (a := ⟨P, 1, none⟩) (ks2.block P (Nat.lt_of_lt_of_le zP ks1.size) (fun e => x2 e))).trans mP1
      have oP2 : S2.cell? ⟨P, 2, none⟩ = some _ := (World.cell?_of_block (w := S1) (a := ⟨P, 2, none⟩) (ks2.block P (Nat.lt_of_lt_of_le zP ks1.size) (fun e => x2 e))).trans mP2
      clear zg zP zF zS
      clear d1 d2 d3 ks1 ks2 ks3
      go_region
      go_wp2_with fail
      go_roundw
      case rel =>
        obtain ⟨n1', n2', n3'⟩ := EN.out
        exact ⟨k + 1, by omega, by go_num, ⟨RP3.out.same (fun t ht => by by_cases c : t = k <;> by_cases c2 : t < k <;> simp [c, c2, ← n1'] <;> omega), RF3.out.same (fun t ht => by by_cases c : t = k <;> by_cases c2 : t < k <;> simp [c, c2, ← n2'] <;> omega), RS3.out.same (fun t ht => by by_cases c : t = k <;> by_cases c2 : t < k <;> simp [c, c2, ← n3'] <;> omega)⟩, KF.out.trans (Kept.of_below (Below.refl _ _).drew)⟩
      case measure => simp [intOf]; omega
    · have lk : decide ((k : Int) < (n : Int)) = false := decide_eq_false (by omega)
      have lk' : decide (k < n) = false := decide_eq_false (by omega)
      obtain rfl : k = n := by omega
      go_wp2_with fail
      exact bodyPost_end (results_none rfl _ _ _) rfl ⟨⟨_, rfl⟩, ⟨QP.out.same (fun t ht => by simp [ht]), QF.out.same (fun t ht => by simp [ht]), QS.out.same (fun t ht => by simp [ht])⟩, KK.out.trans HK.out⟩
end Vo
end Go.Proofs.Ytflbhlepmjiejaa
