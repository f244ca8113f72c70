/- Heavy and even rules with one parameter: the program (written by tools/genoi.py). -/
import Derived.Test.YtflbhlepmjiejaaEp
namespace Go.Proofs.Ytflbhlepmjiejaa
namespace Vo
open Go.ChangeShapes Go.WideShapes Go.ChangeAt Go.RowKit Go.Joins Go.Sort
open Vl
set_option linter.unusedVariables false
set_option linter.unusedSimpArgs false
set_option maxHeartbeats 2000000 in
theorem heavyF (k v f s g u A B F C E : Int) (w : World) (hA : IntKind.i64.wrap (k * f) = A) (a0 : -4611686018427387904 ≤ A) (a1 : A ≤ 4611686018427387904) (hB : IntKind.i64.wrap (nrv A 65536 + g) = B) (hF : cl (-4294967296) 4294967296 B = F) (hC : IntKind.i64.wrap (u * F) = C) (c0 : -4611686018427387904 ≤ C) (c1 : C ≤ 4611686018427387904) (hE : IntKind.i64.wrap (v - nrv C 65536) = E) :
    Calls Try.prog 92 #[.agg #[.int .i64 k], .agg #[.int .i64 v, .int .i64 f, .int .i64 s], .int .i64 g, .int .i64 u] w fun e w' => e = .returned (.agg #[.int .i64 (brg E), .int .i64 F, .int .i64 s]) ∧ Below w.heap.size w w' := by
  obtain ⟨W1, hW1⟩ : ∃ W1, w.alloc (.cells #[.int .i64 k] 95) = W1 := ⟨_, rfl⟩
  have n1 : Below w.heap.size w W1 := hW1 ▸ (Below.refl _ _).alloc (Nat.le_refl _) _
  have m0 : W1.cell? ⟨w.heap.size, 0, none⟩ = some (.int .i64 k) := by rw [← hW1]; simp [go_sem]
  obtain ⟨W2, hW2⟩ : ∃ W2, W1.alloc (.cells #[.int .i64 v, .int .i64 f, .int .i64 s] 89) = W2 := ⟨_, rfl⟩
  have n2 : Below W1.heap.size W1 W2 := hW2 ▸ (Below.refl _ _).alloc (Nat.le_refl _) _
  have K2 := (hW2 ▸ C3.new W1 (.int .i64 v) (.int .i64 f) (.int .i64 s) 89 : C3 W2 W1.heap.size _)
  obtain ⟨W3, hW3⟩ : ∃ W3, W2.alloc (.cells #[.int .i64 0, .int .i64 0, .int .i64 0] 89) = W3 := ⟨_, rfl⟩
  have n3 : Below W2.heap.size W2 W3 := hW3 ▸ (Below.refl _ _).alloc (Nat.le_refl _) _
  have K3 := hide (hW3 ▸ C3.new W2 (.int .i64 0) (.int .i64 0) (.int .i64 0) 89 : C3 W3 W2.heap.size _)
  have KP := hide (K2.below n3)
  have z1 : w.heap.size < W1.heap.size := by rw [← hW1]; simp
  have z2 : W1.heap.size < W2.heap.size := by rw [← hW2]; simp
  have z3 : W2.heap.size < W3.heap.size := by rw [← hW3]; simp
  have WZ := hide (show w.heap.size < W1.heap.size ∧ W1.heap.size < W2.heap.size ∧ W2.heap.size < W3.heap.size from ⟨z1, z2, z3⟩)
  have M0 := hide (show W3.cell? ⟨w.heap.size, 0, none⟩ = some (.int .i64 k) from by rw [n3.cell (p := ⟨w.heap.size, 0, none⟩) (by show w.heap.size < _; omega), n2.cell (p := ⟨w.heap.size, 0, none⟩) z1]; exact m0)
  have BL := hide ((n1.trans (n2.mono n1.size)).trans (n3.mono (Nat.le_trans n1.size n2.size)))
  clear K2 n1 n2 n3 z1 z2 z3 m0
  have ZL := hide WZ.out.2.2
  have CA := hide (fun w => asRealF A 4611686018427387904 w a0 a1 (by decide))
  obtain ⟨x, hx⟩ : ∃ x, nrv A 65536 = x := ⟨_, rfl⟩
  rw [hx] at CA hB
  have CC := hide (fun w => clampF (-4294967296) 4294967296 B w (by decide))
  rw [hF] at CC
  have CR := hide (fun w => asRealF C 4611686018427387904 w c0 c1 (by decide))
  obtain ⟨y, hy⟩ : ∃ y, nrv C 65536 = y := ⟨_, rfl⟩
  rw [hy] at CR hE
  have CL := hide (fun w => lessByF v F s y E w hE)
  obtain ⟨z, hz⟩ : ∃ z, brg E = z := ⟨_, rfl⟩
  rw [hz] at CL ⊢
  clear hx hF hy hE hz a0 a1 c0 c1
  have a0 := M0.out
  have b1 : W3.cell? ⟨W1.heap.size, 1, none⟩ = some (.int .i64 f) := KP.out.c 1 (by omega)
  go_enter Try.func92, Try.ntmps92
  go_wp2_with fail
  refine (CA.out _).mono ?_; rintro e1 w1 ⟨rfl, q1⟩
  clear a0 b1 hW1 hW2 hW3
  have ZL' := hide ZL.out
  replace KP := hide (KP.out.below q1)
  replace K3 := hide (K3.out.below q1)
  replace ZL := hide (Nat.lt_of_lt_of_le ZL.out q1.size)
  replace M0 := hide ((q1.cell (p := ⟨w.heap.size, 0, none⟩) (Nat.lt_trans (Nat.lt_trans WZ.out.1 WZ.out.2.1) ZL'.out)).trans M0.out)
  replace BL := hide (BL.out.trans (q1.mono BL.out.size))
  clear q1
  go_wp2_with fail
  refine (CC.out _).mono ?_; rintro e1 w2 ⟨rfl, hq⟩; have hq := hq.symm; subst hq
  obtain ⟨X1, hX1⟩ : ∃ X1, w1.setCell ⟨W1.heap.size, 1, none⟩ (.int .i64 F) = X1 := ⟨_, rfl⟩
  obtain ⟨uX1, eX1⟩ : ∃ u, w1.cell? ⟨W1.heap.size, 1, none⟩ = some u := ⟨_, KP.out.c 1 (by omega)⟩
  have fX1 : w1.frozen? ⟨W1.heap.size, 1, none⟩ = false := KP.out.f 1
  have bs : Below W1.heap.size w1 X1 := by rw [← hX1]; exact (Below.refl _ _).setCell (p := ⟨W1.heap.size, 1, none⟩) (Nat.le_refl _) _
  have KP' := hide (hX1 ▸ KP.out.set 1 (.int .i64 F) (by omega) : C3 X1 W1.heap.size _)
  have K3' := hide (show C3 X1 W2.heap.size _ from ⟨fun i hi => by rw [← hX1, cell_oth (by have := WZ.out; omega)]; exact K3.out.c i hi, fun i => by rw [← hX1, World.frozen?_setCell]; exact K3.out.f i, by rw [← hX1]; simpa [World.setCell] using K3.out.z⟩)
  have ZS := hide (show W2.heap.size < X1.heap.size by rw [← hX1]; simpa [World.setCell] using ZL.out)
  have M0' := hide (show X1.cell? ⟨w.heap.size, 0, none⟩ = some _ from by rw [← hX1, cell_oth (by have := WZ.out; omega)]; exact M0.out)
  have BL' := hide (BL.out.trans (bs.mono (Nat.le_of_lt WZ.out.1)))
  clear bs
  have a0 := cell_regrown (show X1.cell? ⟨W1.heap.size, 0, none⟩ = some (.int .i64 v) from KP'.out.c 0 (by omega))
  have a1 := cell_regrown (show X1.cell? ⟨W1.heap.size, 1, none⟩ = some (.int .i64 F) from KP'.out.c 1 (by omega))
  have a2 := cell_regrown (show X1.cell? ⟨W1.heap.size, 2, none⟩ = some (.int .i64 s) from KP'.out.c 2 (by omega))
  have CRr := hide (fun d os => Calls.regrown_of (d := d) (os := os) (w := X1) (CR.out _))
  have CLr := hide (fun d os => Calls.regrown_of (d := d) (os := os) (w := X1) (CL.out _))
  go_wp2_with fail
  refine Qt.region_tail_below 7 (by kernel_rfl) (by kernel_rfl) ?_
  simp only [List.take_succ_cons, List.take_zero, List.drop_succ_cons, List.drop_zero]
  repeat (go_big_quiet_step (first | (go_at_call 67; exact CRr.out _ _) | (go_at_call 66; exact CLr.out _ _)))
  refine wpQuiet_nil ?_
  intro _ hw'
  obtain ⟨⟨dq, osq⟩, hw''⟩ := hw'
  subst hw''
  obtain ⟨Z, hZ⟩ : ∃ Z, Sort.grow (redrawn X1 dq) osq = Z := ⟨_, rfl⟩
  have bz : Below X1.heap.size X1 Z := hZ ▸ below_regrown _ _ _
  rw [hZ]
  clear hZ
  clear eX1 fX1 hX1
  replace KP := KP'
  replace K3 := K3'
  replace ZL := ZS
  replace BL := BL'
  replace M0 := M0'
  clear KP' K3' ZS BL' M0'
  clear a0 a1 a2 CRr CLr
  have ZL' := hide ZL.out
  replace KP := hide (KP.out.below bz)
  replace K3 := hide (K3.out.below bz)
  replace ZL := hide (Nat.lt_of_lt_of_le ZL.out bz.size)
  replace M0 := hide ((bz.cell (p := ⟨w.heap.size, 0, none⟩) (Nat.lt_trans (Nat.lt_trans WZ.out.1 WZ.out.2.1) ZL'.out)).trans M0.out)
  replace BL := hide (BL.out.trans (bz.mono BL.out.size))
  clear bz
  obtain ⟨Y0, hY0⟩ : ∃ Y0, Z.setCell ⟨W2.heap.size, 0, none⟩ (.int .i64 z) = Y0 := ⟨_, rfl⟩
  have HY0 := hide (show C3 Y0 _ _ from hY0 ▸ K3.out.set 0 (.int .i64 z) (by omega))
  obtain ⟨uY0, eY0⟩ : ∃ u, Z.cell? ⟨W2.heap.size, 0, none⟩ = some u := ⟨_, K3.out.c 0 (by omega)⟩
  have gY0 : Z.frozen? ⟨W2.heap.size, 0, none⟩ = false := K3.out.f 0
  have BY0 := hide (show Below w.heap.size w Y0 from hY0 ▸ BL.out.setCell (by have := WZ.out; show w.heap.size ≤ W2.heap.size; omega) _)
  obtain ⟨Y1, hY1⟩ : ∃ Y1, Y0.setCell ⟨W2.heap.size, 1, none⟩ (.int .i64 F) = Y1 := ⟨_, rfl⟩
  have HY1 := hide (show C3 Y1 _ _ from hY1 ▸ HY0.out.set 1 (.int .i64 F) (by omega))
  obtain ⟨uY1, eY1⟩ : ∃ u, Y0.cell? ⟨W2.heap.size, 1, none⟩ = some u := ⟨_, HY0.out.c 1 (by omega)⟩
  have gY1 : Y0.frozen? ⟨W2.heap.size, 1, none⟩ = false := HY0.out.f 1
  have BY1 := hide (show Below w.heap.size w Y1 from hY1 ▸ BY0.out.setCell (by have := WZ.out; show w.heap.size ≤ W2.heap.size; omega) _)
  obtain ⟨Y2, hY2⟩ : ∃ Y2, Y1.setCell ⟨W2.heap.size, 2, none⟩ (.int .i64 s) = Y2 := ⟨_, rfl⟩
  have HY2 := hide (show C3 Y2 _ _ from hY2 ▸ HY1.out.set 2 (.int .i64 s) (by omega))
  obtain ⟨uY2, eY2⟩ : ∃ u, Y1.cell? ⟨W2.heap.size, 2, none⟩ = some u := ⟨_, HY1.out.c 2 (by omega)⟩
  have gY2 : Y1.frozen? ⟨W2.heap.size, 2, none⟩ = false := HY1.out.f 2
  have BY2 := hide (show Below w.heap.size w Y2 from hY2 ▸ BY1.out.setCell (by have := WZ.out; show w.heap.size ≤ W2.heap.size; omega) _)
  have r0 : Y2.cell? ⟨W2.heap.size, 0, none⟩ = some (.int .i64 z) := HY2.out.c 0 (by omega)
  have r1 : Y2.cell? ⟨W2.heap.size, 1, none⟩ = some (.int .i64 F) := HY2.out.c 1 (by omega)
  have r2 : Y2.cell? ⟨W2.heap.size, 2, none⟩ = some (.int .i64 s) := HY2.out.c 2 (by omega)
  go_wp2_with fail
  exact bodyPost_ret (v := .agg #[.int .i64 z, .int .i64 F, .int .i64 s]) (by simp [results, Try.results92, go_sem, r0, r1, r2]) rfl ⟨rfl, BY2.out⟩
set_option maxHeartbeats 4000000 in
theorem evenF (k k2 low v f s g u A B C D F G h A2 B2 C2 D2 S E R6 rv L P : Int) (w : World) (hA : IntKind.i64.wrap (k * f) = A) (hB : IntKind.i64.wrap (65536 - k) = B) (hC : IntKind.i64.wrap (B * g) = C) (hD : IntKind.i64.wrap (A + C) = D) (d0 : -4611686018427387904 ≤ D) (d1 : D ≤ 4611686018427387904) (hF : nrv D 65536 = F)
    (hG : IntKind.i64.wrap (g * g) = G) (g0 : -4611686018427387904 ≤ G) (g1 : G ≤ 4611686018427387904) (hh : nrv G 65536 = h) (hA2 : IntKind.i64.wrap (k2 * s) = A2) (hB2 : IntKind.i64.wrap (65536 - k2) = B2) (hC2 : IntKind.i64.wrap (B2 * h) = C2) (hD2 : IntKind.i64.wrap (A2 + C2) = D2) (e0 : -4611686018427387904 ≤ D2) (e1 : D2 ≤ 4611686018427387904) (hS : nrv D2 65536 = S)
    (hE : IntKind.i64.wrap (u * F) = E) (x0 : -4611686018427387904 ≤ E) (x1 : E ≤ 4611686018427387904) (hR : IntKind.i64.wrap (65536 * S) = R6) (hRoot : ∀ w, Calls Try.prog 75 #[.int .i64 R6] w fun e w' => e = .returned (.int .i64 rv) ∧ Below w.heap.size w w') (hL : IntKind.i64.wrap (rv + low) = L) (l0 : 1 ≤ L) (l1 : L ≤ 4611686018427387904) (hP : IntKind.i64.wrap (v - nrv E L) = P) :
    Calls Try.prog 93 #[.agg #[.int .i64 k, .int .i64 k2, .int .i64 low], .agg #[.int .i64 v, .int .i64 f, .int .i64 s], .int .i64 g, .int .i64 u] w fun e w' => e = .returned (.agg #[.int .i64 (brg P), .int .i64 F, .int .i64 S]) ∧ Below w.heap.size w w' := by
  obtain ⟨W1, hW1⟩ : ∃ W1, w.alloc (.cells #[.int .i64 k, .int .i64 k2, .int .i64 low] 97) = W1 := ⟨_, rfl⟩
  have n1 : Below w.heap.size w W1 := hW1 ▸ (Below.refl _ _).alloc (Nat.le_refl _) _
  have m0 : W1.cell? ⟨w.heap.size, 0, none⟩ = some (.int .i64 k) := by rw [← hW1]; simp [go_sem]
  have m1 : W1.cell? ⟨w.heap.size, 1, none⟩ = some (.int .i64 k2) := by rw [← hW1]; simp [go_sem]
  have m2 : W1.cell? ⟨w.heap.size, 2, none⟩ = some (.int .i64 low) := by rw [← hW1]; simp [go_sem]
  obtain ⟨W2, hW2⟩ : ∃ W2, W1.alloc (.cells #[.int .i64 v, .int .i64 f, .int .i64 s] 89) = W2 := ⟨_, rfl⟩
  have n2 : Below W1.heap.size W1 W2 := hW2 ▸ (Below.refl _ _).alloc (Nat.le_refl _) _
  have K2 := (hW2 ▸ C3.new W1 (.int .i64 v) (.int .i64 f) (.int .i64 s) 89 : C3 W2 W1.heap.size _)
  obtain ⟨W3, hW3⟩ : ∃ W3, W2.alloc (.cells #[.int .i64 0, .int .i64 0, .int .i64 0] 89) = W3 := ⟨_, rfl⟩
  have n3 : Below W2.heap.size W2 W3 := hW3 ▸ (Below.refl _ _).alloc (Nat.le_refl _) _
  have K3 := hide (hW3 ▸ C3.new W2 (.int .i64 0) (.int .i64 0) (.int .i64 0) 89 : C3 W3 W2.heap.size _)
  have KP := hide (K2.below n3)
  have z1 : w.heap.size < W1.heap.size := by rw [← hW1]; simp
  have z2 : W1.heap.size < W2.heap.size := by rw [← hW2]; simp
  have z3 : W2.heap.size < W3.heap.size := by rw [← hW3]; simp
  have WZ := hide (show w.heap.size < W1.heap.size ∧ W1.heap.size < W2.heap.size ∧ W2.heap.size < W3.heap.size from ⟨z1, z2, z3⟩)
  have M0 := hide (show W3.cell? ⟨w.heap.size, 0, none⟩ = some (.int .i64 k) from by rw [n3.cell (p := ⟨w.heap.size, 0, none⟩) (by show w.heap.size < _; omega), n2.cell (p := ⟨w.heap.size, 0, none⟩) z1]; exact m0)
  have M1 := hide (show W3.cell? ⟨w.heap.size, 1, none⟩ = some (.int .i64 k2) from by rw [n3.cell (p := ⟨w.heap.size, 1, none⟩) (by show w.heap.size < _; omega), n2.cell (p := ⟨w.heap.size, 1, none⟩) z1]; exact m1)
  have M2 := hide (show W3.cell? ⟨w.heap.size, 2, none⟩ = some (.int .i64 low) from by rw [n3.cell (p := ⟨w.heap.size, 2, none⟩) (by show w.heap.size < _; omega), n2.cell (p := ⟨w.heap.size, 2, none⟩) z1]; exact m2)
  have BL := hide ((n1.trans (n2.mono n1.size)).trans (n3.mono (Nat.le_trans n1.size n2.size)))
  clear K2 n1 n2 n3 z1 z2 z3 m0 m1 m2
  have ZL := hide WZ.out.2.2
  have C1 := hide (fun w => mixedF k f g A B C D 4611686018427387904 w hA hB hC hD d0 d1 (by decide))
  rw [hF] at C1
  have CG := hide (fun w => asRealF G 4611686018427387904 w g0 g1 (by decide))
  rw [hh] at CG
  have CM := hide (fun w => mixedF k2 s h A2 B2 C2 D2 4611686018427387904 w hA2 hB2 hC2 hD2 e0 e1 (by decide))
  rw [hS] at CM
  have CN := hide (fun w => nearI E L 4611686018427387904 x0 x1 (by decide) l0 l1 w)
  obtain ⟨y, hy⟩ : ∃ y, nrv E L = y := ⟨_, rfl⟩
  rw [hy] at CN hP
  have CL := hide (fun w => lessByF v F S y P w hP)
  obtain ⟨z, hz⟩ : ∃ z, brg P = z := ⟨_, rfl⟩
  rw [hz] at CL ⊢
  have CT := hide hRoot
  clear hA hB hC hD hF hh hA2 hB2 hC2 hD2 hS hy hP hz hRoot d0 d1 g0 g1 e0 e1 x0 x1 l0 l1
  have a0 := M0.out
  have b1 : W3.cell? ⟨W1.heap.size, 1, none⟩ = some (.int .i64 f) := KP.out.c 1 (by omega)
  go_enter Try.func93, Try.ntmps93
  go_wp2_with fail
  refine (C1.out _).mono ?_; rintro e1 w1 ⟨rfl, q1⟩
  clear a0 b1 hW1 hW2 hW3 C1
  have ZL' := hide ZL.out
  replace KP := hide (KP.out.below q1)
  replace K3 := hide (K3.out.below q1)
  replace ZL := hide (Nat.lt_of_lt_of_le ZL.out q1.size)
  replace M0 := hide ((q1.cell (p := ⟨w.heap.size, 0, none⟩) (Nat.lt_trans (Nat.lt_trans WZ.out.1 WZ.out.2.1) ZL'.out)).trans M0.out)
  replace M1 := hide ((q1.cell (p := ⟨w.heap.size, 1, none⟩) (Nat.lt_trans (Nat.lt_trans WZ.out.1 WZ.out.2.1) ZL'.out)).trans M1.out)
  replace M2 := hide ((q1.cell (p := ⟨w.heap.size, 2, none⟩) (Nat.lt_trans (Nat.lt_trans WZ.out.1 WZ.out.2.1) ZL'.out)).trans M2.out)
  replace BL := hide (BL.out.trans (q1.mono BL.out.size))
  clear q1
  obtain ⟨X1, hX1⟩ : ∃ X1, w1.setCell ⟨W1.heap.size, 1, none⟩ (.int .i64 F) = X1 := ⟨_, rfl⟩
  obtain ⟨uX1, eX1⟩ : ∃ u, w1.cell? ⟨W1.heap.size, 1, none⟩ = some u := ⟨_, KP.out.c 1 (by omega)⟩
  have fX1 : w1.frozen? ⟨W1.heap.size, 1, none⟩ = false := KP.out.f 1
  have bs : Below W1.heap.size w1 X1 := by rw [← hX1]; exact (Below.refl _ _).setCell (p := ⟨W1.heap.size, 1, none⟩) (Nat.le_refl _) _
  have KP' := hide (hX1 ▸ KP.out.set 1 (.int .i64 F) (by omega) : C3 X1 W1.heap.size _)
  have K3' := hide (show C3 X1 W2.heap.size _ from ⟨fun i hi => by rw [← hX1, cell_oth (by have := WZ.out; omega)]; exact K3.out.c i hi, fun i => by rw [← hX1, World.frozen?_setCell]; exact K3.out.f i, by rw [← hX1]; simpa [World.setCell] using K3.out.z⟩)
  have ZS := hide (show W2.heap.size < X1.heap.size by rw [← hX1]; simpa [World.setCell] using ZL.out)
  have M0' := hide (show X1.cell? ⟨w.heap.size, 0, none⟩ = some _ from by rw [← hX1, cell_oth (by have := WZ.out; omega)]; exact M0.out)
  have M1' := hide (show X1.cell? ⟨w.heap.size, 1, none⟩ = some _ from by rw [← hX1, cell_oth (by have := WZ.out; omega)]; exact M1.out)
  have M2' := hide (show X1.cell? ⟨w.heap.size, 2, none⟩ = some _ from by rw [← hX1, cell_oth (by have := WZ.out; omega)]; exact M2.out)
  have BL' := hide (BL.out.trans (bs.mono (Nat.le_of_lt WZ.out.1)))
  clear bs
  have a1 := cell_regrown M1'.out
  have a2 := cell_regrown (show X1.cell? ⟨W1.heap.size, 2, none⟩ = some (.int .i64 s) from KP'.out.c 2 (by omega))
  have CGr := hide (fun d os => Calls.regrown_of (d := d) (os := os) (w := X1) (CG.out _))
  have CMr := hide (fun d os => Calls.regrown_of (d := d) (os := os) (w := X1) (CM.out _))
  go_wp2_with fail
  refine Qt.region_tail_below 10 (by kernel_rfl) (by kernel_rfl) ?_
  simp only [List.take_succ_cons, List.take_zero, List.drop_succ_cons, List.drop_zero]
  repeat (go_big_quiet_step (first | (go_at_call 67; exact CGr.out _ _) | (go_at_call 94; exact CMr.out _ _)))
  refine wpQuiet_nil ?_
  intro _ hw'
  obtain ⟨⟨dq, osq⟩, hw''⟩ := hw'
  subst hw''
  obtain ⟨Z, hZ⟩ : ∃ Z, Sort.grow (redrawn X1 dq) osq = Z := ⟨_, rfl⟩
  have bz : Below X1.heap.size X1 Z := hZ ▸ below_regrown _ _ _
  rw [hZ]
  clear hZ
  clear eX1 fX1 hX1
  replace KP := KP'
  replace K3 := K3'
  replace ZL := ZS
  replace BL := BL'
  replace M0 := M0'
  replace M1 := M1'
  replace M2 := M2'
  clear KP' K3' ZS BL' M0' M1' M2'
  clear a1 a2 CGr CMr CG CM hG
  have ZL' := hide ZL.out
  replace KP := hide (KP.out.below bz)
  replace K3 := hide (K3.out.below bz)
  replace ZL := hide (Nat.lt_of_lt_of_le ZL.out bz.size)
  replace M0 := hide ((bz.cell (p := ⟨w.heap.size, 0, none⟩) (Nat.lt_trans (Nat.lt_trans WZ.out.1 WZ.out.2.1) ZL'.out)).trans M0.out)
  replace M1 := hide ((bz.cell (p := ⟨w.heap.size, 1, none⟩) (Nat.lt_trans (Nat.lt_trans WZ.out.1 WZ.out.2.1) ZL'.out)).trans M1.out)
  replace M2 := hide ((bz.cell (p := ⟨w.heap.size, 2, none⟩) (Nat.lt_trans (Nat.lt_trans WZ.out.1 WZ.out.2.1) ZL'.out)).trans M2.out)
  replace BL := hide (BL.out.trans (bz.mono BL.out.size))
  clear bz
  obtain ⟨X2, hX2⟩ : ∃ X2, Z.setCell ⟨W1.heap.size, 2, none⟩ (.int .i64 S) = X2 := ⟨_, rfl⟩
  obtain ⟨uX2, eX2⟩ : ∃ u, Z.cell? ⟨W1.heap.size, 2, none⟩ = some u := ⟨_, KP.out.c 2 (by omega)⟩
  have fX2 : Z.frozen? ⟨W1.heap.size, 2, none⟩ = false := KP.out.f 2
  have bs : Below W1.heap.size Z X2 := by rw [← hX2]; exact (Below.refl _ _).setCell (p := ⟨W1.heap.size, 2, none⟩) (Nat.le_refl _) _
  have KP' := hide (hX2 ▸ KP.out.set 2 (.int .i64 S) (by omega) : C3 X2 W1.heap.size _)
  have K3' := hide (show C3 X2 W2.heap.size _ from ⟨fun i hi => by rw [← hX2, cell_oth (by have := WZ.out; omega)]; exact K3.out.c i hi, fun i => by rw [← hX2, World.frozen?_setCell]; exact K3.out.f i, by rw [← hX2]; simpa [World.setCell] using K3.out.z⟩)
  have ZS := hide (show W2.heap.size < X2.heap.size by rw [← hX2]; simpa [World.setCell] using ZL.out)
  have M0' := hide (show X2.cell? ⟨w.heap.size, 0, none⟩ = some _ from by rw [← hX2, cell_oth (by have := WZ.out; omega)]; exact M0.out)
  have M1' := hide (show X2.cell? ⟨w.heap.size, 1, none⟩ = some _ from by rw [← hX2, cell_oth (by have := WZ.out; omega)]; exact M1.out)
  have M2' := hide (show X2.cell? ⟨w.heap.size, 2, none⟩ = some _ from by rw [← hX2, cell_oth (by have := WZ.out; omega)]; exact M2.out)
  have BL' := hide (BL.out.trans (bs.mono (Nat.le_of_lt WZ.out.1)))
  clear bs
  have a3 := cell_regrown (show X2.cell? ⟨W1.heap.size, 0, none⟩ = some (.int .i64 v) from KP'.out.c 0 (by omega))
  have a4 := cell_regrown (show X2.cell? ⟨W1.heap.size, 1, none⟩ = some (.int .i64 F) from KP'.out.c 1 (by omega))
  have a5 := cell_regrown (show X2.cell? ⟨W1.heap.size, 2, none⟩ = some (.int .i64 S) from KP'.out.c 2 (by omega))
  have a6 := cell_regrown M2'.out
  have CTr := hide (fun d os => Calls.regrown_of (d := d) (os := os) (w := X2) (CT.out _))
  have CNr := hide (fun d os => Calls.regrown_of (d := d) (os := os) (w := X2) (CN.out _))
  have CLr := hide (fun d os => Calls.regrown_of (d := d) (os := os) (w := X2) (CL.out _))
  go_wp2_with fail
  refine Qt.region_tail_below 14 (by kernel_rfl) (by kernel_rfl) ?_
  simp only [List.take_succ_cons, List.take_zero, List.drop_succ_cons, List.drop_zero]
  repeat (go_big_quiet_step (first | (go_at_call 75; exact CTr.out _ _) | (go_at_call 68; exact CNr.out _ _) | (go_at_call 66; exact CLr.out _ _)))
  refine wpQuiet_nil ?_
  intro _ hw'
  obtain ⟨⟨dq, osq⟩, hw''⟩ := hw'
  subst hw''
  obtain ⟨Z2, hZ⟩ : ∃ Z, Sort.grow (redrawn X2 dq) osq = Z := ⟨_, rfl⟩
  have bz : Below X2.heap.size X2 Z2 := hZ ▸ below_regrown _ _ _
  rw [hZ]
  clear hZ
  clear eX2 fX2 hX2
  replace KP := KP'
  replace K3 := K3'
  replace ZL := ZS
  replace BL := BL'
  replace M0 := M0'
  replace M1 := M1'
  replace M2 := M2'
  clear KP' K3' ZS BL' M0' M1' M2'
  clear a3 a4 a5 a6 CTr CNr CLr
  have ZL' := hide ZL.out
  replace KP := hide (KP.out.below bz)
  replace K3 := hide (K3.out.below bz)
  replace ZL := hide (Nat.lt_of_lt_of_le ZL.out bz.size)
  replace M0 := hide ((bz.cell (p := ⟨w.heap.size, 0, none⟩) (Nat.lt_trans (Nat.lt_trans WZ.out.1 WZ.out.2.1) ZL'.out)).trans M0.out)
  replace M1 := hide ((bz.cell (p := ⟨w.heap.size, 1, none⟩) (Nat.lt_trans (Nat.lt_trans WZ.out.1 WZ.out.2.1) ZL'.out)).trans M1.out)
  replace M2 := hide ((bz.cell (p := ⟨w.heap.size, 2, none⟩) (Nat.lt_trans (Nat.lt_trans WZ.out.1 WZ.out.2.1) ZL'.out)).trans M2.out)
  replace BL := hide (BL.out.trans (bz.mono BL.out.size))
  clear bz
  obtain ⟨Y0, hY0⟩ : ∃ Y0, Z2.setCell ⟨W2.heap.size, 0, none⟩ (.int .i64 z) = Y0 := ⟨_, rfl⟩
  have HY0 := hide (show C3 Y0 _ _ from hY0 ▸ K3.out.set 0 (.int .i64 z) (by omega))
  obtain ⟨uY0, eY0⟩ : ∃ u, Z2.cell? ⟨W2.heap.size, 0, none⟩ = some u := ⟨_, K3.out.c 0 (by omega)⟩
  have gY0 : Z2.frozen? ⟨W2.heap.size, 0, none⟩ = false := K3.out.f 0
  have BY0 := hide (show Below w.heap.size w Y0 from hY0 ▸ BL.out.setCell (by have := WZ.out; show w.heap.size ≤ W2.heap.size; omega) _)
  obtain ⟨Y1, hY1⟩ : ∃ Y1, Y0.setCell ⟨W2.heap.size, 1, none⟩ (.int .i64 F) = Y1 := ⟨_, rfl⟩
  have HY1 := hide (show C3 Y1 _ _ from hY1 ▸ HY0.out.set 1 (.int .i64 F) (by omega))
  obtain ⟨uY1, eY1⟩ : ∃ u, Y0.cell? ⟨W2.heap.size, 1, none⟩ = some u := ⟨_, HY0.out.c 1 (by omega)⟩
  have gY1 : Y0.frozen? ⟨W2.heap.size, 1, none⟩ = false := HY0.out.f 1
  have BY1 := hide (show Below w.heap.size w Y1 from hY1 ▸ BY0.out.setCell (by have := WZ.out; show w.heap.size ≤ W2.heap.size; omega) _)
  obtain ⟨Y2, hY2⟩ : ∃ Y2, Y1.setCell ⟨W2.heap.size, 2, none⟩ (.int .i64 S) = Y2 := ⟨_, rfl⟩
  have HY2 := hide (show C3 Y2 _ _ from hY2 ▸ HY1.out.set 2 (.int .i64 S) (by omega))
  obtain ⟨uY2, eY2⟩ : ∃ u, Y1.cell? ⟨W2.heap.size, 2, none⟩ = some u := ⟨_, HY1.out.c 2 (by omega)⟩
  have gY2 : Y1.frozen? ⟨W2.heap.size, 2, none⟩ = false := HY1.out.f 2
  have BY2 := hide (show Below w.heap.size w Y2 from hY2 ▸ BY1.out.setCell (by have := WZ.out; show w.heap.size ≤ W2.heap.size; omega) _)
  have r0 : Y2.cell? ⟨W2.heap.size, 0, none⟩ = some (.int .i64 z) := HY2.out.c 0 (by omega)
  have r1 : Y2.cell? ⟨W2.heap.size, 1, none⟩ = some (.int .i64 F) := HY2.out.c 1 (by omega)
  have r2 : Y2.cell? ⟨W2.heap.size, 2, none⟩ = some (.int .i64 S) := HY2.out.c 2 (by omega)
  go_wp2_with fail
  exact bodyPost_ret (v := .agg #[.int .i64 z, .int .i64 F, .int .i64 S]) (by simp [results, Try.results93, go_sem, r0, r1, r2]) rfl ⟨rfl, BY2.out⟩
end Vo
end Go.Proofs.Ytflbhlepmjiejaa
