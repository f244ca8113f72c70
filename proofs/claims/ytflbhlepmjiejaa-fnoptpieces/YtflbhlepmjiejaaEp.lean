/- What a rule does with one parameter: the program (written by tools/gen15e.py). -/
import Derived.Test.YtflbhlepmjiejaaEh
import Derived.Test.YtflbhlepmjiejaaEf
import Derived.Test.YtflbhlepmjiejaaQt
namespace Go.Proofs.Ytflbhlepmjiejaa
namespace Vo
open Go.ChangeShapes Go.WideShapes Go.ChangeAt Go.RowKit Go.Joins Go.Sort
open Vl
set_option linter.unusedVariables false
set_option linter.unusedSimpArgs false
/-- three cells of a variable that can be written -/
structure C3 (w : World) (p : Nat) (V : Nat → Value) : Prop where
  c : ∀ i, i < 3 → w.cell? ⟨p, i, none⟩ = some (V i)
  f : ∀ i, w.frozen? ⟨p, i, none⟩ = false
  z : p < w.heap.size
theorem C3.set {p : Nat} {w : World} {V : Nat → Value} (h : C3 w p V) (k : Nat) (x : Value) (hk : k < 3) : C3 (w.setCell ⟨p, k, none⟩ x) p (upv V k x) where
  c i hi := by
    unfold upv
    by_cases c : i = k
    · subst c; rw [if_pos rfl]; exact World.cell?_setCell_same _ _ _ (h.c i hi)
    · rw [if_neg c, cell_oth (by omega)]; exact h.c i hi
  f i := by rw [World.frozen?_setCell]; exact h.f i
  z := by simpa [World.setCell] using h.z
theorem C3.below {p : Nat} {w w' : World} {V : Nat → Value} (h : C3 w p V) (b : Below w.heap.size w w') : C3 w' p V where
  c i hi := by rw [b.cell (p := ⟨p, i, none⟩) h.z]; exact h.c i hi
  f i := (b.frozen (p := ⟨p, i, none⟩) h.z).trans (h.f i)
  z := Nat.lt_of_lt_of_le h.z b.size
theorem C3.new (w : World) (a b c : Value) (t : TypeId) : C3 (w.alloc (.cells #[a, b, c] t)) w.heap.size (fun i => #[a, b, c].getD i undef) where
  c i hi := by simp [go_sem, Array.getD, hi]
  f i := by simp [go_sem]
  z := by simp
theorem asRealF (x K : Int) (w : World) (x0 : -K ≤ x) (x1 : x ≤ K) (K1 : K ≤ 4611686018427387904) :
    Calls Try.prog 67 #[.int .i64 x] w fun e w' => e = .returned (.int .i64 (nrv x 65536)) ∧ Below w.heap.size w w' := by
  have C := hide (fun w => nearI x 65536 K x0 x1 K1 (by decide) (by decide) w)
  obtain ⟨y, hy⟩ : ∃ y, nrv x 65536 = y := ⟨_, rfl⟩
  rw [hy] at C ⊢
  clear x0 x1 K1 hy
  go_enter Try.func67, Try.ntmps67
  go_wp2_with fail
  refine (C.out _).mono ?_; rintro e1 w1 ⟨rfl, b1⟩
  go_wp2_with fail
  go_ret
  exact ⟨rfl, b1⟩
theorem mixedF (k x y A B C D K : Int) (w : World) (hA : IntKind.i64.wrap (k * x) = A) (hB : IntKind.i64.wrap (65536 - k) = B) (hC : IntKind.i64.wrap (B * y) = C) (hD : IntKind.i64.wrap (A + C) = D) (x0 : -K ≤ D) (x1 : D ≤ K) (K1 : K ≤ 4611686018427387904) :
    Calls Try.prog 94 #[.int .i64 k, .int .i64 x, .int .i64 y] w fun e w' => e = .returned (.int .i64 (nrv D 65536)) ∧ Below w.heap.size w w' := by
  have CA := hide (fun w => asRealF D K w x0 x1 K1)
  obtain ⟨z, hz⟩ : ∃ z, nrv D 65536 = z := ⟨_, rfl⟩
  rw [hz] at CA ⊢
  clear x0 x1 K1 hz
  go_enter Try.func94, Try.ntmps94
  go_wp2_with fail
  refine (CA.out _).mono ?_; rintro e1 w1 ⟨rfl, b1⟩
  go_wp2_with fail
  go_ret
  exact ⟨rfl, b1⟩
/-- brought into the bounds of a parameter -/
def brg (x : Int) : Int := cl (-68719476736) 68719476736 x
theorem lessByF (v f s y A : Int) (w : World) (hA : IntKind.i64.wrap (v - y) = A) :
    Calls Try.prog 66 #[.agg #[.int .i64 v, .int .i64 f, .int .i64 s], .int .i64 y] w fun e w' => e = .returned (.agg #[.int .i64 (brg A), .int .i64 f, .int .i64 s]) ∧ Below w.heap.size w w' := by
  have C := hide (fun w => clampF (-68719476736) 68719476736 A w (by decide))
  obtain ⟨z, hz⟩ : ∃ z, brg A = z := ⟨_, rfl⟩
  rw [show cl (-68719476736) 68719476736 A = z from hz] at C
  rw [hz]
  clear hz
  go_enter Try.func66, Try.ntmps66
  go_wp2_with fail
  refine (C.out _).mono ?_; rintro e1 w1 ⟨rfl, hq⟩; have hq := hq.symm; subst hq
  go_wp2
  refine bodyPost_ret (v := .agg #[.int .i64 z, .int .i64 f, .int .i64 s]) (by simp [results, Try.results66, go_sem]) rfl ⟨rfl, ?_⟩
  exact ((Below.refl _ _).alloc (Nat.le_refl _) _).alloc (by simp) _
set_option maxHeartbeats 1000000 in
theorem plainF (v f s g u A B : Int) (w : World) (hA : IntKind.i64.wrap (u * g) = A) (a0 : -4611686018427387904 ≤ A) (a1 : A ≤ 4611686018427387904) (hB : IntKind.i64.wrap (v - nrv A 65536) = B) :
    Calls Try.prog 91 #[.agg #[], .agg #[.int .i64 v, .int .i64 f, .int .i64 s], .int .i64 g, .int .i64 u] w fun e w' => e = .returned (.agg #[.int .i64 (brg B), .int .i64 f, .int .i64 s]) ∧ Below w.heap.size w w' := by
  obtain ⟨W1, hW1⟩ : ∃ W1, w.alloc (.cells #[] 93) = W1 := ⟨_, rfl⟩
  have n1 : Below w.heap.size w W1 := hW1 ▸ (Below.refl _ _).alloc (Nat.le_refl _) _
  obtain ⟨W2, hW2⟩ : ∃ W2, W1.alloc (.cells #[.int .i64 v, .int .i64 f, .int .i64 s] 89) = W2 := ⟨_, rfl⟩
  have n2 : Below W1.heap.size W1 W2 := hW2 ▸ (Below.refl _ _).alloc (Nat.le_refl _) _
  have K2 := (hW2 ▸ C3.new W1 (.int .i64 v) (.int .i64 f) (.int .i64 s) 89 : C3 W2 W1.heap.size _)
  obtain ⟨W3, hW3⟩ : ∃ W3, W2.alloc (.cells #[.int .i64 0, .int .i64 0, .int .i64 0] 89) = W3 := ⟨_, rfl⟩
  have n3 : Below W2.heap.size W2 W3 := hW3 ▸ (Below.refl _ _).alloc (Nat.le_refl _) _
  have K3 := hide (hW3 ▸ C3.new W2 (.int .i64 0) (.int .i64 0) (.int .i64 0) 89 : C3 W3 W2.heap.size _)
  replace K2 := K2.below n3
  have BL := hide ((n1.trans (n2.mono n1.size)).trans (n3.mono (Nat.le_trans n1.size n2.size)))
  have wz : w.heap.size ≤ W2.heap.size := Nat.le_trans n1.size n2.size
  have k0 := cell_regrown (show W3.cell? ⟨W1.heap.size, 0, none⟩ = some (.int .i64 v) from K2.c 0 (by omega))
  have k1 := cell_regrown (show W3.cell? ⟨W1.heap.size, 1, none⟩ = some (.int .i64 f) from K2.c 1 (by omega))
  have k2 := cell_regrown (show W3.cell? ⟨W1.heap.size, 2, none⟩ = some (.int .i64 s) from K2.c 2 (by omega))
  have CA := hide (fun d os => Calls.regrown_of (d := d) (os := os) (w := W3) (asRealF A 4611686018427387904 _ a0 a1 (by decide)))
  have CL := hide (fun d os => Calls.regrown_of (d := d) (os := os) (w := W3) (lessByF v f s (nrv A 65536) B _ hB))
  obtain ⟨z, hz⟩ : ∃ z, brg B = z := ⟨_, rfl⟩
  rw [hz] at CL ⊢
  obtain ⟨y, hy⟩ : ∃ y, nrv A 65536 = y := ⟨_, rfl⟩
  rw [hy] at CA CL
  clear K2 n1 n2 n3 hz hy hB a0 a1
  go_enter Try.func91, Try.ntmps91
  go_wp2_with fail
  refine Qt.region_tail_below 6 (by kernel_rfl) (by kernel_rfl) ?_
  simp only [List.take_succ_cons, List.take_zero, List.drop_succ_cons, List.drop_zero]
  repeat (go_big_quiet_step (first | (go_at_call 67; exact CA.out _ _) | (go_at_call 66; exact CL.out _ _)))
  refine wpQuiet_nil ?_
  intro _ hw'
  obtain ⟨⟨dq, osq⟩, hw''⟩ := hw'
  subst hw''
  obtain ⟨Z, hZ⟩ : ∃ Z, Sort.grow (redrawn W3 dq) osq = Z := ⟨_, rfl⟩
  have bz : Below W3.heap.size W3 Z := hZ ▸ below_regrown _ _ _
  rw [hZ]
  clear hZ
  have KZ := hide (K3.out.below bz)
  have BZ := hide (BL.out.trans (bz.mono BL.out.size))
  clear bz k0 k1 k2 CA CL
  obtain ⟨Y0, hY0⟩ : ∃ Y0, Z.setCell ⟨W2.heap.size, 0, none⟩ (.int .i64 z) = Y0 := ⟨_, rfl⟩
  have HY0 := hide (show C3 Y0 _ _ from hY0 ▸ KZ.out.set 0 (.int .i64 z) (by omega))
  obtain ⟨uY0, eY0⟩ : ∃ u, Z.cell? ⟨W2.heap.size, 0, none⟩ = some u := ⟨_, KZ.out.c 0 (by omega)⟩
  have gY0 : Z.frozen? ⟨W2.heap.size, 0, none⟩ = false := KZ.out.f 0
  have BY0 := hide (show Below w.heap.size w Y0 from hY0 ▸ BZ.out.setCell (by show w.heap.size ≤ W2.heap.size; omega) _)
  obtain ⟨Y1, hY1⟩ : ∃ Y1, Y0.setCell ⟨W2.heap.size, 1, none⟩ (.int .i64 f) = Y1 := ⟨_, rfl⟩
  have HY1 := hide (show C3 Y1 _ _ from hY1 ▸ HY0.out.set 1 (.int .i64 f) (by omega))
  obtain ⟨uY1, eY1⟩ : ∃ u, Y0.cell? ⟨W2.heap.size, 1, none⟩ = some u := ⟨_, HY0.out.c 1 (by omega)⟩
  have gY1 : Y0.frozen? ⟨W2.heap.size, 1, none⟩ = false := HY0.out.f 1
  have BY1 := hide (show Below w.heap.size w Y1 from hY1 ▸ BY0.out.setCell (by show w.heap.size ≤ W2.heap.size; omega) _)
  obtain ⟨Y2, hY2⟩ : ∃ Y2, Y1.setCell ⟨W2.heap.size, 2, none⟩ (.int .i64 s) = Y2 := ⟨_, rfl⟩
  have HY2 := hide (show C3 Y2 _ _ from hY2 ▸ HY1.out.set 2 (.int .i64 s) (by omega))
  obtain ⟨uY2, eY2⟩ : ∃ u, Y1.cell? ⟨W2.heap.size, 2, none⟩ = some u := ⟨_, HY1.out.c 2 (by omega)⟩
  have gY2 : Y1.frozen? ⟨W2.heap.size, 2, none⟩ = false := HY1.out.f 2
  have BY2 := hide (show Below w.heap.size w Y2 from hY2 ▸ BY1.out.setCell (by show w.heap.size ≤ W2.heap.size; omega) _)
  have r0 : Y2.cell? ⟨W2.heap.size, 0, none⟩ = some (.int .i64 z) := HY2.out.c 0 (by omega)
  have r1 : Y2.cell? ⟨W2.heap.size, 1, none⟩ = some (.int .i64 f) := HY2.out.c 1 (by omega)
  have r2 : Y2.cell? ⟨W2.heap.size, 2, none⟩ = some (.int .i64 s) := HY2.out.c 2 (by omega)
  go_wp2_with fail
  exact bodyPost_ret (v := .agg #[.int .i64 z, .int .i64 f, .int .i64 s]) (by simp [results, Try.results91, go_sem, r0, r1, r2]) rfl ⟨rfl, BY2.out⟩
end Vo
end Go.Proofs.Ytflbhlepmjiejaa
