/- Quantise on both sides (written by tools/gen14.py). -/
import Derived.Test.YtabjpemneimljaaIb
namespace Go.Proofs.Ytabjpemneimljaa
namespace Vo
open Go.ChangeShapes Go.WideShapes Go.ChangeAt Go.RowKit Go.Joins Go.Sort
open Vl
set_option linter.unusedVariables false
set_option linter.unusedSimpArgs false
/-- a scale in a variable -/
def Box2 (w : World) (p : Nat) (s z : Int) : Prop := p < w.heap.size ∧ w.cell? ⟨p, 0, none⟩ = some (.int .i64 s) ∧ w.cell? ⟨p, 1, none⟩ = some (.int .i64 z)
theorem box2_new (w : World) (s z : Int) (ty : TypeId) : Box2 (w.alloc (.cells #[.int .i64 s, .int .i64 z] ty)) w.heap.size s z := ⟨by simp, by simp [go_sem], by simp [go_sem]⟩
theorem Box2.below {w w' : World} {p : Nat} {s z : Int} (h : Box2 w p s z) (b : Below w.heap.size w w') : Box2 w' p s z :=
  ⟨Nat.lt_of_lt_of_le h.1 b.size, by rw [b.cell (p := ⟨p, 0, none⟩) h.1]; exact h.2.1, by rw [b.cell (p := ⟨p, 1, none⟩) h.1]; exact h.2.2⟩
theorem gScaleS (s z : Int) (b : Bool) (hb : scOk s z = b) (w : World) :
    Calls Try.prog 12 #[.agg #[.int .i64 s, .int .i64 z]] w fun e w' => e = .returned (.bool b) ∧ Below w.heap.size w w' := by
  rw [← hb]; exact specScaleOk s z w
theorem gScaleI (s z : Int) (b : Bool) (hs : bd s) (hz : bd z) (hb : scOk s z = b) (w : World) :
    Calls Try.prog 16 #[.agg #[.int .i64 s, .int .i64 z]] w fun e w' => e = .returned (.bool b) ∧ Below w.heap.size w w' := by
  rw [← hb]; exact implScaleOk s z w hs hz
theorem gInS (x l m : Int) (b : Bool) (hb : decide (l ≤ x ∧ x ≤ m) = b) (w : World) :
    Calls Try.prog 33 #[.int .i64 x, .int .i64 l, .int .i64 m] w fun e w' => e = .returned (.bool b) ∧ Below w.heap.size w w' := by
  rw [← hb]
  refine (inS x l m w).mono ?_
  rintro e w' ⟨rfl, rfl⟩
  exact ⟨rfl, Below.refl _ _⟩
theorem gRealS (x : Int) (b : Bool) (hb : decide (-1099511627776 ≤ x ∧ x ≤ 1099511627776) = b) (w : World) :
    Calls Try.prog 40 #[.int .i64 x] w fun e w' => e = .returned (.bool b) ∧ Below w.heap.size w w' := by
  have C := hide (fun w => gInS x (-1099511627776) 1099511627776 b hb w)
  clear hb
  go_enter Try.func40, Try.ntmps40
  go_wp2_with fail
  refine (C.out _).mono ?_; rintro e1 w1 ⟨rfl, b1⟩
  go_wp2_with fail
  go_ret
  exact ⟨rfl, b1⟩
theorem tdiv_abs (n d : Int) : (n.tdiv d).natAbs ≤ n.natAbs := by rw [Int.natAbs_tdiv]; exact Nat.div_le_self _ _
theorem near_bd (n d K : Int) (n0 : -K ≤ n) (n1 : n ≤ K) : -K - 1 ≤ (if n.tmod d < 0 then Nea.rd (n.tdiv d - 1) (n.tmod d + d) d else Nea.rd (n.tdiv d) (n.tmod d) d) ∧ (if n.tmod d < 0 then Nea.rd (n.tdiv d - 1) (n.tmod d + d) d else Nea.rd (n.tdiv d) (n.tmod d) d) ≤ K + 1 := by
  have h := tdiv_abs n d
  unfold Nea.rd
  split <;> split <;> omega
/-- Near on both sides: one number, no farther from 0 than n by more than 1 -/
theorem nearB (n d K : Int) (n0 : -K ≤ n) (n1 : n ≤ K) (K1 : K ≤ 4611686018427387904) (d0 : 1 ≤ d) (d1 : d ≤ 4611686018427387904) : ∃ r : Int, (-K - 1 ≤ r ∧ r ≤ K + 1) ∧
    (r = if n.tmod d < 0 then Nea.rd (n.tdiv d - 1) (n.tmod d + d) d else Nea.rd (n.tdiv d) (n.tmod d) d) ∧
    (∀ w, Calls Try.prog 42 #[.int .i64 n, .int .i64 d] w fun e w' => e = .returned (.int .i64 r) ∧ Below w.heap.size w w') ∧
    (∀ w, Calls Try.prog 32 #[.int .i64 n, .int .i64 d] w fun e w' => e = .returned (.int .i64 r) ∧ Below w.heap.size w w') :=
  ⟨_, near_bd n d K n0 n1, rfl, fun w => (Nea.specNear n d w (by omega) (by omega) d0 d1).mono fun e w' ⟨h1, h2⟩ => ⟨h1, h2 ▸ Below.refl _ _⟩, fun w => Nea.implNear n d w (by omega) (by omega) d0 d1⟩
theorem byteAtF (s z x : Int) (w : World) (z0 : 0 ≤ z) (z1 : z ≤ 255) (x0 : -4611686018427387904 ≤ x) (x1 : x ≤ 4611686018427387904) :
    Calls Try.prog 31 #[.agg #[.int .i64 s, .int .i64 z], .int .i64 x] w fun e w' => e = .returned (.int .i64 (cl 0 255 (z + x))) ∧ Below w.heap.size w w' := by
  have C := hide (fun w => clampF 0 255 (z + x) w (by decide))
  go_enter Try.func31, Try.ntmps31
  go_wp2_with fail
  refine (C.out _).mono ?_; rintro e1 w1 ⟨rfl, rfl⟩
  go_wp2_with fail
  go_ret
  exact ⟨rfl, (Below.refl _ _).alloc (Nat.le_refl _) _⟩
theorem clipB (l m x : Int) (w : World) :
    Calls Try.prog 41 #[.int .i64 x, .int .i64 l, .int .i64 m] w fun e w' => e = .returned (.int .i64 (cl l m x)) ∧ Below w.heap.size w w' :=
  (clipS l m x w).mono fun e w' ⟨h1, h2⟩ => ⟨h1, h2 ▸ Below.refl _ _⟩
set_option maxHeartbeats 1000000 in
theorem sQuant_no1 (s z x : Int) (w : World) (hs : bd s) (hz : bd z) (hx : bd x) (g1 : scOk s z = false) :
    Calls Try.prog 18 #[.agg #[.int .i64 s, .int .i64 z], .int .i64 x] w fun e w' => e = .returned (.int .i64 0) ∧ Below w.heap.size w w' := by
  have HS := hide hs
  have HZ := hide hz
  have HX := hide hx
  clear hs hz hx
  have G1 := hide g1
  clear g1
  obtain ⟨WA, hWA⟩ : ∃ WA, w.alloc (.cells #[.int .i64 s, .int .i64 z] 25) = WA := ⟨_, rfl⟩
  have nWA : Below w.heap.size w WA := hWA ▸ (Below.refl _ _).alloc (Nat.le_refl _) _
  have mWA : Box2 WA w.heap.size s z := hWA ▸ box2_new _ _ _ _
  have BL : Hid (Below w.heap.size w WA) := hide (nWA)
  have KA := hide (mWA)
  clear nWA mWA
  obtain ⟨-, cA0, cA1⟩ := KA.out
  go_enter Try.func18, Try.ntmps18
  go_wp2_with fail
  refine (gScaleS s z false G1.out _).mono ?_
  rintro e1 w1 ⟨rfl, q1⟩
  replace KA := hide (KA.out.below q1)
  clear cA0 cA1
  obtain ⟨-, cA0, cA1⟩ := KA.out
  replace BL := hide (BL.out.trans (q1.mono BL.out.size))
  clear q1
  go_wp2_with fail
  go_ret
  exact ⟨rfl, BL.out⟩
set_option maxHeartbeats 1000000 in
theorem sQuant_no2 (s z x : Int) (w : World) (hs : bd s) (hz : bd z) (hx : bd x) (g1 : scOk s z = true) (g2 : decide (-1099511627776 ≤ x ∧ x ≤ 1099511627776) = false) :
    Calls Try.prog 18 #[.agg #[.int .i64 s, .int .i64 z], .int .i64 x] w fun e w' => e = .returned (.int .i64 0) ∧ Below w.heap.size w w' := by
  have HS := hide hs
  have HZ := hide hz
  have HX := hide hx
  clear hs hz hx
  have G1 := hide g1
  have G2 := hide g2
  clear g1 g2
  obtain ⟨WA, hWA⟩ : ∃ WA, w.alloc (.cells #[.int .i64 s, .int .i64 z] 25) = WA := ⟨_, rfl⟩
  have nWA : Below w.heap.size w WA := hWA ▸ (Below.refl _ _).alloc (Nat.le_refl _) _
  have mWA : Box2 WA w.heap.size s z := hWA ▸ box2_new _ _ _ _
  have BL : Hid (Below w.heap.size w WA) := hide (nWA)
  have KA := hide (mWA)
  clear nWA mWA
  obtain ⟨-, cA0, cA1⟩ := KA.out
  go_enter Try.func18, Try.ntmps18
  go_wp2_with fail
  refine (gScaleS s z true G1.out _).mono ?_
  rintro e1 w1 ⟨rfl, q1⟩
  replace KA := hide (KA.out.below q1)
  clear cA0 cA1
  obtain ⟨-, cA0, cA1⟩ := KA.out
  replace BL := hide (BL.out.trans (q1.mono BL.out.size))
  clear q1
  go_wp2_with fail
  refine (gRealS x false G2.out _).mono ?_
  rintro e1 w2 ⟨rfl, q2⟩
  replace KA := hide (KA.out.below q2)
  clear cA0 cA1
  obtain ⟨-, cA0, cA1⟩ := KA.out
  replace BL := hide (BL.out.trans (q2.mono BL.out.size))
  clear q2
  go_wp2_with fail
  go_ret
  exact ⟨rfl, BL.out⟩
set_option maxHeartbeats 1000000 in
theorem sQuant_yes (s z x : Int) (w : World) (hs : bd s) (hz : bd z) (hx : bd x) (r : Int) (z0 : 0 ≤ z) (z1 : z ≤ 255) (r0 : -1099511627777 ≤ r) (r1 : r ≤ 1099511627777) (hN : ∀ w, Calls Try.prog 42 #[.int .i64 x, .int .i64 s] w fun e w' => e = .returned (.int .i64 r) ∧ Below w.heap.size w w') (g1 : scOk s z = true) (g2 : decide (-1099511627776 ≤ x ∧ x ≤ 1099511627776) = true) :
    Calls Try.prog 18 #[.agg #[.int .i64 s, .int .i64 z], .int .i64 x] w fun e w' => e = .returned (.int .i64 (cl 0 255 (z + r))) ∧ Below w.heap.size w w' := by
  have HN := hide hN
  clear hN
  have HS := hide hs
  have HZ := hide hz
  have HX := hide hx
  clear hs hz hx
  have G1 := hide g1
  have G2 := hide g2
  clear g1 g2
  obtain ⟨WA, hWA⟩ : ∃ WA, w.alloc (.cells #[.int .i64 s, .int .i64 z] 25) = WA := ⟨_, rfl⟩
  have nWA : Below w.heap.size w WA := hWA ▸ (Below.refl _ _).alloc (Nat.le_refl _) _
  have mWA : Box2 WA w.heap.size s z := hWA ▸ box2_new _ _ _ _
  have BL : Hid (Below w.heap.size w WA) := hide (nWA)
  have KA := hide (mWA)
  clear nWA mWA
  obtain ⟨-, cA0, cA1⟩ := KA.out
  go_enter Try.func18, Try.ntmps18
  go_wp2_with fail
  refine (gScaleS s z true G1.out _).mono ?_
  rintro e1 w1 ⟨rfl, q1⟩
  replace KA := hide (KA.out.below q1)
  clear cA0 cA1
  obtain ⟨-, cA0, cA1⟩ := KA.out
  replace BL := hide (BL.out.trans (q1.mono BL.out.size))
  clear q1
  go_wp2_with fail
  refine (gRealS x true G2.out _).mono ?_
  rintro e1 w2 ⟨rfl, q2⟩
  replace KA := hide (KA.out.below q2)
  clear cA0 cA1
  obtain ⟨-, cA0, cA1⟩ := KA.out
  replace BL := hide (BL.out.trans (q2.mono BL.out.size))
  clear q2
  have CN := hide (fun d os => Calls.regrown_of (d := d) (os := os) (w := w2) (HN.out _))
  have CC := hide (fun d os => Calls.regrown_of (d := d) (os := os) (w := w2) (clipB 0 255 (z + r) _))
  have kA0 := cell_regrown cA0
  have kA1 := cell_regrown cA1
  clear cA0 cA1
  go_wp2_with fail
  refine wp_region_quiet_below (by kernel_rfl) (by kernel_rfl) ?_
  repeat (go_big_quiet_step (first | (go_at_call 42; exact CN.out _ _) | (go_at_call 41; exact CC.out _ _)))
  refine wpQuiet_nil ?_
  intro _ hw'
  obtain ⟨⟨dq, osq⟩, hw''⟩ := hw'
  subst hw''
  go_wp2_with fail
  go_ret
  exact ⟨rfl, BL.out.trans ((below_regrown _ dq osq).mono BL.out.size)⟩
set_option maxHeartbeats 1000000 in
theorem iQuant_no1 (s z x : Int) (w : World) (hs : bd s) (hz : bd z) (hx : bd x) (g1 : scOk s z = false) :
    Calls Try.prog 11 #[.agg #[.int .i64 s, .int .i64 z], .int .i64 x] w fun e w' => e = .returned (.int .i64 0) ∧ Below w.heap.size w w' := by
  have HS := hide hs
  have HZ := hide hz
  have HX := hide hx
  clear hs hz hx
  have G1 := hide g1
  clear g1
  obtain ⟨WA, hWA⟩ : ∃ WA, w.alloc (.cells #[.int .i64 s, .int .i64 z] 25) = WA := ⟨_, rfl⟩
  have nWA : Below w.heap.size w WA := hWA ▸ (Below.refl _ _).alloc (Nat.le_refl _) _
  have mWA : Box2 WA w.heap.size s z := hWA ▸ box2_new _ _ _ _
  have BL : Hid (Below w.heap.size w WA) := hide (nWA)
  have KA := hide (mWA)
  clear nWA mWA
  obtain ⟨-, cA0, cA1⟩ := KA.out
  go_enter Try.func11, Try.ntmps11
  go_wp2_with fail
  refine (gScaleI s z false HS.out HZ.out G1.out _).mono ?_
  rintro e1 w1 ⟨rfl, q1⟩
  replace KA := hide (KA.out.below q1)
  clear cA0 cA1
  obtain ⟨-, cA0, cA1⟩ := KA.out
  replace BL := hide (BL.out.trans (q1.mono BL.out.size))
  clear q1
  go_wp2_with fail
  go_ret
  exact ⟨rfl, BL.out⟩
set_option maxHeartbeats 1000000 in
theorem iQuant_no2 (s z x : Int) (w : World) (hs : bd s) (hz : bd z) (hx : bd x) (g1 : scOk s z = true) (g2 : decide (-1099511627776 ≤ x ∧ x ≤ 1099511627776) = false) :
    Calls Try.prog 11 #[.agg #[.int .i64 s, .int .i64 z], .int .i64 x] w fun e w' => e = .returned (.int .i64 0) ∧ Below w.heap.size w w' := by
  have HS := hide hs
  have HZ := hide hz
  have HX := hide hx
  clear hs hz hx
  have G1 := hide g1
  have G2 := hide g2
  clear g1 g2
  obtain ⟨WA, hWA⟩ : ∃ WA, w.alloc (.cells #[.int .i64 s, .int .i64 z] 25) = WA := ⟨_, rfl⟩
  have nWA : Below w.heap.size w WA := hWA ▸ (Below.refl _ _).alloc (Nat.le_refl _) _
  have mWA : Box2 WA w.heap.size s z := hWA ▸ box2_new _ _ _ _
  have BL : Hid (Below w.heap.size w WA) := hide (nWA)
  have KA := hide (mWA)
  clear nWA mWA
  obtain ⟨-, cA0, cA1⟩ := KA.out
  go_enter Try.func11, Try.ntmps11
  go_wp2_with fail
  refine (gScaleI s z true HS.out HZ.out G1.out _).mono ?_
  rintro e1 w1 ⟨rfl, q1⟩
  replace KA := hide (KA.out.below q1)
  clear cA0 cA1
  obtain ⟨-, cA0, cA1⟩ := KA.out
  replace BL := hide (BL.out.trans (q1.mono BL.out.size))
  clear q1
  go_wp2_with fail
  refine (reals_one x false _ _ HX.out G2.out rfl).mono ?_
  rintro e1 w2 ⟨rfl, q2⟩
  replace KA := hide (KA.out.below q2)
  clear cA0 cA1
  obtain ⟨-, cA0, cA1⟩ := KA.out
  replace BL := hide (BL.out.trans (q2.mono BL.out.size))
  clear q2
  go_wp2_with fail
  go_ret
  exact ⟨rfl, BL.out⟩
set_option maxHeartbeats 1000000 in
theorem iQuant_yes (s z x : Int) (w : World) (hs : bd s) (hz : bd z) (hx : bd x) (r : Int) (z0 : 0 ≤ z) (z1 : z ≤ 255) (r0 : -1099511627777 ≤ r) (r1 : r ≤ 1099511627777) (hN : ∀ w, Calls Try.prog 32 #[.int .i64 x, .int .i64 s] w fun e w' => e = .returned (.int .i64 r) ∧ Below w.heap.size w w') (g1 : scOk s z = true) (g2 : decide (-1099511627776 ≤ x ∧ x ≤ 1099511627776) = true) :
    Calls Try.prog 11 #[.agg #[.int .i64 s, .int .i64 z], .int .i64 x] w fun e w' => e = .returned (.int .i64 (cl 0 255 (z + r))) ∧ Below w.heap.size w w' := by
  have HN := hide hN
  clear hN
  have HS := hide hs
  have HZ := hide hz
  have HX := hide hx
  clear hs hz hx
  have G1 := hide g1
  have G2 := hide g2
  clear g1 g2
  obtain ⟨WA, hWA⟩ : ∃ WA, w.alloc (.cells #[.int .i64 s, .int .i64 z] 25) = WA := ⟨_, rfl⟩
  have nWA : Below w.heap.size w WA := hWA ▸ (Below.refl _ _).alloc (Nat.le_refl _) _
  have mWA : Box2 WA w.heap.size s z := hWA ▸ box2_new _ _ _ _
  have BL : Hid (Below w.heap.size w WA) := hide (nWA)
  have KA := hide (mWA)
  clear nWA mWA
  obtain ⟨-, cA0, cA1⟩ := KA.out
  go_enter Try.func11, Try.ntmps11
  go_wp2_with fail
  refine (gScaleI s z true HS.out HZ.out G1.out _).mono ?_
  rintro e1 w1 ⟨rfl, q1⟩
  replace KA := hide (KA.out.below q1)
  clear cA0 cA1
  obtain ⟨-, cA0, cA1⟩ := KA.out
  replace BL := hide (BL.out.trans (q1.mono BL.out.size))
  clear q1
  go_wp2_with fail
  refine (reals_one x true _ _ HX.out G2.out rfl).mono ?_
  rintro e1 w2 ⟨rfl, q2⟩
  replace KA := hide (KA.out.below q2)
  clear cA0 cA1
  obtain ⟨-, cA0, cA1⟩ := KA.out
  replace BL := hide (BL.out.trans (q2.mono BL.out.size))
  clear q2
  have CN := hide (fun d os => Calls.regrown_of (d := d) (os := os) (w := w2) (HN.out _))
  have CC := hide (fun d os => Calls.regrown_of (d := d) (os := os) (w := w2) (byteAtF s z r _ z0 z1 (by omega) (by omega)))
  have kA0 := cell_regrown cA0
  have kA1 := cell_regrown cA1
  clear cA0 cA1
  go_wp2_with fail
  refine wp_region_quiet_below (by kernel_rfl) (by kernel_rfl) ?_
  repeat (go_big_quiet_step (first | (go_at_call 32; exact CN.out _ _) | (go_at_call 31; exact CC.out _ _)))
  refine wpQuiet_nil ?_
  intro _ hw'
  obtain ⟨⟨dq, osq⟩, hw''⟩ := hw'
  subst hw''
  go_wp2_with fail
  go_ret
  exact ⟨rfl, BL.out.trans ((below_regrown _ dq osq).mono BL.out.size)⟩
/-- a real as a byte: both sides answer one number -/
theorem quantBoth (s z x : Int) (hs : bd s) (hz : bd z) (hx : bd x) : ∃ v : Int, (0 ≤ v ∧ v ≤ 255) ∧
    (scOk s z = true → -1099511627776 ≤ x ∧ x ≤ 1099511627776 → v = cl 0 255 (z + (if x.tmod s < 0 then Nea.rd (x.tdiv s - 1) (x.tmod s + s) s else Nea.rd (x.tdiv s) (x.tmod s) s))) ∧
    (∀ w, Calls Try.prog 18 #[.agg #[.int .i64 s, .int .i64 z], .int .i64 x] w fun e w' => e = .returned (.int .i64 v) ∧ Below w.heap.size w w') ∧
    (∀ w, Calls Try.prog 11 #[.agg #[.int .i64 s, .int .i64 z], .int .i64 x] w fun e w' => e = .returned (.int .i64 v) ∧ Below w.heap.size w w') := by
  cases g1 : scOk s z
  · exact ⟨0, by omega, fun h => absurd h Bool.false_ne_true, fun w => sQuant_no1 s z x w hs hz hx g1, fun w => iQuant_no1 s z x w hs hz hx g1⟩
  cases g2 : decide (-1099511627776 ≤ x ∧ x ≤ 1099511627776)
  · exact ⟨0, by omega, fun _ h => absurd h (of_decide_eq_false g2), fun w => sQuant_no2 s z x w hs hz hx g1 g2, fun w => iQuant_no2 s z x w hs hz hx g1 g2⟩
  obtain ⟨⟨s0, s1⟩, z0, z1⟩ := sc_of g1
  obtain ⟨x0, x1⟩ := of_decide_eq_true g2
  obtain ⟨r, ⟨r0, r1⟩, er, hS, hI⟩ := nearB x s 1099511627776 x0 x1 (by decide) s0 (by omega)
  exact ⟨cl 0 255 (z + r), cl_rng _ (by decide), fun _ _ => by rw [er], fun w => sQuant_yes s z x w hs hz hx r z0 z1 (by omega) r1 hS g1 g2, fun w => iQuant_yes s z x w hs hz hx r z0 z1 (by omega) r1 hI g1 g2⟩
end Vo
end Go.Proofs.Ytabjpemneimljaa
