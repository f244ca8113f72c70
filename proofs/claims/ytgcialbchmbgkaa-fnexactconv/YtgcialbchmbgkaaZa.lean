/- Convolutions: sizes, places, a number in a plane; the program's side. -/
import Derived.Test.YtgcialbchmbgkaaTp
import Derived.Test.YtgcialbchmbgkaaTi
import Derived.Test.YtgcialbchmbgkaaVac
import Derived.Test.YtgcialbchmbgkaaQt
namespace Go.Proofs.Ytgcialbchmbgkaa
namespace Vo
open Go.ChangeShapes Go.WideShapes Go.ChangeAt Go.RowKit Go.Joins Go.Sort
open Vl Vp Vr
set_option linter.unusedVariables false
set_option linter.unusedSimpArgs false
/-- how many places there are along a length -/
def plcs (z : Nat → Int) (len ker : Int) : Int := if len + 2 * z 9 - z 10 * (ker - 1) - 1 < 0 then 0 else (len + 2 * z 9 - z 10 * (ker - 1) - 1).tdiv (z 8) + 1
/-- sizes that can be walked with -/
structure CzB (z : Nat → Int) : Prop where
  st : 1 ≤ z 8 ∧ z 8 ≤ 4096
  pd : 0 ≤ z 9 ∧ z 9 ≤ 4096
  dl : 1 ≤ z 10 ∧ z 10 ≤ 4096
  gr : 1 ≤ z 11 ∧ z 11 ≤ 4096
  pos : ∀ i, i < 8 → 1 ≤ z i ∧ z i ≤ 4096
theorem mul_rng {a b m n : Int} (a0 : 0 ≤ a) (a1 : a ≤ m) (b0 : 0 ≤ b) (b1 : b ≤ n) : 0 ≤ a * b ∧ a * b ≤ m * n := ⟨Int.mul_nonneg a0 b0, Int.mul_le_mul a1 b1 b0 (by omega)⟩
theorem tdiv_rng {a b : Int} (a0 : 0 ≤ a) (b1 : 1 ≤ b) : 0 ≤ a.tdiv b ∧ a.tdiv b ≤ a := by
  rw [Int.tdiv_eq_ediv_of_nonneg a0]
  exact ⟨Int.ediv_nonneg a0 (by omega), Int.ediv_le_self _ a0⟩
theorem plcs_rng {z : Nat → Int} {len ker : Int} (h : CzB z) (l0 : 1 ≤ len) (l1 : len ≤ 4096) (k0 : 1 ≤ ker) (k1 : ker ≤ 4096) : 0 ≤ plcs z len ker ∧ plcs z len ker ≤ 12289 := by
  unfold plcs
  have m := mul_rng (a := z 10) (b := ker - 1) (m := 4096) (n := 4095) (by have := h.dl; omega) h.dl.2 (by omega) (by omega)
  have p := h.pd
  split
  · omega
  · have := tdiv_rng (a := len + 2 * z 9 - z 10 * (ker - 1) - 1) (b := z 8) (by omega) h.st.1
    omega
set_option maxRecDepth 100000 in
theorem placesF (z : Nat → Int) (len ker : Int) (w : World) (h : CzB z) (l0 : 1 ≤ len) (l1 : len ≤ 4096) (k0 : 1 ≤ ker) (k1 : ker ≤ 4096) :
    Calls Try.prog 89 #[.agg #[.int .i64 (z 0), .int .i64 (z 1), .int .i64 (z 2), .int .i64 (z 3), .int .i64 (z 4), .int .i64 (z 5), .int .i64 (z 6), .int .i64 (z 7), .int .i64 (z 8), .int .i64 (z 9), .int .i64 (z 10), .int .i64 (z 11)], .int .i64 len, .int .i64 ker] w fun e w' => e = .returned (.int .i64 (plcs z len ker)) ∧ Below w.heap.size w w' := by
  obtain ⟨W0, hW0⟩ : ∃ W0, w.alloc (.cells #[.int .i64 (z 0), .int .i64 (z 1), .int .i64 (z 2), .int .i64 (z 3), .int .i64 (z 4), .int .i64 (z 5), .int .i64 (z 6), .int .i64 (z 7), .int .i64 (z 8), .int .i64 (z 9), .int .i64 (z 10), .int .i64 (z 11)] 58) = W0 := ⟨_, rfl⟩
  have BL := hide (show Below w.heap.size w W0 by rw [← hW0]; exact (Below.refl _ _).alloc (Nat.le_refl _) _)
  have c8 : W0.cell? ⟨w.heap.size, 8, none⟩ = some (.int .i64 (z 8)) := by rw [← hW0]; simp [go_sem]
  have c9 : W0.cell? ⟨w.heap.size, 9, none⟩ = some (.int .i64 (z 9)) := by rw [← hW0]; simp [go_sem]
  have c10 : W0.cell? ⟨w.heap.size, 10, none⟩ = some (.int .i64 (z 10)) := by rw [← hW0]; simp [go_sem]
  obtain ⟨s0, s1⟩ := h.st
  obtain ⟨p0, p1⟩ := h.pd
  obtain ⟨d0, d1⟩ := h.dl
  have m := mul_rng (a := z 10) (b := ker - 1) (m := 4096) (n := 4095) (by omega) d1 (by omega) (by omega)
  have w1 : IntKind.i64.wrap (2 * z 9) = 2 * z 9 := by rw [IntKind.wrap_i64]; omega
  have w2 : IntKind.i64.wrap (len + 2 * z 9) = len + 2 * z 9 := by rw [IntKind.wrap_i64]; omega
  have w3 : IntKind.i64.wrap (ker - 1) = ker - 1 := by rw [IntKind.wrap_i64]; omega
  obtain ⟨q, hq⟩ : ∃ q, z 10 * (ker - 1) = q := ⟨_, rfl⟩
  rw [hq] at m
  have w4 : IntKind.i64.wrap q = q := by rw [IntKind.wrap_i64]; omega
  have w5 : IntKind.i64.wrap (len + 2 * z 9 - q) = len + 2 * z 9 - q := by rw [IntKind.wrap_i64]; omega
  obtain ⟨ro, hro⟩ : ∃ ro, len + 2 * z 9 - q - 1 = ro := ⟨_, rfl⟩
  have w6 : IntKind.i64.wrap ro = ro := by rw [IntKind.wrap_i64]; omega
  have E := hide (show plcs z len ker = if ro < 0 then 0 else ro.tdiv (z 8) + 1 by unfold plcs; rw [hq, hro])
  have rr : ro ≤ 12288 := by omega
  have s8 : (z 8 == 0) = false := beq_eq_false_iff_ne.2 (by omega)
  by_cases hn : ro < 0
  · have EZ := hide (show plcs z len ker = 0 by rw [E.out, if_pos hn])
    go_enter Try.func89, Try.ntmps89
    go_wp2_with fail
    go_ret
    exact ⟨by rw [EZ.out]; rfl, BL.out⟩
  · have EZ := hide (show plcs z len ker = ro.tdiv (z 8) + 1 by rw [E.out, if_neg hn])
    have hn' : decide (ro < 0) = false := decide_eq_false hn
    have dd := tdiv_rng (a := ro) (b := z 8) (by omega) s0
    obtain ⟨u, hu⟩ : ∃ u, ro.tdiv (z 8) = u := ⟨_, rfl⟩
    rw [hu] at EZ dd
    have w7 : IntKind.i64.wrap u = u := by rw [IntKind.wrap_i64]; omega
    have w8 : IntKind.i64.wrap (u + 1) = u + 1 := by rw [IntKind.wrap_i64]; omega
    clear hn E m
    go_enter Try.func89, Try.ntmps89
    go_wp2_with fail
    go_ret
    exact ⟨by rw [EZ.out]; rfl, BL.out⟩
/-- the outcome's dims -/
def cvE (z : Nat → Int) (j : Nat) : Int := if j = 0 then z 0 else if j = 1 then z 4 else if j = 2 then plcs z (z 2) (z 6) else plcs z (z 3) (z 7)
set_option maxRecDepth 100000 in
theorem outcomeF (z : Nat → Int) (w : World) (h : CzB z) :
    Calls Try.prog 70 #[.agg #[.int .i64 (z 0), .int .i64 (z 1), .int .i64 (z 2), .int .i64 (z 3), .int .i64 (z 4), .int .i64 (z 5), .int .i64 (z 6), .int .i64 (z 7), .int .i64 (z 8), .int .i64 (z 9), .int .i64 (z 10), .int .i64 (z 11)]] w fun e w' => ∃ g, e = .returned (.slice (some ⟨g, 0, none⟩) 4 4) ∧ w.heap.size ≤ g ∧ g < w'.heap.size ∧ Rw w' g 4 (cvE z) ∧ Below w.heap.size w w' := by
  obtain ⟨W0, hW0⟩ : ∃ W0, w.alloc (.cells #[.int .i64 (z 0), .int .i64 (z 1), .int .i64 (z 2), .int .i64 (z 3), .int .i64 (z 4), .int .i64 (z 5), .int .i64 (z 6), .int .i64 (z 7), .int .i64 (z 8), .int .i64 (z 9), .int .i64 (z 10), .int .i64 (z 11)] 58) = W0 := ⟨_, rfl⟩
  have bl : Below w.heap.size w W0 := by rw [← hW0]; exact (Below.refl _ _).alloc (Nat.le_refl _) _
  have s0 : W0.heap.size = w.heap.size + 1 := by rw [← hW0]; simp
  have cc : ∀ i, i < 12 → W0.cell? ⟨w.heap.size, i, none⟩ = some (.int .i64 (z i)) := by
    intro i hi
    rw [← hW0]
    have : i = 0 ∨ i = 1 ∨ i = 2 ∨ i = 3 ∨ i = 4 ∨ i = 5 ∨ i = 6 ∨ i = 7 ∨ i = 8 ∨ i = 9 ∨ i = 10 ∨ i = 11 := by omega
    rcases this with rfl | rfl | rfl | rfl | rfl | rfl | rfl | rfl | rfl | rfl | rfl | rfl <;> simp [go_sem]
  have CC := hide cc
  have BL := hide bl
  have q2 := h.pos 2 (by decide)
  have q3 := h.pos 3 (by decide)
  have q6 := h.pos 6 (by decide)
  have q7 := h.pos 7 (by decide)
  have C1 := hide (fun (W : World) => placesF z (z 2) (z 6) W h q2.1 q2.2 q6.1 q6.2)
  have C2 := hide (fun (W : World) => placesF z (z 3) (z 7) W h q3.1 q3.2 q7.1 q7.2)
  have P1 := hide (plcs_rng h q2.1 q2.2 q6.1 q6.2)
  have P2 := hide (plcs_rng h q3.1 q3.2 q7.1 q7.2)
  have z0 := h.pos 0 (by decide)
  have z4 := h.pos 4 (by decide)
  have NEW := hide (fun (W : World) => show Rw (W.alloc (.cells #[.int .i64 (z 0), .int .i64 (z 4), .int .i64 (plcs z (z 2) (z 6)), .int .i64 (plcs z (z 3) (z 7))] 3)) W.heap.size 4 (cvE z) by
    intro j hj
    have p1 := P1.out
    have p2 := P2.out
    have : j = 0 ∨ j = 1 ∨ j = 2 ∨ j = 3 := by omega
    rcases this with rfl | rfl | rfl | rfl
    · exact ⟨by simp [go_sem, cvE], by simp [go_sem], by show bd (z 0); unfold bd; omega⟩
    · exact ⟨by simp [go_sem, cvE], by simp [go_sem], by show bd (z 4); unfold bd; omega⟩
    · exact ⟨by simp [go_sem, cvE], by simp [go_sem], by show bd (plcs z (z 2) (z 6)); unfold bd; omega⟩
    · exact ⟨by simp [go_sem, cvE], by simp [go_sem], by show bd (plcs z (z 3) (z 7)); unfold bd; omega⟩)
  generalize plcs z (z 2) (z 6) = v1 at C1 NEW
  generalize plcs z (z 3) (z 7) = v2 at C2 NEW
  clear P1 P2 q2 q3 q6 q7 bl
  go_enter Try.func70, Try.ntmps70
  go_wp2_with fail
  refine (C1.out _).mono ?_
  rintro e w1 ⟨rfl, b1⟩
  have cd : ∀ i, i < 12 → w1.cell? ⟨w.heap.size, i, none⟩ = some (.int .i64 (z i)) := fun i hi => (b1.cell (p := ⟨w.heap.size, i, none⟩) (by show w.heap.size < W0.heap.size; omega)).trans (CC.out i hi)
  have B1 := hide (BL.out.trans (b1.mono BL.out.size))
  have s1 := b1.size
  clear cc b1 hW0
  have CD := hide cd
  go_wp2_with fail
  refine (C2.out _).mono ?_
  rintro e w2 ⟨rfl, b2⟩
  have ce : ∀ i, i < 12 → w2.cell? ⟨w.heap.size, i, none⟩ = some (.int .i64 (z i)) := fun i hi => (b2.cell (p := ⟨w.heap.size, i, none⟩) (by show w.heap.size < w1.heap.size; omega)).trans (CD.out i hi)
  have B2 := hide (B1.out.trans (b2.mono B1.out.size))
  clear cd b2
  go_wp2_with fail
  go_ret
  exact ⟨_, rfl, B2.out.size, by simp, NEW.out w2, B2.out.alloc B2.out.size _⟩
/-- a number in a plane, 0 out of it -/
def inP (z : Nat → Int) (S : Nat → Int) (p r c : Int) : Int := if r < 0 ∨ z 2 ≤ r ∨ c < 0 ∨ z 3 ≤ c then 0 else S ((p * z 2 + r) * z 3 + c).toNat
set_option maxRecDepth 100000 in
theorem inPlaneF (B : Nat) (z : Nat → Int) (ax aw : Option Addr) (sx cx sw cw : Nat) (S : Nat → Int) (p r c : Int) (w : World) (hB : B ≤ w.heap.size) (hx : Ints B w ax sx S) (h : CzB z) (p0 : 0 ≤ p) (lx : (sx : Int) ≤ 4096)
    (hp : (p + 1) * z 2 * z 3 ≤ sx) :
    Calls Try.prog 90 #[.agg #[.int .i64 (z 0), .int .i64 (z 1), .int .i64 (z 2), .int .i64 (z 3), .int .i64 (z 4), .int .i64 (z 5), .int .i64 (z 6), .int .i64 (z 7), .int .i64 (z 8), .int .i64 (z 9), .int .i64 (z 10), .int .i64 (z 11), .slice ax sx cx, .slice aw sw cw], .int .i64 p, .int .i64 r, .int .i64 c] w fun e w' => e = .returned (.int .i64 (inP z S p r c)) ∧ Below w.heap.size w w' := by
  obtain ⟨W0, hW0⟩ : ∃ W0, w.alloc (.cells #[.int .i64 (z 0), .int .i64 (z 1), .int .i64 (z 2), .int .i64 (z 3), .int .i64 (z 4), .int .i64 (z 5), .int .i64 (z 6), .int .i64 (z 7), .int .i64 (z 8), .int .i64 (z 9), .int .i64 (z 10), .int .i64 (z 11), .slice ax sx cx, .slice aw sw cw] 61) = W0 := ⟨_, rfl⟩
  have bl : Below w.heap.size w W0 := by rw [← hW0]; exact (Below.refl _ _).alloc (Nat.le_refl _) _
  have c2 : W0.cell? ⟨w.heap.size, 2, none⟩ = some (.int .i64 (z 2)) := by rw [← hW0]; simp [go_sem]
  have c3 : W0.cell? ⟨w.heap.size, 3, none⟩ = some (.int .i64 (z 3)) := by rw [← hW0]; simp [go_sem]
  have c12 : W0.cell? ⟨w.heap.size, 12, none⟩ = some (.slice ax sx cx) := by rw [← hW0]; simp [go_sem]
  have BL := hide bl
  by_cases h1 : r < 0
  · have E := hide (show inP z S p r c = 0 by unfold inP; rw [if_pos (.inl h1)])
    go_enter Try.func90, Try.ntmps90
    go_wp2_with fail
    go_ret
    exact ⟨by rw [E.out]; rfl, BL.out⟩
  have h1' : decide (r < 0) = false := decide_eq_false h1
  by_cases h2 : z 2 ≤ r
  · have E := hide (show inP z S p r c = 0 by unfold inP; rw [if_pos (.inr (.inl h2))])
    clear h1
    go_enter Try.func90, Try.ntmps90
    go_wp2_with fail
    go_ret
    exact ⟨by rw [E.out]; rfl, BL.out⟩
  have h2' : decide (z 2 ≤ r) = false := decide_eq_false h2
  by_cases h3 : c < 0
  · have E := hide (show inP z S p r c = 0 by unfold inP; rw [if_pos (.inr (.inr (.inl h3)))])
    clear h1 h2
    go_enter Try.func90, Try.ntmps90
    go_wp2_with fail
    go_ret
    exact ⟨by rw [E.out]; rfl, BL.out⟩
  have h3' : decide (c < 0) = false := decide_eq_false h3
  by_cases h4 : z 3 ≤ c
  · have E := hide (show inP z S p r c = 0 by unfold inP; rw [if_pos (.inr (.inr (.inr h4)))])
    clear h1 h2 h3
    go_enter Try.func90, Try.ntmps90
    go_wp2_with fail
    go_ret
    exact ⟨by rw [E.out]; rfl, BL.out⟩
  have h4' : decide (z 3 ≤ c) = false := decide_eq_false h4
  have q2 := h.pos 2 (by decide)
  have q3 := h.pos 3 (by decide)
  have e1 : (p + 1) * z 2 * z 3 = (p * z 2 + z 2) * z 3 := by rw [Int.add_mul, Int.one_mul]
  have m0 : 0 ≤ p * z 2 := Int.mul_nonneg p0 (by omega)
  have m1 : 0 ≤ (p * z 2 + r) * z 3 := Int.mul_nonneg (by omega) (by omega)
  have m2 : (p * z 2 + r + 1) * z 3 ≤ (p * z 2 + z 2) * z 3 := Int.mul_le_mul_of_nonneg_right (by omega) (by omega)
  rw [Int.add_mul _ 1, Int.one_mul] at m2
  have m3 : (p * z 2 + z 2) * 1 ≤ (p * z 2 + z 2) * z 3 := Int.mul_le_mul_of_nonneg_left q3.1 (by omega)
  obtain ⟨u, hu⟩ : ∃ u, p * z 2 = u := ⟨_, rfl⟩
  rw [e1, hu] at hp
  rw [hu] at m0 m1 m2 m3
  obtain ⟨y, hy⟩ : ∃ y, (u + r) * z 3 = y := ⟨_, rfl⟩
  rw [hy] at m1 m2
  obtain ⟨n, hn⟩ : ∃ n : Nat, y + c = n := ⟨(y + c).toNat, by omega⟩
  have ln : (n : Int) < sx := by omega
  have ln' : n < sx := by omega
  have E := hide (show inP z S p r c = S n by
    unfold inP
    rw [if_neg (by omega), hu, hy, hn, Int.toNat_natCast])
  rcases hx.below (bl.mono hB) with h0 | ⟨b1, o1, rfl, g1, hc⟩
  · omega
  obtain ⟨cn, _⟩ := hc n ln'
  have w1 : IntKind.i64.wrap u = u := by rw [IntKind.wrap_i64]; omega
  have w2 : IntKind.i64.wrap (u + r) = u + r := by rw [IntKind.wrap_i64]; omega
  have w3 : IntKind.i64.wrap y = y := by rw [IntKind.wrap_i64]; omega
  have w4 : IntKind.i64.wrap (n : Int) = n := by rw [IntKind.wrap_i64]; omega
  clear h1 h2 h3 h4 hc m2 m3 e1 hp hx bl
  go_enter Try.func90, Try.ntmps90
  go_wp2_with fail
  go_ret
  exact ⟨by rw [E.out]; rfl, BL.out⟩
end Vo
end Go.Proofs.Ytgcialbchmbgkaa
