/- A rule and one parameter, plain: what comes, its bounds; the program's three kinds do that. -/
import Derived.Test.YtflbhlepmjiejaaOi
import Derived.Test.YtflbhlepmjiejaaEi
namespace Go.Proofs.Ytflbhlepmjiejaa
namespace Vo
open Go.ChangeShapes Go.WideShapes Go.ChangeAt Go.RowKit Go.Joins Go.Sort
open Vl
set_option linter.unusedVariables false
/-- the root as a function -/
noncomputable def rtv (n : Int) : Int := by
  classical
  exact if h : ∃ v, IsRt n v then Classical.choose h else 0
theorem rtv_is {n v : Int} (h : IsRt n v) : rtv n = v := by
  unfold rtv
  rw [dif_pos ⟨v, h⟩]
  exact rt_one (Classical.choose_spec (⟨v, h⟩ : ∃ v, IsRt n v)) h
def dcy (y u p : Int) : Int := brg (p - nrv (u * nrv (y * p) 65536) 65536)
def hvF (k f g : Int) : Int := cl (-4294967296) 4294967296 (nrv (k * f) 65536 + g)
def evF (k f g : Int) : Int := nrv (k * f + (65536 - k) * g) 65536
def evS (z s g : Int) : Int := nrv (z * s + (65536 - z) * nrv (g * g) 65536) 65536
def nF (d k f g : Int) : Int := if d = 2 then hvF k f g else if d = 3 then evF k f g else f
def nS (d z s g : Int) : Int := if d = 3 then evS z s g else s
/-- what is taken from a parameter -/
noncomputable def nW (d k z o u f s g : Int) : Int := if d = 1 then nrv (u * g) 65536 else if d = 2 then nrv (u * hvF k f g) 65536 else nrv (u * evF k f g) (rtv (65536 * evS z s g) + o)
noncomputable def nP (d k z o y u p f s g : Int) : Int := brg (dcy y u p - nW d k z o u f s g)
theorem brg_rng (x : Int) : -68719476736 ≤ brg x ∧ brg x ≤ 68719476736 := cl_rng x (by decide)
theorem hvF_rng (k f g : Int) : -4294967296 ≤ hvF k f g ∧ hvF k f g ≤ 4294967296 := cl_rng _ (by decide)
theorem mul_rng {k x K X : Int} (k0 : 0 ≤ k) (k1 : k ≤ K) (X0 : 0 ≤ X) (x0 : -X ≤ x) (x1 : x ≤ X) : -(K * X) ≤ k * x ∧ k * x ≤ K * X := by
  have a1 : k * x ≤ k * X := Int.mul_le_mul_of_nonneg_left x1 k0
  have a2 : k * X ≤ K * X := Int.mul_le_mul_of_nonneg_right k1 X0
  have a3 : k * -X ≤ k * x := Int.mul_le_mul_of_nonneg_left x0 k0
  rw [Int.mul_neg] at a3
  omega
theorem mix_rng {k x y X : Int} (k0 : 0 ≤ k) (k1 : k ≤ 65536) (X0 : 0 ≤ X) (x0 : -X ≤ x) (x1 : x ≤ X) (y0 : -X ≤ y) (y1 : y ≤ X) : -(X * 65536) ≤ k * x + (65536 - k) * y ∧ k * x + (65536 - k) * y ≤ X * 65536 := by
  have a1 : k * x ≤ k * X := Int.mul_le_mul_of_nonneg_left x1 k0
  have a2 : (65536 - k) * y ≤ (65536 - k) * X := Int.mul_le_mul_of_nonneg_left y1 (by omega)
  have a3 : k * -X ≤ k * x := Int.mul_le_mul_of_nonneg_left x0 k0
  have a4 : (65536 - k) * -X ≤ (65536 - k) * y := Int.mul_le_mul_of_nonneg_left y0 (by omega)
  rw [Int.mul_neg] at a3 a4
  have e : (65536 - k) * X = 65536 * X - k * X := Int.sub_mul _ _ _
  rw [e] at a2 a4
  generalize k * X = q at *
  omega
theorem mix_nn {k x y : Int} (k0 : 0 ≤ k) (k1 : k ≤ 65536) (x0 : 0 ≤ x) (y0 : 0 ≤ y) : 0 ≤ k * x + (65536 - k) * y := Int.add_nonneg (Int.mul_nonneg k0 x0) (Int.mul_nonneg (by omega) y0)
theorem nrv_nn {n : Int} (h : 0 ≤ n) : 0 ≤ nrv n 65536 := by
  unfold nrv Nea.rd
  rw [Int.tdiv_eq_ediv_of_nonneg h, Int.tmod_eq_emod_of_nonneg h, if_neg (by omega)]
  split <;> omega
theorem evF_rng {k f g : Int} (k0 : 0 ≤ k) (k1 : k ≤ 65536) (f0 : -4294967296 ≤ f) (f1 : f ≤ 4294967296) (g0 : -16777216 ≤ g) (g1 : g ≤ 16777216) : -4294967296 ≤ evF k f g ∧ evF k f g ≤ 4294967296 := by
  obtain ⟨a, b⟩ := mix_rng k0 k1 (X := 4294967296) (by decide) f0 f1 (show -4294967296 ≤ g by omega) (by omega)
  exact nrv_abs (by decide) (by decide) a b
theorem sqg {g : Int} (g0 : -16777216 ≤ g) (g1 : g ≤ 16777216) : 0 ≤ g * g ∧ g * g ≤ 281474976710656 := sq_bd ⟨g0, g1⟩
theorem hg_rng {g : Int} (g0 : -16777216 ≤ g) (g1 : g ≤ 16777216) : 0 ≤ nrv (g * g) 65536 ∧ nrv (g * g) 65536 ≤ 4294967296 := by
  obtain ⟨a, b⟩ := sqg g0 g1
  exact ⟨nrv_nn a, (nrv_abs (n := g * g) (d := 65536) (K := 4294967296) (by decide) (by decide) (by omega) (by omega)).2⟩
theorem evS_rng {z s g : Int} (z0 : 0 ≤ z) (z1 : z ≤ 65536) (s0 : 0 ≤ s) (s1 : s ≤ 17179869184) (g0 : -16777216 ≤ g) (g1 : g ≤ 16777216) : 0 ≤ evS z s g ∧ evS z s g ≤ 17179869184 := by
  obtain ⟨h0, h1⟩ := hg_rng g0 g1
  obtain ⟨a, b⟩ := mix_rng z0 z1 (X := 17179869184) (by decide) (show -17179869184 ≤ s by omega) s1 (show -17179869184 ≤ nrv (g * g) 65536 by omega) (by omega)
  exact ⟨nrv_nn (mix_nn z0 z1 s0 h0), (nrv_abs (by decide) (by decide) a b).2⟩
theorem nF_rng {d k f g : Int} (k0 : 0 ≤ k) (k1 : k ≤ 65536) (f0 : -4294967296 ≤ f) (f1 : f ≤ 4294967296) (g0 : -16777216 ≤ g) (g1 : g ≤ 16777216) : -4294967296 ≤ nF d k f g ∧ nF d k f g ≤ 4294967296 := by
  unfold nF
  split
  · exact hvF_rng k f g
  · split
    · exact evF_rng k0 k1 f0 f1 g0 g1
    · exact ⟨f0, f1⟩
theorem nS_rng {d z s g : Int} (z0 : 0 ≤ z) (z1 : z ≤ 65536) (s0 : 0 ≤ s) (s1 : s ≤ 17179869184) (g0 : -16777216 ≤ g) (g1 : g ≤ 16777216) : 0 ≤ nS d z s g ∧ nS d z s g ≤ 17179869184 := by
  unfold nS
  split
  · exact evS_rng z0 z1 s0 s1 g0 g1
  · exact ⟨s0, s1⟩
theorem w64 {x : Int} (h : -9223372036854775808 ≤ x ∧ x ≤ 9223372036854775807) : IntKind.i64.wrap x = x := by rw [IntKind.wrap_i64]; omega
section
variable {d k z o y u p f s g : Int}
/-- what a rule may bring and what it meets -/
structure PIn (k z o y u p f s g : Int) : Prop where
  k0 : 0 ≤ k
  k1 : k ≤ 65536
  z0 : 0 ≤ z
  z1 : z ≤ 65536
  o0 : 1 ≤ o
  o1 : o ≤ 16777216
  y0 : 0 ≤ y
  y1 : y ≤ 65536
  u0 : 0 ≤ u
  u1 : u ≤ 16777216
  p0 : -68719476736 ≤ p
  p1 : p ≤ 68719476736
  f0 : -4294967296 ≤ f
  f1 : f ≤ 4294967296
  s0 : 0 ≤ s
  s1 : s ≤ 17179869184
  g0 : -16777216 ≤ g
  g1 : g ≤ 16777216
theorem decay_ok (h : PIn k z o y u p f s g) : (IntKind.i64.wrap (y * p) = y * p ∧ IntKind.i64.wrap (u * nrv (y * p) 65536) = u * nrv (y * p) 65536) ∧ (∀ w, Calls Try.prog 67 #[.int .i64 (y * p)] w fun e w' => e = .returned (.int .i64 (nrv (y * p) 65536)) ∧ Below w.heap.size w w') ∧
    (∀ w, Calls Try.prog 67 #[.int .i64 (u * nrv (y * p) 65536)] w fun e w' => e = .returned (.int .i64 (nrv (u * nrv (y * p) 65536) 65536)) ∧ Below w.heap.size w w') ∧
    (∀ w, Calls Try.prog 66 #[.agg #[.int .i64 p, .int .i64 f, .int .i64 s], .int .i64 (nrv (u * nrv (y * p) 65536) 65536)] w fun e w' => e = .returned (.agg #[.int .i64 (dcy y u p), .int .i64 f, .int .i64 s]) ∧ Below w.heap.size w w') := by
  obtain ⟨a0, a1⟩ := mul_rng h.y0 h.y1 (X := 68719476736) (by decide) h.p0 h.p1
  obtain ⟨b0, b1⟩ := nrv_abs (n := y * p) (d := 65536) (K := 68719476736) (by decide) (by decide) (by omega) (by omega)
  obtain ⟨c0, c1⟩ := mul_rng h.u0 h.u1 (X := 68719476736) (by decide) b0 b1
  obtain ⟨d0, d1⟩ := nrv_abs (n := u * nrv (y * p) 65536) (d := 65536) (K := 17592186044416) (by decide) (by decide) (by omega) (by omega)
  have := h.p0; have := h.p1
  exact ⟨⟨w64 (by omega), w64 (by omega)⟩, fun w => asRealF _ 4611686018427387904 w (by omega) (by omega) (by decide), fun w => asRealF _ 4611686018427387904 w (by omega) (by omega) (by decide), fun w => lessByF p f s _ _ w (w64 (by omega))⟩
theorem plain_ok (h : PIn k z o y u p f s g) (w : World) : Calls Try.prog 91 #[.agg #[], .agg #[.int .i64 (dcy y u p), .int .i64 f, .int .i64 s], .int .i64 g, .int .i64 u] w fun e w' => e = .returned (.agg #[.int .i64 (nP 1 k z o y u p f s g), .int .i64 (nF 1 k f g), .int .i64 (nS 1 z s g)]) ∧ Below w.heap.size w w' := by
  obtain ⟨a0, a1⟩ := mul_rng h.u0 h.u1 (X := 16777216) (by decide) h.g0 h.g1
  obtain ⟨b0, b1⟩ := nrv_abs (n := u * g) (d := 65536) (K := 4294967296) (by decide) (by decide) (by omega) (by omega)
  obtain ⟨q0, q1⟩ := brg_rng (p - nrv (u * nrv (y * p) 65536) 65536)
  have q0 : -68719476736 ≤ dcy y u p := q0
  have q1 : dcy y u p ≤ 68719476736 := q1
  exact plainF (dcy y u p) f s g u (u * g) _ w (w64 (by omega)) (by omega) (by omega) (w64 (by omega))
theorem heavy_ok (h : PIn k z o y u p f s g) (w : World) : Calls Try.prog 92 #[.agg #[.int .i64 k], .agg #[.int .i64 (dcy y u p), .int .i64 f, .int .i64 s], .int .i64 g, .int .i64 u] w fun e w' => e = .returned (.agg #[.int .i64 (nP 2 k z o y u p f s g), .int .i64 (nF 2 k f g), .int .i64 (nS 2 z s g)]) ∧ Below w.heap.size w w' := by
  obtain ⟨a0, a1⟩ := mul_rng h.k0 h.k1 (X := 4294967296) (by decide) h.f0 h.f1
  obtain ⟨b0, b1⟩ := nrv_abs (n := k * f) (d := 65536) (K := 4294967296) (by decide) (by decide) (by omega) (by omega)
  obtain ⟨e0, e1⟩ := hvF_rng k f g
  obtain ⟨c0, c1⟩ := mul_rng h.u0 h.u1 (X := 4294967296) (by decide) e0 e1
  obtain ⟨d0, d1⟩ := nrv_abs (n := u * hvF k f g) (d := 65536) (K := 1099511627776) (by decide) (by decide) (by omega) (by omega)
  obtain ⟨q0, q1⟩ := brg_rng (p - nrv (u * nrv (y * p) 65536) 65536)
  have q0 : -68719476736 ≤ dcy y u p := q0
  have q1 : dcy y u p ≤ 68719476736 := q1
  have := h.g0; have := h.g1
  exact heavyF k (dcy y u p) f s g u (k * f) _ (hvF k f g) (u * hvF k f g) _ w (w64 (by omega)) (by omega) (by omega) (w64 (by omega)) rfl (w64 (by omega)) (by omega) (by omega) (w64 (by omega))
theorem root_lt {n v q : Int} (h : IsRt n v) (q0 : 0 ≤ q) (hq : n < (q + 1) * (q + 1)) : v ≤ q := by
  obtain ⟨v0, v1, -⟩ := h
  by_cases c : v ≤ q
  · exact c
  · have a1 : (q + 1) * (q + 1) ≤ (q + 1) * v := Int.mul_le_mul_of_nonneg_left (by omega) (by omega)
    have a2 : (q + 1) * v ≤ v * v := Int.mul_le_mul_of_nonneg_right (by omega) v0
    omega
theorem even_ok (h : PIn k z o y u p f s g) (w : World) : Calls Try.prog 93 #[.agg #[.int .i64 k, .int .i64 z, .int .i64 o], .agg #[.int .i64 (dcy y u p), .int .i64 f, .int .i64 s], .int .i64 g, .int .i64 u] w fun e w' => e = .returned (.agg #[.int .i64 (nP 3 k z o y u p f s g), .int .i64 (nF 3 k f g), .int .i64 (nS 3 z s g)]) ∧ Below w.heap.size w w' := by
  obtain ⟨a0, a1⟩ := mul_rng h.k0 h.k1 (X := 4294967296) (by decide) h.f0 h.f1
  obtain ⟨b0, b1⟩ := mul_rng (k := 65536 - k) (K := 65536) (by have := h.k1; omega) (by have := h.k0; omega) (X := 16777216) (by decide) h.g0 h.g1
  obtain ⟨m0, m1⟩ := mix_rng h.k0 h.k1 (X := 4294967296) (by decide) h.f0 h.f1 (show -4294967296 ≤ g by have := h.g0; omega) (by have := h.g1; omega)
  obtain ⟨e0, e1⟩ := evF_rng h.k0 h.k1 h.f0 h.f1 h.g0 h.g1
  obtain ⟨s0, s1⟩ := evS_rng h.z0 h.z1 h.s0 h.s1 h.g0 h.g1
  obtain ⟨g0, g1⟩ := sqg h.g0 h.g1
  obtain ⟨h0, h1⟩ := hg_rng h.g0 h.g1
  obtain ⟨i0, i1⟩ := mul_rng h.z0 h.z1 (X := 17179869184) (by decide) (show -17179869184 ≤ s by have := h.s0; omega) h.s1
  obtain ⟨j0, j1⟩ := mul_rng (k := 65536 - z) (K := 65536) (by have := h.z1; omega) (by have := h.z0; omega) (X := 4294967296) (by decide) (show -4294967296 ≤ nrv (g * g) 65536 by omega) h1
  obtain ⟨l0, l1⟩ := mix_rng h.z0 h.z1 (X := 17179869184) (by decide) (show -17179869184 ≤ s by have := h.s0; omega) h.s1 (show -17179869184 ≤ nrv (g * g) 65536 by omega) (by omega)
  obtain ⟨c0, c1⟩ := mul_rng h.u0 h.u1 (X := 4294967296) (by decide) e0 e1
  have hk0 := h.k0; have hk1 := h.k1; have hz0 := h.z0; have hz1 := h.z1
  obtain ⟨v, ⟨v0, v1⟩, hv, -, hvi⟩ := rootBoth (65536 * evS z s g) ⟨by omega, by omega⟩
  have rv : rtv (65536 * evS z s g) = v := rtv_is (hv (by omega) (by omega))
  have := h.o0; have := h.o1
  obtain ⟨t0, t1⟩ := nrv_abs (n := u * evF k f g) (d := v + o) (K := 72057594037927936) (by omega) (by decide) (by
      have : 72057594037927936 * 1 ≤ 72057594037927936 * (v + o) := Int.mul_le_mul_of_nonneg_left (by omega) (by decide)
      omega) (by
      have : 72057594037927936 * 1 ≤ 72057594037927936 * (v + o) := Int.mul_le_mul_of_nonneg_left (by omega) (by decide)
      omega)
  obtain ⟨q0, q1⟩ := brg_rng (p - nrv (u * nrv (y * p) 65536) 65536)
  have q0 : -68719476736 ≤ dcy y u p := q0
  have q1 : dcy y u p ≤ 68719476736 := q1
  have key := evenF k z o (dcy y u p) f s g u (k * f) (65536 - k) ((65536 - k) * g) (k * f + (65536 - k) * g) (evF k f g) (g * g) (nrv (g * g) 65536) (z * s) (65536 - z) ((65536 - z) * nrv (g * g) 65536) (z * s + (65536 - z) * nrv (g * g) 65536) (evS z s g) (u * evF k f g) (65536 * evS z s g) v (v + o) _ w
    (w64 (by omega)) (w64 (by omega)) (w64 (by omega)) (w64 (by omega)) (by omega) (by omega) rfl (w64 (by omega)) (by omega) (by omega) rfl (w64 (by omega)) (w64 (by omega)) (w64 (by omega)) (w64 (by omega)) (by omega) (by omega) rfl (w64 (by omega)) (by omega) (by omega) (w64 (by omega)) hvi (w64 (by omega)) (by omega) (by omega) (w64 (by omega))
  have e : nP 3 k z o y u p f s g = brg (dcy y u p - nrv (u * evF k f g) (v + o)) := by
    unfold nP nW
    rw [if_neg (by decide), if_neg (by decide), rv]
  rw [e]
  exact key
end
end Vo
end Go.Proofs.Ytflbhlepmjiejaa
