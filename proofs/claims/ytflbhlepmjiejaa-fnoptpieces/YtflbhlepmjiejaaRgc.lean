/- What the model's step reckons for one parameter, number by number. -/
import Derived.Test.YtflbhlepmjiejaaRec
namespace Go.Proofs.Ytflbhlepmjiejaa
namespace Vo
open Go.ChangeShapes Go.WideShapes Go.ChangeAt Go.RowKit Go.Joins Go.Sort
open Vl
set_option linter.unusedVariables false
/-- Near of A by d is r -/
def NearC (A d r : Int) : Prop := ∀ W, Calls Try.prog 33 #[.int .i64 A, .int .i64 d] W fun e w' => e = .returned (.int .i64 r) ∧ Below W.heap.size W w'
theorem nearC {A : Int} (h : -4611686018427387904 ≤ A ∧ A ≤ 4611686018427387904) : NearC A 65536 (nrv A 65536) := fun W => nearS A 65536 4611686018427387904 h.1 h.2 (by decide) (by decide) (by decide) W
theorem bringS (x : Int) (W : World) : Calls Try.prog 36 #[.int .i64 x] W fun e w' => e = .returned (.int .i64 (brg x)) ∧ Below W.heap.size W w' := by
  have C := hide (fun W => clipS (-68719476736) 68719476736 x W)
  go_enter Try.func36, Try.ntmps36
  go_wp2_with fail
  refine (C.out _).mono ?_; rintro e1 w1 ⟨rfl, hq⟩; have hq := hq.symm; subst hq
  go_wp2_with fail
  go_ret
  exact ⟨rfl, Below.refl _ _⟩
theorem dcy_zero {u p : Int} (p0 : -68719476736 ≤ p) (p1 : p ≤ 68719476736) : dcy 0 u p = p := by
  have e : nrv (0 : Int) 65536 = 0 := by decide +kernel
  unfold dcy
  rw [Int.zero_mul, e, Int.mul_zero, e, Int.sub_zero]
  exact cl_in ⟨p0, p1⟩
section
variable {k z o y u p f s g : Int}
theorem decS (h : PIn k z o y u p f s g) : ∃ A r1 B r2 C : Int, IntKind.i64.wrap (y * p) = A ∧ NearC A 65536 r1 ∧ IntKind.i64.wrap (u * r1) = B ∧ NearC B 65536 r2 ∧ IntKind.i64.wrap (p - r2) = C ∧ brg C = dcy y u p := by
  obtain ⟨a0, a1⟩ := mul_rng h.y0 h.y1 (X := 68719476736) (by decide) h.p0 h.p1
  obtain ⟨b0, b1⟩ := nrv_abs (n := y * p) (d := 65536) (K := 68719476736) (by decide) (by decide) (by omega) (by omega)
  obtain ⟨c0, c1⟩ := mul_rng h.u0 h.u1 (X := 68719476736) (by decide) b0 b1
  obtain ⟨d0, d1⟩ := nrv_abs (n := u * nrv (y * p) 65536) (d := 65536) (K := 17592186044416) (by decide) (by decide) (by omega) (by omega)
  have := h.p0; have := h.p1
  exact ⟨y * p, _, u * nrv (y * p) 65536, _, _, w64 (by omega), nearC (by omega), w64 (by omega), nearC (by omega), w64 (by omega), rfl⟩
theorem dcy_in (h : PIn k z o y u p f s g) : -68719476736 ≤ dcy y u p ∧ dcy y u p ≤ 68719476736 := brg_rng _
theorem plainS (h : PIn k z o y u p f s g) : ∃ A r1 C : Int, IntKind.i64.wrap (u * g) = A ∧ NearC A 65536 r1 ∧ IntKind.i64.wrap (dcy y u p - r1) = C ∧ brg C = nP 1 k z o y u p f s g := by
  obtain ⟨a0, a1⟩ := mul_rng h.u0 h.u1 (X := 16777216) (by decide) h.g0 h.g1
  obtain ⟨b0, b1⟩ := nrv_abs (n := u * g) (d := 65536) (K := 4294967296) (by decide) (by decide) (by omega) (by omega)
  obtain ⟨q0, q1⟩ := dcy_in h
  exact ⟨u * g, _, _, w64 (by omega), nearC (by omega), w64 (by omega), rfl⟩
theorem heavyS (h : PIn k z o y u p f s g) : ∃ A r1 B F A2 r2 C : Int, IntKind.i64.wrap (k * f) = A ∧ NearC A 65536 r1 ∧ IntKind.i64.wrap (r1 + g) = B ∧ cl (-4294967296) 4294967296 B = F ∧ F = nF 2 k f g ∧ IntKind.i64.wrap (u * F) = A2 ∧ NearC A2 65536 r2 ∧ IntKind.i64.wrap (dcy y u p - r2) = C ∧ brg C = nP 2 k z o y u p f s g := by
  obtain ⟨a0, a1⟩ := mul_rng h.k0 h.k1 (X := 4294967296) (by decide) h.f0 h.f1
  obtain ⟨b0, b1⟩ := nrv_abs (n := k * f) (d := 65536) (K := 4294967296) (by decide) (by decide) (by omega) (by omega)
  obtain ⟨e0, e1⟩ := hvF_rng k f g
  obtain ⟨c0, c1⟩ := mul_rng h.u0 h.u1 (X := 4294967296) (by decide) e0 e1
  obtain ⟨d0, d1⟩ := nrv_abs (n := u * hvF k f g) (d := 65536) (K := 1099511627776) (by decide) (by decide) (by omega) (by omega)
  obtain ⟨q0, q1⟩ := dcy_in h
  have := h.g0; have := h.g1
  exact ⟨k * f, _, nrv (k * f) 65536 + g, hvF k f g, u * hvF k f g, _, _, w64 (by omega), nearC (by omega), w64 (by omega), rfl, rfl, w64 (by omega), nearC (by omega), w64 (by omega), rfl⟩
/-- a root, as the model has it -/
def RootC (n v : Int) : Prop := ∀ W, Calls Try.prog 38 #[.int .i64 n] W fun e w' => e = .returned (.int .i64 v) ∧ Below W.heap.size W w'
theorem evenS (h : PIn k z o y u p f s g) : ∃ A B C D F H I J K L M S T N v Q r2 X : Int, IntKind.i64.wrap (k * f) = A ∧ IntKind.i64.wrap (65536 - k) = B ∧ IntKind.i64.wrap (B * g) = C ∧ IntKind.i64.wrap (A + C) = D ∧ NearC D 65536 F ∧ F = nF 3 k f g ∧
    IntKind.i64.wrap (z * s) = H ∧ IntKind.i64.wrap (65536 - z) = I ∧ IntKind.i64.wrap (g * g) = J ∧ NearC J 65536 K ∧ IntKind.i64.wrap (I * K) = L ∧ IntKind.i64.wrap (H + L) = M ∧ NearC M 65536 S ∧ S = nS 3 z s g ∧
    IntKind.i64.wrap (u * F) = T ∧ IntKind.i64.wrap (65536 * S) = N ∧ RootC N v ∧ IntKind.i64.wrap (v + o) = Q ∧ NearC T Q r2 ∧ IntKind.i64.wrap (dcy y u p - r2) = X ∧ brg X = nP 3 k z o y u p f s g := by
  obtain ⟨a0, a1⟩ := mul_rng h.k0 h.k1 (X := 4294967296) (by decide) h.f0 h.f1
  obtain ⟨b0, b1⟩ := mul_rng (k := 65536 - k) (K := 65536) (by have := h.k1; omega) (by have := h.k0; omega) (X := 16777216) (by decide) h.g0 h.g1
  obtain ⟨m0, m1⟩ := mix_rng h.k0 h.k1 (X := 4294967296) (by decide) h.f0 h.f1 (show -4294967296 ≤ g by have := h.g0; omega) (by have := h.g1; omega)
  obtain ⟨e0, e1⟩ := evF_rng h.k0 h.k1 h.f0 h.f1 h.g0 h.g1
  obtain ⟨s0, s1⟩ := evS_rng h.z0 h.z1 h.s0 h.s1 h.g0 h.g1
  obtain ⟨g0, g1⟩ := sqg h.g0 h.g1
  obtain ⟨h0, h1⟩ := hg_rng h.g0 h.g1
  obtain ⟨i0, i1⟩ := mul_rng h.z0 h.z1 (X := 17179869184) (by decide) (show -17179869184 ≤ s by have := h.s0; omega) h.s1
  obtain ⟨j0, j1⟩ := mul_rng (k := 65536 - z) (K := 65536) (by have := h.z1; omega) (by have := h.z0; omega) (X := 4294967296) (by decide) (show -4294967296 ≤ nrv (g * g) 65536 by omega) h1
  obtain ⟨l0, l1⟩ := mix_rng h.z0 h.z1 (X := 17179869184) (by decide) (show -17179869184 ≤ s by have := h.s0; omega) h.s1 (show -17179869184 ≤ nrv (g * g) 65536 by omega) (by omega)
  obtain ⟨c0, c1⟩ := mul_rng h.u0 h.u1 (X := 4294967296) (by decide) e0 e1
  have hk0 := h.k0; have hk1 := h.k1; have hz0 := h.z0; have hz1 := h.z1
  obtain ⟨v, ⟨v0, v1⟩, hv, hvs, -⟩ := rootBoth (65536 * evS z s g) ⟨by omega, by omega⟩
  have rv : rtv (65536 * evS z s g) = v := rtv_is (hv (by omega) (by omega))
  have := h.o0; have := h.o1
  have t2 : 72057594037927936 * 1 ≤ 72057594037927936 * (v + o) := Int.mul_le_mul_of_nonneg_left (by omega) (by decide)
  obtain ⟨t0, t1⟩ := nrv_abs (n := u * evF k f g) (d := v + o) (K := 72057594037927936) (by omega) (by decide) (by omega) (by omega)
  obtain ⟨q0, q1⟩ := dcy_in h
  have e : nP 3 k z o y u p f s g = brg (dcy y u p - nrv (u * evF k f g) (v + o)) := by
    unfold nP nW
    rw [if_neg (by decide), if_neg (by decide), rv]
  exact ⟨k * f, 65536 - k, (65536 - k) * g, k * f + (65536 - k) * g, evF k f g, z * s, 65536 - z, g * g, nrv (g * g) 65536, (65536 - z) * nrv (g * g) 65536, z * s + (65536 - z) * nrv (g * g) 65536, evS z s g, u * evF k f g, 65536 * evS z s g, v, v + o, nrv (u * evF k f g) (v + o), _,
    w64 (by omega), w64 (by omega), w64 (by omega), w64 (by omega), nearC (by omega), rfl, w64 (by omega), w64 (by omega), w64 (by omega), nearC (by omega), w64 (by omega), w64 (by omega), nearC (by omega), rfl, w64 (by omega), w64 (by omega), hvs, w64 (by omega),
    fun W => nearS _ _ 4611686018427387904 (by omega) (by omega) (by decide) (by omega) (by omega) W, w64 (by omega), e.symm⟩
end
end Vo
end Go.Proofs.Ytflbhlepmjiejaa
