/- Lemmas for the proof of the law. -/
import Derived.Test.YtajljeegkmkkcaaRdc
/- The model's step under way. -/
namespace Go.Proofs.Ytajljeegkmkkcaa
namespace Vo
open Go.ChangeShapes Go.WideShapes Go.ChangeAt Go.RowKit Go.Joins Go.Sort
open Vl
set_option linter.unusedVariables false
/-- the new state lies in block v, its lists are p, f, q; what lay in X2 lies as it lay -/
structure SM (X2 X : World) (v n : Nat) (V : Nat → Value) (p f q : Option Addr) (PP FF SS : Nat → Int) : Prop where
  k : Kept (fun b => X2.heap.size ≤ b) X2 X
  cv : C6 X v V
  hv : X2.heap.size ≤ v
  P : OwnL X2.heap.size X p n PP
  F : OwnL X2.heap.size X f n FF
  S : OwnL X2.heap.size X q n SS
  uP : ∀ b, Blk p n b → b ≠ v
  uF : ∀ b, Blk f n b → b ≠ v
  uS : ∀ b, Blk q n b → b ≠ v
  pf : ∀ b b', Blk p n b → Blk f n b' → b < b'
  fs : ∀ b b', Blk f n b → Blk q n b' → b < b'
theorem bhd_lt {a b : Option Addr} {n : Nat} (h : Bhd a b n) : ∀ k k', Blk a n k → Blk b n k' → k < k' := by
  obtain ⟨N, h1, h2⟩ := h
  intro k k' h3 h4
  have := h1 k h3
  have := h2 k' h4
  omega
section
variable {X2 X X' : World} {v n : Nat} {V : Nat → Value} {p f q : Option Addr} {PP FF SS : Nat → Int}
theorem SM.below (h : SM X2 X v n V p f q PP FF SS) (b : Below X.heap.size X X') : SM X2 X' v n V p f q PP FF SS :=
  ⟨h.k.trans (Kept.of_below b), h.cv.kept (Kept.of_below (S := fun _ => False) b) id, h.hv, h.P.below b, h.F.below b, h.S.below b, h.uP, h.uF, h.uS, h.pf, h.fs⟩
theorem SM.cell (h : SM X2 X v n V p f q PP FF SS) {b o : Nat} {x : Value} (c : X2.cell? ⟨b, o, none⟩ = some x) : X.cell? ⟨b, o, none⟩ = some x := by
  have lt := World.block_lt_of_cell? _ _ c
  exact (World.cell?_of_block (w := X2) (a := ⟨b, o, none⟩) (h.k.block b lt (fun e => by have : X2.heap.size ≤ b := e; have : b < X2.heap.size := lt; omega))).trans c
theorem SM.ints (h : SM X2 X v n V p f q PP FF SS) {B r : Nat} {a : Option Addr} {D : Nat → Int} (i : Ints B X2 a r D) (hB : B ≤ X2.heap.size) : Ints B X a r D :=
  i.kept hB h.k (fun b hb e => by have : X2.heap.size ≤ b := e; omega)
theorem SM.size (h : SM X2 X v n V p f q PP FF SS) : X2.heap.size ≤ X.heap.size := h.k.size
theorem SM.setV (h : SM X2 X v n V p f q PP FF SS) (k : Nat) (x : Value) (hk : k < 6) : SM X2 (X.setCell ⟨v, k, none⟩ x) v n (upv V k x) p f q PP FF SS := by
  have kk : Kept (· = v) X (X.setCell ⟨v, k, none⟩ x) := Kept.setCell X ⟨v, k, none⟩ x
  exact ⟨h.k.trans (kk.mono fun b _ (e : b = v) => by show X2.heap.size ≤ b; have := h.hv; omega), h.cv.set k x hk, h.hv, h.P.kept kk (fun b hb e => h.uP b hb e), h.F.kept kk (fun b hb e => h.uF b hb e), h.S.kept kk (fun b hb e => h.uS b hb e), h.uP, h.uF, h.uS, h.pf, h.fs⟩
theorem SM.sameV (h : SM X2 X v n V p f q PP FF SS) {V' : Nat → Value} (e : ∀ i, i < 6 → V i = V' i) : SM X2 X v n V' p f q PP FF SS :=
  ⟨h.k, h.cv.same e, h.hv, h.P, h.F, h.S, h.uP, h.uF, h.uS, h.pf, h.fs⟩
theorem SM.same (h : SM X2 X v n V p f q PP FF SS) {A B C : Nat → Int} (e1 : ∀ i, i < n → A i = PP i) (e2 : ∀ i, i < n → B i = FF i) (e3 : ∀ i, i < n → C i = SS i) : SM X2 X v n V p f q A B C :=
  ⟨h.k, h.cv, h.hv, h.P.same e1, h.F.same e2, h.S.same e3, h.uP, h.uF, h.uS, h.pf, h.fs⟩
/-- number i turned -/
def upn (D : Nat → Int) (i : Nat) (x : Int) : Nat → Int := fun t => if t = i then x else D t
theorem own_put {B n : Nat} {W : World} {g i : Nat} {D : Nat → Int} {x : Int} (h : OwnL B W (some ⟨g, 0, none⟩) n D) (hi : i < n) (hx : bd x) : OwnL B (W.setCell ⟨g, i, none⟩ (.int .i64 x)) (some ⟨g, 0, none⟩) n (upn D i x) := by
  rcases h with h | ⟨g', e, hg, hr⟩
  · omega
  · cases e
    exact .inr ⟨g, rfl, hg, hr.set i x hx⟩
theorem blk_at {n g : Nat} (h : n ≠ 0) : Blk (some ⟨g, 0, none⟩) n g := ⟨h, _, rfl, rfl⟩
theorem blk_is {n g b : Nat} (h : Blk (some ⟨g, 0, none⟩) n b) : b = g := by obtain ⟨_, ad, e, rfl⟩ := h; cases e; rfl
theorem SM.setP0 {g i : Nat} {x : Int} (h : SM X2 X v n V (some ⟨g, 0, none⟩) f q PP FF SS) (hi : i < n) (hx : bd x) : SM X2 (X.setCell ⟨g, i, none⟩ (.int .i64 x)) v n V (some ⟨g, 0, none⟩) f q (upn PP i x) FF SS := by
  have kk : Kept (· = g) X (X.setCell ⟨g, i, none⟩ (.int .i64 x)) := Kept.setCell X ⟨g, i, none⟩ _
  have bg := blk_at (g := g) (show n ≠ 0 by omega)
  exact ⟨h.k.trans (kk.mono fun b _ (e : b = g) => by subst e; exact (h.P.blk bg).1), h.cv.kept kk (fun e => h.uP g bg e.symm), h.hv, own_put h.P hi hx, h.F.kept kk (fun b hb (e : b = g) => by have := h.pf g b bg hb; omega), h.S.kept kk (fun b hb (e : b = g) => by
    rcases h.F with h0 | ⟨g2, e2, _, _⟩
    · omega
    · have q1 := h.pf g g2 bg (e2 ▸ blk_at (by omega)); have q2 := h.fs g2 b (e2 ▸ blk_at (by omega)) hb; omega), h.uP, h.uF, h.uS, h.pf, h.fs⟩
theorem SM.setF0 {g i : Nat} {x : Int} (h : SM X2 X v n V p (some ⟨g, 0, none⟩) q PP FF SS) (hi : i < n) (hx : bd x) : SM X2 (X.setCell ⟨g, i, none⟩ (.int .i64 x)) v n V p (some ⟨g, 0, none⟩) q PP (upn FF i x) SS := by
  have kk : Kept (· = g) X (X.setCell ⟨g, i, none⟩ (.int .i64 x)) := Kept.setCell X ⟨g, i, none⟩ _
  have bg := blk_at (g := g) (show n ≠ 0 by omega)
  exact ⟨h.k.trans (kk.mono fun b _ (e : b = g) => by subst e; exact (h.F.blk bg).1), h.cv.kept kk (fun e => h.uF g bg e.symm), h.hv, h.P.kept kk (fun b hb (e : b = g) => by have := h.pf b g hb bg; omega), own_put h.F hi hx, h.S.kept kk (fun b hb (e : b = g) => by have := h.fs g b bg hb; omega), h.uP, h.uF, h.uS, h.pf, h.fs⟩
theorem SM.setS0 {g i : Nat} {x : Int} (h : SM X2 X v n V p f (some ⟨g, 0, none⟩) PP FF SS) (hi : i < n) (hx : bd x) : SM X2 (X.setCell ⟨g, i, none⟩ (.int .i64 x)) v n V p f (some ⟨g, 0, none⟩) PP FF (upn SS i x) := by
  have kk : Kept (· = g) X (X.setCell ⟨g, i, none⟩ (.int .i64 x)) := Kept.setCell X ⟨g, i, none⟩ _
  have bg := blk_at (g := g) (show n ≠ 0 by omega)
  exact ⟨h.k.trans (kk.mono fun b _ (e : b = g) => by subst e; exact (h.S.blk bg).1), h.cv.kept kk (fun e => h.uS g bg e.symm), h.hv, h.P.kept kk (fun b hb (e : b = g) => by
    rcases h.F with h0 | ⟨g2, e2, _, _⟩
    · omega
    · have q1 := h.pf b g2 hb (e2 ▸ blk_at (by omega)); have q2 := h.fs g2 g (e2 ▸ blk_at (by omega)) bg; omega), h.F.kept kk (fun b hb (e : b = g) => by have := h.fs b g hb bg; omega), own_put h.S hi hx, h.uP, h.uF, h.uS, h.pf, h.fs⟩
theorem SM.setP {g i : Nat} {x : Int} (h : SM X2 X v n V p f q PP FF SS) (hp : p = some ⟨g, 0, none⟩) (hi : i < n) (hx : bd x) : SM X2 (X.setCell ⟨g, i, none⟩ (.int .i64 x)) v n V p f q (upn PP i x) FF SS := by subst hp; exact h.setP0 hi hx
theorem SM.setF {g i : Nat} {x : Int} (h : SM X2 X v n V p f q PP FF SS) (hp : f = some ⟨g, 0, none⟩) (hi : i < n) (hx : bd x) : SM X2 (X.setCell ⟨g, i, none⟩ (.int .i64 x)) v n V p f q PP (upn FF i x) SS := by subst hp; exact h.setF0 hi hx
theorem SM.setS {g i : Nat} {x : Int} (h : SM X2 X v n V p f q PP FF SS) (hp : q = some ⟨g, 0, none⟩) (hi : i < n) (hx : bd x) : SM X2 (X.setCell ⟨g, i, none⟩ (.int .i64 x)) v n V p f q PP FF (upn SS i x) := by subst hp; exact h.setS0 hi hx
end
theorem ints_at {B n k : Nat} {W : World} {a : Option Addr} {D : Nat → Int} (h : Ints B W a n D) (hk : k < n) : ∃ b o, a = some ⟨b, o, none⟩ ∧ W.cell? ⟨b, o + k, none⟩ = some (.int .i64 (D k)) := by
  rcases h with h | ⟨b, o, e, _, hc⟩
  · omega
  · exact ⟨b, o, e, (hc k hk).1⟩
theorem own_at {B n k : Nat} {W : World} {p : Option Addr} {D : Nat → Int} (h : OwnL B W p n D) (hk : k < n) : ∃ g, p = some ⟨g, 0, none⟩ := by
  rcases h with h | ⟨g, e, _, _⟩
  · omega
  · exact ⟨g, e⟩
theorem own_cell {B n k g : Nat} {W : World} {p : Option Addr} {D : Nat → Int} (h : OwnL B W p n D) (hp : p = some ⟨g, 0, none⟩) (hk : k < n) : W.cell? ⟨g, k, none⟩ = some (.int .i64 (D k)) ∧ W.frozen? ⟨g, k, none⟩ = false := by
  rcases h with h | ⟨g', e, _, hr⟩
  · omega
  · rw [hp] at e; cases e; exact ⟨(hr k hk).1, (hr k hk).2.1⟩
theorem blk_of {n g : Nat} {p : Option Addr} (hp : p = some ⟨g, 0, none⟩) (h : n ≠ 0) : Blk p n g := ⟨h, _, hp, rfl⟩
end Vo
end Go.Proofs.Ytajljeegkmkkcaa

/- What the model's step reckons for one parameter, number by number. -/
namespace Go.Proofs.Ytajljeegkmkkcaa
namespace Vo
open Go.ChangeShapes Go.WideShapes Go.ChangeAt Go.RowKit Go.Joins Go.Sort
open Vl
set_option linter.unusedVariables false
/-- Near of A by d is r -/
def NearC (A d r : Int) : Prop := ∀ W, Calls Try.prog 27 #[.int .i64 A, .int .i64 d] W fun e w' => e = .returned (.int .i64 r) ∧ Below W.heap.size W w'
theorem nearC {A : Int} (h : -4611686018427387904 ≤ A ∧ A ≤ 4611686018427387904) : NearC A 65536 (nrv A 65536) := fun W => nearS A 65536 4611686018427387904 h.1 h.2 (by decide) (by decide) (by decide) W
theorem bringS (x : Int) (W : World) : Calls Try.prog 30 #[.int .i64 x] W fun e w' => e = .returned (.int .i64 (brg x)) ∧ Below W.heap.size W w' := by
  have C := hide (fun W => clipS (-68719476736) 68719476736 x W)
  go_enter Try.func30, Try.ntmps30
  go_wp2_with fail
  refine (C.out _).mono ?_; rintro e1 w1 ⟨rfl, hq⟩; have hq := hq.symm; subst hq
  go_wp2_with fail
  go_ret
  exact ⟨rfl, Below.refl _ _⟩
theorem dcy_zero {u p : Int} (p0 : -68719476736 ≤ p) (p1 : p ≤ 68719476736) : dcy 0 u p = p := by
  have e : nrv (0 : Int) 65536 = 0 := by decide +kernel
  unfold dcy
  rw [Int.zero_mul, e, Int.mul_zero, e, Int.sub_zero]
  exact cl_in ⟨p0, p1⟩
section
variable {k z o y u p f s g : Int}
theorem decS (h : PIn k z o y u p f s g) : ∃ A r1 B r2 C : Int, IntKind.i64.wrap (y * p) = A ∧ NearC A 65536 r1 ∧ IntKind.i64.wrap (u * r1) = B ∧ NearC B 65536 r2 ∧ IntKind.i64.wrap (p - r2) = C ∧ brg C = dcy y u p := by
  obtain ⟨a0, a1⟩ := mul_rng h.y0 h.y1 (X := 68719476736) (by decide) h.p0 h.p1
  obtain ⟨b0, b1⟩ := nrv_abs (n := y * p) (d := 65536) (K := 68719476736) (by decide) (by decide) (by omega) (by omega)
  obtain ⟨c0, c1⟩ := mul_rng h.u0 h.u1 (X := 68719476736) (by decide) b0 b1
  obtain ⟨d0, d1⟩ := nrv_abs (n := u * nrv (y * p) 65536) (d := 65536) (K := 17592186044416) (by decide) (by decide) (by omega) (by omega)
  have := h.p0; have := h.p1
  exact ⟨y * p, _, u * nrv (y * p) 65536, _, _, w64 (by omega), nearC (by omega), w64 (by omega), nearC (by omega), w64 (by omega), rfl⟩
theorem dcy_in (h : PIn k z o y u p f s g) : -68719476736 ≤ dcy y u p ∧ dcy y u p ≤ 68719476736 := brg_rng _
theorem plainS (h : PIn k z o y u p f s g) : ∃ A r1 C : Int, IntKind.i64.wrap (u * g) = A ∧ NearC A 65536 r1 ∧ IntKind.i64.wrap (dcy y u p - r1) = C ∧ brg C = nP 1 k z o y u p f s g := by
  obtain ⟨a0, a1⟩ := mul_rng h.u0 h.u1 (X := 16777216) (by decide) h.g0 h.g1
  obtain ⟨b0, b1⟩ := nrv_abs (n := u * g) (d := 65536) (K := 4294967296) (by decide) (by decide) (by omega) (by omega)
  obtain ⟨q0, q1⟩ := dcy_in h
  exact ⟨u * g, _, _, w64 (by omega), nearC (by omega), w64 (by omega), rfl⟩
theorem heavyS (h : PIn k z o y u p f s g) : ∃ A r1 B F A2 r2 C : Int, IntKind.i64.wrap (k * f) = A ∧ NearC A 65536 r1 ∧ IntKind.i64.wrap (r1 + g) = B ∧ cl (-4294967296) 4294967296 B = F ∧ F = nF 2 k f g ∧ IntKind.i64.wrap (u * F) = A2 ∧ NearC A2 65536 r2 ∧ IntKind.i64.wrap (dcy y u p - r2) = C ∧ brg C = nP 2 k z o y u p f s g := by
  obtain ⟨a0, a1⟩ := mul_rng h.k0 h.k1 (X := 4294967296) (by decide) h.f0 h.f1
  obtain ⟨b0, b1⟩ := nrv_abs (n := k * f) (d := 65536) (K := 4294967296) (by decide) (by decide) (by omega) (by omega)
  obtain ⟨e0, e1⟩ := hvF_rng k f g
  obtain ⟨c0, c1⟩ := mul_rng h.u0 h.u1 (X := 4294967296) (by decide) e0 e1
  obtain ⟨d0, d1⟩ := nrv_abs (n := u * hvF k f g) (d := 65536) (K := 1099511627776) (by decide) (by decide) (by omega) (by omega)
  obtain ⟨q0, q1⟩ := dcy_in h
  have := h.g0; have := h.g1
  exact ⟨k * f, _, nrv (k * f) 65536 + g, hvF k f g, u * hvF k f g, _, _, w64 (by omega), nearC (by omega), w64 (by omega), rfl, rfl, w64 (by omega), nearC (by omega), w64 (by omega), rfl⟩
/-- a root, as the model has it -/
def RootC (n v : Int) : Prop := ∀ W, Calls Try.prog 32 #[.int .i64 n] W fun e w' => e = .returned (.int .i64 v) ∧ Below W.heap.size W w'
theorem evenS (h : PIn k z o y u p f s g) : ∃ A B C D F H I J K L M S T N v Q r2 X : Int, IntKind.i64.wrap (k * f) = A ∧ IntKind.i64.wrap (65536 - k) = B ∧ IntKind.i64.wrap (B * g) = C ∧ IntKind.i64.wrap (A + C) = D ∧ NearC D 65536 F ∧ F = nF 3 k f g ∧
    IntKind.i64.wrap (z * s) = H ∧ IntKind.i64.wrap (65536 - z) = I ∧ IntKind.i64.wrap (g * g) = J ∧ NearC J 65536 K ∧ IntKind.i64.wrap (I * K) = L ∧ IntKind.i64.wrap (H + L) = M ∧ NearC M 65536 S ∧ S = nS 3 z s g ∧
    IntKind.i64.wrap (u * F) = T ∧ IntKind.i64.wrap (65536 * S) = N ∧ RootC N v ∧ IntKind.i64.wrap (v + o) = Q ∧ NearC T Q r2 ∧ IntKind.i64.wrap (dcy y u p - r2) = X ∧ brg X = nP 3 k z o y u p f s g := by
  obtain ⟨a0, a1⟩ := mul_rng h.k0 h.k1 (X := 4294967296) (by decide) h.f0 h.f1
  obtain ⟨b0, b1⟩ := mul_rng (k := 65536 - k) (K := 65536) (by have := h.k1; omega) (by have := h.k0; omega) (X := 16777216) (by decide) h.g0 h.g1
  obtain ⟨m0, m1⟩ := mix_rng h.k0 h.k1 (X := 4294967296) (by decide) h.f0 h.f1 (show -4294967296 ≤ g by have := h.g0; omega) (by have := h.g1; omega)
  obtain ⟨e0, e1⟩ := evF_rng h.k0 h.k1 h.f0 h.f1 h.g0 h.g1
  obtain ⟨s0, s1⟩ := evS_rng h.z0 h.z1 h.s0 h.s1 h.g0 h.g1
  obtain ⟨g0, g1⟩ := sqg h.g0 h.g1
  obtain ⟨h0, h1⟩ := hg_rng h.g0 h.g1
  obtain ⟨i0, i1⟩ := mul_rng h.z0 h.z1 (X := 17179869184) (by decide) (show -17179869184 ≤ s by have := h.s0; omega) h.s1
  obtain ⟨j0, j1⟩ := mul_rng (k := 65536 - z) (K := 65536) (by have := h.z1; omega) (by have := h.z0; omega) (X := 4294967296) (by decide) (show -4294967296 ≤ nrv (g * g) 65536 by omega) h1
  obtain ⟨l0, l1⟩ := mix_rng h.z0 h.z1 (X := 17179869184) (by decide) (show -17179869184 ≤ s by have := h.s0; omega) h.s1 (show -17179869184 ≤ nrv (g * g) 65536 by omega) (by omega)
  obtain ⟨c0, c1⟩ := mul_rng h.u0 h.u1 (X := 4294967296) (by decide) e0 e1
  have hk0 := h.k0; have hk1 := h.k1; have hz0 := h.z0; have hz1 := h.z1
  obtain ⟨v, ⟨v0, v1⟩, hv, hvs, -⟩ := rootBoth (65536 * evS z s g) ⟨by omega, by omega⟩
  have rv : rtv (65536 * evS z s g) = v := rtv_is (hv (by omega) (by omega))
  have := h.o0; have := h.o1
  have t2 : 72057594037927936 * 1 ≤ 72057594037927936 * (v + o) := Int.mul_le_mul_of_nonneg_left (by omega) (by decide)
  obtain ⟨t0, t1⟩ := nrv_abs (n := u * evF k f g) (d := v + o) (K := 72057594037927936) (by omega) (by decide) (by omega) (by omega)
  obtain ⟨q0, q1⟩ := dcy_in h
  have e : nP 3 k z o y u p f s g = brg (dcy y u p - nrv (u * evF k f g) (v + o)) := by
    unfold nP nW
    rw [if_neg (by decide), if_neg (by decide), rv]
  exact ⟨k * f, 65536 - k, (65536 - k) * g, k * f + (65536 - k) * g, evF k f g, z * s, 65536 - z, g * g, nrv (g * g) 65536, (65536 - z) * nrv (g * g) 65536, z * s + (65536 - z) * nrv (g * g) 65536, evS z s g, u * evF k f g, 65536 * evS z s g, v, v + o, nrv (u * evF k f g) (v + o), _,
    w64 (by omega), w64 (by omega), w64 (by omega), w64 (by omega), nearC (by omega), rfl, w64 (by omega), w64 (by omega), w64 (by omega), nearC (by omega), w64 (by omega), w64 (by omega), nearC (by omega), rfl, w64 (by omega), w64 (by omega), hvs, w64 (by omega),
    fun W => nearS _ _ 4611686018427387904 (by omega) (by omega) (by decide) (by omega) (by omega) W, w64 (by omega), e.symm⟩
end
end Vo
end Go.Proofs.Ytajljeegkmkkcaa
