/- Nests in memory: measured, copied, compared. -/
import Derived.Test.YtgmjijjckedmcaaJe
namespace Go.Proofs.Ytgmjijjckedmcaa
namespace Vo
open Go.ChangeShapes Go.WideShapes Go.ChangeAt Go.RowKit Go.Joins Go.Sort
open Vl Vp
set_option linter.unusedVariables false
set_option linter.unusedSimpArgs false
/-- a nest: sizes, ins, what is fixed, kernels, outs -/
structure NV where
  sa : Option Addr
  sn : Nat
  scap : Nat
  SD : Nat → Int
  ia : Option Addr
  i : Nat
  icap : Nat
  ID : Nat → Int
  fa : Option Addr
  fn : Nat
  fcap : Nat
  FF : Nat → FV
  ka : Option Addr
  kn : Nat
  kcap : Nat
  KK : Nat → KV
  oa : Option Addr
  on : Nat
  ocap : Nat
  OD : Nat → Int
def NV.val (v : NV) : Value := .agg #[.slice v.sa v.sn v.scap, .slice v.ia v.i v.icap, .slice v.fa v.fn v.fcap, .slice v.ka v.kn v.kcap, .slice v.oa v.on v.ocap]
def NV.read (B : Nat) (w : World) (v : NV) : Prop := Ints B w v.sa v.sn v.SD ∧ Ints B w v.ia v.i v.ID ∧ LF B w v.fa v.fn v.FF ∧ LK B w v.ka v.kn v.KK ∧ Ints B w v.oa v.on v.OD
theorem NV.read.below {B : Nat} {w w' : World} {v : NV} (h : v.read B w) (hb : Below B w w') : v.read B w' := ⟨h.1.below hb, h.2.1.below hb, h.2.2.1.below hb, h.2.2.2.1.below hb, h.2.2.2.2.below hb⟩
theorem NV.read.mono {B B' : Nat} {w : World} {v : NV} (h : v.read B w) (hb : B ≤ B') : v.read B' w := ⟨h.1.mono hb, h.2.1.mono hb, h.2.2.1.mono hb, h.2.2.2.1.mono hb, h.2.2.2.2.mono hb⟩
def NV.len (v : NV) (m : Int) : Prop := (v.sn : Int) ≤ m ∧ (v.i : Int) ≤ m ∧ ((v.fn : Int) ≤ m ∧ FLen v.fn v.FF m) ∧ ((v.kn : Int) ≤ m ∧ KLen v.kn v.KK m) ∧ (v.on : Int) ≤ m
set_option maxHeartbeats 1000000 in
theorem szNest (B : Nat) (v : NV) (l : Int) (w : World) (hB : B ≤ w.heap.size) (h : v.read B w) (hl : v.len 9223372036854775807) (l0 : 0 ≤ l) (l1 : l ≤ 1048576) :
    Calls Try.prog 5 #[v.val, .int .i64 l] w fun e w' => ∃ x : Int, e = .returned (.int .i64 x) ∧ (0 ≤ x → v.len 1048576) ∧ Below w.heap.size w w' := by
  obtain ⟨sa, sn, scap, SD, ia, i, icap, ID, fa, fn, fcap, FF, ka, kn, kcap, KK, oa, on, ocap, OD⟩ := v
  obtain ⟨_, _, h3, h4, _⟩ := h
  obtain ⟨l2, l3, ⟨l4, l5⟩, ⟨l6, l7⟩, l8⟩ := hl
  have bl := hide (show Below w.heap.size w (w.alloc (.cells #[.slice sa sn scap, .slice ia i icap, .slice fa fn fcap, .slice ka kn kcap, .slice oa on ocap] 26)) from (Below.refl _ _).alloc (Nat.le_refl _) _)
  have H3 := hide h3
  have H4 := hide h4
  have L5 := hide l5
  have L7 := hide l7
  clear h3 h4 l5 l7
  unfold NV.val
  dsimp only at *
  go_enter Try.func5, Try.ntmps5
  go_wp2_with fail
  refine (szIntS sa sn scap l _ l0 l1 l2).mono ?_; rintro e w1 ⟨x, rfl, hx, rfl⟩
  have HX := hide hx
  clear hx
  by_cases hx0 : x < 0
  · go_wp2_with fail
    go_ret
    exact ⟨_, rfl, fun h => by omega, bl.out⟩
  have hx0' : decide (x < 0) = false := by rw [decide_eq_false_iff_not]; exact hx0
  have hxl : x ≤ 1048576 := by have := HX.out; unfold Sz at this; omega
  have hx1 : 0 ≤ x := by omega
  clear hx0
  go_wp2_with fail
  refine (szIntS ia i icap x _ hx1 hxl l3).mono ?_; rintro e w1 ⟨y, rfl, hy, rfl⟩
  have HY := hide hy
  clear hy
  by_cases hy0 : y < 0
  · go_wp2_with fail
    go_ret
    exact ⟨_, rfl, fun h => by omega, bl.out⟩
  have hy0' : decide (y < 0) = false := by rw [decide_eq_false_iff_not]; exact hy0
  have hyl : y ≤ 1048576 := by have := HY.out; unfold Sz at this; omega
  have hy1 : 0 ≤ y := by omega
  clear hy0
  go_wp2_with fail
  refine (szFixS B fa fn fcap FF y _ (Nat.le_trans hB bl.out.size) (H3.out.below (bl.out.mono hB)) l4 L5.out hy1 hyl).mono ?_; rintro e w2 ⟨z, rfl, hz, b2⟩
  have HZ := hide hz
  have hc := old_cells b2
  have c0 := fun i => hc w.heap.size i (by simp)
  have BL2 := hide (bl.out.trans (b2.mono bl.out.size))
  have ws2 : w.heap.size < w2.heap.size := by have := b2.size; simp at this; omega
  clear hz b2 hc
  by_cases hz0 : z < 0
  · go_wp2_with fail
    go_ret
    exact ⟨_, rfl, fun h => by omega, BL2.out⟩
  have hz0' : decide (z < 0) = false := by rw [decide_eq_false_iff_not]; exact hz0
  have hz1 : 0 ≤ z := by omega
  obtain ⟨hzl, zn, zs⟩ := HZ.out hz1
  have ZS := hide zs
  clear hz0 zs
  go_wp2_with fail
  refine (szKernelS B ka kn kcap KK z _ (Nat.le_trans hB BL2.out.size) (H4.out.below (BL2.out.mono hB)) l6 L7.out hz1 hzl).mono ?_; rintro e w3 ⟨t, rfl, ht, b3⟩
  have HT := hide ht
  have hc := old_cells b3
  have c1 := fun i => hc w.heap.size i (by omega)
  have BL3 := hide (BL2.out.trans (b3.mono BL2.out.size))
  clear ht b3 hc
  by_cases ht0 : t < 0
  · go_wp2_with fail
    go_ret
    exact ⟨_, rfl, fun h => by omega, BL3.out⟩
  have ht0' : decide (t < 0) = false := by rw [decide_eq_false_iff_not]; exact ht0
  have ht1 : 0 ≤ t := by omega
  obtain ⟨htl, tn, ts⟩ := HT.out ht1
  have TS := hide ts
  clear ht0 ts
  go_wp2_with fail
  refine (szIntS oa on ocap t _ ht1 htl l8).mono ?_; rintro e w4 ⟨q, rfl, hq, rfl⟩
  have HQ := hide hq
  clear hq
  by_cases hq0 : q < 0
  · go_wp2_with fail
    go_ret
    exact ⟨_, rfl, fun h => by omega, BL3.out⟩
  have hq0' : decide (q < 0) = false := by rw [decide_eq_false_iff_not]; exact hq0
  go_wp2_with fail
  go_ret
  refine ⟨_, rfl, fun _ => ?_, BL3.out⟩
  have e1 := HX.out
  have e2 := HY.out
  have e3 := HQ.out
  unfold Sz at e1 e2 e3
  exact ⟨by show (sn : Int) ≤ 1048576; omega, by show (i : Int) ≤ 1048576; omega, ⟨zn, flen_of ZS.out⟩, ⟨tn, TS.out⟩, by show (on : Int) ≤ 1048576; omega⟩
def Cells5 (w : World) (p : Nat) (v0 v1 v2 v3 v4 : Value) : Prop := w.cell? ⟨p, 0, none⟩ = some v0 ∧ w.cell? ⟨p, 1, none⟩ = some v1 ∧ w.cell? ⟨p, 2, none⟩ = some v2 ∧ w.cell? ⟨p, 3, none⟩ = some v3 ∧ w.cell? ⟨p, 4, none⟩ = some v4
theorem Cells5.new (w : World) (v0 v1 v2 v3 v4 : Value) (t : TypeId) : Cells5 (w.alloc (.cells #[v0, v1, v2, v3, v4] t)) w.heap.size v0 v1 v2 v3 v4 := by
  unfold Cells5
  simp [go_sem]
theorem Cells5.of {w w' : World} {p : Nat} {v0 v1 v2 v3 v4 : Value} (h : Cells5 w p v0 v1 v2 v3 v4) (c : ∀ i, w'.cell? ⟨p, i, none⟩ = w.cell? ⟨p, i, none⟩) : Cells5 w' p v0 v1 v2 v3 v4 := by
  unfold Cells5
  rw [c, c, c, c, c]
  exact h
theorem Cells5.below {B : Nat} {w w' : World} {p : Nat} {v0 v1 v2 v3 v4 : Value} (h : Cells5 w p v0 v1 v2 v3 v4) (hb : Below B w w') (hp : p < B) : Cells5 w' p v0 v1 v2 v3 v4 := h.of (fun i => hb.cell (p := ⟨p, i, none⟩) hp)
theorem Cells5.kept {T : Nat → Prop} {w w' : World} {p : Nat} {v0 v1 v2 v3 v4 : Value} (h : Cells5 w p v0 v1 v2 v3 v4) (hk : Kept T w w') (hp : p < w.heap.size) (hn : ¬ T p) : Cells5 w' p v0 v1 v2 v3 v4 := h.of (fun i => World.cell?_of_block (w := w) (a := ⟨p, i, none⟩) (hk.block p hp hn))
theorem Cells5.set {w : World} {p : Nat} {v0 v1 v2 v3 v4 : Value} (h : Cells5 w p v0 v1 v2 v3 v4) (v : Value) :
    (Cells5 (w.setCell ⟨p, 0, none⟩ v) p v v1 v2 v3 v4) ∧ (Cells5 (w.setCell ⟨p, 1, none⟩ v) p v0 v v2 v3 v4) ∧ (Cells5 (w.setCell ⟨p, 2, none⟩ v) p v0 v1 v v3 v4) ∧ (Cells5 (w.setCell ⟨p, 3, none⟩ v) p v0 v1 v2 v v4) ∧ (Cells5 (w.setCell ⟨p, 4, none⟩ v) p v0 v1 v2 v3 v) := by
  obtain ⟨h0, h1, h2, h3, h4⟩ := h
  have same : ∀ i x, w.cell? ⟨p, i, none⟩ = some x → (w.setCell ⟨p, i, none⟩ v).cell? ⟨p, i, none⟩ = some v := fun i x hx => World.cell?_setCell_same _ _ _ hx
  have other : ∀ i j x, j ≠ i → w.cell? ⟨p, j, none⟩ = some x → (w.setCell ⟨p, i, none⟩ v).cell? ⟨p, j, none⟩ = some x := fun i j x n hx => by rw [World.cell?_setCell_other _ _ _ _ (by intro e; injection e with _ e _; omega)]; exact hx
  unfold Cells5
  exact ⟨⟨same 0 _ h0, other 0 1 _ (by omega) h1, other 0 2 _ (by omega) h2, other 0 3 _ (by omega) h3, other 0 4 _ (by omega) h4⟩,
    ⟨other 1 0 _ (by omega) h0, same 1 _ h1, other 1 2 _ (by omega) h2, other 1 3 _ (by omega) h3, other 1 4 _ (by omega) h4⟩,
    ⟨other 2 0 _ (by omega) h0, other 2 1 _ (by omega) h1, same 2 _ h2, other 2 3 _ (by omega) h3, other 2 4 _ (by omega) h4⟩,
    ⟨other 3 0 _ (by omega) h0, other 3 1 _ (by omega) h1, other 3 2 _ (by omega) h2, same 3 _ h3, other 3 4 _ (by omega) h4⟩,
    ⟨other 4 0 _ (by omega) h0, other 4 1 _ (by omega) h1, other 4 2 _ (by omega) h2, other 4 3 _ (by omega) h3, same 4 _ h4⟩⟩
/-- three variables of five cells -/
structure TN (w W : World) (a0 a1 a2 a3 a4 z0 z1 z2 z3 z4 o0 o1 o2 o3 o4 : Value) : Prop where
  x : Cells5 W w.heap.size a0 a1 a2 a3 a4
  r : Cells5 W (w.heap.size + 1) z0 z1 z2 z3 z4
  f : Fr W (w.heap.size + 1)
  t : Cells5 W (w.heap.size + 1 + 1) o0 o1 o2 o3 o4
  g : Fr W (w.heap.size + 1 + 1)
  b : Below w.heap.size w W
  z : w.heap.size + 1 + 1 + 1 ≤ W.heap.size
theorem TN.new (w : World) (a0 a1 a2 a3 a4 z0 z1 z2 z3 z4 : Value) (t t' : TypeId) :
    TN w (((w.alloc (.cells #[a0, a1, a2, a3, a4] t)).alloc (.cells #[z0, z1, z2, z3, z4] t')).alloc (.cells #[z0, z1, z2, z3, z4] t')) a0 a1 a2 a3 a4 z0 z1 z2 z3 z4 z0 z1 z2 z3 z4 := by
  have q1 := Cells5.new (w.alloc (.cells #[a0, a1, a2, a3, a4] t)) z0 z1 z2 z3 z4 t'
  have f1 := Fr.new (w.alloc (.cells #[a0, a1, a2, a3, a4] t)) #[z0, z1, z2, z3, z4] t'
  have q2 := Cells5.new ((w.alloc (.cells #[a0, a1, a2, a3, a4] t)).alloc (.cells #[z0, z1, z2, z3, z4] t')) z0 z1 z2 z3 z4 t'
  have f2 := Fr.new ((w.alloc (.cells #[a0, a1, a2, a3, a4] t)).alloc (.cells #[z0, z1, z2, z3, z4] t')) #[z0, z1, z2, z3, z4] t'
  rw [World.size_alloc] at q1 f1
  rw [World.size_alloc, World.size_alloc] at q2 f2
  exact ⟨(Cells5.new w _ _ _ _ _ _).below (B := w.heap.size + 1) (((Below.refl _ _).alloc (by simp) _).alloc (by simp) _) (by omega), q1.below (B := w.heap.size + 2) ((Below.refl _ _).alloc (by simp) _) (by omega), f1.below (B := w.heap.size + 2) ((Below.refl _ _).alloc (by simp) _) (by omega), q2, f2, below_alloc3 _ _ _ _, by simp⟩
section
variable {w W : World} {a0 a1 a2 a3 a4 z0 z1 z2 z3 z4 o0 o1 o2 o3 o4 : Value}
theorem TN.below {W' : World} (h : TN w W a0 a1 a2 a3 a4 z0 z1 z2 z3 z4 o0 o1 o2 o3 o4) (hb : Below W.heap.size W W') : TN w W' a0 a1 a2 a3 a4 z0 z1 z2 z3 z4 o0 o1 o2 o3 o4 := by
  have := h.z
  exact ⟨h.x.below hb (by omega), h.r.below hb (by omega), h.f.below hb (by omega), h.t.below hb (by omega), h.g.below hb (by omega), h.b.trans (hb.mono h.b.size), Nat.le_trans h.z hb.size⟩
theorem TN.put {p0 p1 p2 p3 p4 : Value} (h : TN w W a0 a1 a2 a3 a4 z0 z1 z2 z3 z4 o0 o1 o2 o3 o4) (i : Nat) (v : Value) (hc : Cells5 (W.setCell ⟨w.heap.size + 1 + 1, i, none⟩ v) (w.heap.size + 1 + 1) p0 p1 p2 p3 p4) : TN w (W.setCell ⟨w.heap.size + 1 + 1, i, none⟩ v) a0 a1 a2 a3 a4 z0 z1 z2 z3 z4 p0 p1 p2 p3 p4 := by
  have hz := h.z
  have kp := Kept.setCell W ⟨w.heap.size + 1 + 1, i, none⟩ v
  exact ⟨h.x.kept kp (by omega) (by show ¬ w.heap.size = w.heap.size + 1 + 1; omega), h.r.kept kp (by omega) (by show ¬ w.heap.size + 1 = w.heap.size + 1 + 1; omega), h.f.set, hc, h.g.set, h.b.setCell (p := ⟨w.heap.size + 1 + 1, i, none⟩) (by show w.heap.size ≤ w.heap.size + 1 + 1; omega) v, by simpa [World.setCell] using hz⟩
end
theorem OFL.kept {T : Nat → Prop} {B : Nat} {w w' : World} {g n k : Nat} {A : Nat → FV} {lim : Nat → Nat} (h : OFL B w g n k A lim) (hk : Kept T w w') (hg : ∀ q, g ≤ q → ¬ T q) : OFL B w' g n k A lim := by
  have l0 := h.low
  have eb := hk.block g h.lt (hg g (Nat.le_refl _))
  have c : ∀ i, w'.cell? ⟨g, i, none⟩ = w.cell? ⟨g, i, none⟩ := fun i => World.cell?_of_block (w := w) (a := ⟨g, i, none⟩) eb
  refine ⟨h.lo, Nat.lt_of_lt_of_le h.lt hk.size, fun i hi => by rw [c, c]; exact h.laid i hi, fun i h1 h2 => by rw [c, c]; exact h.rest i h1 h2, fun i => (World.frozen?_of_block (w := w) (a := ⟨g, i, none⟩) eb).trans (h.free i), h.low, fun i hi => (h.own i hi).kept hk (fun q hq => ?_), h.high, h.mono, Nat.le_trans h.top hk.size⟩
  have a1 := ((h.own i hi).blk hq).1
  have a3 := lim_leA h.mono (Nat.zero_le i) (by omega)
  exact hg q (by omega)
theorem KV.own.keptS {T : Nat → Prop} {B : Nat} {w w' : World} {k : KV} (h : k.own B w) (hk : Kept T w w') (hg : ∀ q, B ≤ q → ¬ T q) : k.own B w' := by
  obtain ⟨h1, ⟨p, lim, e, h2⟩, ⟨h3, h4⟩, p', e', h5⟩ := h
  have l2 := h2.lo
  have l5 := h5.lo
  exact ⟨h1.kept hk (fun q hq => hg q (h1.blk hq).1), ⟨p, lim, e, h2.kept hk (fun q c1 c2 => hg q (by omega))⟩, ⟨h3.kept hk (fun q hq => hg q (h3.blk hq).1), h4⟩, p', e', h5.kept hk (hg p' (by omega))⟩
theorem OKL.kept {T : Nat → Prop} {w w' : World} {g n k : Nat} {K : Nat → KV} (h : OKL w g n k K) (hk : Kept T w w') (hg : ∀ q, g ≤ q → ¬ T q) : OKL w' g n k K := by
  have eb := hk.block g h.lt (hg g (Nat.le_refl _))
  have c : ∀ i, w'.cell? ⟨g, i, none⟩ = w.cell? ⟨g, i, none⟩ := fun i => World.cell?_of_block (w := w) (a := ⟨g, i, none⟩) eb
  exact ⟨Nat.lt_of_lt_of_le h.lt hk.size, fun i hi => (h.laid i hi).of c, fun i h1 h2 => by rw [c]; exact h.rest i h1 h2, fun i => (World.frozen?_of_block (w := w) (a := ⟨g, i, none⟩) eb).trans (h.free i), fun i hi => (h.own i hi).keptS hk (fun q hq => hg q (by omega))⟩
/-- nests that say the same -/
def NSame (v u : NV) : Prop := (u.sn = v.sn ∧ u.SD = v.SD) ∧ (u.i = v.i ∧ u.ID = v.ID) ∧ (u.fn = v.fn ∧ FSame v.fn v.FF u.FF) ∧ (u.kn = v.kn ∧ ∀ j, j < v.kn → KSame (v.KK j) (u.KK j)) ∧ (u.on = v.on ∧ u.OD = v.OD)
def NCopy (v : NV) (w : World) (e : Ending) (w' : World) : Prop := ∃ u : NV, e = .returned u.val ∧ u.read w'.heap.size w' ∧ NSame v u ∧ Below w.heap.size w w'
set_option maxRecDepth 100000 in
set_option maxHeartbeats 2000000 in
theorem toNest (B : Nat) (v : NV) (w : World) (hB : B ≤ w.heap.size) (h : v.read B w) (hl : v.len 1048576) :
    Calls Try.prog 7 #[v.val] w (NCopy v w) := by
  obtain ⟨sa, sn, scap, SD, ia, i, icap, ID, fa, fn, fcap, FF, ka, kn, kcap, KK, oa, on, ocap, OD⟩ := v
  obtain ⟨h1, h2, h3, h4, h5⟩ := h
  obtain ⟨l2, l3, ⟨l4, l5⟩, ⟨l6, l7⟩, l8⟩ := hl
  have H1 := hide h1
  have H2 := hide h2
  have H3 := hide h3
  have H4 := hide h4
  have H5 := hide h5
  have L5 := hide l5
  have L7 := hide l7
  clear h1 h2 h3 h4 h5 l5 l7
  unfold NV.val
  dsimp only at *
  obtain ⟨W0, hW0⟩ : ∃ W0, ((w.alloc (.cells #[.slice sa sn scap, .slice ia i icap, .slice fa fn fcap, .slice ka kn kcap, .slice oa on ocap] 26)).alloc (.cells #[.slice none 0 0, .slice none 0 0, .slice none 0 0, .slice none 0 0, .slice none 0 0] 33)).alloc (.cells #[.slice none 0 0, .slice none 0 0, .slice none 0 0, .slice none 0 0, .slice none 0 0] 33) = W0 := ⟨_, rfl⟩
  have k0 := TN.new w (.slice sa sn scap) (.slice ia i icap) (.slice fa fn fcap) (.slice ka kn kcap) (.slice oa on ocap) (.slice none 0 0) (.slice none 0 0) (.slice none 0 0) (.slice none 0 0) (.slice none 0 0) 26 33
  rw [hW0] at k0
  have K0 := hide k0
  obtain ⟨p0, p1, p2, p3, p4⟩ := k0.x
  clear k0
  go_enter Try.func7, Try.ntmps7
  go_wp2_with fail
  clear hW0 p0 p1 p2 p3 p4
  have z0 := K0.out.z
  refine (toIntS B sa sn scap SD _ (H1.out.below (K0.out.b.mono hB)) (Nat.le_trans hB K0.out.b.size) l2).mono ?_
  rintro e w1 ⟨rfl, q1, s1, b1⟩
  have K1 := hide (K0.out.below b1)
  have Q1 := hide q1
  clear b1 q1
  obtain ⟨a0, a1, a2, a3, a4⟩ := K1.out.x
  obtain ⟨t0, t1, t2, t3, t4⟩ := K1.out.t
  have g0 := K1.out.g
  unfold Fr at g0
  go_wp2_with fail
  clear a0 a1 a2 a3 a4 t0 t1 t2 t3 t4 g0
  have kp := Kept.setCell w1 ⟨w.heap.size + 1 + 1, 0, none⟩ (.slice (some ⟨W0.heap.size, 0, none⟩) sn sn)
  have J1 := hide (K1.out.put 0 (.slice (some ⟨W0.heap.size, 0, none⟩) sn sn) (K1.out.t.set _).1)
  have Q1' := hide (Q1.out.kept kp (by show ¬ W0.heap.size = w.heap.size + 1 + 1; omega))
  have y1 := Nat.lt_of_lt_of_le s1 kp.size
  clear K1 Q1 s1 kp
  generalize w1.setCell ⟨w.heap.size + 1 + 1, 0, none⟩ (.slice (some ⟨W0.heap.size, 0, none⟩) sn sn) = E1 at *
  refine (toIntS B ia i icap ID _ (H2.out.below (J1.out.b.mono hB)) (Nat.le_trans hB J1.out.b.size) l3).mono ?_
  rintro e w2 ⟨rfl, q2, s2, b2⟩
  have K2 := hide (J1.out.below b2)
  have Q1 := hide (Q1'.out.below b2 y1)
  have Q2 := hide q2
  clear b2 q2 J1 Q1'
  obtain ⟨a0, a1, a2, a3, a4⟩ := K2.out.x
  obtain ⟨t0, t1, t2, t3, t4⟩ := K2.out.t
  have g0 := K2.out.g
  unfold Fr at g0
  go_wp2_with fail
  clear a0 a1 a2 a3 a4 t0 t1 t2 t3 t4 g0
  have kp := Kept.setCell w2 ⟨w.heap.size + 1 + 1, 1, none⟩ (.slice (some ⟨E1.heap.size, 0, none⟩) i i)
  have J2 := hide (K2.out.put 1 (.slice (some ⟨E1.heap.size, 0, none⟩) i i) (K2.out.t.set _).2.1)
  have Q1' := hide (Q1.out.kept kp (by show ¬ W0.heap.size = w.heap.size + 1 + 1; omega))
  have Q2' := hide (Q2.out.kept kp (by show ¬ E1.heap.size = w.heap.size + 1 + 1; omega))
  have y2 := Nat.lt_of_lt_of_le s2 kp.size
  clear K2 Q1 Q2 s2 kp
  generalize w2.setCell ⟨w.heap.size + 1 + 1, 1, none⟩ (.slice (some ⟨E1.heap.size, 0, none⟩) i i) = E2 at *
  refine (toFixS B fa fn fcap FF _ (Nat.le_trans hB J2.out.b.size) (H3.out.below (J2.out.b.mono hB)) l4 L5.out).mono ?_
  rintro e w3 ⟨U, lim, rfl, q3, s3, b3⟩
  have K3 := hide (J2.out.below b3)
  have Q1 := hide (Q1'.out.below b3 (by omega))
  have Q2 := hide (Q2'.out.below b3 y2)
  have y3 := q3.lt
  have Q3 := hide q3
  have S3 := hide s3
  clear b3 q3 s3 J2 Q1' Q2'
  obtain ⟨a0, a1, a2, a3, a4⟩ := K3.out.x
  obtain ⟨t0, t1, t2, t3, t4⟩ := K3.out.t
  have g0 := K3.out.g
  unfold Fr at g0
  go_wp2_with fail
  clear a0 a1 a2 a3 a4 t0 t1 t2 t3 t4 g0
  have kp := Kept.setCell w3 ⟨w.heap.size + 1 + 1, 2, none⟩ (.slice (some ⟨E2.heap.size, 0, none⟩) fn fn)
  have J3 := hide (K3.out.put 2 (.slice (some ⟨E2.heap.size, 0, none⟩) fn fn) (K3.out.t.set _).2.2.1)
  have Q1' := hide (Q1.out.kept kp (by show ¬ W0.heap.size = w.heap.size + 1 + 1; omega))
  have Q2' := hide (Q2.out.kept kp (by show ¬ E1.heap.size = w.heap.size + 1 + 1; omega))
  have Q3' := hide (Q3.out.kept kp (fun q c c' => by have c' : q = w.heap.size + 1 + 1 := c'; omega))
  have y4 := Nat.lt_of_lt_of_le y3 kp.size
  clear K3 Q1 Q2 Q3 y3 kp
  generalize w3.setCell ⟨w.heap.size + 1 + 1, 2, none⟩ (.slice (some ⟨E2.heap.size, 0, none⟩) fn fn) = E3 at *
  refine (toKernelS B ka kn kcap KK _ (Nat.le_trans hB J3.out.b.size) (H4.out.below (J3.out.b.mono hB)) l6 L7.out).mono ?_
  rintro e w4 ⟨V, rfl, q4, s4, b4⟩
  have K4 := hide (J3.out.below b4)
  have Q1 := hide (Q1'.out.below b4 (by omega))
  have Q2 := hide (Q2'.out.below b4 (by omega))
  have Q3 := hide (Q3'.out.below b4)
  have y5 := q4.lt
  have Q4 := hide q4
  have S4 := hide s4
  clear b4 q4 s4 J3 Q1' Q2' Q3'
  obtain ⟨a0, a1, a2, a3, a4⟩ := K4.out.x
  obtain ⟨t0, t1, t2, t3, t4⟩ := K4.out.t
  have g0 := K4.out.g
  unfold Fr at g0
  go_wp2_with fail
  clear a0 a1 a2 a3 a4 t0 t1 t2 t3 t4 g0
  have kp := Kept.setCell w4 ⟨w.heap.size + 1 + 1, 3, none⟩ (.slice (some ⟨E3.heap.size, 0, none⟩) kn kn)
  have J4 := hide (K4.out.put 3 (.slice (some ⟨E3.heap.size, 0, none⟩) kn kn) (K4.out.t.set _).2.2.2.1)
  have Q1' := hide (Q1.out.kept kp (by show ¬ W0.heap.size = w.heap.size + 1 + 1; omega))
  have Q2' := hide (Q2.out.kept kp (by show ¬ E1.heap.size = w.heap.size + 1 + 1; omega))
  have Q3' := hide (Q3.out.kept kp (fun q c c' => by have c' : q = w.heap.size + 1 + 1 := c'; omega))
  have Q4' := hide (Q4.out.kept kp (fun q c c' => by have c' : q = w.heap.size + 1 + 1 := c'; omega))
  have y6 := Nat.lt_of_lt_of_le y5 kp.size
  clear K4 Q1 Q2 Q3 Q4 y5 kp
  generalize w4.setCell ⟨w.heap.size + 1 + 1, 3, none⟩ (.slice (some ⟨E3.heap.size, 0, none⟩) kn kn) = E4 at *
  refine (toIntS B oa on ocap OD _ (H5.out.below (J4.out.b.mono hB)) (Nat.le_trans hB J4.out.b.size) l8).mono ?_
  rintro e w5 ⟨rfl, q5, s5, b5⟩
  have K5 := hide (J4.out.below b5)
  have Q1 := hide (Q1'.out.below b5 (by omega))
  have Q2 := hide (Q2'.out.below b5 (by omega))
  have Q3 := hide (Q3'.out.below b5)
  have Q4 := hide (Q4'.out.below b5)
  have Q5 := hide q5
  clear b5 q5 J4 Q1' Q2' Q3' Q4'
  obtain ⟨a0, a1, a2, a3, a4⟩ := K5.out.x
  obtain ⟨t0, t1, t2, t3, t4⟩ := K5.out.t
  obtain ⟨r0, r1, r2, r3, r4⟩ := K5.out.r
  have g0 := K5.out.g
  have f0 := K5.out.f
  have BB := hide K5.out.b
  unfold Fr at g0 f0
  clear K5
  go_wp2_with fail
  refine bodyPost_ret (v := NV.val ⟨some ⟨W0.heap.size, 0, none⟩, sn, sn, SD, some ⟨E1.heap.size, 0, none⟩, i, i, ID, some ⟨E2.heap.size, 0, none⟩, fn, fn, U, some ⟨E3.heap.size, 0, none⟩, kn, kn, V, some ⟨E4.heap.size, 0, none⟩, on, on, OD⟩) (by simp [results, Try.results7, go_sem, NV.val, r0, r1, r2, r3, r4]) rfl ?_
  have fin : ∀ F, Kept (fun q => q = w.heap.size + 1 ∨ q = w.heap.size + 1 + 1) w5 F → NCopy ⟨sa, sn, scap, SD, ia, i, icap, ID, fa, fn, fcap, FF, ka, kn, kcap, KK, oa, on, ocap, OD⟩ w (.returned (NV.val ⟨some ⟨W0.heap.size, 0, none⟩, sn, sn, SD, some ⟨E1.heap.size, 0, none⟩, i, i, ID, some ⟨E2.heap.size, 0, none⟩, fn, fn, U, some ⟨E3.heap.size, 0, none⟩, kn, kn, V, some ⟨E4.heap.size, 0, none⟩, on, on, OD⟩)) F := by
    intro F kf
    have sz := kf.size
    exact ⟨_, rfl, ⟨(Q1.out.kept kf (by omega)).ints (by omega), (Q2.out.kept kf (by omega)).ints (by omega), (Q3.out.kept kf (fun q c c' => by omega)).read, (Q4.out.kept kf (fun q c c' => by omega)).read, (Q5.out.kept kf (by omega)).ints (by omega)⟩, ⟨⟨rfl, rfl⟩, ⟨rfl, rfl⟩, ⟨rfl, S3.out⟩, ⟨rfl, S4.out⟩, ⟨rfl, rfl⟩⟩, BB.out.trans (kf.below BB.out.size (fun q c => by omega))⟩
  have big : ∀ (W : World) (p : Nat) (j : Nat) (x : Value), (p = w.heap.size + 1 ∨ p = w.heap.size + 1 + 1) → Kept (fun q => q = w.heap.size + 1 ∨ q = w.heap.size + 1 + 1) W (W.setCell ⟨p, j, none⟩ x) := fun W p j x hp => (Kept.setCell W ⟨p, j, none⟩ x).mono (fun q _ e => by have e : q = p := e; rw [e]; exact hp)
  refine fin _ ?_
  refine Vl.Kept.trans ?_ (big _ _ _ _ (.inl rfl))
  refine Vl.Kept.trans ?_ (big _ _ _ _ (.inl rfl))
  refine Vl.Kept.trans ?_ (big _ _ _ _ (.inl rfl))
  refine Vl.Kept.trans ?_ (big _ _ _ _ (.inl rfl))
  refine Vl.Kept.trans ?_ (big _ _ _ _ (.inl rfl))
  exact big _ _ _ _ (.inr rfl)
set_option maxHeartbeats 2000000 in
theorem eqNest (B : Nat) (v u : NV) (w : World) (hB : B ≤ w.heap.size) (h : v.read B w) (h' : u.read B w) (hl : v.len 1048576) (hs : (u.sn = v.sn ∧ u.SD = v.SD) ∧ (u.i = v.i ∧ u.ID = v.ID) ∧ (u.fn = v.fn ∧ ∀ j, j < v.fn → (u.FF j).u = (v.FF j).u ∧ (u.FF j).r = (v.FF j).r ∧ (u.FF j).D = (v.FF j).D) ∧ (u.kn = v.kn ∧ ∀ j, j < v.kn → KSame (v.KK j) (u.KK j)) ∧ (u.on = v.on ∧ u.OD = v.OD)) :
    Calls Try.prog 10 #[v.val, u.val] w fun e w' => e = .returned (.bool true) ∧ Below w.heap.size w w' := by
  obtain ⟨sa, sn, scap, SD, ia, i, icap, ID, fa, fn, fcap, FF, ka, kn, kcap, KK, oa, on, ocap, OD⟩ := v
  obtain ⟨sa', sn', scap', SD', ia', i', icap', ID', fa', fn', fcap', FF', ka', kn', kcap', KK', oa', on', ocap', OD'⟩ := u
  obtain ⟨h1, h2, h3, h4, h5⟩ := h
  obtain ⟨i1, i2, i3, i4, i5⟩ := h'
  obtain ⟨l2, l3, ⟨l4, l5⟩, ⟨l6, l7⟩, l8⟩ := hl
  obtain ⟨⟨e1, e2⟩, ⟨e3, e4⟩, ⟨e5, d5⟩, ⟨e6, d6⟩, ⟨e7, e8⟩⟩ := hs
  dsimp only at *
  subst e1 e2 e3 e4 e5 e6 e7 e8
  unfold NV.val
  dsimp only
  have B0 := hide (show Below w.heap.size w ((w.alloc (.cells #[.slice sa sn' scap, .slice ia i' icap, .slice fa fn' fcap, .slice ka kn' kcap, .slice oa on' ocap] 33)).alloc (.cells #[.slice sa' sn' scap', .slice ia' i' icap', .slice fa' fn' fcap', .slice ka' kn' kcap', .slice oa' on' ocap'] 33)) from ((Below.refl _ _).alloc (Nat.le_refl _) _).alloc (by simp) _)
  have H1 := hide h1
  have H2 := hide h2
  have H3 := hide h3
  have H4 := hide h4
  have H5 := hide h5
  have I1 := hide i1
  have I2 := hide i2
  have I3 := hide i3
  have I4 := hide i4
  have I5 := hide i5
  have L5 := hide l5
  have L7 := hide l7
  have D5 := hide d5
  have D6 := hide d6
  clear h1 h2 h3 h4 h5 i1 i2 i3 i4 i5 l5 l7 d5 d6
  go_enter Try.func10, Try.ntmps10
  go_wp2_with fail
  refine (eqIntS B sa sa' sn' scap scap' SD' SD' _ (H1.out.below (B0.out.mono hB)) (I1.out.below (B0.out.mono hB)) (fun _ _ => rfl) l2).mono ?_
  rintro e w1 ⟨rfl, b1⟩
  have hc1 := old_cells b1
  have c10 := fun i => hc1 w.heap.size i (by simp; omega)
  have c11 := fun i => hc1 (w.heap.size + 1) i (by simp)
  have B1 := hide (B0.out.trans (b1.mono B0.out.size))
  have z1 : w.heap.size + 1 < w1.heap.size := by have := b1.size; simp at this; omega
  clear hc1 b1
  go_wp2_with fail
  refine (eqIntS B ia ia' i' icap icap' ID' ID' _ (H2.out.below (B1.out.mono hB)) (I2.out.below (B1.out.mono hB)) (fun _ _ => rfl) l3).mono ?_
  rintro e w2 ⟨rfl, b2⟩
  have hc2 := old_cells b2
  have c20 := fun i => hc2 w.heap.size i (by omega)
  have c21 := fun i => hc2 (w.heap.size + 1) i (by omega)
  have B2 := hide (B1.out.trans (b2.mono B1.out.size))
  have z2 : w.heap.size + 1 < w2.heap.size := by have := b2.size; omega
  clear hc2 b2
  go_wp2_with fail
  refine (eqFixS B fa fa' fn' fcap fcap' FF FF' _ (Nat.le_trans hB B2.out.size) (H3.out.below (B2.out.mono hB)) (I3.out.below (B2.out.mono hB)) l4 L5.out (fun j hj => ⟨(D5.out j hj).1, (D5.out j hj).2.1, fun t _ => by rw [(D5.out j hj).2.2]⟩)).mono ?_
  rintro e w3 ⟨rfl, b3⟩
  have hc3 := old_cells b3
  have c30 := fun i => hc3 w.heap.size i (by omega)
  have c31 := fun i => hc3 (w.heap.size + 1) i (by omega)
  have B3 := hide (B2.out.trans (b3.mono B2.out.size))
  have z3 : w.heap.size + 1 < w3.heap.size := by have := b3.size; omega
  clear hc3 b3
  go_wp2_with fail
  refine (eqKernelS B ka ka' kn' kcap kcap' KK KK' _ (Nat.le_trans hB B3.out.size) (H4.out.below (B3.out.mono hB)) (I4.out.below (B3.out.mono hB)) l6 L7.out D6.out).mono ?_
  rintro e w4 ⟨rfl, b4⟩
  have hc4 := old_cells b4
  have c40 := fun i => hc4 w.heap.size i (by omega)
  have c41 := fun i => hc4 (w.heap.size + 1) i (by omega)
  have B4 := hide (B3.out.trans (b4.mono B3.out.size))
  clear hc4 b4
  go_wp2_with fail
  refine (eqIntS B oa oa' on' ocap ocap' OD' OD' _ (H5.out.below (B4.out.mono hB)) (I5.out.below (B4.out.mono hB)) (fun _ _ => rfl) l8).mono ?_
  rintro e w5 ⟨rfl, b5⟩
  have B5 := hide (B4.out.trans (b5.mono B4.out.size))
  clear b5
  go_wp2_with fail
  go_ret
  exact ⟨rfl, B5.out⟩
end Vo
end Go.Proofs.Ytgmjijjckedmcaa
