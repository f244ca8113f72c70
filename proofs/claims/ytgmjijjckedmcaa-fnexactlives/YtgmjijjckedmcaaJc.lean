/- Kernels in memory: measured, copied, compared. -/
import Derived.Test.YtgmjijjckedmcaaJb
namespace Go.Proofs.Ytgmjijjckedmcaa
namespace Vo
open Go.ChangeShapes Go.WideShapes Go.ChangeAt Go.RowKit Go.Joins Go.Sort
open Vl Vp
set_option linter.unusedVariables false
set_option linter.unusedSimpArgs false
/-- a kernel -/
structure KV where
  la : Option Addr
  lr : Nat
  lcap : Nat
  LD : Nat → Int
  aa : Option Addr
  an : Nat
  acap : Nat
  AA : Nat → AV
  st : AV
  sm : Bool
  ca : Option Addr
  cn : Nat
  ccap : Nat
  CC : Nat → CV
def AV.val (x : AV) : Value := .agg #[.int .i64 x.u, .int .i64 x.o, .slice x.a x.r x.cap]
def KV.val (k : KV) : Value := .agg #[.slice k.la k.lr k.lcap, .slice k.aa k.an k.acap, .int .i64 k.st.u, .int .i64 k.st.o, .slice k.st.a k.st.r k.st.cap, .bool k.sm, .slice k.ca k.cn k.ccap]
/-- what can be read of a kernel -/
def KV.read (B : Nat) (w : World) (k : KV) : Prop := Ints B w k.la k.lr k.LD ∧ LA B w k.aa k.an k.AA ∧ (Ints B w k.st.a k.st.r k.st.D ∧ bd k.st.u ∧ bd k.st.o) ∧ LC B w k.ca k.cn k.CC
theorem KV.read.below {B : Nat} {w w' : World} {k : KV} (h : k.read B w) (hb : Below B w w') : k.read B w' := ⟨h.1.below hb, h.2.1.below hb, ⟨h.2.2.1.1.below hb, h.2.2.1.2⟩, h.2.2.2.below hb⟩
theorem KV.read.mono {B B' : Nat} {w : World} {k : KV} (h : k.read B w) (hb : B ≤ B') : k.read B' w := ⟨h.1.mono hb, h.2.1.mono hb, ⟨h.2.2.1.1.mono hb, h.2.2.1.2⟩, h.2.2.2.mono hb⟩
/-- lengths that can be -/
def KV.len (k : KV) (m : Int) : Prop := (k.lr : Int) ≤ m ∧ (k.an : Int) ≤ m ∧ ALen k.an k.AA m ∧ (k.st.r : Int) ≤ m ∧ (k.cn : Int) ≤ m
/-- how much a kernel holds -/
def KV.sum (k : KV) : Nat := k.lr + asum k.AA k.an + k.st.r + k.cn
set_option maxHeartbeats 1000000 in
theorem szKernel (B : Nat) (k : KV) (l : Int) (w : World) (hB : B ≤ w.heap.size) (h : k.read B w) (hl : k.len 9223372036854775807) (l0 : 0 ≤ l) (l1 : l ≤ 1048576) :
    Calls Try.prog 44 #[k.val, .int .i64 l] w fun e w' => ∃ x : Int, e = .returned (.int .i64 x) ∧ (0 ≤ x → x ≤ 1048576 ∧ k.len 1048576 ∧ (asum k.AA k.an : Int) ≤ 1048576) ∧ Below w.heap.size w w' := by
  obtain ⟨la, lr, lcap, LD, aa, an, acap, AA, ⟨u, o, sa, sr, scap, SD⟩, sm, ca, cn, ccap, CC⟩ := k
  obtain ⟨_, h2, _, _⟩ := h
  obtain ⟨l2, l3, l4, l5, l6⟩ := hl
  have bl := hide (show Below w.heap.size w (w.alloc (.cells #[.slice la lr lcap, .slice aa an acap, .int .i64 u, .int .i64 o, .slice sa sr scap, .bool sm, .slice ca cn ccap] 81)) from (Below.refl _ _).alloc (Nat.le_refl _) _)
  have H2 := hide h2
  have L4 := hide l4
  clear h2 l4
  unfold KV.val
  dsimp only at *
  go_enter Try.func44, Try.ntmps44
  go_wp2_with fail
  refine (szIntS la lr lcap l _ l0 l1 l2).mono ?_; rintro e w1 ⟨x, rfl, hx, rfl⟩
  have HX := hide hx
  clear hx
  by_cases hx0 : x < 0
  · go_wp2_with fail
    go_ret
    exact ⟨_, rfl, fun h => by omega, bl.out⟩
  have hx0' : decide (x < 0) = false := by rw [decide_eq_false_iff_not]; exact hx0
  have hxl : x ≤ 1048576 := by have := HX.out; unfold Sz at this; omega
  have hx1 : 0 ≤ x := by omega
  clear hx0
  go_wp2_with fail
  refine (szAccessS B aa an acap AA x _ (Nat.le_trans hB bl.out.size) (H2.out.below (bl.out.mono hB)) l3 L4.out hx1 hxl).mono ?_; rintro e w2 ⟨y, rfl, hy, b2⟩
  have HY := hide hy
  have hc := old_cells b2
  have c0 := fun i => hc w.heap.size i (by simp)
  have BL2 := hide (bl.out.trans (b2.mono bl.out.size))
  have ws2 : w.heap.size < w2.heap.size := by have := b2.size; simp at this; omega
  clear hy b2 hc
  by_cases hy0 : y < 0
  · go_wp2_with fail
    go_ret
    exact ⟨_, rfl, fun h => by omega, BL2.out⟩
  have hy0' : decide (y < 0) = false := by rw [decide_eq_false_iff_not]; exact hy0
  have hy1 : 0 ≤ y := by omega
  obtain ⟨hyl, yn, ys⟩ := HY.out hy1
  have YS := hide ys
  clear hy0 ys
  go_wp2_with fail
  refine (szAccess u o sa sr scap y _ hy1 hyl l5).mono ?_; rintro e w3 ⟨z, rfl, hz, b3⟩
  have HZ := hide hz
  have hc := old_cells b3
  have c1 := fun i => hc w.heap.size i (by omega)
  have BL3 := hide (BL2.out.trans (b3.mono BL2.out.size))
  clear hz b3 hc
  by_cases hz0 : z < 0
  · go_wp2_with fail
    go_ret
    exact ⟨_, rfl, fun h => by omega, BL3.out⟩
  have hz0' : decide (z < 0) = false := by rw [decide_eq_false_iff_not]; exact hz0
  have hz1 : 0 ≤ z := by omega
  have ez := HZ.out hz1
  have zl : z ≤ 1048576 := by omega
  have EZ := hide ez
  clear hz0 ez
  go_wp2_with fail
  refine (szCalcS ca cn ccap z _ hz1 zl l6).mono ?_; rintro e w4 ⟨t, rfl, ht, rfl⟩
  have HT := hide ht
  clear ht
  by_cases ht0 : t < 0
  · go_wp2_with fail
    go_ret
    exact ⟨_, rfl, fun h => by omega, BL3.out⟩
  have ht0' : decide (t < 0) = false := by rw [decide_eq_false_iff_not]; exact ht0
  go_wp2_with fail
  go_ret
  refine ⟨_, rfl, fun _ => ?_, BL3.out⟩
  have e1 := HX.out
  have e2 := HT.out
  have e3 := EZ.out
  have e4 := YS.out
  unfold Sz at e1 e2
  exact ⟨by omega, ⟨by show (lr : Int) ≤ 1048576; omega, yn, alen_of e4, by show (sr : Int) ≤ 1048576; omega, by show (cn : Int) ≤ 1048576; omega⟩, e4⟩
/-- seven cells -/
def Cells7 (w : World) (p : Nat) (v0 v1 v2 v3 v4 v5 v6 : Value) : Prop := w.cell? ⟨p, 0, none⟩ = some v0 ∧ w.cell? ⟨p, 1, none⟩ = some v1 ∧ w.cell? ⟨p, 2, none⟩ = some v2 ∧ w.cell? ⟨p, 3, none⟩ = some v3 ∧ w.cell? ⟨p, 4, none⟩ = some v4 ∧ w.cell? ⟨p, 5, none⟩ = some v5 ∧ w.cell? ⟨p, 6, none⟩ = some v6
theorem Cells7.new (w : World) (v0 v1 v2 v3 v4 v5 v6 : Value) (t : TypeId) : Cells7 (w.alloc (.cells #[v0, v1, v2, v3, v4, v5, v6] t)) w.heap.size v0 v1 v2 v3 v4 v5 v6 := by
  unfold Cells7
  simp [go_sem]
theorem Cells7.below {B : Nat} {w w' : World} {p : Nat} {v0 v1 v2 v3 v4 v5 v6 : Value} (h : Cells7 w p v0 v1 v2 v3 v4 v5 v6) (hb : Below B w w') (hp : p < B) : Cells7 w' p v0 v1 v2 v3 v4 v5 v6 := by
  have c : ∀ i, w'.cell? ⟨p, i, none⟩ = w.cell? ⟨p, i, none⟩ := fun i => hb.cell (p := ⟨p, i, none⟩) hp
  unfold Cells7
  rw [c, c, c, c, c, c, c]
  exact h
theorem Cells7.kept {T : Nat → Prop} {w w' : World} {p : Nat} {v0 v1 v2 v3 v4 v5 v6 : Value} (h : Cells7 w p v0 v1 v2 v3 v4 v5 v6) (hk : Kept T w w') (hp : p < w.heap.size) (hn : ¬ T p) : Cells7 w' p v0 v1 v2 v3 v4 v5 v6 := by
  have c : ∀ i, w'.cell? ⟨p, i, none⟩ = w.cell? ⟨p, i, none⟩ := fun i => World.cell?_of_block (w := w) (a := ⟨p, i, none⟩) (hk.block p hp hn)
  unfold Cells7
  rw [c, c, c, c, c, c, c]
  exact h
def Fr (w : World) (p : Nat) : Prop := ∀ i, w.frozen? ⟨p, i, none⟩ = false
theorem Fr.below {B : Nat} {w w' : World} {p : Nat} (h : Fr w p) (hb : Below B w w') (hp : p < B) : Fr w' p := fun i => (hb.frozen (p := ⟨p, i, none⟩) hp).trans (h i)
/-- what comes of copying a kernel -/
def KCopy (k : KV) (w : World) (e : Ending) (w' : World) : Prop :=
  ∃ (g1 g2 g3 g4 : Nat) (U : Nat → AV) (lim : Nat → Nat) (V : Nat → CV), e = .returned (KV.val ⟨some ⟨g1, 0, none⟩, k.lr, k.lr, k.LD, some ⟨g2, 0, none⟩, k.an, k.an, U, ⟨k.st.u, k.st.o, some ⟨g3, 0, none⟩, k.st.r, k.st.r, k.st.D⟩, k.sm, some ⟨g4, 0, none⟩, k.cn, k.cn, V⟩) ∧
    Rw w' g1 k.lr k.LD ∧ OAL g2 w' g2 k.an k.an U lim ∧ Rw w' g3 k.st.r k.st.D ∧ OCL g4 w' g4 k.cn k.cn V ∧ (w.heap.size ≤ g1 ∧ g1 < g2 ∧ lim k.an ≤ g3 ∧ g3 < g4 ∧ g4 < w'.heap.size) ∧ ASame k.an k.AA U ∧ CSame k.cn k.CC V ∧ Below w.heap.size w w'
theorem OAL.kept {T : Nat → Prop} {B : Nat} {w w' : World} {g n k : Nat} {A : Nat → AV} {lim : Nat → Nat} (h : OAL B w g n k A lim) (hk : Kept T w w') (hg : ∀ q, g ≤ q → q < lim k → ¬ T q) : OAL B w' g n k A lim := by
  have l0 := h.low
  have lk := lim_leA h.mono (Nat.zero_le k) (Nat.le_refl k)
  have eb := hk.block g h.lt (hg g (Nat.le_refl _) (by omega))
  have c : ∀ i, w'.cell? ⟨g, i, none⟩ = w.cell? ⟨g, i, none⟩ := fun i => World.cell?_of_block (w := w) (a := ⟨g, i, none⟩) eb
  refine ⟨h.lo, Nat.lt_of_lt_of_le h.lt hk.size, fun i hi => by rw [c, c, c]; exact h.laid i hi, fun i h1 h2 => by rw [c, c, c]; exact h.rest i h1 h2, fun i => (World.frozen?_of_block (w := w) (a := ⟨g, i, none⟩) eb).trans (h.free i), h.low, fun i hi => (h.own i hi).kept hk (fun q hq => ?_), h.high, h.mono, Nat.le_trans h.top hk.size⟩
  have a1 := ((h.own i hi).blk hq).1
  have a2 := h.high i hi q hq
  have a3 := lim_leA h.mono (Nat.zero_le i) (by omega)
  have a4 := lim_leA h.mono (show i + 1 ≤ k by omega) (Nat.le_refl k)
  exact hg q (by omega) (by omega)
theorem OCL.kept {T : Nat → Prop} {B : Nat} {w w' : World} {g n k : Nat} {C : Nat → CV} (h : OCL B w g n k C) (hk : Kept T w w') (hg : ¬ T g) : OCL B w' g n k C := by
  have eb := hk.block g h.lt hg
  have c : ∀ i, w'.cell? ⟨g, i, none⟩ = w.cell? ⟨g, i, none⟩ := fun i => World.cell?_of_block (w := w) (a := ⟨g, i, none⟩) eb
  exact ⟨h.lo, Nat.lt_of_lt_of_le h.lt hk.size, fun i hi => by rw [c, c, c]; exact h.laid i hi, fun i h1 h2 => by rw [c, c, c]; exact h.rest i h1 h2, fun i => (World.frozen?_of_block (w := w) (a := ⟨g, i, none⟩) eb).trans (h.free i)⟩
theorem Cells7.set {w : World} {p : Nat} {v0 v1 v2 v3 v4 v5 v6 : Value} (h : Cells7 w p v0 v1 v2 v3 v4 v5 v6) (v : Value) :
    (Cells7 (w.setCell ⟨p, 0, none⟩ v) p v v1 v2 v3 v4 v5 v6) ∧ (Cells7 (w.setCell ⟨p, 1, none⟩ v) p v0 v v2 v3 v4 v5 v6) ∧ (Cells7 (w.setCell ⟨p, 2, none⟩ v) p v0 v1 v v3 v4 v5 v6) ∧ (Cells7 (w.setCell ⟨p, 3, none⟩ v) p v0 v1 v2 v v4 v5 v6) ∧ (Cells7 (w.setCell ⟨p, 4, none⟩ v) p v0 v1 v2 v3 v v5 v6) ∧ (Cells7 (w.setCell ⟨p, 5, none⟩ v) p v0 v1 v2 v3 v4 v v6) ∧ (Cells7 (w.setCell ⟨p, 6, none⟩ v) p v0 v1 v2 v3 v4 v5 v) := by
  obtain ⟨h0, h1, h2, h3, h4, h5, h6⟩ := h
  have same : ∀ i x, w.cell? ⟨p, i, none⟩ = some x → (w.setCell ⟨p, i, none⟩ v).cell? ⟨p, i, none⟩ = some v := fun i x hx => World.cell?_setCell_same _ _ _ hx
  have other : ∀ i j x, j ≠ i → w.cell? ⟨p, j, none⟩ = some x → (w.setCell ⟨p, i, none⟩ v).cell? ⟨p, j, none⟩ = some x := fun i j x n hx => by rw [World.cell?_setCell_other _ _ _ _ (by intro e; injection e with _ e _; omega)]; exact hx
  unfold Cells7
  refine ⟨⟨same 0 _ h0, other 0 1 _ (by omega) h1, other 0 2 _ (by omega) h2, other 0 3 _ (by omega) h3, other 0 4 _ (by omega) h4, other 0 5 _ (by omega) h5, other 0 6 _ (by omega) h6⟩,
    ⟨other 1 0 _ (by omega) h0, same 1 _ h1, other 1 2 _ (by omega) h2, other 1 3 _ (by omega) h3, other 1 4 _ (by omega) h4, other 1 5 _ (by omega) h5, other 1 6 _ (by omega) h6⟩,
    ⟨other 2 0 _ (by omega) h0, other 2 1 _ (by omega) h1, same 2 _ h2, other 2 3 _ (by omega) h3, other 2 4 _ (by omega) h4, other 2 5 _ (by omega) h5, other 2 6 _ (by omega) h6⟩,
    ⟨other 3 0 _ (by omega) h0, other 3 1 _ (by omega) h1, other 3 2 _ (by omega) h2, same 3 _ h3, other 3 4 _ (by omega) h4, other 3 5 _ (by omega) h5, other 3 6 _ (by omega) h6⟩,
    ⟨other 4 0 _ (by omega) h0, other 4 1 _ (by omega) h1, other 4 2 _ (by omega) h2, other 4 3 _ (by omega) h3, same 4 _ h4, other 4 5 _ (by omega) h5, other 4 6 _ (by omega) h6⟩,
    ⟨other 5 0 _ (by omega) h0, other 5 1 _ (by omega) h1, other 5 2 _ (by omega) h2, other 5 3 _ (by omega) h3, other 5 4 _ (by omega) h4, same 5 _ h5, other 5 6 _ (by omega) h6⟩,
    ⟨other 6 0 _ (by omega) h0, other 6 1 _ (by omega) h1, other 6 2 _ (by omega) h2, other 6 3 _ (by omega) h3, other 6 4 _ (by omega) h4, other 6 5 _ (by omega) h5, same 6 _ h6⟩⟩
theorem Fr.set {w : World} {p q i : Nat} {v : Value} (h : Fr w p) : Fr (w.setCell ⟨q, i, none⟩ v) p := fun j => by rw [World.frozen?_setCell]; exact h j
theorem Fr.new (w : World) (o : Array Value) (t : TypeId) : Fr (w.alloc (.cells o t)) w.heap.size := fun i => by simp [go_sem]
/-- three variables of seven cells: what came in, what goes out, what is filled -/
structure TK (w W : World) (a0 a1 a2 a3 a4 a5 a6 z0 z1 z2 z3 z4 z5 z6 o0 o1 o2 o3 o4 o5 o6 : Value) : Prop where
  x : Cells7 W w.heap.size a0 a1 a2 a3 a4 a5 a6
  r : Cells7 W (w.heap.size + 1) z0 z1 z2 z3 z4 z5 z6
  f : Fr W (w.heap.size + 1)
  t : Cells7 W (w.heap.size + 1 + 1) o0 o1 o2 o3 o4 o5 o6
  g : Fr W (w.heap.size + 1 + 1)
  b : Below w.heap.size w W
  z : w.heap.size + 1 + 1 + 1 ≤ W.heap.size
theorem TK.new (w : World) (a0 a1 a2 a3 a4 a5 a6 z0 z1 z2 z3 z4 z5 z6 : Value) (t t' : TypeId) :
    TK w (((w.alloc (.cells #[a0, a1, a2, a3, a4, a5, a6] t)).alloc (.cells #[z0, z1, z2, z3, z4, z5, z6] t')).alloc (.cells #[z0, z1, z2, z3, z4, z5, z6] t')) a0 a1 a2 a3 a4 a5 a6 z0 z1 z2 z3 z4 z5 z6 z0 z1 z2 z3 z4 z5 z6 := by
  have q1 := Cells7.new (w.alloc (.cells #[a0, a1, a2, a3, a4, a5, a6] t)) z0 z1 z2 z3 z4 z5 z6 t'
  have f1 := Fr.new (w.alloc (.cells #[a0, a1, a2, a3, a4, a5, a6] t)) #[z0, z1, z2, z3, z4, z5, z6] t'
  have q2 := Cells7.new ((w.alloc (.cells #[a0, a1, a2, a3, a4, a5, a6] t)).alloc (.cells #[z0, z1, z2, z3, z4, z5, z6] t')) z0 z1 z2 z3 z4 z5 z6 t'
  have f2 := Fr.new ((w.alloc (.cells #[a0, a1, a2, a3, a4, a5, a6] t)).alloc (.cells #[z0, z1, z2, z3, z4, z5, z6] t')) #[z0, z1, z2, z3, z4, z5, z6] t'
  rw [World.size_alloc] at q1 f1
  rw [World.size_alloc, World.size_alloc] at q2 f2
  exact ⟨(Cells7.new w _ _ _ _ _ _ _ _).below (B := w.heap.size + 1) (((Below.refl _ _).alloc (by simp) _).alloc (by simp) _) (by omega), q1.below (B := w.heap.size + 2) ((Below.refl _ _).alloc (by simp) _) (by omega), f1.below (B := w.heap.size + 2) ((Below.refl _ _).alloc (by simp) _) (by omega), q2, f2, below_alloc3 _ _ _ _, by simp⟩
section
variable {w W : World} {a0 a1 a2 a3 a4 a5 a6 z0 z1 z2 z3 z4 z5 z6 o0 o1 o2 o3 o4 o5 o6 : Value}
theorem TK.below {W' : World} (h : TK w W a0 a1 a2 a3 a4 a5 a6 z0 z1 z2 z3 z4 z5 z6 o0 o1 o2 o3 o4 o5 o6) (hb : Below W.heap.size W W') : TK w W' a0 a1 a2 a3 a4 a5 a6 z0 z1 z2 z3 z4 z5 z6 o0 o1 o2 o3 o4 o5 o6 := by
  have := h.z
  exact ⟨h.x.below hb (by omega), h.r.below hb (by omega), h.f.below hb (by omega), h.t.below hb (by omega), h.g.below hb (by omega), h.b.trans (hb.mono h.b.size), Nat.le_trans h.z hb.size⟩
theorem TK.put {p0 p1 p2 p3 p4 p5 p6 : Value} (h : TK w W a0 a1 a2 a3 a4 a5 a6 z0 z1 z2 z3 z4 z5 z6 o0 o1 o2 o3 o4 o5 o6) (i : Nat) (v : Value) (hc : Cells7 (W.setCell ⟨w.heap.size + 1 + 1, i, none⟩ v) (w.heap.size + 1 + 1) p0 p1 p2 p3 p4 p5 p6) : TK w (W.setCell ⟨w.heap.size + 1 + 1, i, none⟩ v) a0 a1 a2 a3 a4 a5 a6 z0 z1 z2 z3 z4 z5 z6 p0 p1 p2 p3 p4 p5 p6 := by
  have hz := h.z
  have kp := Kept.setCell W ⟨w.heap.size + 1 + 1, i, none⟩ v
  exact ⟨h.x.kept kp (by omega) (by show ¬ w.heap.size = w.heap.size + 1 + 1; omega), h.r.kept kp (by omega) (by show ¬ w.heap.size + 1 = w.heap.size + 1 + 1; omega), h.f.set, hc, h.g.set, h.b.setCell (p := ⟨w.heap.size + 1 + 1, i, none⟩) (by show w.heap.size ≤ w.heap.size + 1 + 1; omega) v, by simpa [World.setCell] using hz⟩
end
set_option maxRecDepth 100000 in
set_option maxHeartbeats 2000000 in
theorem toKernel (B : Nat) (k : KV) (w : World) (hB : B ≤ w.heap.size) (h : k.read B w) (hl : k.len 1048576) :
    Calls Try.prog 53 #[k.val] w (KCopy k w) := by
  obtain ⟨la, lr, lcap, LD, aa, an, acap, AA, ⟨u, o, sa, sr, scap, SD⟩, sm, ca, cn, ccap, CC⟩ := k
  obtain ⟨h1, h2, h3, h4⟩ := h
  obtain ⟨l2, l3, l4, l5, l6⟩ := hl
  have H1 := hide h1
  have H2 := hide h2
  have H3 := hide h3.1
  have H4 := hide h4
  have L4 := hide l4
  clear h1 h2 h3 h4 l4
  unfold KV.val
  dsimp only at *
  obtain ⟨W0, hW0⟩ : ∃ W0, ((w.alloc (.cells #[.slice la lr lcap, .slice aa an acap, .int .i64 u, .int .i64 o, .slice sa sr scap, .bool sm, .slice ca cn ccap] 81)).alloc (.cells #[.slice none 0 0, .slice none 0 0, .int .i64 0, .int .i64 0, .slice none 0 0, .bool false, .slice none 0 0] 90)).alloc (.cells #[.slice none 0 0, .slice none 0 0, .int .i64 0, .int .i64 0, .slice none 0 0, .bool false, .slice none 0 0] 90) = W0 := ⟨_, rfl⟩
  have k0 := TK.new w (.slice la lr lcap) (.slice aa an acap) (.int .i64 u) (.int .i64 o) (.slice sa sr scap) (.bool sm) (.slice ca cn ccap) (.slice none 0 0) (.slice none 0 0) (.int .i64 0) (.int .i64 0) (.slice none 0 0) (.bool false) (.slice none 0 0) 81 90
  rw [hW0] at k0
  have K0 := hide k0
  obtain ⟨p0, p1, p2, p3, p4, p5, p6⟩ := k0.x
  clear k0
  go_enter Try.func53, Try.ntmps53
  go_wp2_with fail
  clear hW0 p0 p1 p2 p3 p4 p5 p6
  refine (toIntS B la lr lcap LD _ (H1.out.below (K0.out.b.mono hB)) (Nat.le_trans hB K0.out.b.size) l2).mono ?_
  rintro e w1 ⟨rfl, q1, s1, b1⟩
  have K1 := hide (K0.out.below b1)
  have z0 := K0.out.z
  have Q1 := hide q1
  clear b1 q1
  obtain ⟨a0, a1, a2, a3, a4, a5, a6⟩ := K1.out.x
  obtain ⟨t0, t1, t2, t3, t4, t5, t6⟩ := K1.out.t
  have g0 := K1.out.g
  unfold Fr at g0
  go_wp2_with fail
  clear a0 a1 a2 a3 a4 a5 a6 t0 t1 t2 t3 t4 t5 t6 g0
  have J1 := hide (K1.out.put 0 (.slice (some ⟨W0.heap.size, 0, none⟩) lr lr) (K1.out.t.set _).1)
  have Q1' := hide (Q1.out.kept (Kept.setCell w1 ⟨w.heap.size + 1 + 1, 0, none⟩ (.slice (some ⟨W0.heap.size, 0, none⟩) lr lr)) (by show ¬ W0.heap.size = w.heap.size + 1 + 1; omega))
  have y1 : W0.heap.size < (w1.setCell ⟨w.heap.size + 1 + 1, 0, none⟩ (.slice (some ⟨W0.heap.size, 0, none⟩) lr lr)).heap.size := by simpa [World.setCell] using s1
  clear K1 Q1 s1
  generalize w1.setCell ⟨w.heap.size + 1 + 1, 0, none⟩ (.slice (some ⟨W0.heap.size, 0, none⟩) lr lr) = E1 at *
  refine (toAccessS B aa an acap AA _ (Nat.le_trans hB J1.out.b.size) (H2.out.below (J1.out.b.mono hB)) l3 L4.out).mono ?_
  rintro e w2 ⟨U, lim, rfl, q2, s2, b2⟩
  have K2 := hide (J1.out.below b2)
  have Q1 := hide (Q1'.out.below b2 y1)
  have y2 := q2.lt
  have Q2 := hide q2
  have S2 := hide s2
  clear b2 q2 s2 J1 Q1'
  obtain ⟨a0, a1, a2, a3, a4, a5, a6⟩ := K2.out.x
  obtain ⟨t0, t1, t2, t3, t4, t5, t6⟩ := K2.out.t
  have g0 := K2.out.g
  unfold Fr at g0
  go_wp2_with fail
  clear a0 a1 a2 a3 a4 a5 a6 t0 t1 t2 t3 t4 t5 t6 g0
  have kp2 := Kept.setCell w2 ⟨w.heap.size + 1 + 1, 1, none⟩ (.slice (some ⟨E1.heap.size, 0, none⟩) an an)
  have J2 := hide (K2.out.put 1 (.slice (some ⟨E1.heap.size, 0, none⟩) an an) (K2.out.t.set _).2.1)
  have Q1' := hide (Q1.out.kept kp2 (by show ¬ W0.heap.size = w.heap.size + 1 + 1; omega))
  have Q2' := hide (Q2.out.kept kp2 (fun q c1 c2 c3 => by have c3 : q = w.heap.size + 1 + 1 := c3; omega))
  have y3 : E1.heap.size < (w2.setCell ⟨w.heap.size + 1 + 1, 1, none⟩ (.slice (some ⟨E1.heap.size, 0, none⟩) an an)).heap.size := by simpa [World.setCell] using y2
  clear K2 Q1 Q2 y2 kp2
  generalize w2.setCell ⟨w.heap.size + 1 + 1, 1, none⟩ (.slice (some ⟨E1.heap.size, 0, none⟩) an an) = E2 at *
  refine (toAccess B u o sa sr scap SD _ (H3.out.below (J2.out.b.mono hB)) (Nat.le_trans hB J2.out.b.size) l5).mono ?_
  rintro e w3 ⟨g3, rfl, hg3, q3, hg3', b3⟩
  have K3 := hide (J2.out.below b3)
  have Q1 := hide (Q1'.out.below b3 (by omega))
  have top2 := Q2'.out.top
  have Q2 := hide (Q2'.out.below b3)
  have Q3 := hide q3
  clear b3 q3 J2 Q1' Q2'
  obtain ⟨a0, a1, a2, a3, a4, a5, a6⟩ := K3.out.x
  obtain ⟨t0, t1, t2, t3, t4, t5, t6⟩ := K3.out.t
  have g0 := K3.out.g
  unfold Fr at g0
  go_wp2_with fail
  clear a0 a1 a2 a3 a4 a5 a6 t0 t1 t2 t3 t4 t5 t6 g0
  have P2 := K3.out.put 2 (.int .i64 u) (K3.out.t.set _).2.2.1
  have P3 := P2.put 3 (.int .i64 o) (P2.t.set _).2.2.2.1
  have P4 := P3.put 4 (.slice (some ⟨g3, 0, none⟩) sr sr) (P3.t.set _).2.2.2.2.1
  have J3 := hide (P4.put 5 (.bool sm) (P4.t.set _).2.2.2.2.2.1)
  have kp3 := (((Kept.setCell w3 ⟨w.heap.size + 1 + 1, 2, none⟩ (.int .i64 u)).trans (Kept.setCell _ ⟨w.heap.size + 1 + 1, 3, none⟩ (.int .i64 o))).trans (Kept.setCell _ ⟨w.heap.size + 1 + 1, 4, none⟩ (.slice (some ⟨g3, 0, none⟩) sr sr))).trans (Kept.setCell _ ⟨w.heap.size + 1 + 1, 5, none⟩ (.bool sm))
  have Q1' := hide (Q1.out.kept kp3 (by show ¬ W0.heap.size = w.heap.size + 1 + 1; omega))
  have Q2' := hide (Q2.out.kept kp3 (fun q c1 c2 c3 => by have c3 : q = w.heap.size + 1 + 1 := c3; omega))
  have Q3' := hide (Q3.out.kept kp3 (by show ¬ g3 = w.heap.size + 1 + 1; omega))
  have y4 := Nat.lt_of_lt_of_le hg3' kp3.size
  clear P2 P3 P4 K3 Q1 Q2 Q3 kp3 hg3'
  generalize (((w3.setCell ⟨w.heap.size + 1 + 1, 2, none⟩ (.int .i64 u)).setCell ⟨w.heap.size + 1 + 1, 3, none⟩ (.int .i64 o)).setCell ⟨w.heap.size + 1 + 1, 4, none⟩ (.slice (some ⟨g3, 0, none⟩) sr sr)).setCell ⟨w.heap.size + 1 + 1, 5, none⟩ (.bool sm) = E3 at *
  refine (toCalcS B ca cn ccap CC _ (Nat.le_trans hB J3.out.b.size) (H4.out.below (J3.out.b.mono hB)) l6).mono ?_
  rintro e w4 ⟨V, rfl, q4, s4, b4⟩
  have K4 := hide (J3.out.below b4)
  have Q1 := hide (Q1'.out.below b4 (by omega))
  have Q2 := hide (Q2'.out.below b4)
  have Q3 := hide (Q3'.out.below b4 y4)
  have y5 := q4.lt
  have Q4 := hide q4
  have S4 := hide s4
  clear b4 q4 s4 J3 Q1' Q2' Q3'
  obtain ⟨a0, a1, a2, a3, a4, a5, a6⟩ := K4.out.x
  obtain ⟨t0, t1, t2, t3, t4, t5, t6⟩ := K4.out.t
  obtain ⟨r0, r1, r2, r3, r4, r5, r6⟩ := K4.out.r
  have g0 := K4.out.g
  have f0 := K4.out.f
  have BB := hide K4.out.b
  unfold Fr at g0 f0
  clear K4
  go_wp2_with fail
  refine bodyPost_ret (v := KV.val ⟨some ⟨W0.heap.size, 0, none⟩, lr, lr, LD, some ⟨E1.heap.size, 0, none⟩, an, an, U, ⟨u, o, some ⟨g3, 0, none⟩, sr, sr, SD⟩, sm, some ⟨E3.heap.size, 0, none⟩, cn, cn, V⟩) (by simp [results, Try.results53, go_sem, KV.val, r0, r1, r2, r3, r4, r5, r6]) rfl ?_
  have fin : ∀ F, Kept (fun q => q = w.heap.size + 1 ∨ q = w.heap.size + 1 + 1) w4 F → KCopy ⟨la, lr, lcap, LD, aa, an, acap, AA, ⟨u, o, sa, sr, scap, SD⟩, sm, ca, cn, ccap, CC⟩ w (.returned (KV.val ⟨some ⟨W0.heap.size, 0, none⟩, lr, lr, LD, some ⟨E1.heap.size, 0, none⟩, an, an, U, ⟨u, o, some ⟨g3, 0, none⟩, sr, sr, SD⟩, sm, some ⟨E3.heap.size, 0, none⟩, cn, cn, V⟩)) F := by
    intro F kf
    exact ⟨_, _, _, _, U, lim, V, rfl, Q1.out.kept kf (by omega), ⟨Nat.le_refl _, (Q2.out.kept kf (fun q c1 c2 c3 => by omega)).lt, (Q2.out.kept kf (fun q c1 c2 c3 => by omega)).laid, (Q2.out.kept kf (fun q c1 c2 c3 => by omega)).rest, (Q2.out.kept kf (fun q c1 c2 c3 => by omega)).free, Q2.out.low, (Q2.out.kept kf (fun q c1 c2 c3 => by omega)).own, Q2.out.high, Q2.out.mono, (Q2.out.kept kf (fun q c1 c2 c3 => by omega)).top⟩, Q3.out.kept kf (by omega), Q4.out.kept kf (by omega), ⟨by omega, by omega, by show lim an ≤ g3; omega, by show g3 < E3.heap.size; omega, Nat.lt_of_lt_of_le y5 kf.size⟩, S2.out, S4.out, BB.out.trans (kf.below BB.out.size (fun q c => by omega))⟩
  have big : ∀ (W : World) (p : Nat) (i : Nat) (v : Value), (p = w.heap.size + 1 ∨ p = w.heap.size + 1 + 1) → Kept (fun q => q = w.heap.size + 1 ∨ q = w.heap.size + 1 + 1) W (W.setCell ⟨p, i, none⟩ v) := fun W p i v hp => (Kept.setCell W ⟨p, i, none⟩ v).mono (fun q _ e => by have e : q = p := e; rw [e]; exact hp)
  refine fin _ ?_
  refine Vl.Kept.trans ?_ (big _ _ _ _ (.inl rfl))
  refine Vl.Kept.trans ?_ (big _ _ _ _ (.inl rfl))
  refine Vl.Kept.trans ?_ (big _ _ _ _ (.inl rfl))
  refine Vl.Kept.trans ?_ (big _ _ _ _ (.inl rfl))
  refine Vl.Kept.trans ?_ (big _ _ _ _ (.inl rfl))
  refine Vl.Kept.trans ?_ (big _ _ _ _ (.inl rfl))
  refine Vl.Kept.trans ?_ (big _ _ _ _ (.inl rfl))
  exact big _ _ _ _ (.inr rfl)
set_option maxHeartbeats 2000000 in
theorem eqKernel (B : Nat) (k k' : KV) (w : World) (hB : B ≤ w.heap.size) (h : k.read B w) (h' : k'.read B w) (hl : k.len 1048576) (e1 : k'.lr = k.lr) (e2 : k'.an = k.an) (e3 : k'.cn = k.cn) (e4 : k'.sm = k.sm) (e5 : k'.st.u = k.st.u ∧ k'.st.o = k.st.o ∧ k'.st.r = k.st.r)
    (d1 : ∀ j, j < k.lr → k.LD j = k'.LD j) (d2 : ∀ i, i < k.an → (k'.AA i).u = (k.AA i).u ∧ (k'.AA i).o = (k.AA i).o ∧ (k'.AA i).r = (k.AA i).r ∧ (∀ j, j < (k.AA i).r → (k.AA i).D j = (k'.AA i).D j)) (d3 : ∀ j, j < k.st.r → k.st.D j = k'.st.D j) (d4 : ∀ i, i < k.cn → k'.CC i = k.CC i) :
    Calls Try.prog 65 #[k.val, k'.val] w fun e w' => e = .returned (.bool true) ∧ Below w.heap.size w w' := by
  obtain ⟨la, lr, lcap, LD, aa, an, acap, AA, ⟨u, o, sa, sr, scap, SD⟩, sm, ca, cn, ccap, CC⟩ := k
  obtain ⟨la', lr', lcap', LD', aa', an', acap', AA', ⟨u', o', sa', sr', scap', SD'⟩, sm', ca', cn', ccap', CC'⟩ := k'
  obtain ⟨h1, h2, ⟨h3, _⟩, h4⟩ := h
  obtain ⟨i1, i2, ⟨i3, _⟩, i4⟩ := h'
  obtain ⟨l2, l3, l4, l5, l6⟩ := hl
  obtain ⟨e5, e6, e7⟩ := e5
  dsimp only at *
  subst e1 e2 e3 e4 e5 e6 e7
  unfold KV.val
  dsimp only
  have B0 := hide (show Below w.heap.size w ((w.alloc (.cells #[.slice la lr' lcap, .slice aa an' acap, .int .i64 u', .int .i64 o', .slice sa sr' scap, .bool sm', .slice ca cn' ccap] 90)).alloc (.cells #[.slice la' lr' lcap', .slice aa' an' acap', .int .i64 u', .int .i64 o', .slice sa' sr' scap', .bool sm', .slice ca' cn' ccap'] 90)) from ((Below.refl _ _).alloc (Nat.le_refl _) _).alloc (by simp) _)
  have H1 := hide h1
  have H2 := hide h2
  have H3 := hide h3
  have H4 := hide h4
  have I1 := hide i1
  have I2 := hide i2
  have I3 := hide i3
  have I4 := hide i4
  have L4 := hide l4
  have D1 := hide d1
  have D2 := hide d2
  have D3 := hide d3
  have D4 := hide d4
  have cm : (sm' != sm') = false := by simp
  clear h1 h2 h3 h4 i1 i2 i3 i4 l4 d1 d2 d3 d4
  go_enter Try.func65, Try.ntmps65
  go_wp2_with fail
  refine (eqIntS B la la' lr' lcap lcap' LD LD' _ (H1.out.below (B0.out.mono hB)) (I1.out.below (B0.out.mono hB)) D1.out l2).mono ?_
  rintro e w1 ⟨rfl, b1⟩
  have hc1 := old_cells b1
  have c10 := fun i => hc1 w.heap.size i (by simp; omega)
  have c11 := fun i => hc1 (w.heap.size + 1) i (by simp)
  have B1 := hide (B0.out.trans (b1.mono B0.out.size))
  have z1 : w.heap.size + 1 < w1.heap.size := by have := b1.size; simp at this; omega
  clear hc1 b1
  go_wp2_with fail
  refine (eqAccessS B aa aa' an' acap acap' AA AA' _ (Nat.le_trans hB B1.out.size) (H2.out.below (B1.out.mono hB)) (I2.out.below (B1.out.mono hB)) l3 L4.out D2.out).mono ?_
  rintro e w2 ⟨rfl, b2⟩
  have hc2 := old_cells b2
  have c20 := fun i => hc2 w.heap.size i (by omega)
  have c21 := fun i => hc2 (w.heap.size + 1) i (by omega)
  have B2 := hide (B1.out.trans (b2.mono B1.out.size))
  have z2 : w.heap.size + 1 < w2.heap.size := by have := b2.size; omega
  clear hc2 b2
  go_wp2_with fail
  refine (eqAccess B u' o' sa sa' sr' scap scap' SD SD' _ (Nat.le_trans hB B2.out.size) (H3.out.below (B2.out.mono hB)) (I3.out.below (B2.out.mono hB)) D3.out l5).mono ?_
  rintro e w3 ⟨rfl, b3⟩
  have hc3 := old_cells b3
  have c30 := fun i => hc3 w.heap.size i (by omega)
  have c31 := fun i => hc3 (w.heap.size + 1) i (by omega)
  have B3 := hide (B2.out.trans (b3.mono B2.out.size))
  clear hc3 b3
  go_wp2_with fail
  refine (eqCalcS B ca ca' cn' ccap ccap' CC CC' _ (Nat.le_trans hB B3.out.size) (H4.out.below (B3.out.mono hB)) (I4.out.below (B3.out.mono hB)) l6 D4.out).mono ?_
  rintro e w4 ⟨rfl, b4⟩
  have B4 := hide (B3.out.trans (b4.mono B3.out.size))
  clear b4
  go_wp2_with fail
  go_ret
  exact ⟨rfl, B4.out⟩
end Vo
end Go.Proofs.Ytgmjijjckedmcaa
