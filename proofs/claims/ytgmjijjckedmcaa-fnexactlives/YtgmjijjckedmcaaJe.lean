/- Lists of kernels in memory: measured, copied, compared. -/
import Derived.Test.YtgmjijjckedmcaaJd
namespace Go.Proofs.Ytgmjijjckedmcaa
namespace Vo
open Go.ChangeShapes Go.WideShapes Go.ChangeAt Go.RowKit Go.Joins Go.Sort
open Vl Vp
set_option linter.unusedVariables false
set_option linter.unusedSimpArgs false
/-- a kernel's seven cells -/
def KAt (w : World) (b o : Nat) (k : KV) : Prop := w.cell? ⟨b, o, none⟩ = some (.slice k.la k.lr k.lcap) ∧ w.cell? ⟨b, o + 1, none⟩ = some (.slice k.aa k.an k.acap) ∧ w.cell? ⟨b, o + 2, none⟩ = some (.int .i64 k.st.u) ∧ w.cell? ⟨b, o + 3, none⟩ = some (.int .i64 k.st.o) ∧ w.cell? ⟨b, o + 4, none⟩ = some (.slice k.st.a k.st.r k.st.cap) ∧ w.cell? ⟨b, o + 5, none⟩ = some (.bool k.sm) ∧ w.cell? ⟨b, o + 6, none⟩ = some (.slice k.ca k.cn k.ccap)
theorem KAt.of {w w' : World} {b o : Nat} {k : KV} (h : KAt w b o k) (hc : ∀ i, w'.cell? ⟨b, i, none⟩ = w.cell? ⟨b, i, none⟩) : KAt w' b o k := by
  unfold KAt
  rw [hc, hc, hc, hc, hc, hc, hc]
  exact h
/-- a list of kernels that can be read -/
def LK (B : Nat) (w : World) (a : Option Addr) (n : Nat) (K : Nat → KV) : Prop :=
  n = 0 ∨ ∃ blk off, a = some ⟨blk, off, none⟩ ∧ blk < B ∧ ∀ i, i < n → KAt w blk (off + i * 7) (K i) ∧ (K i).read B w
theorem LK.below {B : Nat} {w w' : World} {a : Option Addr} {n : Nat} {K : Nat → KV} (h : LK B w a n K) (hb : Below B w w') : LK B w' a n K := by
  rcases h with h | ⟨blk, off, rfl, hB, hc⟩
  · exact .inl h
  · exact .inr ⟨blk, off, rfl, hB, fun i hi => ⟨(hc i hi).1.of (fun j => hb.cell (p := ⟨blk, j, none⟩) hB), (hc i hi).2.below hb⟩⟩
theorem LK.mono {B B' : Nat} {w : World} {a : Option Addr} {n : Nat} {K : Nat → KV} (h : LK B w a n K) (hb : B ≤ B') : LK B' w a n K := by
  rcases h with h | ⟨blk, off, rfl, hB, hc⟩
  · exact .inl h
  · exact .inr ⟨blk, off, rfl, by omega, fun i hi => ⟨(hc i hi).1, (hc i hi).2.mono hb⟩⟩
def KLen (n : Nat) (K : Nat → KV) (m : Int) : Prop := ∀ i, i < n → (K i).len m
set_option maxHeartbeats 1000000 in
theorem szKernelS (B : Nat) (a : Option Addr) (n cap : Nat) (K : Nat → KV) (l : Int) (w : World) (hB : B ≤ w.heap.size) (h : LK B w a n K) (hn : (n : Int) ≤ 9223372036854775807) (hl : KLen n K 9223372036854775807) (l0 : 0 ≤ l) (l1 : l ≤ 1048576) :
    Calls Try.prog 21 #[.slice a n cap, .int .i64 l] w fun e w' => ∃ x : Int, e = .returned (.int .i64 x) ∧ (0 ≤ x → x ≤ 1048576 ∧ (n : Int) ≤ 1048576 ∧ KLen n K 1048576) ∧ Below w.heap.size w w' := by
  have H := hide h
  have HL := hide hl
  have wl : IntKind.i64.wrap (l - n) = l - n := by rw [IntKind.wrap_i64]; omega
  clear h hl
  go_enter Try.func21, Try.ntmps21
  by_cases h0 : l - (n : Int) < 0
  · have h0' : decide (l - (n : Int) < 0) = true := decide_eq_true h0
    clear h0
    go_wp2_with fail
    go_ret
    exact ⟨-1, rfl, fun e => by omega, Below.refl _ _⟩
  have h0' : decide (l - (n : Int) < 0) = false := decide_eq_false h0
  have n1 : (n : Int) ≤ 1048576 := by omega
  go_wp2_with fail
  go_loopw [1, 5] (fun v i wx => ∃ (k : Nat) (x : Int), k ≤ n ∧ i = .int .i64 k ∧ v = .int .i64 x ∧ 0 ≤ x ∧ x ≤ 1048576 ∧ KLen k K 1048576 ∧ Below w.heap.size w wx) (fun _ i _ => n - (intOf i).toNat)
  case atStart => exact ⟨0, _, Nat.zero_le _, rfl, rfl, by omega, by omega, fun i hi => by omega, Below.refl _ _⟩
  case round =>
    obtain ⟨X, rfl⟩ : ∃ X, X = wr := ⟨_, rfl⟩
    obtain ⟨k, x, hk, rfl, rfl, x0, x1, hs, hby⟩ := hrel
    have HS := hide hs
    have HBY := hide hby
    clear hs hby
    by_cases hlt : k < n
    · have kI : (k : Int) < n := by omega
      rcases H.out.below (HBY.out.mono hB) with q0 | ⟨blk, off, rfl, hbk, hc⟩
      · omega
      obtain ⟨⟨c0, c1, c2, c3, c4, c5, c6⟩, rd⟩ := hc k hlt
      have CZ := hide (szKernel B (K k) x X (Nat.le_trans hB HBY.out.size) rd (HL.out k hlt) x0 x1)
      unfold KV.val at CZ
      clear hc rd
      go_wp2_with fail
      refine CZ.out.mono ?_
      rintro e X1 ⟨y, rfl, hy, b1⟩
      have BY1 := hide (HBY.out.trans (b1.mono HBY.out.size))
      have HY := hide hy
      clear hy b1 c0 c1 c2 c3 c4 c5 c6 CZ
      by_cases y0 : y < 0
      · have y0' : decide (y < 0) = true := decide_eq_true y0
        clear y0
        go_wp2_with fail
        go_ret
        exact ⟨-1, rfl, fun e => by omega, BY1.out⟩
      · have y0' : decide (y < 0) = false := decide_eq_false y0
        have y1 : 0 ≤ y := by omega
        have y2 := (HY.out y1).1
        clear y0
        go_wp2_with fail
        go_roundw
        all_goals first
          | (simp only [intOf]; omega)
          | (simp [intOf]; omega)
          | exact ⟨k + 1, y, by omega, by go_num, rfl, y1, y2, fun i hi => by
              by_cases c : i = k
              · rw [c]; exact (HY.out y1).2.1
              · exact HS.out i (by omega), BY1.out⟩
    · obtain rfl : k = n := by omega
      go_wp2_with fail
      go_ret
      exact ⟨x, rfl, fun _ => ⟨x1, n1, HS.out⟩, HBY.out⟩
/-- a kernel of one's own, from B on -/
def KV.own (B : Nat) (w : World) (k : KV) : Prop :=
  OwnL B w k.la k.lr k.LD ∧ (∃ p lim, k.aa = some ⟨p, 0, none⟩ ∧ OAL B w p k.an k.an k.AA lim) ∧ (OwnL B w k.st.a k.st.r k.st.D ∧ bd k.st.u ∧ bd k.st.o) ∧ ∃ p, k.ca = some ⟨p, 0, none⟩ ∧ OCL B w p k.cn k.cn k.CC
theorem KV.own.read {B : Nat} {w : World} {k : KV} (h : k.own B w) : k.read w.heap.size w := by
  obtain ⟨h1, ⟨p, lim, e, h2⟩, ⟨h3, h4⟩, p', e', h5⟩ := h
  exact ⟨h1.ints, by rw [e]; exact h2.read, ⟨h3.ints, h4⟩, by rw [e']; exact h5.read⟩
theorem KV.own.below {B : Nat} {w w' : World} {k : KV} (h : k.own B w) (hb : Below w.heap.size w w') : k.own B w' := by
  obtain ⟨h1, ⟨p, lim, e, h2⟩, ⟨h3, h4⟩, p', e', h5⟩ := h
  exact ⟨h1.below hb, ⟨p, lim, e, h2.below hb⟩, ⟨h3.below hb, h4⟩, p', e', h5.below hb⟩
theorem KV.own.kept {B : Nat} {w w' : World} {k : KV} {g : Nat} (h : k.own B w) (hk : Kept (· = g) w w') (hg : g < B) : k.own B w' := by
  obtain ⟨h1, ⟨p, lim, e, h2⟩, ⟨h3, h4⟩, p', e', h5⟩ := h
  have l2 := h2.lo
  have l5 := h5.lo
  exact ⟨h1.kept hk (fun q hq c => by have := (h1.blk hq).1; have c : q = g := c; omega), ⟨p, lim, e, h2.kept hk (fun q c1 c2 c => by have c : q = g := c; omega)⟩, ⟨h3.kept hk (fun q hq c => by have := (h3.blk hq).1; have c : q = g := c; omega), h4⟩, p', e', h5.kept hk (by show ¬ p' = g; omega)⟩
theorem KV.own.mono {B B' : Nat} {w : World} {k : KV} (h : k.own B w) (hB : B' ≤ B) : k.own B' w := by
  obtain ⟨h1, ⟨p, lim, e, h2⟩, ⟨h3, h4⟩, p', e', h5⟩ := h
  exact ⟨h1.mono hB, ⟨p, lim, e, ⟨Nat.le_trans hB h2.lo, h2.lt, h2.laid, h2.rest, h2.free, h2.low, h2.own, h2.high, h2.mono, h2.top⟩⟩, ⟨h3.mono hB, h4⟩, p', e', ⟨Nat.le_trans hB h5.lo, h5.lt, h5.laid, h5.rest, h5.free⟩⟩
/-- kernels that say the same -/
def KSame (k k' : KV) : Prop := k'.lr = k.lr ∧ k'.LD = k.LD ∧ k'.an = k.an ∧ ASame k.an k.AA k'.AA ∧ (k'.st.u = k.st.u ∧ k'.st.o = k.st.o ∧ k'.st.r = k.st.r ∧ k'.st.D = k.st.D) ∧ k'.sm = k.sm ∧ k'.cn = k.cn ∧ CSame k.cn k.CC k'.CC
/-- a kernel that was copied -/
theorem kcopy_own {k : KV} {w w' : World} {e : Ending} (hr : bd k.st.u ∧ bd k.st.o) (h : KCopy k w e w') : ∃ k', e = .returned (KV.val k') ∧ k'.own w.heap.size w' ∧ KSame k k' ∧ Below w.heap.size w w' := by
  obtain ⟨g1, g2, g3, g4, U, lim, V, rfl, q1, q2, q3, q4, ⟨z1, z2, z3, z4, z5⟩, s2, s4, bb⟩ := h
  have l2 := q2.low
  have lm := lim_leA q2.mono (Nat.zero_le k.an) (Nat.le_refl k.an)
  refine ⟨_, rfl, ⟨.inr ⟨g1, rfl, z1, q1⟩, ⟨g2, lim, rfl, ⟨by show w.heap.size ≤ g2; omega, q2.lt, q2.laid, q2.rest, q2.free, q2.low, q2.own, q2.high, q2.mono, q2.top⟩⟩, ⟨.inr ⟨g3, rfl, by omega, q3⟩, hr⟩, g4, rfl, ⟨by show w.heap.size ≤ g4; omega, q4.lt, q4.laid, q4.rest, q4.free⟩⟩, ⟨rfl, rfl, rfl, s2, ⟨rfl, rfl, rfl, rfl⟩, rfl, rfl, s4⟩, bb⟩
/-- a list of kernels of one's own, k of them laid -/
structure OKL (w : World) (g n k : Nat) (K : Nat → KV) : Prop where
  lt : g < w.heap.size
  laid : ∀ i, i < k → KAt w g (i * 7) (K i)
  rest : ∀ i, k * 7 ≤ i → i < n * 7 → ∃ v, w.cell? ⟨g, i, none⟩ = some v
  free : ∀ i, w.frozen? ⟨g, i, none⟩ = false
  own : ∀ i, i < k → (K i).own (g + 1) w
theorem OKL.below {w w' : World} {g n k : Nat} {K : Nat → KV} (h : OKL w g n k K) (hb : Below w.heap.size w w') : OKL w' g n k K :=
  ⟨Nat.lt_of_lt_of_le h.lt hb.size, fun i hi => (h.laid i hi).of (fun j => hb.cell (p := ⟨g, j, none⟩) h.lt), fun i h1 h2 => by rw [hb.cell (p := ⟨g, i, none⟩) h.lt]; exact h.rest i h1 h2, fun i => (hb.frozen (p := ⟨g, i, none⟩) h.lt).trans (h.free i), fun i hi => (h.own i hi).below hb⟩
theorem OKL.read {w : World} {g n : Nat} {K : Nat → KV} (h : OKL w g n n K) : LK w.heap.size w (some ⟨g, 0, none⟩) n K :=
  .inr ⟨g, 0, rfl, h.lt, fun i hi => ⟨by rw [Nat.zero_add]; exact h.laid i hi, (h.own i hi).read⟩⟩
/-- seven cells set -/
abbrev set7 (w : World) (g o : Nat) (v0 v1 v2 v3 v4 v5 v6 : Value) : World :=
  ((((((w.setCell ⟨g, o, none⟩ v0).setCell ⟨g, o + 1, none⟩ v1).setCell ⟨g, o + 2, none⟩ v2).setCell ⟨g, o + 3, none⟩ v3).setCell ⟨g, o + 4, none⟩ v4).setCell ⟨g, o + 5, none⟩ v5).setCell ⟨g, o + 6, none⟩ v6
theorem set7_kept (w : World) (g o : Nat) (v0 v1 v2 v3 v4 v5 v6 : Value) : Kept (· = g) w (set7 w g o v0 v1 v2 v3 v4 v5 v6) :=
  ((((((Kept.setCell w ⟨g, o, none⟩ v0).trans (Kept.setCell _ ⟨g, o + 1, none⟩ v1)).trans (Kept.setCell _ ⟨g, o + 2, none⟩ v2)).trans (Kept.setCell _ ⟨g, o + 3, none⟩ v3)).trans (Kept.setCell _ ⟨g, o + 4, none⟩ v4)).trans (Kept.setCell _ ⟨g, o + 5, none⟩ v5)).trans (Kept.setCell _ ⟨g, o + 6, none⟩ v6)
theorem set1_other {w : World} {g i j : Nat} (v : Value) (h : j ≠ i) : (w.setCell ⟨g, i, none⟩ v).cell? ⟨g, j, none⟩ = w.cell? ⟨g, j, none⟩ := World.cell?_setCell_other _ _ _ _ (by intro e; injection e with _ e _; omega)
theorem set7_far {w : World} {g o j : Nat} (v0 v1 v2 v3 v4 v5 v6 : Value) (h : j < o ∨ o + 7 ≤ j) : (set7 w g o v0 v1 v2 v3 v4 v5 v6).cell? ⟨g, j, none⟩ = w.cell? ⟨g, j, none⟩ := by
  unfold set7
  rw [set1_other _ (by omega), set1_other _ (by omega), set1_other _ (by omega), set1_other _ (by omega), set1_other _ (by omega), set1_other _ (by omega), set1_other _ (by omega)]
theorem set7_at {w : World} {g o : Nat} (k : KV) (h : ∀ i, o ≤ i → i < o + 7 → ∃ v, w.cell? ⟨g, i, none⟩ = some v) : KAt (set7 w g o (.slice k.la k.lr k.lcap) (.slice k.aa k.an k.acap) (.int .i64 k.st.u) (.int .i64 k.st.o) (.slice k.st.a k.st.r k.st.cap) (.bool k.sm) (.slice k.ca k.cn k.ccap)) g o k := by
  obtain ⟨u0, h0⟩ := h o (by omega) (by omega)
  obtain ⟨u1, h1⟩ := h (o + 1) (by omega) (by omega)
  obtain ⟨u2, h2⟩ := h (o + 2) (by omega) (by omega)
  obtain ⟨u3, h3⟩ := h (o + 3) (by omega) (by omega)
  obtain ⟨u4, h4⟩ := h (o + 4) (by omega) (by omega)
  obtain ⟨u5, h5⟩ := h (o + 5) (by omega) (by omega)
  obtain ⟨u6, h6⟩ := h (o + 6) (by omega) (by omega)
  unfold KAt set7
  refine ⟨?_, ?_, ?_, ?_, ?_, ?_, ?_⟩
  · rw [set1_other _ (by omega), set1_other _ (by omega), set1_other _ (by omega), set1_other _ (by omega), set1_other _ (by omega), set1_other _ (by omega)]
    exact World.cell?_setCell_same _ _ _ h0
  · rw [set1_other _ (by omega), set1_other _ (by omega), set1_other _ (by omega), set1_other _ (by omega), set1_other _ (by omega)]
    exact World.cell?_setCell_same _ _ _ ((set1_other _ (by omega)).trans h1)
  · rw [set1_other _ (by omega), set1_other _ (by omega), set1_other _ (by omega), set1_other _ (by omega)]
    exact World.cell?_setCell_same _ _ _ ((set1_other _ (by omega)).trans ((set1_other _ (by omega)).trans h2))
  · rw [set1_other _ (by omega), set1_other _ (by omega), set1_other _ (by omega)]
    exact World.cell?_setCell_same _ _ _ ((set1_other _ (by omega)).trans ((set1_other _ (by omega)).trans ((set1_other _ (by omega)).trans h3)))
  · rw [set1_other _ (by omega), set1_other _ (by omega)]
    exact World.cell?_setCell_same _ _ _ ((set1_other _ (by omega)).trans ((set1_other _ (by omega)).trans ((set1_other _ (by omega)).trans ((set1_other _ (by omega)).trans h4))))
  · rw [set1_other _ (by omega)]
    exact World.cell?_setCell_same _ _ _ ((set1_other _ (by omega)).trans ((set1_other _ (by omega)).trans ((set1_other _ (by omega)).trans ((set1_other _ (by omega)).trans ((set1_other _ (by omega)).trans h5)))))
  · exact World.cell?_setCell_same _ _ _ ((set1_other _ (by omega)).trans ((set1_other _ (by omega)).trans ((set1_other _ (by omega)).trans ((set1_other _ (by omega)).trans ((set1_other _ (by omega)).trans ((set1_other _ (by omega)).trans h6))))))
theorem okl_put {X X1 : World} {g n k : Nat} {U : Nat → KV} {x : KV} (h : OKL X g n k U) (hk : k < n) (hb : Below X.heap.size X X1) (ho : x.own X.heap.size X1) :
    OKL (set7 X1 g (k * 7) (.slice x.la x.lr x.lcap) (.slice x.aa x.an x.acap) (.int .i64 x.st.u) (.int .i64 x.st.o) (.slice x.st.a x.st.r x.st.cap) (.bool x.sm) (.slice x.ca x.cn x.ccap)) g n (k + 1) (fun i => if i = k then x else U i) := by
  have h1 := h.below hb
  have kp := set7_kept X1 g (k * 7) (.slice x.la x.lr x.lcap) (.slice x.aa x.an x.acap) (.int .i64 x.st.u) (.int .i64 x.st.o) (.slice x.st.a x.st.r x.st.cap) (.bool x.sm) (.slice x.ca x.cn x.ccap)
  have ltX := h.lt
  refine ⟨Nat.lt_of_lt_of_le h1.lt kp.size, fun i hi => ?_, fun i h2 h3 => ?_, fun i => ?_, fun i hi => ?_⟩
  · by_cases c : i = k
    · subst c
      rw [if_pos rfl]
      exact set7_at x (fun j a b => h1.rest j a (by omega))
    · rw [if_neg c]
      have q := h1.laid i (by omega)
      unfold KAt at q ⊢
      rw [set7_far _ _ _ _ _ _ _ (by omega), set7_far _ _ _ _ _ _ _ (by omega), set7_far _ _ _ _ _ _ _ (by omega), set7_far _ _ _ _ _ _ _ (by omega), set7_far _ _ _ _ _ _ _ (by omega), set7_far _ _ _ _ _ _ _ (by omega), set7_far _ _ _ _ _ _ _ (by omega)]
      exact q
  · rw [set7_far _ _ _ _ _ _ _ (by omega)]
    exact h1.rest i (by omega) h3
  · unfold set7
    rw [World.frozen?_setCell, World.frozen?_setCell, World.frozen?_setCell, World.frozen?_setCell, World.frozen?_setCell, World.frozen?_setCell, World.frozen?_setCell]
    exact h1.free i
  · by_cases c : i = k
    · rw [if_pos c]
      exact (ho.kept kp (by omega)).mono (by omega)
    · rw [if_neg c]
      exact (h1.own i (by omega)).kept kp (by omega)
theorem make_ker (n : Nat) (hn : (n : Int) ≤ 1048576) (w : World) : (Instr.makeSlice 31 (.int .i64 n) (.int .i64 n)).run Try.prog w = .ok (.slice (some ⟨w.heap.size, 0, none⟩) n n) (w.alloc (.cells (madeCells #[.slice none 0 0, .slice none 0 0, .int .i64 0, .int .i64 0, .slice none 0 0, .bool false, .slice none 0 0] (n * 7)) 90)) := by
  have hi : (Try.prog.info? 90).map (fun i => (i.zero, i.size, i.bytes)) = some (some (.agg #[.slice none 0 0, .slice none 0 0, .int .i64 0, .int .i64 0, .slice none 0 0, .bool false, .slice none 0 0]), 7, 120) := by kernel_rfl
  obtain ⟨i, h1, h2⟩ := Option.map_eq_some_iff.1 hi
  simp only [Prod.mk.injEq] at h2
  obtain ⟨hz, hs, hb⟩ := h2
  have := run_make (P := Try.prog) w 31 90 i (.agg #[.slice none 0 0, .slice none 0 0, .int .i64 0, .int .i64 0, .slice none 0 0, .bool false, .slice none 0 0]) Try.underlying31 h1 hz .i64 .i64 n n (by omega) (Int.le_refl _) (by rw [hb]; omega) (by omega)
  rw [hs] at this
  simpa [Value.cells] using this
theorem okl_new (w : World) (n : Nat) (K : Nat → KV) : OKL (w.alloc (.cells (madeCells #[.slice none 0 0, .slice none 0 0, .int .i64 0, .int .i64 0, .slice none 0 0, .bool false, .slice none 0 0] (n * 7)) 90)) w.heap.size n 0 K := by
  refine ⟨by simp, fun i hi => by omega, fun i _ hi => ?_, fun i => by simp [go_sem], fun i hi => by omega⟩
  rw [World.cell?_alloc_at _ _ _ _ rfl]
  have : i % 7 < 7 := by omega
  exact ⟨_, by simp [madeCells, hi]; rfl⟩
set_option maxRecDepth 100000 in
set_option maxHeartbeats 2000000 in
theorem toKernelS (B : Nat) (a : Option Addr) (n cap : Nat) (K : Nat → KV) (w : World) (hB : B ≤ w.heap.size) (h : LK B w a n K) (hn : (n : Int) ≤ 1048576) (hl : KLen n K 1048576) :
    Calls Try.prog 26 #[.slice a n cap] w fun e w' => ∃ U, e = .returned (.slice (some ⟨w.heap.size, 0, none⟩) n n) ∧ OKL w' w.heap.size n n U ∧ (∀ i, i < n → KSame (K i) (U i)) ∧ Below w.heap.size w w' := by
  have hmk := make_ker n hn
  obtain ⟨W0, hW0⟩ : ∃ W0, w.alloc (.cells (madeCells #[.slice none 0 0, .slice none 0 0, .int .i64 0, .int .i64 0, .slice none 0 0, .bool false, .slice none 0 0] (n * 7)) 90) = W0 := ⟨_, rfl⟩
  have o0 := okl_new w n K
  rw [hW0] at o0
  have bl : Below w.heap.size w W0 := by rw [← hW0]; exact (Below.refl _ _).alloc (Nat.le_refl _) _
  have O0 := hide o0
  have BL := hide bl
  have H := hide h
  have HL := hide hl
  clear h hl o0 bl
  go_enter Try.func26, Try.ntmps26
  go_wp2_with fail
  clear hW0 hmk
  go_loopw [4] (fun i wx => ∃ (k : Nat) (U : Nat → KV), k ≤ n ∧ i = .int .i64 k ∧ OKL wx w.heap.size n k U ∧ (∀ i, i < k → KSame (K i) (U i)) ∧ Below w.heap.size w wx) (fun i _ => n - (intOf i).toNat)
  case atStart => exact ⟨0, _, Nat.zero_le _, rfl, O0.out, fun i hi => by omega, BL.out⟩
  case round =>
    obtain ⟨X, rfl⟩ : ∃ X, X = wr := ⟨_, rfl⟩
    obtain ⟨k, U, hk, rfl, ho, hs, hby⟩ := hrel
    have HO := hide ho
    have HS := hide hs
    have HBY := hide hby
    clear ho hs hby
    by_cases hlt : k < n
    · have kI : (k : Int) < n := by omega
      rcases H.out.below (HBY.out.mono hB) with q0 | ⟨blk, off, rfl, hbk, hc⟩
      · omega
      obtain ⟨⟨c0, c1, c2, c3, c4, c5, c6⟩, rd⟩ := hc k hlt
      have RD := hide rd
      have CT := hide (toKernel B (K k) X (Nat.le_trans hB HBY.out.size) rd (HL.out k hlt))
      unfold KV.val at CT
      obtain ⟨u0, e0⟩ := HO.out.rest (k * 7) (by omega) (by omega)
      obtain ⟨u1, e1⟩ := HO.out.rest (k * 7 + 1) (by omega) (by omega)
      obtain ⟨u2, e2⟩ := HO.out.rest (k * 7 + 2) (by omega) (by omega)
      obtain ⟨u3, e3⟩ := HO.out.rest (k * 7 + 3) (by omega) (by omega)
      obtain ⟨u4, e4⟩ := HO.out.rest (k * 7 + 4) (by omega) (by omega)
      obtain ⟨u5, e5⟩ := HO.out.rest (k * 7 + 5) (by omega) (by omega)
      obtain ⟨u6, e6⟩ := HO.out.rest (k * 7 + 6) (by omega) (by omega)
      clear hc rd
      go_wp2_with fail
      refine CT.out.mono ?_
      intro e X1 hcp
      obtain ⟨x, rfl, xo, xs, b1⟩ := kcopy_own RD.out.2.2.1.2 hcp
      have ltX := HO.out.lt
      have d0 := (b1.cell (p := ⟨w.heap.size, k * 7, none⟩) ltX).trans e0
      have f0 := (b1.frozen (p := ⟨w.heap.size, k * 7, none⟩) ltX).trans (HO.out.free _)
      have d1 := (b1.cell (p := ⟨w.heap.size, k * 7 + 1, none⟩) ltX).trans e1
      have f1 := (b1.frozen (p := ⟨w.heap.size, k * 7 + 1, none⟩) ltX).trans (HO.out.free _)
      have d2 := (b1.cell (p := ⟨w.heap.size, k * 7 + 2, none⟩) ltX).trans e2
      have f2 := (b1.frozen (p := ⟨w.heap.size, k * 7 + 2, none⟩) ltX).trans (HO.out.free _)
      have d3 := (b1.cell (p := ⟨w.heap.size, k * 7 + 3, none⟩) ltX).trans e3
      have f3 := (b1.frozen (p := ⟨w.heap.size, k * 7 + 3, none⟩) ltX).trans (HO.out.free _)
      have d4 := (b1.cell (p := ⟨w.heap.size, k * 7 + 4, none⟩) ltX).trans e4
      have f4 := (b1.frozen (p := ⟨w.heap.size, k * 7 + 4, none⟩) ltX).trans (HO.out.free _)
      have d5 := (b1.cell (p := ⟨w.heap.size, k * 7 + 5, none⟩) ltX).trans e5
      have f5 := (b1.frozen (p := ⟨w.heap.size, k * 7 + 5, none⟩) ltX).trans (HO.out.free _)
      have d6 := (b1.cell (p := ⟨w.heap.size, k * 7 + 6, none⟩) ltX).trans e6
      have f6 := (b1.frozen (p := ⟨w.heap.size, k * 7 + 6, none⟩) ltX).trans (HO.out.free _)
      have XO := hide xo
      have XS := hide xs
      have B1 := hide b1
      clear xo xs b1 hcp c0 c1 c2 c3 c4 c5 c6 e0 e1 e2 e3 e4 e5 e6 CT
      obtain ⟨xla, xlr, xlcap, xLD, xaa, xan, xacap, xAA, ⟨xu, xq, xsa, xsr, xscap, xSD⟩, xsm, xca, xcn, xccap, xCC⟩ := x
      have put := okl_put HO.out hlt B1.out XO.out
      have kst := set7_kept X1 w.heap.size (k * 7) (.slice xla xlr xlcap) (.slice xaa xan xacap) (.int .i64 xu) (.int .i64 xq) (.slice xsa xsr xscap) (.bool xsm) (.slice xca xcn xccap)
      dsimp only [set7] at put kst
      have PUT := hide put
      have KST := hide kst
      clear put kst
      unfold KV.val
      dsimp only
      go_wp2_with fail
      go_roundw
      all_goals first
        | (simp only [intOf]; omega)
        | (simp [intOf]; omega)
        | exact ⟨k + 1, _, by omega, by go_num, PUT.out, fun i hi => by
            by_cases c : i = k
            · rw [if_pos c, c]
              exact XS.out
            · rw [if_neg c]
              exact HS.out i (by omega), (HBY.out.trans (B1.out.mono HBY.out.size)).trans (KST.out.below (Nat.le_trans HBY.out.size B1.out.size) (fun q c => by have c : q = w.heap.size := c; omega))⟩
    · obtain rfl : k = n := by omega
      go_wp2_with fail
      go_ret
      exact ⟨U, rfl, HO.out, HS.out, HBY.out⟩
set_option maxRecDepth 100000 in
set_option maxHeartbeats 2000000 in
theorem eqKernelS (B : Nat) (a b : Option Addr) (n cap cap' : Nat) (K U : Nat → KV) (w : World) (hB : B ≤ w.heap.size) (h : LK B w a n K) (h' : LK B w b n U) (hn : (n : Int) ≤ 1048576) (hl : KLen n K 1048576) (hs : ∀ i, i < n → KSame (K i) (U i)) :
    Calls Try.prog 32 #[.slice a n cap, .slice b n cap'] w fun e w' => e = .returned (.bool true) ∧ Below w.heap.size w w' := by
  have H := hide h
  have H' := hide h'
  have HL := hide hl
  have HS := hide hs
  have c' : ((n : Int) != (n : Int)) = false := by simp
  clear h h' hl hs
  go_enter Try.func32, Try.ntmps32
  go_wp2_with fail
  clear c'
  go_loopw [5] (fun i wx => ∃ k : Nat, k ≤ n ∧ i = .int .i64 k ∧ Below w.heap.size w wx) (fun i _ => n - (intOf i).toNat)
  case atStart => exact ⟨0, Nat.zero_le _, rfl, Below.refl _ _⟩
  case round =>
    obtain ⟨X, rfl⟩ : ∃ X, X = wr := ⟨_, rfl⟩
    obtain ⟨k, hk, rfl, hby⟩ := hrel
    have HBY := hide hby
    clear hby
    by_cases hlt : k < n
    · have kI : (k : Int) < n := by omega
      rcases H.out.below (HBY.out.mono hB) with q0 | ⟨ba, oa, rfl, hba, hca⟩
      · omega
      rcases H'.out.below (HBY.out.mono hB) with q0 | ⟨bb, ob, rfl, hbb, hcb⟩
      · omega
      obtain ⟨⟨a0, a1, a2, a3, a4, a5, a6⟩, ra⟩ := hca k hlt
      obtain ⟨⟨b0, b1, b2, b3, b4, b5, b6⟩, rb⟩ := hcb k hlt
      obtain ⟨s1, s2, s3, s4, ⟨s5, s6, s7, s8⟩, s9, s10, s11⟩ := HS.out k hlt
      have CE := hide (eqKernel B (K k) (U k) X.drew (Nat.le_trans hB HBY.out.size) ra rb (HL.out k hlt) s1 s3 s10 s9 ⟨s5, s6, s7⟩ (fun j _ => by rw [s2]) (fun i hi => ⟨(s4 i hi).1, (s4 i hi).2.1, (s4 i hi).2.2.1, fun j _ => by rw [(s4 i hi).2.2.2.1]⟩) (fun j _ => by rw [s8]) (fun i hi => s11 i hi))
      unfold KV.val at CE
      clear hca hcb ra rb s1 s2 s3 s4 s5 s6 s7 s8 s9 s10 s11
      have F : ∀ (W : World) (hW : Below X.drew.heap.size X.drew W) (p : Addr), p.block < B → W.cell? p = X.cell? p := fun W hW p hp => hW.cell (p := p) (by show p.block < X.heap.size; have := HBY.out.size; omega)
      have FF := hide F
      clear F
      go_wp2_with fail
      go_region_held3 (fun w' => (w'.cell? ⟨ba, oa + k * 7, none⟩ = some (.slice (K k).la (K k).lr (K k).lcap) ∧ w'.cell? ⟨ba, oa + k * 7 + 1, none⟩ = some (.slice (K k).aa (K k).an (K k).acap) ∧ w'.cell? ⟨ba, oa + k * 7 + 2, none⟩ = some (.int .i64 (K k).st.u) ∧ w'.cell? ⟨ba, oa + k * 7 + 3, none⟩ = some (.int .i64 (K k).st.o) ∧ w'.cell? ⟨ba, oa + k * 7 + 4, none⟩ = some (.slice (K k).st.a (K k).st.r (K k).st.cap) ∧ w'.cell? ⟨ba, oa + k * 7 + 5, none⟩ = some (.bool (K k).sm) ∧ w'.cell? ⟨ba, oa + k * 7 + 6, none⟩ = some (.slice (K k).ca (K k).cn (K k).ccap)) ∧ (w'.cell? ⟨bb, ob + k * 7, none⟩ = some (.slice (U k).la (U k).lr (U k).lcap) ∧ w'.cell? ⟨bb, ob + k * 7 + 1, none⟩ = some (.slice (U k).aa (U k).an (U k).acap) ∧ w'.cell? ⟨bb, ob + k * 7 + 2, none⟩ = some (.int .i64 (U k).st.u) ∧ w'.cell? ⟨bb, ob + k * 7 + 3, none⟩ = some (.int .i64 (U k).st.o) ∧ w'.cell? ⟨bb, ob + k * 7 + 4, none⟩ = some (.slice (U k).st.a (U k).st.r (U k).st.cap) ∧ w'.cell? ⟨bb, ob + k * 7 + 5, none⟩ = some (.bool (U k).sm) ∧ w'.cell? ⟨bb, ob + k * 7 + 6, none⟩ = some (.slice (U k).ca (U k).cn (U k).ccap)))
        ((try dsimp only) <;> (repeat' apply And.intro) <;> (first | with_reducible assumption | assumption))
        (first
        | (go_at_call 65
           refine CE.out.mono ?_
           rintro e X1 ⟨rfl, bX⟩
           have fa0 := (FF.out X1 bX ⟨ba, oa + k * 7, none⟩ hba).trans a0
           have fb0 := (FF.out X1 bX ⟨bb, ob + k * 7, none⟩ hbb).trans b0
           have fa1 := (FF.out X1 bX ⟨ba, oa + k * 7 + 1, none⟩ hba).trans a1
           have fb1 := (FF.out X1 bX ⟨bb, ob + k * 7 + 1, none⟩ hbb).trans b1
           have fa2 := (FF.out X1 bX ⟨ba, oa + k * 7 + 2, none⟩ hba).trans a2
           have fb2 := (FF.out X1 bX ⟨bb, ob + k * 7 + 2, none⟩ hbb).trans b2
           have fa3 := (FF.out X1 bX ⟨ba, oa + k * 7 + 3, none⟩ hba).trans a3
           have fb3 := (FF.out X1 bX ⟨bb, ob + k * 7 + 3, none⟩ hbb).trans b3
           have fa4 := (FF.out X1 bX ⟨ba, oa + k * 7 + 4, none⟩ hba).trans a4
           have fb4 := (FF.out X1 bX ⟨bb, ob + k * 7 + 4, none⟩ hbb).trans b4
           have fa5 := (FF.out X1 bX ⟨ba, oa + k * 7 + 5, none⟩ hba).trans a5
           have fb5 := (FF.out X1 bX ⟨bb, ob + k * 7 + 5, none⟩ hbb).trans b5
           have fa6 := (FF.out X1 bX ⟨ba, oa + k * 7 + 6, none⟩ hba).trans a6
           have fb6 := (FF.out X1 bX ⟨bb, ob + k * 7 + 6, none⟩ hbb).trans b6
           have BX := hide bX
           clear bX))
      all_goals (go_wp2_with fail)
      all_goals go_roundw
      all_goals first
        | (simp only [intOf]; omega)
        | (simp [intOf]; omega)
        | exact ⟨k + 1, by omega, by go_num, HBY.out.drew.trans (BX.out.mono HBY.out.size)⟩
    · obtain rfl : k = n := by omega
      go_wp2_with fail
      go_ret
      exact ⟨rfl, HBY.out⟩
end Vo
end Go.Proofs.Ytgmjijjckedmcaa
