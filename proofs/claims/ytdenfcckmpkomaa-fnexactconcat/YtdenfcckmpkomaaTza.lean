/- Lists of tensors in memory: what the laws do with them. -/
import Derived.Test.YtdenfcckmpkomaaTa
import Derived.Deep.RegionHeld3
namespace Go.Proofs.Ytdenfcckmpkomaa
namespace Vo
open Go.ChangeShapes Go.WideShapes Go.ChangeAt Go.RowKit Go.Joins Go.Sort
open Vl Vp
set_option linter.unusedVariables false
set_option linter.unusedSimpArgs false
/-- a tensor's two lists -/
structure TV where
  a : Option Addr
  b : Option Addr
  r : Nat
  s : Nat
  cap : Nat
  dap : Nat
  D : Nat → Int
  S : Nat → Int
/-- a list of tensors that can be read -/
def TL (B : Nat) (w : World) (a : Option Addr) (n : Nat) (T : Nat → TV) : Prop :=
  n = 0 ∨ ∃ blk off, a = some ⟨blk, off, none⟩ ∧ blk < B ∧ ∀ i, i < n → w.cell? ⟨blk, off + i * 2, none⟩ = some (.slice (T i).a (T i).r (T i).cap) ∧ w.cell? ⟨blk, off + i * 2 + 1, none⟩ = some (.slice (T i).b (T i).s (T i).dap) ∧ Ints B w (T i).a (T i).r (T i).D ∧ Ints B w (T i).b (T i).s (T i).S
theorem TL.below {B : Nat} {w w' : World} {a : Option Addr} {n : Nat} {T : Nat → TV} (h : TL B w a n T) (hb : Below B w w') : TL B w' a n T := by
  rcases h with h | ⟨blk, off, rfl, hB, hc⟩
  · exact .inl h
  · refine .inr ⟨blk, off, rfl, hB, fun i hi => ?_⟩
    obtain ⟨c0, c1, i0, i1⟩ := hc i hi
    exact ⟨(hb.cell (p := ⟨blk, off + i * 2, none⟩) hB).trans c0, (hb.cell (p := ⟨blk, off + i * 2 + 1, none⟩) hB).trans c1, i0.below hb, i1.below hb⟩
theorem TL.mono {B B' : Nat} {w : World} {a : Option Addr} {n : Nat} {T : Nat → TV} (h : TL B w a n T) (hb : B ≤ B') : TL B' w a n T := by
  rcases h with h | ⟨blk, off, rfl, hB, hc⟩
  · exact .inl h
  · exact .inr ⟨blk, off, rfl, by omega, fun i hi => ⟨(hc i hi).1, (hc i hi).2.1, (hc i hi).2.2.1.mono hb, (hc i hi).2.2.2.mono hb⟩⟩
/-- lengths that can be -/
def TLen (n : Nat) (T : Nat → TV) (m : Int) : Prop := ∀ i, i < n → ((T i).r : Int) ≤ m ∧ ((T i).s : Int) ≤ m
/-- how many numbers there are in all -/
def tsum (T : Nat → TV) : Nat → Nat | 0 => 0 | n + 1 => tsum T n + ((T n).r + (T n).s)
theorem tsum_le {T : Nat → TV} {n i : Nat} (h : i < n) : (T i).r + (T i).s ≤ tsum T n := by
  induction n with
  | zero => omega
  | succ n ih =>
    show _ ≤ tsum T n + ((T n).r + (T n).s)
    by_cases c : i = n
    · subst c; omega
    · have := ih (by omega); omega
theorem tsum_mono {T : Nat → TV} {n m : Nat} (h : n ≤ m) : tsum T n ≤ tsum T m := by
  induction m with
  | zero => have : n = 0 := by omega
            subst this; exact Nat.le_refl _
  | succ m ih =>
    by_cases c : n = m + 1
    · subst c; exact Nat.le_refl _
    · exact Nat.le_trans (ih (by omega)) (Nat.le_add_right _ _)
theorem tlen_of {T : Nat → TV} {n : Nat} (h : (tsum T n : Int) ≤ 1048576) : TLen n T 1048576 := fun i hi => by have := tsum_le (T := T) hi; omega
set_option maxHeartbeats 1000000 in
theorem szTensorX (a b : Option Addr) (r s cap dap : Nat) (l : Int) (w : World) (l0 : 0 ≤ l) (l1 : l ≤ 1048576) (hr : (r : Int) ≤ 9223372036854775807) (hs : (s : Int) ≤ 9223372036854775807) :
    Calls Try.prog 9 #[.agg #[.slice a r cap, .slice b s dap], .int .i64 l] w fun e w' => ∃ x : Int, e = .returned (.int .i64 x) ∧ (0 ≤ x → x = l - r - s) ∧ Below w.heap.size w w' := by
  have bl := hide (show Below w.heap.size w (w.alloc (.cells #[.slice a r cap, .slice b s dap] 24)) from (Below.refl _ _).alloc (Nat.le_refl _) _)
  go_enter Try.func9, Try.ntmps9
  go_wp2_with fail
  refine (szIntS a r cap l _ l0 l1 hr).mono ?_; rintro e w1 ⟨x, rfl, hx, rfl⟩
  have HX := hide hx
  clear hx
  by_cases hx0 : x < 0
  · go_wp2_with fail
    go_ret
    exact ⟨_, rfl, fun h => by omega, bl.out⟩
  · have hx0' : decide (x < 0) = false := by rw [decide_eq_false_iff_not]; exact hx0
    have hxl : x ≤ 1048576 := by have := HX.out; unfold Sz at this; omega
    have hx1 : 0 ≤ x := by omega
    clear hx0
    go_wp2_with fail
    refine (szIntS b s dap x _ hx1 hxl hs).mono ?_; rintro e w1 ⟨y, rfl, hy, rfl⟩
    have HY := hide hy
    clear hy
    by_cases hy0 : y < 0
    · go_wp2_with fail
      go_ret
      exact ⟨_, rfl, fun h => by omega, bl.out⟩
    · have hy0' : decide (y < 0) = false := by rw [decide_eq_false_iff_not]; exact hy0
      have hf := hide (show y = l - r - s by have := HX.out; have := HY.out; unfold Sz at *; omega)
      clear hy0
      go_wp2_with fail
      go_ret
      exact ⟨_, rfl, fun _ => hf.out, bl.out⟩
set_option maxHeartbeats 1000000 in
theorem szTensorS (B : Nat) (a : Option Addr) (n cap : Nat) (T : Nat → TV) (l : Int) (w : World) (hB : B ≤ w.heap.size) (h : TL B w a n T) (hn : (n : Int) ≤ 9223372036854775807) (hl : TLen n T 9223372036854775807) (l0 : 0 ≤ l) (l1 : l ≤ 1048576) :
    Calls Try.prog 20 #[.slice a n cap, .int .i64 l] w fun e w' => ∃ x : Int, e = .returned (.int .i64 x) ∧ (0 ≤ x → x ≤ 1048576 ∧ (n : Int) ≤ 1048576 ∧ (tsum T n : Int) ≤ 1048576) ∧ Below w.heap.size w w' := by
  have H := hide h
  have HL := hide hl
  have wl : IntKind.i64.wrap (l - n) = l - n := by rw [IntKind.wrap_i64]; omega
  clear h hl
  go_enter Try.func20, Try.ntmps20
  by_cases h0 : l - (n : Int) < 0
  · have h0' : decide (l - (n : Int) < 0) = true := decide_eq_true h0
    clear h0
    go_wp2_with fail
    go_ret
    exact ⟨-1, rfl, fun e => by omega, Below.refl _ _⟩
  have h0' : decide (l - (n : Int) < 0) = false := decide_eq_false h0
  have n1 : (n : Int) ≤ 1048576 := by omega
  go_wp2_with fail
  go_loopw [1, 5] (fun v i wx => ∃ (k : Nat) (x : Int), k ≤ n ∧ i = .int .i64 k ∧ v = .int .i64 x ∧ 0 ≤ x ∧ x ≤ 1048576 ∧ x + tsum T k ≤ 1048576 ∧ Below w.heap.size w wx) (fun _ i _ => n - (intOf i).toNat)
  case atStart => exact ⟨0, _, Nat.zero_le _, rfl, rfl, by omega, by omega, by show l - n + ((0 : Nat) : Int) ≤ _; omega, Below.refl _ _⟩
  case round =>
    obtain ⟨X, rfl⟩ : ∃ X, X = wr := ⟨_, rfl⟩
    obtain ⟨k, x, hk, rfl, rfl, x0, x1, hs, hby⟩ := hrel
    have HS := hide hs
    have HBY := hide hby
    clear hs hby
    by_cases hlt : k < n
    · have kI : (k : Int) < n := by omega
      rcases H.out.below (HBY.out.mono hB) with q0 | ⟨blk, off, rfl, hbk, hc⟩
      · omega
      obtain ⟨c0, c1, _, _⟩ := hc k hlt
      have lk := HL.out k hlt
      clear hc
      have CZ := hide (szTensorX (T k).a (T k).b (T k).r (T k).s (T k).cap (T k).dap x X x0 x1 lk.1 lk.2)
      go_wp2_with fail
      refine CZ.out.mono ?_
      rintro e X1 ⟨y, rfl, hy, b1⟩
      have BY1 := hide (HBY.out.trans (b1.mono HBY.out.size))
      have HY := hide hy
      clear hy b1 c0 c1 lk CZ
      by_cases y0 : y < 0
      · have y0' : decide (y < 0) = true := decide_eq_true y0
        clear y0
        go_wp2_with fail
        go_ret
        exact ⟨-1, rfl, fun e => by omega, BY1.out⟩
      · have y0' : decide (y < 0) = false := decide_eq_false y0
        have y1 : 0 ≤ y := by omega
        have yy := HY.out y1
        have Y3 := hide (show y + tsum T (k + 1) ≤ 1048576 by
          have q := HS.out
          show y + ((tsum T k + ((T k).r + (T k).s) : Nat) : Int) ≤ 1048576
          omega)
        have y2 : y ≤ 1048576 := by omega
        clear y0 yy
        go_wp2_with fail
        go_roundw
        all_goals first
          | (simp only [intOf]; omega)
          | (simp [intOf]; omega)
          | exact ⟨k + 1, y, by omega, by go_num, rfl, y1, y2, Y3.out, BY1.out⟩
    · obtain rfl : k = n := by omega
      go_wp2_with fail
      go_ret
      exact ⟨x, rfl, fun _ => ⟨x1, n1, by have := HS.out; omega⟩, HBY.out⟩
/-- a list of tensors of one's own, k of them laid: each one's blocks lie between two limits -/
structure OTL (B : Nat) (w : World) (g n k : Nat) (T : Nat → TV) (lim : Nat → Nat) : Prop where
  lo : B ≤ g
  lt : g < w.heap.size
  laid : ∀ i, i < k → w.cell? ⟨g, i * 2, none⟩ = some (.slice (T i).a (T i).r (T i).cap) ∧ w.cell? ⟨g, i * 2 + 1, none⟩ = some (.slice (T i).b (T i).s (T i).dap)
  rest : ∀ i, k ≤ i → i < n → w.cell? ⟨g, i * 2, none⟩ = some (.slice none 0 0) ∧ w.cell? ⟨g, i * 2 + 1, none⟩ = some (.slice none 0 0)
  free : ∀ i, w.frozen? ⟨g, i, none⟩ = false
  low : g < lim 0
  own : ∀ i, i < k → VOwn (lim i) w (T i).a (T i).b (T i).r (T i).s (T i).D (T i).S
  high : ∀ i, i < k → ∀ q, VBlk (T i).a (T i).b (T i).r (T i).s q → q < lim (i + 1)
  mono : ∀ i, i < k → lim i ≤ lim (i + 1)
  top : lim k ≤ w.heap.size
theorem lim_le {lim : Nat → Nat} {k : Nat} (h : ∀ i, i < k → lim i ≤ lim (i + 1)) {i j : Nat} (hij : i ≤ j) (hj : j ≤ k) : lim i ≤ lim j := by
  induction j with
  | zero => have : i = 0 := by omega
            subst this; exact Nat.le_refl _
  | succ j ih =>
    by_cases c : i = j + 1
    · subst c; exact Nat.le_refl _
    · exact Nat.le_trans (ih (by omega) (by omega)) (h j (by omega))
theorem OTL.below {B : Nat} {w w' : World} {g n k : Nat} {T : Nat → TV} {lim : Nat → Nat} (h : OTL B w g n k T lim) (hb : Below w.heap.size w w') : OTL B w' g n k T lim :=
  ⟨h.lo, Nat.lt_of_lt_of_le h.lt hb.size, fun i hi => ⟨(hb.cell (p := ⟨g, i * 2, none⟩) h.lt).trans (h.laid i hi).1, (hb.cell (p := ⟨g, i * 2 + 1, none⟩) h.lt).trans (h.laid i hi).2⟩,
    fun i h1 h2 => ⟨(hb.cell (p := ⟨g, i * 2, none⟩) h.lt).trans (h.rest i h1 h2).1, (hb.cell (p := ⟨g, i * 2 + 1, none⟩) h.lt).trans (h.rest i h1 h2).2⟩,
    fun i => (hb.frozen (p := ⟨g, i, none⟩) h.lt).trans (h.free i), h.low, fun i hi => (h.own i hi).below hb, h.high, h.mono, Nat.le_trans h.top hb.size⟩
theorem OTL.read {B : Nat} {w : World} {g n : Nat} {T : Nat → TV} {lim : Nat → Nat} (h : OTL B w g n n T lim) : TL w.heap.size w (some ⟨g, 0, none⟩) n T :=
  .inr ⟨g, 0, rfl, h.lt, fun i hi => ⟨by rw [Nat.zero_add]; exact (h.laid i hi).1, by rw [Nat.zero_add]; exact (h.laid i hi).2, (h.own i hi).d.ints, (h.own i hi).t.ints⟩⟩
theorem otl_put {B : Nat} {X X1 : World} {g n k g1 g2 r s : Nat} {D S : Nat → Int} {U : Nat → TV} {lim : Nat → Nat} (h : OTL B X g n k U lim) (hk : k < n) (hb : Below X.heap.size X X1) (vo : VOwn X.heap.size X1 (some ⟨g1, 0, none⟩) (some ⟨g2, 0, none⟩) r s D S) :
    OTL B ((X1.setCell ⟨g, k * 2, none⟩ (.slice (some ⟨g1, 0, none⟩) r r)).setCell ⟨g, k * 2 + 1, none⟩ (.slice (some ⟨g2, 0, none⟩) s s)) g n (k + 1) (fun i => if i = k then ⟨some ⟨g1, 0, none⟩, some ⟨g2, 0, none⟩, r, s, r, s, D, S⟩ else U i) (fun i => if i = k + 1 then X1.heap.size else lim i) := by
  have k2 : Kept (· = g) X1 ((X1.setCell ⟨g, k * 2, none⟩ (.slice (some ⟨g1, 0, none⟩) r r)).setCell ⟨g, k * 2 + 1, none⟩ (.slice (some ⟨g2, 0, none⟩) s s)) := (Kept.setCell X1 ⟨g, k * 2, none⟩ _).trans (Kept.setCell _ ⟨g, k * 2 + 1, none⟩ _)
  have h1 := h.below hb
  have ltX := h.lt
  have far : ∀ j, j ≠ k * 2 → j ≠ k * 2 + 1 → ((X1.setCell ⟨g, k * 2, none⟩ (.slice (some ⟨g1, 0, none⟩) r r)).setCell ⟨g, k * 2 + 1, none⟩ (.slice (some ⟨g2, 0, none⟩) s s)).cell? ⟨g, j, none⟩ = X1.cell? ⟨g, j, none⟩ := fun j n0 n1 => by
    rw [World.cell?_setCell_other _ _ _ _ (by intro e; injection e with _ e _; omega), World.cell?_setCell_other _ _ _ _ (by intro e; injection e with _ e _; omega)]
  obtain ⟨e0, e1⟩ := h1.rest k (Nat.le_refl _) hk
  have blkU : ∀ i, i < k → ∀ q, VBlk (U i).a (U i).b (U i).r (U i).s q → q ≠ g := fun i hi q hq e => by
    have a := ((h.own i hi).blk hq).1
    have b := lim_le h.mono (show 0 ≤ i by omega) (by omega)
    have c := h.low
    omega
  have blkN : ∀ q, VBlk (some ⟨g1, 0, none⟩) (some ⟨g2, 0, none⟩) r s q → X.heap.size ≤ q ∧ q < X1.heap.size := fun q hq => vo.blk hq
  refine ⟨h.lo, Nat.lt_of_lt_of_le h1.lt k2.size, fun i hi => ?_, fun i hi hi2 => ?_, fun i => ?_, by show g < (if 0 = k + 1 then _ else lim 0); rw [if_neg (by omega)]; exact h.low, fun i hi => ?_, fun i hi q hq => ?_, fun i hi => ?_, by show (if k + 1 = k + 1 then X1.heap.size else _) ≤ _; rw [if_pos rfl]; exact k2.size⟩
  · by_cases c : i = k
    · subst c
      simp only [if_true]
      refine ⟨?_, World.cell?_setCell_same _ _ _ ((World.cell?_setCell_other _ _ _ _ (by intro e; injection e with _ e _; omega)).trans e1)⟩
      rw [World.cell?_setCell_other _ _ _ _ (by intro e; injection e with _ e _; omega)]
      exact World.cell?_setCell_same _ _ _ e0
    · simp only [c, if_false]
      rw [far _ (by omega) (by omega), far _ (by omega) (by omega)]
      exact h1.laid i (by omega)
  · rw [far _ (by omega) (by omega), far _ (by omega) (by omega)]
    exact h1.rest i (by omega) hi2
  · rw [World.frozen?_setCell, World.frozen?_setCell]
    exact h1.free i
  · by_cases c : i = k
    · subst c
      simp only [if_true, show ¬ i = i + 1 by omega, if_false]
      exact (vo.kept k2 (fun q hq e => by have := (blkN q hq).1; have e : q = g := e; omega)).mono h.top
    · simp only [c, if_false, show ¬ i = k + 1 by omega]
      exact (h1.own i (by omega)).kept k2 (fun q hq e => blkU i (by omega) q hq e)
  · by_cases c : i = k
    · subst c
      simp only [if_true] at hq ⊢
      exact (blkN q hq).2
    · simp only [c, if_false] at hq
      show q < (if i + 1 = k + 1 then _ else lim (i + 1))
      rw [if_neg (by omega)]
      exact h.high i (by omega) q hq
  · show (if i = k + 1 then _ else lim i) ≤ (if i + 1 = k + 1 then X1.heap.size else lim (i + 1))
    rw [if_neg (by omega)]
    by_cases c : i = k
    · subst c
      rw [if_pos rfl]
      exact Nat.le_trans h.top hb.size
    · rw [if_neg (by omega)]
      exact h.mono i (by omega)
/-- the same tensors -/
def TSame (n : Nat) (T U : Nat → TV) : Prop := ∀ i, i < n → (U i).r = (T i).r ∧ (U i).s = (T i).s ∧ (U i).D = (T i).D ∧ (U i).S = (T i).S ∧ (U i).cap = (T i).r ∧ (U i).dap = (T i).s
theorem make_tens (n : Nat) (hn : (n : Int) ≤ 1048576) (w : World) : (Instr.makeSlice 37 (.int .i64 n) (.int .i64 n)).run Try.prog w = .ok (.slice (some ⟨w.heap.size, 0, none⟩) n n) (w.alloc (.cells (madeCells #[.slice none 0 0, .slice none 0 0] (n * 2)) 26)) := by
  have hi : (Try.prog.info? 26).map (fun i => (i.zero, i.size, i.bytes)) = some (some (.agg #[.slice none 0 0, .slice none 0 0]), 2, 48) := by kernel_rfl
  obtain ⟨i, h1, h2⟩ := Option.map_eq_some_iff.1 hi
  simp only [Prod.mk.injEq] at h2
  obtain ⟨hz, hs, hb⟩ := h2
  have := run_make (P := Try.prog) w 37 26 i (.agg #[.slice none 0 0, .slice none 0 0]) Try.underlying37 h1 hz .i64 .i64 n n (by omega) (Int.le_refl _) (by rw [hb]; omega) (by omega)
  rw [hs] at this
  simpa [Value.cells] using this
theorem otl_new (w : World) (n : Nat) (T : Nat → TV) : OTL w.heap.size (w.alloc (.cells (madeCells #[.slice none 0 0, .slice none 0 0] (n * 2)) 26)) w.heap.size n 0 T (fun _ => w.heap.size + 1) := by
  refine ⟨Nat.le_refl _, by simp, fun i hi => by omega, fun i _ hi => ?_, fun i => by simp [go_sem], by omega, fun i hi => by omega, fun i hi => by omega, fun i hi => by omega, by simp⟩
  have m0 : i * 2 % 2 = 0 := by omega
  have m1 : (i * 2 + 1) % 2 = 1 := by omega
  constructor
  · rw [World.cell?_alloc_at _ _ _ _ rfl]
    simp [madeCells, m0, show i * 2 < n * 2 by omega]
  · rw [World.cell?_alloc_at _ _ _ _ rfl]
    simp [madeCells, m1, show i * 2 + 1 < n * 2 by omega]
set_option maxHeartbeats 1000000 in
theorem toTensorS (B : Nat) (a : Option Addr) (n cap : Nat) (T : Nat → TV) (w : World) (hB : B ≤ w.heap.size) (h : TL B w a n T) (hn : (n : Int) ≤ 1048576) (hl : TLen n T 1048576) :
    Calls Try.prog 22 #[.slice a n cap] w fun e w' => ∃ g U lim, e = .returned (.slice (some ⟨g, 0, none⟩) n n) ∧ OTL w.heap.size w' g n n U lim ∧ TSame n T U ∧ Below w.heap.size w w' := by
  have hmk := make_tens n hn
  obtain ⟨W0, hW0⟩ : ∃ W0, w.alloc (.cells (madeCells #[.slice none 0 0, .slice none 0 0] (n * 2)) 26) = W0 := ⟨_, rfl⟩
  have o0 := otl_new w n T
  rw [hW0] at o0
  have bl : Below w.heap.size w W0 := by rw [← hW0]; exact (Below.refl _ _).alloc (Nat.le_refl _) _
  have O0 := hide o0
  have BL := hide bl
  have H := hide h
  have HL := hide hl
  clear h hl o0 bl
  go_enter Try.func22, Try.ntmps22
  go_wp2_with fail
  clear hW0 hmk
  go_loopw [4] (fun i wx => ∃ (k : Nat) (U : Nat → TV) (lim : Nat → Nat), k ≤ n ∧ i = .int .i64 k ∧ OTL w.heap.size wx w.heap.size n k U lim ∧ TSame k T U ∧ Below w.heap.size w wx) (fun i _ => n - (intOf i).toNat)
  case atStart => exact ⟨0, _, _, Nat.zero_le _, rfl, O0.out, fun i hi => by omega, BL.out⟩
  case round =>
    obtain ⟨X, rfl⟩ : ∃ X, X = wr := ⟨_, rfl⟩
    obtain ⟨k, U, lim, hk, rfl, ho, hs, hby⟩ := hrel
    have HO := hide ho
    have HS := hide hs
    have HBY := hide hby
    clear ho hs hby
    by_cases hlt : k < n
    · have kI : (k : Int) < n := by omega
      rcases H.out.below (HBY.out.mono hB) with q0 | ⟨blk, off, rfl, hbk, hc⟩
      · omega
      obtain ⟨c0, c1, i0, i1⟩ := hc k hlt
      have lk := HL.out k hlt
      have CT := hide (toTensor B (T k).a (T k).b (T k).r (T k).s (T k).cap (T k).dap (T k).D (T k).S X i0 i1 (Nat.le_trans hB HBY.out.size) lk.1 lk.2)
      obtain ⟨e0, e1⟩ := HO.out.rest k (Nat.le_refl _) hlt
      clear hc i0 i1 lk
      go_wp2_with fail
      refine CT.out.mono ?_
      rintro e X1 ⟨g1, g2, rfl, vo, b1⟩
      have ltX := HO.out.lt
      have d0 := (b1.cell (p := ⟨w.heap.size, k * 2, none⟩) ltX).trans e0
      have d1 := (b1.cell (p := ⟨w.heap.size, k * 2 + 1, none⟩) ltX).trans e1
      have f0 := (b1.frozen (p := ⟨w.heap.size, k * 2, none⟩) ltX).trans (HO.out.free (k * 2))
      have f1 := (b1.frozen (p := ⟨w.heap.size, k * 2 + 1, none⟩) ltX).trans (HO.out.free (k * 2 + 1))
      have VO := hide vo
      have B1 := hide b1
      clear vo b1 c0 c1 e0 e1 CT
      go_wp2_with fail
      go_roundw
      all_goals first
        | (simp only [intOf]; omega)
        | (simp [intOf]; omega)
        | exact ⟨k + 1, _, _, by omega, by go_num, otl_put HO.out hlt B1.out VO.out, fun i hi => by
            by_cases c : i = k
            · subst c
              simp only [if_true]
              exact ⟨trivial, trivial, trivial, trivial, trivial, trivial⟩
            · simp only [c, if_false]
              exact HS.out i (by omega), ((HBY.out.trans (B1.out.mono HBY.out.size)).setCell (p := ⟨w.heap.size, k * 2, none⟩) (Nat.le_refl _) _).setCell (p := ⟨w.heap.size, k * 2 + 1, none⟩) (Nat.le_refl _) _⟩
    · obtain rfl : k = n := by omega
      go_wp2_with fail
      go_ret
      exact ⟨_, U, lim, rfl, HO.out, HS.out, HBY.out⟩
set_option maxHeartbeats 1000000 in
theorem eqTensorS (B : Nat) (a b : Option Addr) (n cap cap' : Nat) (T U : Nat → TV) (w : World) (hB : B ≤ w.heap.size) (h : TL B w a n T) (h' : TL B w b n U) (hn : (n : Int) ≤ 1048576) (hl : TLen n T 1048576)
    (hs : ∀ i, i < n → (U i).r = (T i).r ∧ (U i).s = (T i).s ∧ (∀ j, j < (T i).r → (T i).D j = (U i).D j) ∧ (∀ j, j < (T i).s → (T i).S j = (U i).S j)) :
    Calls Try.prog 24 #[.slice a n cap, .slice b n cap'] w fun e w' => e = .returned (.bool true) ∧ Below w.heap.size w w' := by
  have H := hide h
  have H' := hide h'
  have HL := hide hl
  have HS := hide hs
  have c' : ((n : Int) != (n : Int)) = false := by simp
  clear h h' hl hs
  go_enter Try.func24, Try.ntmps24
  go_wp2_with fail
  clear c'
  go_loopw [5] (fun i wx => ∃ k : Nat, k ≤ n ∧ i = .int .i64 k ∧ Below w.heap.size w wx) (fun i _ => n - (intOf i).toNat)
  case atStart => exact ⟨0, Nat.zero_le _, rfl, Below.refl _ _⟩
  case round =>
    obtain ⟨X, rfl⟩ : ∃ X, X = wr := ⟨_, rfl⟩
    obtain ⟨k, hk, rfl, hby⟩ := hrel
    have HBY := hide hby
    clear hby
    by_cases hlt : k < n
    · have kI : (k : Int) < n := by omega
      rcases H.out.below (HBY.out.mono hB) with q0 | ⟨ba, oa, rfl, hba, hca⟩
      · omega
      rcases H'.out.below (HBY.out.mono hB) with q0 | ⟨bb, ob, rfl, hbb, hcb⟩
      · omega
      obtain ⟨a0, a1, ia, ja⟩ := hca k hlt
      obtain ⟨b0, b1, ib, jb⟩ := hcb k hlt
      obtain ⟨s1, s2, s3, s4⟩ := HS.out k hlt
      rw [s1] at b0 ib
      rw [s2] at b1 jb
      have lk := HL.out k hlt
      have CE := hide (eqTensor B (T k).a (T k).b (U k).a (U k).b (T k).r (T k).s (T k).cap (T k).dap (U k).cap (U k).dap (T k).D (T k).S (U k).D (U k).S X.drew (Nat.le_trans hB HBY.out.size) ia ja ib jb s3 s4 lk.1 lk.2)
      clear hca hcb ia ja ib jb s1 s2 s3 s4 lk
      have F1 := hide (fun (W : World) (hW : Below X.drew.heap.size X.drew W) => show W.cell? ⟨ba, oa + k * 2, none⟩ = some (.slice (T k).a (T k).r (T k).cap) from (hW.cell (p := ⟨ba, oa + k * 2, none⟩) (by show ba < X.heap.size; have := HBY.out.size; omega)).trans a0)
      have F2 := hide (fun (W : World) (hW : Below X.drew.heap.size X.drew W) => show W.cell? ⟨ba, oa + k * 2 + 1, none⟩ = some (.slice (T k).b (T k).s (T k).dap) from (hW.cell (p := ⟨ba, oa + k * 2 + 1, none⟩) (by show ba < X.heap.size; have := HBY.out.size; omega)).trans a1)
      have F3 := hide (fun (W : World) (hW : Below X.drew.heap.size X.drew W) => show W.cell? ⟨bb, ob + k * 2, none⟩ = some (.slice (U k).a (T k).r (U k).cap) from (hW.cell (p := ⟨bb, ob + k * 2, none⟩) (by show bb < X.heap.size; have := HBY.out.size; omega)).trans b0)
      have F4 := hide (fun (W : World) (hW : Below X.drew.heap.size X.drew W) => show W.cell? ⟨bb, ob + k * 2 + 1, none⟩ = some (.slice (U k).b (T k).s (U k).dap) from (hW.cell (p := ⟨bb, ob + k * 2 + 1, none⟩) (by show bb < X.heap.size; have := HBY.out.size; omega)).trans b1)
      go_wp2_with fail
      go_region_held3 (fun w' => w'.cell? ⟨ba, oa + k * 2, none⟩ = some (.slice (T k).a (T k).r (T k).cap) ∧ w'.cell? ⟨ba, oa + k * 2 + 1, none⟩ = some (.slice (T k).b (T k).s (T k).dap) ∧ w'.cell? ⟨bb, ob + k * 2, none⟩ = some (.slice (U k).a (T k).r (U k).cap) ∧ w'.cell? ⟨bb, ob + k * 2 + 1, none⟩ = some (.slice (U k).b (T k).s (U k).dap))
        ((try dsimp only) <;> (repeat' apply And.intro) <;> (first | with_reducible assumption | assumption))
        (first
        | (go_at_call 13
           refine CE.out.mono ?_
           rintro e X1 ⟨rfl, bX⟩
           have f1 := F1.out X1 bX
           have f2 := F2.out X1 bX
           have f3 := F3.out X1 bX
           have f4 := F4.out X1 bX
           have BX := hide bX
           clear bX))
      all_goals (go_wp2_with fail)
      all_goals go_roundw
      all_goals first
        | (simp only [intOf]; omega)
        | (simp [intOf]; omega)
        | exact ⟨k + 1, by omega, by go_num, HBY.out.drew.trans (BX.out.mono HBY.out.size)⟩
    · obtain rfl : k = n := by omega
      go_wp2_with fail
      go_ret
      exact ⟨rfl, HBY.out⟩
set_option maxHeartbeats 1000000 in
theorem markTensorS (B : Nat) (g n cap : Nat) (T : Nat → TV) (lim : Nat → Nat) (m : Int) (w : World) (h : OTL B w g n n T lim) (hn : (n : Int) ≤ 1048576) (ht : (tsum T n : Int) ≤ 1048576) (m0 : 0 ≤ m) (m1 : m ≤ 1048576) :
    Calls Try.prog 25 #[.slice (some ⟨g, 0, none⟩) n cap, .int .i64 m] w fun e w' => e = .returned (.int .i64 (m + tsum T n)) ∧ Kept (fun q => lim 0 ≤ q ∧ q < lim n) w w' := by
  have H := hide h
  have HTS := hide ht
  clear h ht
  go_enter Try.func25, Try.ntmps25
  go_wp2_with fail
  go_loopw [1, 5] (fun v i wx => ∃ k : Nat, k ≤ n ∧ i = .int .i64 k ∧ v = .int .i64 (m + tsum T k) ∧ Kept (fun q => lim 0 ≤ q ∧ q < lim k) w wx) (fun _ i _ => n - (intOf i).toNat)
  case atStart => exact ⟨0, Nat.zero_le _, rfl, by show _ = Value.int .i64 (m + ((0 : Nat) : Int)); simp, Kept.of_below (Below.refl _ _)⟩
  case round =>
    obtain ⟨X, rfl⟩ : ∃ X, X = wr := ⟨_, rfl⟩
    obtain ⟨k, hk, rfl, rfl, hkp⟩ := hrel
    have HKP := hide hkp
    clear hkp
    by_cases hlt : k < n
    · have kI : (k : Int) < n := by omega
      have c0 := (World.cell?_of_block (w := w) (a := ⟨g, k * 2, none⟩) (HKP.out.block g H.out.lt (fun e => by have := H.out.low; omega))).trans (H.out.laid k hlt).1
      have c1 := (World.cell?_of_block (w := w) (a := ⟨g, k * 2 + 1, none⟩) (HKP.out.block g H.out.lt (fun e => by have := H.out.low; omega))).trans (H.out.laid k hlt).2
      have OW := hide ((H.out.own k hlt).kept HKP.out (fun q hq e => by have := ((H.out.own k hlt).blk hq).1; have e : lim 0 ≤ q ∧ q < lim k := e; omega))
      have ts1 := tsum_mono (T := T) (show k + 1 ≤ n by omega)
      have ts2 : tsum T (k + 1) = tsum T k + ((T k).r + (T k).s) := rfl
      have tt := HTS.out
      have lr : ((T k).r : Int) ≤ 1048576 := by omega
      have ls : ((T k).s : Int) ≤ 1048576 := by omega
      have gl := H.out.lt
      have CA := hide (markIntS (lim k) (T k).a (T k).r (T k).cap (T k).D (m + tsum T k) X OW.out.d lr (by omega) (by omega))
      have CB := hide (fun (W : World) (ho : OwnL (lim k) W (T k).b (T k).s (T k).S) => markIntS (lim k) (T k).b (T k).s (T k).dap (T k).S (m + tsum T k + (T k).r) W ho ls (by omega) (by omega))
      have EV := hide (show m + tsum T k + (T k).r + (T k).s = m + tsum T (k + 1) by rw [ts2]; omega)
      have HH := hide (fun q (hq : VBlk (T k).a (T k).b (T k).r (T k).s q) => H.out.high k hlt q hq)
      have LL := hide (fun q (hq : VBlk (T k).a (T k).b (T k).r (T k).s q) => ((H.out.own k hlt).blk hq).1)
      have L0 := hide (lim_le H.out.mono (show 0 ≤ k by omega) (by omega))
      have LM := hide (H.out.mono k hlt)
      clear ts1 ts2 tt
      go_wp2_with fail
      refine CA.out.mono ?_
      rintro e X1 ⟨rfl, _, k1⟩
      have K1 := hide k1
      have l0 := L0.out
      have low := H.out.low
      have gX : g < X.heap.size := Nat.lt_of_lt_of_le gl HKP.out.size
      have d1 := (World.cell?_of_block (w := X) (a := ⟨g, k * 2 + 1, none⟩) (k1.block g gX (fun e => by have := LL.out g (.inl e); omega))).trans c1
      have OB := hide (OW.out.t.kept k1 (fun q hq e => OW.out.ne q e hq))
      clear k1 c0 c1
      go_wp2_with fail
      refine (CB.out _ OB.out).mono ?_
      rintro e X2 ⟨rfl, _, k2⟩
      rw [EV.out]
      have K2 := hide ((HKP.out.mono (T := fun q => lim 0 ≤ q ∧ q < lim (k + 1)) (fun q _ e => by have e : lim 0 ≤ q ∧ q < lim k := e; have := LM.out; omega)).trans ((K1.out.mono (T := fun q => lim 0 ≤ q ∧ q < lim (k + 1)) (fun q _ e => by have := LL.out q (.inl e); have := HH.out q (.inl e); omega)).trans (k2.mono (fun q _ e => by have := LL.out q (.inr e); have := HH.out q (.inr e); omega))))
      clear k2
      go_wp2_with fail
      go_roundw
      all_goals first
        | (simp only [intOf]; omega)
        | (simp [intOf]; omega)
        | exact ⟨k + 1, by omega, by go_num, rfl, K2.out⟩
    · obtain rfl : k = n := by omega
      go_wp2_with fail
      go_ret
      exact ⟨rfl, HKP.out⟩
end Vo
end Go.Proofs.Ytdenfcckmpkomaa
