/- What is fixed, and lists of it, in memory: what the laws do with them. -/
import Derived.Test.YtgmjijjckedmcaaJc
namespace Go.Proofs.Ytgmjijjckedmcaa
namespace Vo
open Go.ChangeShapes Go.WideShapes Go.ChangeAt Go.RowKit Go.Joins Go.Sort
open Vl Vp
set_option linter.unusedVariables false
set_option linter.unusedSimpArgs false
/-- an access: its two ints, its list -/
structure FV where
  u : Int
  a : Option Addr
  r : Nat
  cap : Nat
  D : Nat → Int
/-- a list of accesses that can be read -/
def LF (B : Nat) (w : World) (a : Option Addr) (n : Nat) (A : Nat → FV) : Prop :=
  n = 0 ∨ ∃ blk off, a = some ⟨blk, off, none⟩ ∧ blk < B ∧ ∀ i, i < n → w.cell? ⟨blk, off + i * 2, none⟩ = some (.int .i64 (A i).u) ∧ w.cell? ⟨blk, off + i * 2 + 1, none⟩ = some (.slice (A i).a (A i).r (A i).cap) ∧ Ints B w (A i).a (A i).r (A i).D ∧ bd (A i).u
theorem LF.below {B : Nat} {w w' : World} {a : Option Addr} {n : Nat} {A : Nat → FV} (h : LF B w a n A) (hb : Below B w w') : LF B w' a n A := by
  rcases h with h | ⟨blk, off, rfl, hB, hc⟩
  · exact .inl h
  · refine .inr ⟨blk, off, rfl, hB, fun i hi => ?_⟩
    obtain ⟨c0, c2, i0, d0⟩ := hc i hi
    exact ⟨(hb.cell (p := ⟨blk, off + i * 2, none⟩) hB).trans c0, (hb.cell (p := ⟨blk, off + i * 2 + 1, none⟩) hB).trans c2, i0.below hb, d0⟩
theorem LF.mono {B B' : Nat} {w : World} {a : Option Addr} {n : Nat} {A : Nat → FV} (h : LF B w a n A) (hb : B ≤ B') : LF B' w a n A := by
  rcases h with h | ⟨blk, off, rfl, hB, hc⟩
  · exact .inl h
  · refine .inr ⟨blk, off, rfl, by omega, fun i hi => ?_⟩
    obtain ⟨c0, c2, i0, d0⟩ := hc i hi
    exact ⟨c0, c2, i0.mono hb, d0⟩
def FLen (n : Nat) (A : Nat → FV) (m : Int) : Prop := ∀ i, i < n → ((A i).r : Int) ≤ m
def fsum (A : Nat → FV) : Nat → Nat | 0 => 0 | n + 1 => fsum A n + (A n).r
theorem fsum_le {A : Nat → FV} {n i : Nat} (h : i < n) : (A i).r ≤ fsum A n := by
  induction n with
  | zero => omega
  | succ n ih =>
    show _ ≤ fsum A n + (A n).r
    by_cases c : i = n
    · subst c; omega
    · have := ih (by omega); omega
theorem fsum_mono {A : Nat → FV} {n m : Nat} (h : n ≤ m) : fsum A n ≤ fsum A m := by
  induction m with
  | zero => have : n = 0 := by omega
            subst this; exact Nat.le_refl _
  | succ m ih =>
    by_cases c : n = m + 1
    · subst c; exact Nat.le_refl _
    · exact Nat.le_trans (ih (by omega)) (Nat.le_add_right _ _)
theorem flen_of {A : Nat → FV} {n : Nat} (h : (fsum A n : Int) ≤ 1048576) : FLen n A 1048576 := fun i hi => by have := fsum_le (A := A) hi; omega
set_option maxHeartbeats 1000000 in
theorem szFix (u : Int) (a : Option Addr) (r cap : Nat) (l : Int) (w : World) (l0 : 0 ≤ l) (l1 : l ≤ 1048576) (hr : (r : Int) ≤ 9223372036854775807) :
    Calls Try.prog 43 #[.agg #[.int .i64 u, .slice a r cap], .int .i64 l] w fun e w' => ∃ x : Int, e = .returned (.int .i64 x) ∧ (0 ≤ x → x = l - r) ∧ Below w.heap.size w w' := by
  have bl := hide (show Below w.heap.size w (w.alloc (.cells #[.int .i64 u, .slice a r cap] 74)) from (Below.refl _ _).alloc (Nat.le_refl _) _)
  go_enter Try.func43, Try.ntmps43
  go_wp2_with fail
  refine (szIntS a r cap l _ l0 l1 hr).mono ?_; rintro e w1 ⟨x, rfl, hx, rfl⟩
  have HX := hide hx
  clear hx
  by_cases hx0 : x < 0
  · go_wp2_with fail
    go_ret
    exact ⟨_, rfl, fun h => by omega, bl.out⟩
  · have hx0' : decide (x < 0) = false := by rw [decide_eq_false_iff_not]; exact hx0
    have hf := hide (show x = l - r by have := HX.out; unfold Sz at *; omega)
    clear hx0
    go_wp2_with fail
    go_ret
    exact ⟨_, rfl, fun _ => hf.out, bl.out⟩
set_option maxHeartbeats 1000000 in
theorem szFixS (B : Nat) (a : Option Addr) (n cap : Nat) (A : Nat → FV) (l : Int) (w : World) (hB : B ≤ w.heap.size) (h : LF B w a n A) (hn : (n : Int) ≤ 9223372036854775807) (hl : FLen n A 9223372036854775807) (l0 : 0 ≤ l) (l1 : l ≤ 1048576) :
    Calls Try.prog 20 #[.slice a n cap, .int .i64 l] w fun e w' => ∃ x : Int, e = .returned (.int .i64 x) ∧ (0 ≤ x → x ≤ 1048576 ∧ (n : Int) ≤ 1048576 ∧ (fsum A n : Int) ≤ 1048576) ∧ Below w.heap.size w w' := by
  have H := hide h
  have HL := hide hl
  have wl : IntKind.i64.wrap (l - n) = l - n := by rw [IntKind.wrap_i64]; omega
  clear h hl
  go_enter Try.func20, Try.ntmps20
  by_cases h0 : l - (n : Int) < 0
  · have h0' : decide (l - (n : Int) < 0) = true := decide_eq_true h0
    clear h0
    go_wp2_with fail
    go_ret
    exact ⟨-1, rfl, fun e => by omega, Below.refl _ _⟩
  have h0' : decide (l - (n : Int) < 0) = false := decide_eq_false h0
  have n1 : (n : Int) ≤ 1048576 := by omega
  go_wp2_with fail
  go_loopw [1, 5] (fun v i wx => ∃ (k : Nat) (x : Int), k ≤ n ∧ i = .int .i64 k ∧ v = .int .i64 x ∧ 0 ≤ x ∧ x ≤ 1048576 ∧ x + fsum A k ≤ 1048576 ∧ Below w.heap.size w wx) (fun _ i _ => n - (intOf i).toNat)
  case atStart => exact ⟨0, _, Nat.zero_le _, rfl, rfl, by omega, by omega, by show l - n + ((0 : Nat) : Int) ≤ _; omega, Below.refl _ _⟩
  case round =>
    obtain ⟨X, rfl⟩ : ∃ X, X = wr := ⟨_, rfl⟩
    obtain ⟨k, x, hk, rfl, rfl, x0, x1, hs, hby⟩ := hrel
    have HS := hide hs
    have HBY := hide hby
    clear hs hby
    by_cases hlt : k < n
    · have kI : (k : Int) < n := by omega
      rcases H.out.below (HBY.out.mono hB) with q0 | ⟨blk, off, rfl, hbk, hc⟩
      · omega
      obtain ⟨c0, c2, _⟩ := hc k hlt
      have lk := HL.out k hlt
      clear hc
      have CZ := hide (szFix (A k).u (A k).a (A k).r (A k).cap x X x0 x1 lk)
      go_wp2_with fail
      refine CZ.out.mono ?_
      rintro e X1 ⟨y, rfl, hy, b1⟩
      have BY1 := hide (HBY.out.trans (b1.mono HBY.out.size))
      have HY := hide hy
      clear hy b1 c0 c2 lk CZ
      by_cases y0 : y < 0
      · have y0' : decide (y < 0) = true := decide_eq_true y0
        clear y0
        go_wp2_with fail
        go_ret
        exact ⟨-1, rfl, fun e => by omega, BY1.out⟩
      · have y0' : decide (y < 0) = false := decide_eq_false y0
        have y1 : 0 ≤ y := by omega
        have yy := HY.out y1
        have Y3 := hide (show y + fsum A (k + 1) ≤ 1048576 by
          have q := HS.out
          show y + ((fsum A k + (A k).r : Nat) : Int) ≤ 1048576
          omega)
        have y2 : y ≤ 1048576 := by omega
        clear y0 yy
        go_wp2_with fail
        go_roundw
        all_goals first
          | (simp only [intOf]; omega)
          | (simp [intOf]; omega)
          | exact ⟨k + 1, y, by omega, by go_num, rfl, y1, y2, Y3.out, BY1.out⟩
    · obtain rfl : k = n := by omega
      go_wp2_with fail
      go_ret
      exact ⟨x, rfl, fun _ => ⟨x1, n1, by have := HS.out; omega⟩, HBY.out⟩
set_option maxHeartbeats 1000000 in
theorem toFix (B : Nat) (u : Int) (a : Option Addr) (r cap : Nat) (D : Nat → Int) (w : World) (h : Ints B w a r D) (hB : B ≤ w.heap.size) (hr : (r : Int) ≤ 1048576) :
    Calls Try.prog 52 #[.agg #[.int .i64 u, .slice a r cap]] w fun e w' => ∃ g : Nat, e = .returned (.agg #[.int .i64 u, .slice (some ⟨g, 0, none⟩) r r]) ∧ w.heap.size ≤ g ∧ Rw w' g r D ∧ g < w'.heap.size ∧ Below w.heap.size w w' := by
  have H := hide h
  clear h
  go_enter Try.func52, Try.ntmps52
  have B1 := hide (show Below w.heap.size w (((w.alloc (.cells #[.int .i64 u, .slice a r cap] 74)).alloc (.cells #[.int .i64 0, .slice none 0 0] 83)).alloc (.cells #[.int .i64 u, .slice none 0 0] 83)) from below_alloc3 _ _ _ _)
  go_wp2_with fail
  refine (toIntS B a r cap D _ (by exact Ints.below H.out (B1.out.mono hB)) (by exact Nat.le_trans hB B1.out.size) hr).mono ?_
  rintro e w1 ⟨rfl, q1, s1, b1⟩
  have hc1 := old_cells b1
  have hf1 := old_marks b1
  have B2 := hide (B1.out.trans (b1.mono B1.out.size))
  have Q1 := hide q1
  have S1 := hide s1
  have hsz : (((w.alloc (.cells #[.int .i64 u, .slice a r cap] 74)).alloc (.cells #[.int .i64 0, .slice none 0 0] 83)).alloc (.cells #[.int .i64 u, .slice none 0 0] 83)).heap.size = w.heap.size + 1 + 1 + 1 := by simp
  rw [hsz] at hc1 hf1
  have c20 := fun i => hc1 w.heap.size i (by omega)
  have c21 := fun i => hc1 (w.heap.size + 1) i (by omega)
  have c22 := fun i => hc1 (w.heap.size + 1 + 1) i (by omega)
  have f21 := fun i => hf1 (w.heap.size + 1) i (by omega)
  have f22 := fun i => hf1 (w.heap.size + 1 + 1) i (by omega)
  clear b1 q1 s1 hc1 hf1
  go_wp2_with fail
  rw [hsz] at Q1 S1
  refine bodyPost_ret (v := .agg #[.int .i64 u, .slice (some ⟨w.heap.size + 1 + 1 + 1, 0, none⟩) r r]) (by simp [results, Try.results52, go_sem, c20, c21, c22]) rfl ⟨_, rfl, by omega, ?_, ?_, ?_⟩
  · repeat (refine Rw.other ?_ (by simp; try omega))
    exact Q1.out
  · have := S1.out
    simp [World.setCell]
    omega
  · repeat (refine Below.setCell ?_ (by simp; try omega) _)
    exact B2.out
set_option maxHeartbeats 1000000 in
theorem eqFix (B : Nat) (u : Int) (a a' : Option Addr) (r cap cap' : Nat) (D D' : Nat → Int) (w : World) (hB : B ≤ w.heap.size) (h1 : Ints B w a r D) (h3 : Ints B w a' r D') (e1 : ∀ j, j < r → D j = D' j) (hr : (r : Int) ≤ 1048576) :
    Calls Try.prog 64 #[.agg #[.int .i64 u, .slice a r cap], .agg #[.int .i64 u, .slice a' r cap']] w fun e w' => e = .returned (.bool true) ∧ Below w.heap.size w w' := by
  have B0 := hide (show Below w.heap.size w ((w.alloc (.cells #[.int .i64 u, .slice a r cap] 83)).alloc (.cells #[.int .i64 u, .slice a' r cap'] 83)) from ((Below.refl _ _).alloc (Nat.le_refl _) _).alloc (by simp) _)
  have H1 := hide (h1.below (B0.out.mono hB))
  have H3 := hide (h3.below (B0.out.mono hB))
  have E1 := hide e1
  have cu : (u != u) = false := by simp
  clear h1 h3 e1
  go_enter Try.func64, Try.ntmps64
  go_wp2_with fail
  refine (eqIntS B a a' r cap cap' D D' _ H1.out H3.out E1.out hr).mono ?_
  rintro e w1 ⟨rfl, b1⟩
  have B1 := hide (B0.out.trans (b1.mono B0.out.size))
  clear b1
  go_wp2_with fail
  go_ret
  exact ⟨rfl, B1.out⟩
/-- a list of accesses of one's own, k of them laid: each one's block lies between two limits -/
structure OFL (B : Nat) (w : World) (g n k : Nat) (A : Nat → FV) (lim : Nat → Nat) : Prop where
  lo : B ≤ g
  lt : g < w.heap.size
  laid : ∀ i, i < k → w.cell? ⟨g, i * 2, none⟩ = some (.int .i64 (A i).u) ∧ w.cell? ⟨g, i * 2 + 1, none⟩ = some (.slice (A i).a (A i).r (A i).cap) ∧ bd (A i).u
  rest : ∀ i, k ≤ i → i < n → w.cell? ⟨g, i * 2, none⟩ = some (.int .i64 0) ∧ w.cell? ⟨g, i * 2 + 1, none⟩ = some (.slice none 0 0)
  free : ∀ i, w.frozen? ⟨g, i, none⟩ = false
  low : g < lim 0
  own : ∀ i, i < k → OwnL (lim i) w (A i).a (A i).r (A i).D
  high : ∀ i, i < k → ∀ q, Blk (A i).a (A i).r q → q < lim (i + 1)
  mono : ∀ i, i < k → lim i ≤ lim (i + 1)
  top : lim k ≤ w.heap.size
theorem OFL.below {B : Nat} {w w' : World} {g n k : Nat} {A : Nat → FV} {lim : Nat → Nat} (h : OFL B w g n k A lim) (hb : Below w.heap.size w w') : OFL B w' g n k A lim :=
  have c : ∀ i, w'.cell? ⟨g, i, none⟩ = w.cell? ⟨g, i, none⟩ := fun i => hb.cell (p := ⟨g, i, none⟩) h.lt
  ⟨h.lo, Nat.lt_of_lt_of_le h.lt hb.size, fun i hi => by rw [c, c]; exact h.laid i hi, fun i h1 h2 => by rw [c, c]; exact h.rest i h1 h2,
    fun i => (hb.frozen (p := ⟨g, i, none⟩) h.lt).trans (h.free i), h.low, fun i hi => (h.own i hi).below hb, h.high, h.mono, Nat.le_trans h.top hb.size⟩
theorem OFL.read {B : Nat} {w : World} {g n : Nat} {A : Nat → FV} {lim : Nat → Nat} (h : OFL B w g n n A lim) : LF w.heap.size w (some ⟨g, 0, none⟩) n A :=
  .inr ⟨g, 0, rfl, h.lt, fun i hi => by
    obtain ⟨c0, c2, d0⟩ := h.laid i hi
    rw [Nat.zero_add]
    exact ⟨c0, c2, (h.own i hi).ints, d0⟩⟩
theorem ofl_put {B : Nat} {X X1 : World} {g n k p r : Nat} {u : Int} {D : Nat → Int} {U : Nat → FV} {lim : Nat → Nat} (h : OFL B X g n k U lim) (hk : k < n) (hb : Below X.heap.size X X1) (hu : bd u) (rw' : Rw X1 p r D) (hp : X.heap.size ≤ p) (hp' : p < X1.heap.size) :
    OFL B ((X1.setCell ⟨g, k * 2, none⟩ (.int .i64 u)).setCell ⟨g, k * 2 + 1, none⟩ (.slice (some ⟨p, 0, none⟩) r r)) g n (k + 1) (fun i => if i = k then ⟨u, some ⟨p, 0, none⟩, r, r, D⟩ else U i) (fun i => if i = k + 1 then X1.heap.size else lim i) := by
  have k2 : Kept (· = g) X1 ((X1.setCell ⟨g, k * 2, none⟩ (.int .i64 u)).setCell ⟨g, k * 2 + 1, none⟩ (.slice (some ⟨p, 0, none⟩) r r)) := (Kept.setCell X1 ⟨g, k * 2, none⟩ _).trans (Kept.setCell _ ⟨g, k * 2 + 1, none⟩ _)
  have h1 := h.below hb
  have ltX := h.lt
  have far : ∀ j, j ≠ k * 2 → j ≠ k * 2 + 1 → ((X1.setCell ⟨g, k * 2, none⟩ (.int .i64 u)).setCell ⟨g, k * 2 + 1, none⟩ (.slice (some ⟨p, 0, none⟩) r r)).cell? ⟨g, j, none⟩ = X1.cell? ⟨g, j, none⟩ := fun j n0 n2 => by
    rw [World.cell?_setCell_other _ _ _ _ (by intro e; injection e with _ e _; omega), World.cell?_setCell_other _ _ _ _ (by intro e; injection e with _ e _; omega)]
  obtain ⟨e0, e2⟩ := h1.rest k (Nat.le_refl _) hk
  have blkU : ∀ i, i < k → ∀ q, Blk (U i).a (U i).r q → q ≠ g := fun i hi q hq e => by
    have a := ((h.own i hi).blk hq).1
    have b := lim_leA h.mono (show 0 ≤ i by omega) (by omega)
    have c := h.low
    omega
  refine ⟨h.lo, Nat.lt_of_lt_of_le h1.lt k2.size, fun i hi => ?_, fun i hi hi2 => ?_, fun i => ?_, by show g < (if 0 = k + 1 then _ else lim 0); rw [if_neg (by omega)]; exact h.low, fun i hi => ?_, fun i hi q hq => ?_, fun i hi => ?_, by show (if k + 1 = k + 1 then X1.heap.size else _) ≤ _; rw [if_pos rfl]; exact k2.size⟩
  · by_cases c : i = k
    · subst c
      simp only [if_true]
      refine ⟨?_, World.cell?_setCell_same _ _ _ ((World.cell?_setCell_other _ _ _ _ (by intro e; injection e with _ e _; omega)).trans e2), hu⟩
      rw [World.cell?_setCell_other _ _ _ _ (by intro e; injection e with _ e _; omega)]
      exact World.cell?_setCell_same _ _ _ e0
    · simp only [c, if_false]
      rw [far _ (by omega) (by omega), far _ (by omega) (by omega)]
      exact h1.laid i (by omega)
  · rw [far _ (by omega) (by omega), far _ (by omega) (by omega)]
    exact h1.rest i (by omega) hi2
  · rw [World.frozen?_setCell, World.frozen?_setCell]
    exact h1.free i
  · by_cases c : i = k
    · subst c
      simp only [if_true, show ¬ i = i + 1 by omega, if_false]
      exact .inr ⟨p, rfl, Nat.le_trans h.top hp, rw'.kept k2 (by show ¬ p = g; omega)⟩
    · simp only [c, if_false, show ¬ i = k + 1 by omega]
      exact (h1.own i (by omega)).kept k2 (fun q hq e => blkU i (by omega) q hq e)
  · by_cases c : i = k
    · subst c
      simp only [if_true] at hq ⊢
      obtain ⟨_, ad, e1, e2⟩ := hq
      cases e1
      have e2 : p = q := e2
      omega
    · simp only [c, if_false] at hq
      show q < (if i + 1 = k + 1 then _ else lim (i + 1))
      rw [if_neg (by omega)]
      exact h.high i (by omega) q hq
  · show (if i = k + 1 then _ else lim i) ≤ (if i + 1 = k + 1 then X1.heap.size else lim (i + 1))
    rw [if_neg (by omega)]
    by_cases c : i = k
    · subst c
      rw [if_pos rfl]
      exact Nat.le_trans h.top hb.size
    · rw [if_neg (by omega)]
      exact h.mono i (by omega)
/-- the same accesses -/
def FSame (n : Nat) (A U : Nat → FV) : Prop := ∀ i, i < n → (U i).u = (A i).u ∧ (U i).r = (A i).r ∧ (U i).D = (A i).D ∧ (U i).cap = (A i).r
theorem make_fix (n : Nat) (hn : (n : Int) ≤ 1048576) (w : World) : (Instr.makeSlice 30 (.int .i64 n) (.int .i64 n)).run Try.prog w = .ok (.slice (some ⟨w.heap.size, 0, none⟩) n n) (w.alloc (.cells (madeCells #[.int .i64 0, .slice none 0 0] (n * 2)) 83)) := by
  have hi : (Try.prog.info? 83).map (fun i => (i.zero, i.size, i.bytes)) = some (some (.agg #[.int .i64 0, .slice none 0 0]), 2, 32) := by kernel_rfl
  obtain ⟨i, h1, h2⟩ := Option.map_eq_some_iff.1 hi
  simp only [Prod.mk.injEq] at h2
  obtain ⟨hz, hs, hb⟩ := h2
  have := run_make (P := Try.prog) w 30 83 i (.agg #[.int .i64 0, .slice none 0 0]) Try.underlying30 h1 hz .i64 .i64 n n (by omega) (Int.le_refl _) (by rw [hb]; omega) (by omega)
  rw [hs] at this
  simpa [Value.cells] using this
theorem ofl_new (w : World) (n : Nat) (A : Nat → FV) : OFL w.heap.size (w.alloc (.cells (madeCells #[.int .i64 0, .slice none 0 0] (n * 2)) 83)) w.heap.size n 0 A (fun _ => w.heap.size + 1) := by
  refine ⟨Nat.le_refl _, by simp, fun i hi => by omega, fun i _ hi => ?_, fun i => by simp [go_sem], by omega, fun i hi => by omega, fun i hi => by omega, fun i hi => by omega, by simp⟩
  have m0 : i * 2 % 2 = 0 := by omega
  have m2 : (i * 2 + 1) % 2 = 1 := by omega
  refine ⟨?_, ?_⟩
  · rw [World.cell?_alloc_at _ _ _ _ rfl]
    simp [madeCells, m0, show i * 2 < n * 2 by omega]
  · rw [World.cell?_alloc_at _ _ _ _ rfl]
    simp [madeCells, m2, show i * 2 + 1 < n * 2 by omega]
set_option maxHeartbeats 1000000 in
theorem toFixS (B : Nat) (a : Option Addr) (n cap : Nat) (A : Nat → FV) (w : World) (hB : B ≤ w.heap.size) (h : LF B w a n A) (hn : (n : Int) ≤ 1048576) (hl : FLen n A 1048576) :
    Calls Try.prog 25 #[.slice a n cap] w fun e w' => ∃ U lim, e = .returned (.slice (some ⟨w.heap.size, 0, none⟩) n n) ∧ OFL w.heap.size w' w.heap.size n n U lim ∧ FSame n A U ∧ Below w.heap.size w w' := by
  have hmk := make_fix n hn
  obtain ⟨W0, hW0⟩ : ∃ W0, w.alloc (.cells (madeCells #[.int .i64 0, .slice none 0 0] (n * 2)) 83) = W0 := ⟨_, rfl⟩
  have o0 := ofl_new w n A
  rw [hW0] at o0
  have bl : Below w.heap.size w W0 := by rw [← hW0]; exact (Below.refl _ _).alloc (Nat.le_refl _) _
  have O0 := hide o0
  have BL := hide bl
  have H := hide h
  have HL := hide hl
  clear h hl o0 bl
  go_enter Try.func25, Try.ntmps25
  go_wp2_with fail
  clear hW0 hmk
  go_loopw [4] (fun i wx => ∃ (k : Nat) (U : Nat → FV) (lim : Nat → Nat), k ≤ n ∧ i = .int .i64 k ∧ OFL w.heap.size wx w.heap.size n k U lim ∧ FSame k A U ∧ Below w.heap.size w wx) (fun i _ => n - (intOf i).toNat)
  case atStart => exact ⟨0, _, _, Nat.zero_le _, rfl, O0.out, fun i hi => by omega, BL.out⟩
  case round =>
    obtain ⟨X, rfl⟩ : ∃ X, X = wr := ⟨_, rfl⟩
    obtain ⟨k, U, lim, hk, rfl, ho, hs, hby⟩ := hrel
    have HO := hide ho
    have HS := hide hs
    have HBY := hide hby
    clear ho hs hby
    by_cases hlt : k < n
    · have kI : (k : Int) < n := by omega
      rcases H.out.below (HBY.out.mono hB) with q0 | ⟨blk, off, rfl, hbk, hc⟩
      · omega
      obtain ⟨c0, c2, i0, d0⟩ := hc k hlt
      have lk := HL.out k hlt
      have CT := hide (toFix B (A k).u (A k).a (A k).r (A k).cap (A k).D X i0 (Nat.le_trans hB HBY.out.size) lk)
      obtain ⟨e0, e2⟩ := HO.out.rest k (Nat.le_refl _) hlt
      have DU := hide d0
      clear hc i0 lk d0
      go_wp2_with fail
      refine CT.out.mono ?_
      rintro e X1 ⟨g1, rfl, hg1, vo, hg2, b1⟩
      have ltX := HO.out.lt
      have d0 := (b1.cell (p := ⟨w.heap.size, k * 2, none⟩) ltX).trans e0
      have d2 := (b1.cell (p := ⟨w.heap.size, k * 2 + 1, none⟩) ltX).trans e2
      have f0 := (b1.frozen (p := ⟨w.heap.size, k * 2, none⟩) ltX).trans (HO.out.free (k * 2))
      have f2 := (b1.frozen (p := ⟨w.heap.size, k * 2 + 1, none⟩) ltX).trans (HO.out.free (k * 2 + 1))
      have VO := hide vo
      have B1 := hide b1
      have G1 := hide hg1
      have G2 := hide hg2
      clear vo b1 c0 c2 e0 e2 CT hg1 hg2
      go_wp2_with fail
      go_roundw
      all_goals first
        | (simp only [intOf]; omega)
        | (simp [intOf]; omega)
        | exact ⟨k + 1, _, _, by omega, by go_num, ofl_put HO.out hlt B1.out DU.out VO.out G1.out G2.out, fun i hi => by
            by_cases c : i = k
            · subst c
              simp only [if_true]
              exact ⟨trivial, trivial, trivial, trivial⟩
            · simp only [c, if_false]
              exact HS.out i (by omega), ((HBY.out.trans (B1.out.mono HBY.out.size)).setCell (p := ⟨w.heap.size, k * 2, none⟩) (Nat.le_refl _) _).setCell (p := ⟨w.heap.size, k * 2 + 1, none⟩) (Nat.le_refl _) _⟩
    · obtain rfl : k = n := by omega
      go_wp2_with fail
      go_ret
      exact ⟨U, lim, rfl, HO.out, HS.out, HBY.out⟩
set_option maxHeartbeats 1000000 in
theorem eqFixS (B : Nat) (a b : Option Addr) (n cap cap' : Nat) (A U : Nat → FV) (w : World) (hB : B ≤ w.heap.size) (h : LF B w a n A) (h' : LF B w b n U) (hn : (n : Int) ≤ 1048576) (hl : FLen n A 1048576)
    (hs : ∀ i, i < n → (U i).u = (A i).u ∧ (U i).r = (A i).r ∧ (∀ j, j < (A i).r → (A i).D j = (U i).D j)) :
    Calls Try.prog 31 #[.slice a n cap, .slice b n cap'] w fun e w' => e = .returned (.bool true) ∧ Below w.heap.size w w' := by
  have H := hide h
  have H' := hide h'
  have HL := hide hl
  have HS := hide hs
  have c' : ((n : Int) != (n : Int)) = false := by simp
  clear h h' hl hs
  go_enter Try.func31, Try.ntmps31
  go_wp2_with fail
  clear c'
  go_loopw [5] (fun i wx => ∃ k : Nat, k ≤ n ∧ i = .int .i64 k ∧ Below w.heap.size w wx) (fun i _ => n - (intOf i).toNat)
  case atStart => exact ⟨0, Nat.zero_le _, rfl, Below.refl _ _⟩
  case round =>
    obtain ⟨X, rfl⟩ : ∃ X, X = wr := ⟨_, rfl⟩
    obtain ⟨k, hk, rfl, hby⟩ := hrel
    have HBY := hide hby
    clear hby
    by_cases hlt : k < n
    · have kI : (k : Int) < n := by omega
      rcases H.out.below (HBY.out.mono hB) with q0 | ⟨ba, oa, rfl, hba, hca⟩
      · omega
      rcases H'.out.below (HBY.out.mono hB) with q0 | ⟨bb, ob, rfl, hbb, hcb⟩
      · omega
      obtain ⟨a0, a2, ia, _⟩ := hca k hlt
      obtain ⟨b0, b2, ib, _⟩ := hcb k hlt
      obtain ⟨s1, s3, s4⟩ := HS.out k hlt
      rw [s1] at b0
      rw [s3] at b2 ib
      have lk := HL.out k hlt
      have CE := hide (eqFix B (A k).u (A k).a (U k).a (A k).r (A k).cap (U k).cap (A k).D (U k).D X.drew (Nat.le_trans hB HBY.out.size) ia ib s4 lk)
      clear hca hcb ia ib s1 s3 s4 lk
      have F : ∀ (W : World) (hW : Below X.drew.heap.size X.drew W) (p : Addr), p.block < B → W.cell? p = X.cell? p := fun W hW p hp => hW.cell (p := p) (by show p.block < X.heap.size; have := HBY.out.size; omega)
      have FF := hide F
      clear F
      go_wp2_with fail
      go_region_held3 (fun w' => (w'.cell? ⟨ba, oa + k * 2, none⟩ = some (.int .i64 (A k).u) ∧ w'.cell? ⟨ba, oa + k * 2 + 1, none⟩ = some (.slice (A k).a (A k).r (A k).cap)) ∧ (w'.cell? ⟨bb, ob + k * 2, none⟩ = some (.int .i64 (A k).u) ∧ w'.cell? ⟨bb, ob + k * 2 + 1, none⟩ = some (.slice (U k).a (A k).r (U k).cap)))
        ((try dsimp only) <;> (repeat' apply And.intro) <;> (first | with_reducible assumption | assumption))
        (first
        | (go_at_call 64
           refine CE.out.mono ?_
           rintro e X1 ⟨rfl, bX⟩
           have f1 := (FF.out X1 bX ⟨ba, oa + k * 2, none⟩ hba).trans a0
           have f3 := (FF.out X1 bX ⟨ba, oa + k * 2 + 1, none⟩ hba).trans a2
           have f4 := (FF.out X1 bX ⟨bb, ob + k * 2, none⟩ hbb).trans b0
           have f6 := (FF.out X1 bX ⟨bb, ob + k * 2 + 1, none⟩ hbb).trans b2
           have BX := hide bX
           clear bX))
      all_goals (go_wp2_with fail)
      all_goals go_roundw
      all_goals first
        | (simp only [intOf]; omega)
        | (simp [intOf]; omega)
        | exact ⟨k + 1, by omega, by go_num, HBY.out.drew.trans (BX.out.mono HBY.out.size)⟩
    · obtain rfl : k = n := by omega
      go_wp2_with fail
      go_ret
      exact ⟨rfl, HBY.out⟩
end Vo
end Go.Proofs.Ytgmjijjckedmcaa
