/- Lists of lists in memory: what the laws do with them. -/
import Derived.Test.YtajljeegkmkkcaaVv
import Derived.Deep.RegionHeld3
namespace Go.Proofs.Ytajljeegkmkkcaa
namespace Vo
open Go.ChangeShapes Go.WideShapes Go.ChangeAt Go.RowKit Go.Joins Go.Sort
open Vl Vp
set_option linter.unusedVariables false
set_option linter.unusedSimpArgs false
/-- a list of a list -/
structure LV where
  a : Option Addr
  r : Nat
  cap : Nat
  D : Nat → Int
/-- a list of lists that can be read -/
def LL (B : Nat) (w : World) (a : Option Addr) (n : Nat) (L : Nat → LV) : Prop :=
  n = 0 ∨ ∃ blk off, a = some ⟨blk, off, none⟩ ∧ blk < B ∧ ∀ i, i < n → w.cell? ⟨blk, off + i, none⟩ = some (.slice (L i).a (L i).r (L i).cap) ∧ Ints B w (L i).a (L i).r (L i).D
theorem LL.below {B : Nat} {w w' : World} {a : Option Addr} {n : Nat} {L : Nat → LV} (h : LL B w a n L) (hb : Below B w w') : LL B w' a n L := by
  rcases h with h | ⟨blk, off, rfl, hB, hc⟩
  · exact .inl h
  · exact .inr ⟨blk, off, rfl, hB, fun i hi => ⟨(hb.cell (p := ⟨blk, off + i, none⟩) hB).trans (hc i hi).1, (hc i hi).2.below hb⟩⟩
theorem LL.mono {B B' : Nat} {w : World} {a : Option Addr} {n : Nat} {L : Nat → LV} (h : LL B w a n L) (hb : B ≤ B') : LL B' w a n L := by
  rcases h with h | ⟨blk, off, rfl, hB, hc⟩
  · exact .inl h
  · exact .inr ⟨blk, off, rfl, by omega, fun i hi => ⟨(hc i hi).1, (hc i hi).2.mono hb⟩⟩
def LLen (n : Nat) (L : Nat → LV) (m : Int) : Prop := ∀ i, i < n → ((L i).r : Int) ≤ m
def LSame (n : Nat) (L M : Nat → LV) : Prop := ∀ i, i < n → (M i).r = (L i).r ∧ (M i).D = (L i).D
/-- an argument: a list of lists -/
def Arg2 (w : World) (a : Option Addr) (n : Nat) : Prop := (n : Int) ≤ 9223372036854775807 ∧ ∃ L, LL w.heap.size w a n L ∧ LLen n L 9223372036854775807
theorem arg2_of {H : Type} {enc : TypeId × Value → H} {w : World} {base : Nat} {spare : Nat → Bool} {held : Bool} {fuel : Nat} {c : Value} {x : DataW H × List MemPlace}
    (h : DataW.trod enc Try.prog w base spare held fuel 44 [c] = some x) : ∃ a n cap, c = .slice a n cap ∧ Arg2 w a n := by
  rcases DataW.trod_slice Try.underlying44 h with ⟨hc, _⟩ | ⟨a, len, cap, elems, rest, m, _, hc, _, hb, hl, hm, hlen, hel, _, _⟩
  · simp at hc
    exact ⟨none, 0, 0, hc, by omega, fun _ => ⟨none, 0, 0, fun _ => 0⟩, .inl rfl, fun i hi => by omega⟩
  · simp at hc
    refine ⟨some a, len, cap, hc, ?_⟩
    unfold maxLen at hm
    have c1 : Try.prog.cellsOf 26 = 1 := by kernel_rfl
    have each : ∀ i, i < len → ∃ v : LV, w.cell? (a.add i) = some (.slice v.a v.r v.cap) ∧ (v.r : Int) ≤ 9223372036854775807 ∧ Ints w.heap.size w v.a v.r v.D := by
      intro i hi
      have q := hel i hi
      rw [c1, Nat.mul_one, List.getElem?_eq_getElem (by omega), Option.bind_eq_some_iff] at q
      obtain ⟨cs, hcs, hy⟩ := q
      have hone : ∃ v, cs = [v] ∧ w.cell? (a.add i) = some v := by
        rcases DataW.trod_slice Try.underlying26 hy with ⟨e, _⟩ | ⟨a', l', c', _, _, _, _, e, _⟩
        · subst e; exact ⟨_, rfl, cell_of_cells?_one hcs⟩
        · subst e; exact ⟨_, rfl, cell_of_cells?_one hcs⟩
      obtain ⟨v, rfl, hv⟩ := hone
      obtain ⟨a', r', cap', rfl, hr', D, hD⟩ := arg_of hy
      exact ⟨⟨a', r', cap', D⟩, hv, hr', hD⟩
    refine ⟨by omega, fun i => if h : i < len then Classical.choose (each i h) else ⟨none, 0, 0, fun _ => 0⟩, ?_, fun i hi => ?_⟩
    · by_cases h0 : len = 0
      · exact .inl h0
      · obtain ⟨b, off, spot⟩ := a
        have hs : spot = none := by simpa [Addr.add] using World.cell?_spot (Classical.choose_spec (each 0 (by omega))).1
        subst hs
        refine .inr ⟨b, off, rfl, ?_, fun i hi => ?_⟩
        · have q := (Classical.choose_spec (each 0 (by omega))).1
          exact World.block_lt_of_cell? _ _ q
        · have q := Classical.choose_spec (each i hi)
          dsimp only
          rw [dif_pos hi, ← Go.WideShapes.add_plain]
          exact ⟨q.1, q.2.2⟩
    · dsimp only
      rw [dif_pos hi]
      exact (Classical.choose_spec (each i hi)).2.1
/-- how many numbers there are in all -/
def lsum (L : Nat → LV) : Nat → Nat | 0 => 0 | n + 1 => lsum L n + (L n).r
theorem lsum_le {L : Nat → LV} {n i : Nat} (h : i < n) : (L i).r ≤ lsum L n := by
  induction n with
  | zero => omega
  | succ n ih =>
    show _ ≤ lsum L n + (L n).r
    by_cases c : i = n
    · subst c; omega
    · have := ih (by omega); omega
theorem llen_of {L : Nat → LV} {n : Nat} (h : (lsum L n : Int) ≤ 1048576) : LLen n L 1048576 := fun i hi => by have := lsum_le (L := L) hi; omega
set_option maxHeartbeats 1000000 in
theorem szIntSS (B : Nat) (a : Option Addr) (n cap : Nat) (L : Nat → LV) (l : Int) (w : World) (hB : B ≤ w.heap.size) (h : LL B w a n L) (hn : (n : Int) ≤ 9223372036854775807) (hl : LLen n L 9223372036854775807) (l0 : 0 ≤ l) (l1 : l ≤ 1048576) :
    Calls Try.prog 16 #[.slice a n cap, .int .i64 l] w fun e w' => ∃ x : Int, e = .returned (.int .i64 x) ∧ (0 ≤ x → x ≤ 1048576 ∧ (n : Int) ≤ 1048576 ∧ (lsum L n : Int) ≤ 1048576) ∧ w' = w := by
  have H := hide h
  have HL := hide hl
  have wl : IntKind.i64.wrap (l - n) = l - n := by rw [IntKind.wrap_i64]; omega
  clear h hl
  go_enter Try.func16, Try.ntmps16
  by_cases h0 : l - (n : Int) < 0
  · have h0' : decide (l - (n : Int) < 0) = true := decide_eq_true h0
    clear h0
    go_wp2_with fail
    go_ret
    exact ⟨-1, rfl, fun e => by omega, rfl⟩
  have h0' : decide (l - (n : Int) < 0) = false := decide_eq_false h0
  have n1 : (n : Int) ≤ 1048576 := by omega
  go_wp2_with fail
  go_loopw [1, 5] (fun v i wx => ∃ (k : Nat) (x : Int), k ≤ n ∧ i = .int .i64 k ∧ v = .int .i64 x ∧ 0 ≤ x ∧ x ≤ 1048576 ∧ x + lsum L k ≤ 1048576 ∧ wx = w) (fun _ i _ => n - (intOf i).toNat)
  case atStart => exact ⟨0, _, Nat.zero_le _, rfl, rfl, by omega, by omega, by show l - n + ((0 : Nat) : Int) ≤ _; omega, rfl⟩
  case round =>
    obtain ⟨k, x, hk, rfl, rfl, x0, x1, hs, rfl⟩ := hrel
    have HS := hide hs
    clear hs
    by_cases hlt : k < n
    · have kI : (k : Int) < n := by omega
      rcases H.out with q0 | ⟨blk, off, rfl, hbk, hc⟩
      · omega
      have c0 := (hc k hlt).1
      have lk := HL.out k hlt
      clear hc
      have CZ := hide (szIntS (L k).a (L k).r (L k).cap x wr x0 x1 lk)
      go_wp2_with fail
      refine CZ.out.mono ?_
      rintro e X1 ⟨y, rfl, hy, hw⟩
      have hw := hw.symm
      subst hw
      have HY := hide hy
      clear hy c0 lk CZ
      by_cases y0 : y < 0
      · have y0' : decide (y < 0) = true := decide_eq_true y0
        clear y0
        go_wp2_with fail
        go_ret
        exact ⟨-1, rfl, fun e => by omega, rfl⟩
      · have y0' : decide (y < 0) = false := decide_eq_false y0
        have y1 : 0 ≤ y := by omega
        have yy := HY.out
        unfold Sz at yy
        have Y3 := hide (show y + lsum L (k + 1) ≤ 1048576 by
          have q := HS.out
          show y + ((lsum L k + (L k).r : Nat) : Int) ≤ 1048576
          omega)
        have y2 : y ≤ 1048576 := by omega
        clear y0 yy
        go_wp2_with fail
        go_roundw
        all_goals first
          | (simp only [intOf]; omega)
          | (simp [intOf]; omega)
          | exact ⟨k + 1, y, by omega, by go_num, rfl, y1, y2, Y3.out, by first | rfl | trivial⟩
    · obtain rfl : k = n := by omega
      go_wp2_with fail
      go_ret
      exact ⟨x, rfl, fun _ => ⟨x1, n1, by have := HS.out; omega⟩, rfl⟩
/-- a row of lists under way: k of them laid -/
structure OLL (w : World) (g n k : Nat) (M : Nat → LV) : Prop where
  lt : g < w.heap.size
  laid : ∀ i, i < k → w.cell? ⟨g, i, none⟩ = some (.slice (M i).a (M i).r (M i).cap)
  rest : ∀ i, k ≤ i → i < n → w.cell? ⟨g, i, none⟩ = some (.slice none 0 0)
  free : ∀ i, w.frozen? ⟨g, i, none⟩ = false
  own : ∀ i, i < k → OwnL (g + 1) w (M i).a (M i).r (M i).D
  ord : ∀ i j, i < j → j < k → ∀ b b', Blk (M i).a (M i).r b → Blk (M j).a (M j).r b' → b < b'
theorem OLL.below {w w' : World} {g n k : Nat} {M : Nat → LV} (h : OLL w g n k M) (hb : Below w.heap.size w w') : OLL w' g n k M :=
  ⟨Nat.lt_of_lt_of_le h.lt hb.size, fun i hi => (hb.cell (p := ⟨g, i, none⟩) h.lt).trans (h.laid i hi), fun i h1 h2 => (hb.cell (p := ⟨g, i, none⟩) h.lt).trans (h.rest i h1 h2), fun i => (hb.frozen (p := ⟨g, i, none⟩) h.lt).trans (h.free i), fun i hi => (h.own i hi).below hb, h.ord⟩
theorem oll_put {X X1 : World} {g n k q r : Nat} {D : Nat → Int} {M : Nat → LV} (h : OLL X g n k M) (hk : k < n) (hb : Below X.heap.size X X1) (rq : Rw X1 q r D) (hq : X.heap.size ≤ q) :
    OLL (X1.setCell ⟨g, k, none⟩ (.slice (some ⟨q, 0, none⟩) r r)) g n (k + 1) (fun i => if i = k then ⟨some ⟨q, 0, none⟩, r, r, D⟩ else M i) := by
  have k2 : Kept (· = g) X1 (X1.setCell ⟨g, k, none⟩ (.slice (some ⟨q, 0, none⟩) r r)) := Kept.setCell X1 ⟨g, k, none⟩ _
  have h1 := h.below hb
  have lt := h.lt
  have far : ∀ j, j ≠ k → (X1.setCell ⟨g, k, none⟩ (.slice (some ⟨q, 0, none⟩) r r)).cell? ⟨g, j, none⟩ = X1.cell? ⟨g, j, none⟩ := fun j n0 => World.cell?_setCell_other _ _ _ _ (by intro e; injection e with _ e _; omega)
  refine ⟨Nat.lt_of_lt_of_le h1.lt k2.size, fun i hi => ?_, fun i hi hi2 => by rw [far _ (by omega)]; exact h1.rest i (by omega) hi2, fun i => by rw [World.frozen?_setCell]; exact h1.free i, fun i hi => ?_, fun i j hij hj b b' h2 h3 => ?_⟩
  · by_cases c : i = k
    · subst c
      simp only [if_true]
      exact World.cell?_setCell_same _ _ _ (h1.rest i (Nat.le_refl _) hk)
    · simp only [c, if_false]
      rw [far _ c]
      exact h1.laid i (by omega)
  · by_cases c : i = k
    · subst c
      simp only [if_true]
      exact .inr ⟨q, rfl, by omega, rq.kept k2 (by show ¬ q = g; omega)⟩
    · simp only [c, if_false]
      refine (h1.own i (by omega)).kept k2 (fun b hb' e => ?_)
      have := ((h1.own i (by omega)).blk hb').1
      have e : b = g := e
      omega
  · rw [if_neg (by omega)] at h2
    by_cases c : j = k
    · rw [if_pos c] at h3
      obtain ⟨_, ad, e1, e2⟩ := h3
      have e1 : some (⟨q, 0, none⟩ : Addr) = some ad := e1
      cases e1
      have := ((h.own i (by omega)).blk h2).2
      have e2 : q = b' := e2
      omega
    · rw [if_neg c] at h3
      exact h.ord i j hij (by omega) b b' h2 h3
theorem OLL.kept {w w' : World} {g n k b : Nat} {M : Nat → LV} (h : OLL w g n k M) (hk : Kept (· = b) w w') (hf : ∀ i, w'.frozen? ⟨g, i, none⟩ = w.frozen? ⟨g, i, none⟩) (hb : b < g) : OLL w' g n k M :=
  have c : ∀ i, w'.cell? ⟨g, i, none⟩ = w.cell? ⟨g, i, none⟩ := fun i => World.cell?_of_block (w := w) (a := ⟨g, i, none⟩) (hk.block g h.lt (by show ¬ g = b; omega))
  ⟨Nat.lt_of_lt_of_le h.lt hk.size, fun i hi => (c i).trans (h.laid i hi), fun i h1 h2 => (c i).trans (h.rest i h1 h2), fun i => (hf i).trans (h.free i), fun i hi => (h.own i hi).kept hk (fun y hy e => by have e : y = b := e; have := ((h.own i hi).blk hy).1; omega), h.ord⟩
theorem OLL.set {w : World} {g n k b j : Nat} {M : Nat → LV} (h : OLL w g n k M) (u : Value) (hb : b < g) : OLL (w.setCell ⟨b, j, none⟩ u) g n k M :=
  h.kept (Kept.setCell w ⟨b, j, none⟩ u) (fun i => World.frozen?_setCell _ _ _ _) hb
theorem OLL.read {w : World} {g n : Nat} {M : Nat → LV} (h : OLL w g n n M) : LL w.heap.size w (some ⟨g, 0, none⟩) n M :=
  .inr ⟨g, 0, rfl, h.lt, fun i hi => ⟨by rw [Nat.zero_add]; exact h.laid i hi, (h.own i hi).ints⟩⟩
theorem make_lists (n : Nat) (hn : (n : Int) ≤ 1048576) (w : World) : (Instr.makeSlice 44 (.int .i64 n) (.int .i64 n)).run Try.prog w = .ok (.slice (some ⟨w.heap.size, 0, none⟩) n n) (w.alloc (.cells (madeCells #[.slice none 0 0] n) 26)) := by
  have hi : (Try.prog.info? 26).map (fun i => (i.zero, i.size, i.bytes)) = some (some (.slice none 0 0), 1, 24) := by kernel_rfl
  obtain ⟨i, h1, h2⟩ := Option.map_eq_some_iff.1 hi
  simp only [Prod.mk.injEq] at h2
  obtain ⟨hz, hs, hb⟩ := h2
  have := run_make (P := Try.prog) w 44 26 i (.slice none 0 0) Try.underlying44 h1 hz .i64 .i64 n n (by omega) (Int.le_refl _) (by rw [hb]; omega) (by omega)
  rw [hs] at this
  simpa [Value.cells] using this
theorem oll_new (w : World) (n : Nat) (M : Nat → LV) : OLL (w.alloc (.cells (madeCells #[.slice none 0 0] n) 26)) w.heap.size n 0 M := by
  refine ⟨by simp, fun i hi => by omega, fun i _ hi => ?_, fun i => by simp [go_sem], fun i hi => by omega, fun i j _ hj => by omega⟩
  rw [World.cell?_alloc_at _ _ _ _ rfl]
  simp [madeCells, hi, Nat.mod_one]
set_option maxHeartbeats 1000000 in
theorem toIntSS (B : Nat) (a : Option Addr) (n cap : Nat) (L : Nat → LV) (w : World) (hB : B ≤ w.heap.size) (h : LL B w a n L) (hn : (n : Int) ≤ 1048576) (hl : LLen n L 1048576) :
    Calls Try.prog 18 #[.slice a n cap] w fun e w' => ∃ M, e = .returned (.slice (some ⟨w.heap.size, 0, none⟩) n n) ∧ OLL w' w.heap.size n n M ∧ LSame n L M ∧ Below w.heap.size w w' := by
  have hmk := make_lists n hn
  obtain ⟨W0, hW0⟩ : ∃ W0, w.alloc (.cells (madeCells #[.slice none 0 0] n) 26) = W0 := ⟨_, rfl⟩
  have o0 := oll_new w n L
  rw [hW0] at o0
  have bl : Below w.heap.size w W0 := by rw [← hW0]; exact (Below.refl _ _).alloc (Nat.le_refl _) _
  have O0 := hide o0
  have BL := hide bl
  have H := hide h
  have HL := hide hl
  clear h hl o0 bl
  go_enter Try.func18, Try.ntmps18
  go_wp2_with fail
  clear hW0 hmk
  go_loopw [4] (fun i wx => ∃ (k : Nat) (M : Nat → LV), k ≤ n ∧ i = .int .i64 k ∧ OLL wx w.heap.size n k M ∧ LSame k L M ∧ Below w.heap.size w wx) (fun i _ => n - (intOf i).toNat)
  case atStart => exact ⟨0, _, Nat.zero_le _, rfl, O0.out, fun i hi => by omega, BL.out⟩
  case round =>
    obtain ⟨X, rfl⟩ : ∃ X, X = wr := ⟨_, rfl⟩
    obtain ⟨k, M, hk, rfl, ho, hs, hby⟩ := hrel
    have HO := hide ho
    have HS := hide hs
    have HBY := hide hby
    clear ho hs hby
    by_cases hlt : k < n
    · have kI : (k : Int) < n := by omega
      rcases H.out.below (HBY.out.mono hB) with q0 | ⟨blk, off, rfl, hbk, hc⟩
      · omega
      obtain ⟨c0, i0⟩ := hc k hlt
      have lk := HL.out k hlt
      have CT := hide (toIntS B (L k).a (L k).r (L k).cap (L k).D X i0 (Nat.le_trans hB HBY.out.size) lk)
      have e0 := HO.out.rest k (Nat.le_refl _) hlt
      clear hc i0 lk
      go_wp2_with fail
      refine CT.out.mono ?_
      rintro e X1 ⟨rfl, rq, lq, b1⟩
      have ltX := HO.out.lt
      have d0 := (b1.cell (p := ⟨w.heap.size, k, none⟩) ltX).trans e0
      have f0 := (b1.frozen (p := ⟨w.heap.size, k, none⟩) ltX).trans (HO.out.free k)
      have RQ := hide rq
      have B1 := hide b1
      clear rq b1 c0 e0 CT
      go_wp2_with fail
      go_roundw
      all_goals first
        | (simp only [intOf]; omega)
        | (simp [intOf]; omega)
        | exact ⟨k + 1, _, by omega, by go_num, oll_put HO.out hlt B1.out RQ.out (Nat.le_refl _), fun i hi => by
            by_cases c : i = k
            · subst c
              simp only [if_true]
              exact ⟨trivial, trivial⟩
            · simp only [c, if_false]
              exact HS.out i (by omega), (HBY.out.trans (B1.out.mono HBY.out.size)).setCell (p := ⟨w.heap.size, k, none⟩) (Nat.le_refl _) _⟩
    · obtain rfl : k = n := by omega
      go_wp2_with fail
      go_ret
      exact ⟨M, rfl, HO.out, HS.out, HBY.out⟩
set_option maxHeartbeats 1000000 in
theorem eqIntSS (B : Nat) (a b : Option Addr) (n cap cap' : Nat) (L M : Nat → LV) (w : World) (hB : B ≤ w.heap.size) (h : LL B w a n L) (h' : LL B w b n M) (hn : (n : Int) ≤ 1048576) (hl : LLen n L 1048576)
    (hs : ∀ i, i < n → (M i).r = (L i).r ∧ ∀ j, j < (L i).r → (L i).D j = (M i).D j) :
    Calls Try.prog 20 #[.slice a n cap, .slice b n cap'] w fun e w' => e = .returned (.bool true) ∧ Below w.heap.size w w' := by
  have H := hide h
  have H' := hide h'
  have HL := hide hl
  have HS := hide hs
  have c' : ((n : Int) != (n : Int)) = false := by simp
  clear h h' hl hs
  go_enter Try.func20, Try.ntmps20
  go_wp2_with fail
  clear c'
  go_loopw [5] (fun i wx => ∃ k : Nat, k ≤ n ∧ i = .int .i64 k ∧ Below w.heap.size w wx) (fun i _ => n - (intOf i).toNat)
  case atStart => exact ⟨0, Nat.zero_le _, rfl, Below.refl _ _⟩
  case round =>
    obtain ⟨X, rfl⟩ : ∃ X, X = wr := ⟨_, rfl⟩
    obtain ⟨k, hk, rfl, hby⟩ := hrel
    have HBY := hide hby
    clear hby
    by_cases hlt : k < n
    · have kI : (k : Int) < n := by omega
      rcases H.out.below (HBY.out.mono hB) with q0 | ⟨ba, oa, rfl, hba, hca⟩
      · omega
      rcases H'.out.below (HBY.out.mono hB) with q0 | ⟨bb, ob, rfl, hbb, hcb⟩
      · omega
      obtain ⟨a0, ia⟩ := hca k hlt
      obtain ⟨b0, ib⟩ := hcb k hlt
      obtain ⟨s1, s3⟩ := HS.out k hlt
      rw [s1] at b0 ib
      have lk := HL.out k hlt
      have CE := hide (eqIntS B (L k).a (M k).a (L k).r (L k).cap (M k).cap (L k).D (M k).D X.drew ia ib s3 lk)
      clear hca hcb ia ib s1 s3 lk
      have F1 := hide (fun (W : World) (hW : Below X.drew.heap.size X.drew W) => show W.cell? ⟨ba, oa + k, none⟩ = some (.slice (L k).a (L k).r (L k).cap) from (hW.cell (p := ⟨ba, oa + k, none⟩) (by show ba < X.heap.size; have := HBY.out.size; omega)).trans a0)
      have F3 := hide (fun (W : World) (hW : Below X.drew.heap.size X.drew W) => show W.cell? ⟨bb, ob + k, none⟩ = some (.slice (M k).a (L k).r (M k).cap) from (hW.cell (p := ⟨bb, ob + k, none⟩) (by show bb < X.heap.size; have := HBY.out.size; omega)).trans b0)
      go_wp2_with fail
      go_region_held3 (fun w' => w'.cell? ⟨ba, oa + k, none⟩ = some (.slice (L k).a (L k).r (L k).cap) ∧ w'.cell? ⟨bb, ob + k, none⟩ = some (.slice (M k).a (L k).r (M k).cap))
        ((try dsimp only) <;> (repeat' apply And.intro) <;> (first | with_reducible assumption | assumption))
        (first
        | (go_at_call 12
           refine CE.out.mono ?_
           rintro e X1 ⟨rfl, bX⟩
           have f1 := F1.out X1 bX
           have f3 := F3.out X1 bX
           have BX := hide bX
           clear bX))
      all_goals (go_wp2_with fail)
      all_goals go_roundw
      all_goals first
        | (simp only [intOf]; omega)
        | (simp [intOf]; omega)
        | exact ⟨k + 1, by omega, by go_num, HBY.out.drew.trans (BX.out.mono HBY.out.size)⟩
    · obtain rfl : k = n := by omega
      go_wp2_with fail
      go_ret
      exact ⟨rfl, HBY.out⟩
end Vo
end Go.Proofs.Ytajljeegkmkkcaa
