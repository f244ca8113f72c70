/- Lives in memory: what the laws do with them. -/
import Derived.Test.YtpmkjifpoikdjaaAr
import Derived.Test.YtpmkjifpoikdjaaVv
import Derived.Deep.RegionHeld3
import Derived.Lib.SmallJoins
namespace Go.Proofs.Ytpmkjifpoikdjaa
namespace Vo
open Go.ChangeShapes Go.WideShapes Go.ChangeAt Go.RowKit Go.Joins Go.Sort
open Vl Vp
set_option linter.unusedVariables false
set_option linter.unusedSimpArgs false
/-- a life: its buffer, its size, from where, up to where -/
structure MV where
  b : Int
  s : Int
  f : Int
  t : Int
def LM (B : Nat) (w : World) (a : Option Addr) (n : Nat) (C : Nat → MV) : Prop :=
  n = 0 ∨ ∃ blk off, a = some ⟨blk, off, none⟩ ∧ blk < B ∧ ∀ i, i < n → (w.cell? ⟨blk, off + i * 4, none⟩ = some (.int .i64 (C i).b) ∧ w.cell? ⟨blk, off + i * 4 + 1, none⟩ = some (.int .i64 (C i).s) ∧ w.cell? ⟨blk, off + i * 4 + 2, none⟩ = some (.int .i64 (C i).f) ∧ w.cell? ⟨blk, off + i * 4 + 3, none⟩ = some (.int .i64 (C i).t)) ∧ bd (C i).b ∧ bd (C i).s ∧ bd (C i).f ∧ bd (C i).t
theorem LM.below {B : Nat} {w w' : World} {a : Option Addr} {n : Nat} {C : Nat → MV} (h : LM B w a n C) (hb : Below B w w') : LM B w' a n C := by
  rcases h with h | ⟨blk, off, rfl, hB, hc⟩
  · exact .inl h
  · refine .inr ⟨blk, off, rfl, hB, fun i hi => ?_⟩
    obtain ⟨⟨c0, c1, c2, c3⟩, d⟩ := hc i hi
    exact ⟨⟨(hb.cell (p := ⟨blk, off + i * 4, none⟩) hB).trans c0, (hb.cell (p := ⟨blk, off + i * 4 + 1, none⟩) hB).trans c1, (hb.cell (p := ⟨blk, off + i * 4 + 2, none⟩) hB).trans c2, (hb.cell (p := ⟨blk, off + i * 4 + 3, none⟩) hB).trans c3⟩, d⟩
theorem LM.mono {B B' : Nat} {w : World} {a : Option Addr} {n : Nat} {C : Nat → MV} (h : LM B w a n C) (hb : B ≤ B') : LM B' w a n C := by
  rcases h with h | ⟨blk, off, rfl, hB, hc⟩
  · exact .inl h
  · exact .inr ⟨blk, off, rfl, by omega, hc⟩
theorem szLifeS (a : Option Addr) (n cap : Nat) (l : Int) (w : World) (l0 : 0 ≤ l) (l1 : l ≤ 1048576) (hn : (n : Int) ≤ 9223372036854775807) :
    Calls Try.prog 5 #[.slice a n cap, .int .i64 l] w fun e w' => ∃ x : Int, e = .returned (.int .i64 x) ∧ Sz l n x ∧ w' = w := by
  by_cases h : l < n
  · have h2 : l - n < 0 := by omega
    go_enter Try.func5, Try.ntmps5
    go_wp2_with fail
    go_ret
    exact ⟨_, rfl, .inl ⟨h, rfl⟩, rfl⟩
  · have h2 : decide (l - n < 0) = false := by rw [decide_eq_false_iff_not]; omega
    go_enter Try.func5, Try.ntmps5
    go_wp2_with fail
    go_ret
    exact ⟨_, rfl, .inr ⟨by omega, rfl⟩, rfl⟩
theorem below_alloc4 (o1 o2 o3 : Obj) (w : World) : Below w.heap.size w (((w.alloc o1).alloc o2).alloc o3) := (((Below.refl _ _).alloc (Nat.le_refl _) _).alloc (by simp) _).alloc (by simp; omega) _
set_option maxHeartbeats 1000000 in
theorem toLife (b s f t : Int) (w : World) : Calls Try.prog 24 #[.agg #[.int .i64 b, .int .i64 s, .int .i64 f, .int .i64 t]] w fun e w' => e = .returned (.agg #[.int .i64 b, .int .i64 s, .int .i64 f, .int .i64 t]) ∧ Below w.heap.size w w' := by
  go_enter Try.func24, Try.ntmps24
  go_wp2_with fail
  refine bodyPost_ret (v := .agg #[.int .i64 b, .int .i64 s, .int .i64 f, .int .i64 t]) (by simp [results, Try.results24, go_sem]) rfl ⟨rfl, ?_⟩
  repeat (refine Below.setCell ?_ (by simp; try omega) _)
  exact below_alloc4 _ _ _ _
set_option maxHeartbeats 1000000 in
theorem eqLife (b s f t : Int) (w : World) : Calls Try.prog 33 #[.agg #[.int .i64 b, .int .i64 s, .int .i64 f, .int .i64 t], .agg #[.int .i64 b, .int .i64 s, .int .i64 f, .int .i64 t]] w fun e w' => e = .returned (.bool true) ∧ Below w.heap.size w w' := by
  have B0 := hide (show Below w.heap.size w ((w.alloc (.cells #[.int .i64 b, .int .i64 s, .int .i64 f, .int .i64 t] 48)).alloc (.cells #[.int .i64 b, .int .i64 s, .int .i64 f, .int .i64 t] 48)) from ((Below.refl _ _).alloc (Nat.le_refl _) _).alloc (by simp) _)
  have cb : (b != b) = false := by simp
  have cs : (s != s) = false := by simp
  have cf : (f != f) = false := by simp
  have ct : (t != t) = false := by simp
  go_enter Try.func33, Try.ntmps33
  go_wp2_with fail
  go_ret
  exact ⟨rfl, B0.out⟩
/-- a list of lives of one's own, k of them laid -/
structure OML (B : Nat) (w : World) (g n k : Nat) (C : Nat → MV) : Prop where
  lo : B ≤ g
  lt : g < w.heap.size
  laid : ∀ i, i < k → (w.cell? ⟨g, i * 4, none⟩ = some (.int .i64 (C i).b) ∧ w.cell? ⟨g, i * 4 + 1, none⟩ = some (.int .i64 (C i).s) ∧ w.cell? ⟨g, i * 4 + 2, none⟩ = some (.int .i64 (C i).f) ∧ w.cell? ⟨g, i * 4 + 3, none⟩ = some (.int .i64 (C i).t)) ∧ bd (C i).b ∧ bd (C i).s ∧ bd (C i).f ∧ bd (C i).t
  rest : ∀ i, k ≤ i → i < n → w.cell? ⟨g, i * 4, none⟩ = some (.int .i64 0) ∧ w.cell? ⟨g, i * 4 + 1, none⟩ = some (.int .i64 0) ∧ w.cell? ⟨g, i * 4 + 2, none⟩ = some (.int .i64 0) ∧ w.cell? ⟨g, i * 4 + 3, none⟩ = some (.int .i64 0)
  free : ∀ i, w.frozen? ⟨g, i, none⟩ = false
theorem OML.below {B : Nat} {w w' : World} {g n k : Nat} {C : Nat → MV} (h : OML B w g n k C) (hb : Below w.heap.size w w') : OML B w' g n k C :=
  have c : ∀ i, w'.cell? ⟨g, i, none⟩ = w.cell? ⟨g, i, none⟩ := fun i => hb.cell (p := ⟨g, i, none⟩) h.lt
  ⟨h.lo, Nat.lt_of_lt_of_le h.lt hb.size, fun i hi => by rw [c, c, c, c]; exact h.laid i hi, fun i h1 h2 => by rw [c, c, c, c]; exact h.rest i h1 h2, fun i => (hb.frozen (p := ⟨g, i, none⟩) h.lt).trans (h.free i)⟩
theorem OML.read {B : Nat} {w : World} {g n : Nat} {C : Nat → MV} (h : OML B w g n n C) : LM w.heap.size w (some ⟨g, 0, none⟩) n C :=
  .inr ⟨g, 0, rfl, h.lt, fun i hi => by rw [Nat.zero_add]; exact h.laid i hi⟩
theorem oml_put {B : Nat} {X X1 : World} {g n k : Nat} {b s f t : Int} {U : Nat → MV} (h : OML B X g n k U) (hk : k < n) (hb : Below X.heap.size X X1) (hd : bd b ∧ bd s ∧ bd f ∧ bd t) :
    OML B ((((X1.setCell ⟨g, k * 4, none⟩ (.int .i64 b)).setCell ⟨g, k * 4 + 1, none⟩ (.int .i64 s)).setCell ⟨g, k * 4 + 2, none⟩ (.int .i64 f)).setCell ⟨g, k * 4 + 3, none⟩ (.int .i64 t)) g n (k + 1) (fun i => if i = k then ⟨b, s, f, t⟩ else U i) := by
  have h1 := h.below hb
  have far : ∀ j, j ≠ k * 4 → j ≠ k * 4 + 1 → j ≠ k * 4 + 2 → j ≠ k * 4 + 3 → ((((X1.setCell ⟨g, k * 4, none⟩ (.int .i64 b)).setCell ⟨g, k * 4 + 1, none⟩ (.int .i64 s)).setCell ⟨g, k * 4 + 2, none⟩ (.int .i64 f)).setCell ⟨g, k * 4 + 3, none⟩ (.int .i64 t)).cell? ⟨g, j, none⟩ = X1.cell? ⟨g, j, none⟩ := fun j n0 n1 n2 n3 => by
    rw [World.cell?_setCell_other _ _ _ _ (by intro e; injection e with _ e _; omega), World.cell?_setCell_other _ _ _ _ (by intro e; injection e with _ e _; omega), World.cell?_setCell_other _ _ _ _ (by intro e; injection e with _ e _; omega), World.cell?_setCell_other _ _ _ _ (by intro e; injection e with _ e _; omega)]
  obtain ⟨e0, e1, e2, e3⟩ := h1.rest k (Nat.le_refl _) hk
  refine ⟨h.lo, by simpa [World.setCell] using h1.lt, fun i hi => ?_, fun i hi hi2 => ?_, fun i => ?_⟩
  · by_cases c : i = k
    · subst c
      simp only [if_true]
      refine ⟨⟨?_, ?_, ?_, ?_⟩, hd⟩
      · rw [World.cell?_setCell_other _ _ _ _ (by intro e; injection e with _ e _; omega), World.cell?_setCell_other _ _ _ _ (by intro e; injection e with _ e _; omega), World.cell?_setCell_other _ _ _ _ (by intro e; injection e with _ e _; omega)]
        exact World.cell?_setCell_same _ _ _ (e0)
      · rw [World.cell?_setCell_other _ _ _ _ (by intro e; injection e with _ e _; omega), World.cell?_setCell_other _ _ _ _ (by intro e; injection e with _ e _; omega)]
        exact World.cell?_setCell_same _ _ _ ((World.cell?_setCell_other _ _ _ _ (by intro e; injection e with _ e _; omega)).trans (e1))
      · rw [World.cell?_setCell_other _ _ _ _ (by intro e; injection e with _ e _; omega)]
        exact World.cell?_setCell_same _ _ _ ((World.cell?_setCell_other _ _ _ _ (by intro e; injection e with _ e _; omega)).trans ((World.cell?_setCell_other _ _ _ _ (by intro e; injection e with _ e _; omega)).trans (e2)))
      · exact World.cell?_setCell_same _ _ _ ((World.cell?_setCell_other _ _ _ _ (by intro e; injection e with _ e _; omega)).trans ((World.cell?_setCell_other _ _ _ _ (by intro e; injection e with _ e _; omega)).trans ((World.cell?_setCell_other _ _ _ _ (by intro e; injection e with _ e _; omega)).trans (e3))))
    · simp only [c, if_false]
      rw [far _ (by omega) (by omega) (by omega) (by omega), far _ (by omega) (by omega) (by omega) (by omega), far _ (by omega) (by omega) (by omega) (by omega), far _ (by omega) (by omega) (by omega) (by omega)]
      exact h1.laid i (by omega)
  · rw [far _ (by omega) (by omega) (by omega) (by omega), far _ (by omega) (by omega) (by omega) (by omega), far _ (by omega) (by omega) (by omega) (by omega), far _ (by omega) (by omega) (by omega) (by omega)]
    exact h1.rest i (by omega) hi2
  · rw [World.frozen?_setCell, World.frozen?_setCell, World.frozen?_setCell, World.frozen?_setCell]
    exact h1.free i
def MSame (n : Nat) (C U : Nat → MV) : Prop := ∀ i, i < n → U i = C i
theorem make_life (n : Nat) (hn : (n : Int) ≤ 1048576) (w : World) : (Instr.makeSlice 27 (.int .i64 n) (.int .i64 n)).run Try.prog w = .ok (.slice (some ⟨w.heap.size, 0, none⟩) n n) (w.alloc (.cells (madeCells #[.int .i64 0, .int .i64 0, .int .i64 0, .int .i64 0] (n * 4)) 48)) := by
  have hi : (Try.prog.info? 48).map (fun i => (i.zero, i.size, i.bytes)) = some (some (.agg #[.int .i64 0, .int .i64 0, .int .i64 0, .int .i64 0]), 4, 32) := by kernel_rfl
  obtain ⟨i, h1, h2⟩ := Option.map_eq_some_iff.1 hi
  simp only [Prod.mk.injEq] at h2
  obtain ⟨hz, hs, hb⟩ := h2
  have := run_make (P := Try.prog) w 27 48 i (.agg #[.int .i64 0, .int .i64 0, .int .i64 0, .int .i64 0]) Try.underlying27 h1 hz .i64 .i64 n n (by omega) (Int.le_refl _) (by rw [hb]; omega) (by omega)
  rw [hs] at this
  simpa [Value.cells] using this
theorem oml_new (w : World) (n : Nat) (C : Nat → MV) : OML w.heap.size (w.alloc (.cells (madeCells #[.int .i64 0, .int .i64 0, .int .i64 0, .int .i64 0] (n * 4)) 48)) w.heap.size n 0 C := by
  refine ⟨Nat.le_refl _, by simp, fun i hi => by omega, fun i _ hi => ?_, fun i => by simp [go_sem]⟩
  have m0 : i * 4 % 4 = 0 := by omega
  have m1 : (i * 4 + 1) % 4 = 1 := by omega
  have m2 : (i * 4 + 2) % 4 = 2 := by omega
  have m3 : (i * 4 + 3) % 4 = 3 := by omega
  refine ⟨?_, ?_, ?_, ?_⟩
  · rw [World.cell?_alloc_at _ _ _ _ rfl]
    simp [madeCells, m0, show i * 4 < n * 4 by omega]
  · rw [World.cell?_alloc_at _ _ _ _ rfl]
    simp [madeCells, m1, show i * 4 + 1 < n * 4 by omega]
  · rw [World.cell?_alloc_at _ _ _ _ rfl]
    simp [madeCells, m2, show i * 4 + 2 < n * 4 by omega]
  · rw [World.cell?_alloc_at _ _ _ _ rfl]
    simp [madeCells, m3, show i * 4 + 3 < n * 4 by omega]
set_option maxHeartbeats 1000000 in
theorem toLifeS (B : Nat) (a : Option Addr) (n cap : Nat) (C : Nat → MV) (w : World) (hB : B ≤ w.heap.size) (h : LM B w a n C) (hn : (n : Int) ≤ 1048576) :
    Calls Try.prog 7 #[.slice a n cap] w fun e w' => ∃ U, e = .returned (.slice (some ⟨w.heap.size, 0, none⟩) n n) ∧ OML w.heap.size w' w.heap.size n n U ∧ MSame n C U ∧ Below w.heap.size w w' := by
  have hmk := make_life n hn
  obtain ⟨W0, hW0⟩ : ∃ W0, w.alloc (.cells (madeCells #[.int .i64 0, .int .i64 0, .int .i64 0, .int .i64 0] (n * 4)) 48) = W0 := ⟨_, rfl⟩
  have o0 := oml_new w n C
  rw [hW0] at o0
  have bl : Below w.heap.size w W0 := by rw [← hW0]; exact (Below.refl _ _).alloc (Nat.le_refl _) _
  have O0 := hide o0
  have BL := hide bl
  have H := hide h
  clear h o0 bl
  go_enter Try.func7, Try.ntmps7
  go_wp2_with fail
  clear hW0 hmk
  go_loopw [4] (fun i wx => ∃ (k : Nat) (U : Nat → MV), k ≤ n ∧ i = .int .i64 k ∧ OML w.heap.size wx w.heap.size n k U ∧ MSame k C U ∧ Below w.heap.size w wx) (fun i _ => n - (intOf i).toNat)
  case atStart => exact ⟨0, _, Nat.zero_le _, rfl, O0.out, fun i hi => by omega, BL.out⟩
  case round =>
    obtain ⟨X, rfl⟩ : ∃ X, X = wr := ⟨_, rfl⟩
    obtain ⟨k, U, hk, rfl, ho, hs, hby⟩ := hrel
    have HO := hide ho
    have HS := hide hs
    have HBY := hide hby
    clear ho hs hby
    by_cases hlt : k < n
    · have kI : (k : Int) < n := by omega
      rcases H.out.below (HBY.out.mono hB) with q0 | ⟨blk, off, rfl, hbk, hc⟩
      · omega
      obtain ⟨⟨c0, c1, c2, c3⟩, d0⟩ := hc k hlt
      have CT := hide (toLife (C k).b (C k).s (C k).f (C k).t X)
      obtain ⟨e0, e1, e2, e3⟩ := HO.out.rest k (Nat.le_refl _) hlt
      have DU := hide d0
      clear hc d0
      go_wp2_with fail
      refine CT.out.mono ?_
      rintro e X1 ⟨rfl, b1⟩
      have ltX := HO.out.lt
      have d0 := (b1.cell (p := ⟨w.heap.size, k * 4, none⟩) ltX).trans e0
      have d1 := (b1.cell (p := ⟨w.heap.size, k * 4 + 1, none⟩) ltX).trans e1
      have d2 := (b1.cell (p := ⟨w.heap.size, k * 4 + 2, none⟩) ltX).trans e2
      have d3 := (b1.cell (p := ⟨w.heap.size, k * 4 + 3, none⟩) ltX).trans e3
      have f0 := (b1.frozen (p := ⟨w.heap.size, k * 4, none⟩) ltX).trans (HO.out.free (k * 4))
      have f1 := (b1.frozen (p := ⟨w.heap.size, k * 4 + 1, none⟩) ltX).trans (HO.out.free (k * 4 + 1))
      have f2 := (b1.frozen (p := ⟨w.heap.size, k * 4 + 2, none⟩) ltX).trans (HO.out.free (k * 4 + 2))
      have f3 := (b1.frozen (p := ⟨w.heap.size, k * 4 + 3, none⟩) ltX).trans (HO.out.free (k * 4 + 3))
      have B1 := hide b1
      clear b1 c0 c1 c2 c3 e0 e1 e2 e3 CT
      go_wp2_with fail
      go_roundw
      all_goals first
        | (simp only [intOf]; omega)
        | (simp [intOf]; omega)
        | exact ⟨k + 1, _, by omega, by go_num, oml_put HO.out hlt B1.out DU.out, fun i hi => by
            by_cases c : i = k
            · subst c
              simp only [if_true]
            · simp only [c, if_false]
              exact HS.out i (by omega), ((((HBY.out.trans (B1.out.mono HBY.out.size)).setCell (p := ⟨w.heap.size, k * 4, none⟩) (Nat.le_refl _) _).setCell (p := ⟨w.heap.size, k * 4 + 1, none⟩) (Nat.le_refl _) _).setCell (p := ⟨w.heap.size, k * 4 + 2, none⟩) (Nat.le_refl _) _).setCell (p := ⟨w.heap.size, k * 4 + 3, none⟩) (Nat.le_refl _) _⟩
    · obtain rfl : k = n := by omega
      go_wp2_with fail
      go_ret
      exact ⟨U, rfl, HO.out, HS.out, HBY.out⟩
set_option maxHeartbeats 1000000 in
theorem eqLifeS (B : Nat) (a b : Option Addr) (n cap cap' : Nat) (C U : Nat → MV) (w : World) (hB : B ≤ w.heap.size) (h : LM B w a n C) (h' : LM B w b n U) (hn : (n : Int) ≤ 1048576) (hs : ∀ i, i < n → U i = C i) :
    Calls Try.prog 10 #[.slice a n cap, .slice b n cap'] w fun e w' => e = .returned (.bool true) ∧ Below w.heap.size w w' := by
  have H := hide h
  have H' := hide h'
  have HS := hide hs
  have c' : ((n : Int) != (n : Int)) = false := by simp
  clear h h' hs
  go_enter Try.func10, Try.ntmps10
  go_wp2_with fail
  clear c'
  go_loopw [5] (fun i wx => ∃ k : Nat, k ≤ n ∧ i = .int .i64 k ∧ Below w.heap.size w wx) (fun i _ => n - (intOf i).toNat)
  case atStart => exact ⟨0, Nat.zero_le _, rfl, Below.refl _ _⟩
  case round =>
    obtain ⟨X, rfl⟩ : ∃ X, X = wr := ⟨_, rfl⟩
    obtain ⟨k, hk, rfl, hby⟩ := hrel
    have HBY := hide hby
    clear hby
    by_cases hlt : k < n
    · have kI : (k : Int) < n := by omega
      rcases H.out.below (HBY.out.mono hB) with q0 | ⟨ba, oa, rfl, hba, hca⟩
      · omega
      rcases H'.out.below (HBY.out.mono hB) with q0 | ⟨bb, ob, rfl, hbb, hcb⟩
      · omega
      obtain ⟨⟨a0, a1, a2, a3⟩, _⟩ := hca k hlt
      obtain ⟨⟨b0, b1, b2, b3⟩, _⟩ := hcb k hlt
      rw [HS.out k hlt] at b0 b1 b2 b3
      have CE := hide (eqLife (C k).b (C k).s (C k).f (C k).t X.drew)
      clear hca hcb
      have F : ∀ (W : World) (hW : Below X.drew.heap.size X.drew W) (p : Addr), p.block < B → W.cell? p = X.cell? p := fun W hW p hp => hW.cell (p := p) (by show p.block < X.heap.size; have := HBY.out.size; omega)
      have FF := hide F
      clear F
      go_wp2_with fail
      go_region_held3 (fun w' => (w'.cell? ⟨ba, oa + k * 4, none⟩ = some (.int .i64 (C k).b) ∧ w'.cell? ⟨ba, oa + k * 4 + 1, none⟩ = some (.int .i64 (C k).s) ∧ w'.cell? ⟨ba, oa + k * 4 + 2, none⟩ = some (.int .i64 (C k).f) ∧ w'.cell? ⟨ba, oa + k * 4 + 3, none⟩ = some (.int .i64 (C k).t)) ∧ (w'.cell? ⟨bb, ob + k * 4, none⟩ = some (.int .i64 (C k).b) ∧ w'.cell? ⟨bb, ob + k * 4 + 1, none⟩ = some (.int .i64 (C k).s) ∧ w'.cell? ⟨bb, ob + k * 4 + 2, none⟩ = some (.int .i64 (C k).f) ∧ w'.cell? ⟨bb, ob + k * 4 + 3, none⟩ = some (.int .i64 (C k).t)))
        ((try dsimp only) <;> (repeat' apply And.intro) <;> (first | with_reducible assumption | assumption))
        (first
        | (go_at_call 33
           refine CE.out.mono ?_
           rintro e X1 ⟨rfl, bX⟩
           have f1 := (FF.out X1 bX ⟨ba, oa + k * 4, none⟩ hba).trans a0
           have f2 := (FF.out X1 bX ⟨ba, oa + k * 4 + 1, none⟩ hba).trans a1
           have f3 := (FF.out X1 bX ⟨ba, oa + k * 4 + 2, none⟩ hba).trans a2
           have f3' := (FF.out X1 bX ⟨ba, oa + k * 4 + 3, none⟩ hba).trans a3
           have f4 := (FF.out X1 bX ⟨bb, ob + k * 4, none⟩ hbb).trans b0
           have f5 := (FF.out X1 bX ⟨bb, ob + k * 4 + 1, none⟩ hbb).trans b1
           have f6 := (FF.out X1 bX ⟨bb, ob + k * 4 + 2, none⟩ hbb).trans b2
           have f6' := (FF.out X1 bX ⟨bb, ob + k * 4 + 3, none⟩ hbb).trans b3
           have BX := hide bX
           clear bX))
      all_goals (go_wp2_with fail)
      all_goals go_roundw
      all_goals first
        | (simp only [intOf]; omega)
        | (simp [intOf]; omega)
        | exact ⟨k + 1, by omega, by go_num, HBY.out.drew.trans (BX.out.mono HBY.out.size)⟩
    · obtain rfl : k = n := by omega
      go_wp2_with fail
      go_ret
      exact ⟨rfl, HBY.out⟩
/-- an argument: a list of lives -/
def ArgM (w : World) (a : Option Addr) (n : Nat) : Prop := (n : Int) ≤ 9223372036854775807 ∧ ∃ C, LM w.heap.size w a n C
section
variable {H : Type} {enc : TypeId × Value → H} {w : World} {base : Nat} {spare : Nat → Bool} {held : Bool} {fuel : Nat}
theorem mv_of {c0 c1 c2 c3 : Value} {x : DataW H × List MemPlace} (h : DataW.trod enc Try.prog w base spare held fuel 50 [c0, c1, c2, c3] = some x) :
    ∃ v : MV, (c0 = .int .i64 v.b ∧ c1 = .int .i64 v.s ∧ c2 = .int .i64 v.f ∧ c3 = .int .i64 v.t) ∧ bd v.b ∧ bd v.s ∧ bd v.f ∧ bd v.t := by
  obtain ⟨y0, n0, q0⟩ := field_of Try.underlying50 h 0 _ rfl 1 (by kernel_rfl)
  obtain ⟨y1, n1, q1⟩ := field_of Try.underlying50 h 1 _ rfl 1 (by kernel_rfl)
  obtain ⟨y2, n2, q2⟩ := field_of Try.underlying50 h 2 _ rfl 1 (by kernel_rfl)
  obtain ⟨y3, n3, q3⟩ := field_of Try.underlying50 h 3 _ rfl 1 (by kernel_rfl)
  have q0 : DataW.trod enc Try.prog w base spare held n0 3 [c0] = some y0 := q0
  have q1 : DataW.trod enc Try.prog w base spare held n1 3 [c1] = some y1 := q1
  have q2 : DataW.trod enc Try.prog w base spare held n2 3 [c2] = some y2 := q2
  have q3 : DataW.trod enc Try.prog w base spare held n3 3 [c3] = some y3 := q3
  obtain ⟨b, rfl, hb⟩ := int_of q0
  obtain ⟨s, rfl, hs⟩ := int_of q1
  obtain ⟨f, rfl, hf⟩ := int_of q2
  obtain ⟨t, rfl, ht⟩ := int_of q3
  exact ⟨⟨b, s, f, t⟩, ⟨rfl, rfl, rfl, rfl⟩, hb, hs, hf, ht⟩
theorem argM_of {c : Value} {x : DataW H × List MemPlace} (h : DataW.trod enc Try.prog w base spare held fuel 22 [c] = some x) :
    ∃ a l cap, c = .slice a l cap ∧ ArgM w a l := by
  obtain ⟨a, l, cap, rfl, hl, h0 | ⟨blk, off, rfl, hb, he⟩⟩ := els_at Try.underlying22 (n := 4) (by kernel_rfl) (by omega) h
  · exact ⟨a, l, cap, rfl, hl, fun _ => ⟨0, 0, 0, 0⟩, .inl h0⟩
  · obtain ⟨A, hA⟩ := choose_of (⟨0, 0, 0, 0⟩ : MV) (l := l) (P := fun i v => (w.cell? ⟨blk, off + i * 4, none⟩ = some (.int .i64 v.b) ∧ w.cell? ⟨blk, off + i * 4 + 1, none⟩ = some (.int .i64 v.s) ∧ w.cell? ⟨blk, off + i * 4 + 2, none⟩ = some (.int .i64 v.f) ∧ w.cell? ⟨blk, off + i * 4 + 3, none⟩ = some (.int .i64 v.t)) ∧ bd v.b ∧ bd v.s ∧ bd v.f ∧ bd v.t) (fun i hi => by
      obtain ⟨cs, m, y, hcl, hce, hy⟩ := he i hi
      obtain ⟨c0, c1, c2, c3, rfl⟩ : ∃ c0 c1 c2 c3, cs = [c0, c1, c2, c3] := by
        match cs, hcl with
        | [c0, c1, c2, c3], _ => exact ⟨c0, c1, c2, c3, rfl⟩
      obtain ⟨v, ⟨rfl, rfl, rfl, rfl⟩, hd⟩ := mv_of hy
      exact ⟨v, ⟨hce 0 (by omega), hce 1 (by omega), hce 2 (by omega), hce 3 (by omega)⟩, hd⟩)
    exact ⟨_, l, cap, rfl, hl, A, .inr ⟨blk, off, rfl, hb, hA⟩⟩
theorem argM_at {a : Option Addr} {r cap : Nat} {d : DataW H} {p : List MemPlace}
    (h : DataW.Trod enc Try.prog w base spare held 22 (.slice a r cap) d p) : ArgM w a r := by
  obtain ⟨fuel, hf⟩ := h
  obtain ⟨a', r', cap', e, h'⟩ := argM_of (c := .slice a r cap) (by simpa [Value.cells] using hf)
  simp at e
  obtain ⟨rfl, rfl, rfl⟩ := e
  exact h'
end
end Vo
end Go.Proofs.Ytpmkjifpoikdjaa
