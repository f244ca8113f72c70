/- Steps of a reckoning, and what is fixed, in memory: what the laws do with them. -/
import Derived.Test.YtgmjijjckedmcaaJa
namespace Go.Proofs.Ytgmjijjckedmcaa
namespace Vo
open Go.ChangeShapes Go.WideShapes Go.ChangeAt Go.RowKit Go.Joins Go.Sort
open Vl Vp
set_option linter.unusedVariables false
set_option linter.unusedSimpArgs false
/-- a step of a reckoning -/
structure CV where
  x : Int
  y : Int
  z : Int
def LC (B : Nat) (w : World) (a : Option Addr) (n : Nat) (C : Nat → CV) : Prop :=
  n = 0 ∨ ∃ blk off, a = some ⟨blk, off, none⟩ ∧ blk < B ∧ ∀ i, i < n → w.cell? ⟨blk, off + i * 3, none⟩ = some (.int .i64 (C i).x) ∧ w.cell? ⟨blk, off + i * 3 + 1, none⟩ = some (.int .i64 (C i).y) ∧ w.cell? ⟨blk, off + i * 3 + 2, none⟩ = some (.int .i64 (C i).z) ∧ bd (C i).x ∧ bd (C i).y ∧ bd (C i).z
theorem LC.below {B : Nat} {w w' : World} {a : Option Addr} {n : Nat} {C : Nat → CV} (h : LC B w a n C) (hb : Below B w w') : LC B w' a n C := by
  rcases h with h | ⟨blk, off, rfl, hB, hc⟩
  · exact .inl h
  · refine .inr ⟨blk, off, rfl, hB, fun i hi => ?_⟩
    obtain ⟨c0, c1, c2, d⟩ := hc i hi
    exact ⟨(hb.cell (p := ⟨blk, off + i * 3, none⟩) hB).trans c0, (hb.cell (p := ⟨blk, off + i * 3 + 1, none⟩) hB).trans c1, (hb.cell (p := ⟨blk, off + i * 3 + 2, none⟩) hB).trans c2, d⟩
theorem LC.mono {B B' : Nat} {w : World} {a : Option Addr} {n : Nat} {C : Nat → CV} (h : LC B w a n C) (hb : B ≤ B') : LC B' w a n C := by
  rcases h with h | ⟨blk, off, rfl, hB, hc⟩
  · exact .inl h
  · exact .inr ⟨blk, off, rfl, by omega, hc⟩
theorem szCalcS (a : Option Addr) (n cap : Nat) (l : Int) (w : World) (l0 : 0 ≤ l) (l1 : l ≤ 1048576) (hn : (n : Int) ≤ 9223372036854775807) :
    Calls Try.prog 77 #[.slice a n cap, .int .i64 l] w fun e w' => ∃ x : Int, e = .returned (.int .i64 x) ∧ Sz l n x ∧ w' = w := by
  by_cases h : l < n
  · have h2 : l - n < 0 := by omega
    go_enter Try.func77, Try.ntmps77
    go_wp2_with fail
    go_ret
    exact ⟨_, rfl, .inl ⟨h, rfl⟩, rfl⟩
  · have h2 : decide (l - n < 0) = false := by rw [decide_eq_false_iff_not]; omega
    go_enter Try.func77, Try.ntmps77
    go_wp2_with fail
    go_ret
    exact ⟨_, rfl, .inr ⟨by omega, rfl⟩, rfl⟩
set_option maxHeartbeats 1000000 in
theorem toCalc (x y z : Int) (w : World) : Calls Try.prog 97 #[.agg #[.int .i64 x, .int .i64 y, .int .i64 z]] w fun e w' => e = .returned (.agg #[.int .i64 x, .int .i64 y, .int .i64 z]) ∧ Below w.heap.size w w' := by
  go_enter Try.func97, Try.ntmps97
  go_wp2_with fail
  refine bodyPost_ret (v := .agg #[.int .i64 x, .int .i64 y, .int .i64 z]) (by simp [results, Try.results97, go_sem]) rfl ⟨rfl, ?_⟩
  repeat (refine Below.setCell ?_ (by simp; try omega) _)
  exact below_alloc3 _ _ _ _
set_option maxHeartbeats 1000000 in
theorem eqCalc (x y z : Int) (w : World) : Calls Try.prog 100 #[.agg #[.int .i64 x, .int .i64 y, .int .i64 z], .agg #[.int .i64 x, .int .i64 y, .int .i64 z]] w fun e w' => e = .returned (.bool true) ∧ Below w.heap.size w w' := by
  have B0 := hide (show Below w.heap.size w ((w.alloc (.cells #[.int .i64 x, .int .i64 y, .int .i64 z] 128)).alloc (.cells #[.int .i64 x, .int .i64 y, .int .i64 z] 128)) from ((Below.refl _ _).alloc (Nat.le_refl _) _).alloc (by simp) _)
  have cx : (x != x) = false := by simp
  have cy : (y != y) = false := by simp
  have cz : (z != z) = false := by simp
  go_enter Try.func100, Try.ntmps100
  go_wp2_with fail
  go_ret
  exact ⟨rfl, B0.out⟩
/-- a list of steps of one's own, k of them laid -/
structure OCL (B : Nat) (w : World) (g n k : Nat) (C : Nat → CV) : Prop where
  lo : B ≤ g
  lt : g < w.heap.size
  laid : ∀ i, i < k → w.cell? ⟨g, i * 3, none⟩ = some (.int .i64 (C i).x) ∧ w.cell? ⟨g, i * 3 + 1, none⟩ = some (.int .i64 (C i).y) ∧ w.cell? ⟨g, i * 3 + 2, none⟩ = some (.int .i64 (C i).z) ∧ bd (C i).x ∧ bd (C i).y ∧ bd (C i).z
  rest : ∀ i, k ≤ i → i < n → w.cell? ⟨g, i * 3, none⟩ = some (.int .i64 0) ∧ w.cell? ⟨g, i * 3 + 1, none⟩ = some (.int .i64 0) ∧ w.cell? ⟨g, i * 3 + 2, none⟩ = some (.int .i64 0)
  free : ∀ i, w.frozen? ⟨g, i, none⟩ = false
theorem OCL.below {B : Nat} {w w' : World} {g n k : Nat} {C : Nat → CV} (h : OCL B w g n k C) (hb : Below w.heap.size w w') : OCL B w' g n k C :=
  have c : ∀ i, w'.cell? ⟨g, i, none⟩ = w.cell? ⟨g, i, none⟩ := fun i => hb.cell (p := ⟨g, i, none⟩) h.lt
  ⟨h.lo, Nat.lt_of_lt_of_le h.lt hb.size, fun i hi => by rw [c, c, c]; exact h.laid i hi, fun i h1 h2 => by rw [c, c, c]; exact h.rest i h1 h2, fun i => (hb.frozen (p := ⟨g, i, none⟩) h.lt).trans (h.free i)⟩
theorem OCL.read {B : Nat} {w : World} {g n : Nat} {C : Nat → CV} (h : OCL B w g n n C) : LC w.heap.size w (some ⟨g, 0, none⟩) n C :=
  .inr ⟨g, 0, rfl, h.lt, fun i hi => by rw [Nat.zero_add]; exact h.laid i hi⟩
theorem ocl_put {B : Nat} {X X1 : World} {g n k : Nat} {x y z : Int} {U : Nat → CV} (h : OCL B X g n k U) (hk : k < n) (hb : Below X.heap.size X X1) (hx : bd x) (hy : bd y) (hz : bd z) :
    OCL B (((X1.setCell ⟨g, k * 3, none⟩ (.int .i64 x)).setCell ⟨g, k * 3 + 1, none⟩ (.int .i64 y)).setCell ⟨g, k * 3 + 2, none⟩ (.int .i64 z)) g n (k + 1) (fun i => if i = k then ⟨x, y, z⟩ else U i) := by
  have h1 := h.below hb
  have far : ∀ j, j ≠ k * 3 → j ≠ k * 3 + 1 → j ≠ k * 3 + 2 → (((X1.setCell ⟨g, k * 3, none⟩ (.int .i64 x)).setCell ⟨g, k * 3 + 1, none⟩ (.int .i64 y)).setCell ⟨g, k * 3 + 2, none⟩ (.int .i64 z)).cell? ⟨g, j, none⟩ = X1.cell? ⟨g, j, none⟩ := fun j n0 n1 n2 => by
    rw [World.cell?_setCell_other _ _ _ _ (by intro e; injection e with _ e _; omega), World.cell?_setCell_other _ _ _ _ (by intro e; injection e with _ e _; omega), World.cell?_setCell_other _ _ _ _ (by intro e; injection e with _ e _; omega)]
  obtain ⟨e0, e1, e2⟩ := h1.rest k (Nat.le_refl _) hk
  refine ⟨h.lo, by simpa [World.setCell] using h1.lt, fun i hi => ?_, fun i hi hi2 => ?_, fun i => ?_⟩
  · by_cases c : i = k
    · subst c
      simp only [if_true]
      refine ⟨?_, ?_, World.cell?_setCell_same _ _ _ ((World.cell?_setCell_other _ _ _ _ (by intro e; injection e with _ e _; omega)).trans ((World.cell?_setCell_other _ _ _ _ (by intro e; injection e with _ e _; omega)).trans e2)), hx, hy, hz⟩
      · rw [World.cell?_setCell_other _ _ _ _ (by intro e; injection e with _ e _; omega), World.cell?_setCell_other _ _ _ _ (by intro e; injection e with _ e _; omega)]
        exact World.cell?_setCell_same _ _ _ e0
      · rw [World.cell?_setCell_other _ _ _ _ (by intro e; injection e with _ e _; omega)]
        exact World.cell?_setCell_same _ _ _ ((World.cell?_setCell_other _ _ _ _ (by intro e; injection e with _ e _; omega)).trans e1)
    · simp only [c, if_false]
      rw [far _ (by omega) (by omega) (by omega), far _ (by omega) (by omega) (by omega), far _ (by omega) (by omega) (by omega)]
      exact h1.laid i (by omega)
  · rw [far _ (by omega) (by omega) (by omega), far _ (by omega) (by omega) (by omega), far _ (by omega) (by omega) (by omega)]
    exact h1.rest i (by omega) hi2
  · rw [World.frozen?_setCell, World.frozen?_setCell, World.frozen?_setCell]
    exact h1.free i
def CSame (n : Nat) (C U : Nat → CV) : Prop := ∀ i, i < n → U i = C i
theorem make_calc (n : Nat) (hn : (n : Int) ≤ 1048576) (w : World) : (Instr.makeSlice 88 (.int .i64 n) (.int .i64 n)).run Try.prog w = .ok (.slice (some ⟨w.heap.size, 0, none⟩) n n) (w.alloc (.cells (madeCells #[.int .i64 0, .int .i64 0, .int .i64 0] (n * 3)) 128)) := by
  have hi : (Try.prog.info? 128).map (fun i => (i.zero, i.size, i.bytes)) = some (some (.agg #[.int .i64 0, .int .i64 0, .int .i64 0]), 3, 24) := by kernel_rfl
  obtain ⟨i, h1, h2⟩ := Option.map_eq_some_iff.1 hi
  simp only [Prod.mk.injEq] at h2
  obtain ⟨hz, hs, hb⟩ := h2
  have := run_make (P := Try.prog) w 88 128 i (.agg #[.int .i64 0, .int .i64 0, .int .i64 0]) Try.underlying88 h1 hz .i64 .i64 n n (by omega) (Int.le_refl _) (by rw [hb]; omega) (by omega)
  rw [hs] at this
  simpa [Value.cells] using this
theorem ocl_new (w : World) (n : Nat) (C : Nat → CV) : OCL w.heap.size (w.alloc (.cells (madeCells #[.int .i64 0, .int .i64 0, .int .i64 0] (n * 3)) 128)) w.heap.size n 0 C := by
  refine ⟨Nat.le_refl _, by simp, fun i hi => by omega, fun i _ hi => ?_, fun i => by simp [go_sem]⟩
  have m0 : i * 3 % 3 = 0 := by omega
  have m1 : (i * 3 + 1) % 3 = 1 := by omega
  have m2 : (i * 3 + 2) % 3 = 2 := by omega
  refine ⟨?_, ?_, ?_⟩
  · rw [World.cell?_alloc_at _ _ _ _ rfl]
    simp [madeCells, m0, show i * 3 < n * 3 by omega]
  · rw [World.cell?_alloc_at _ _ _ _ rfl]
    simp [madeCells, m1, show i * 3 + 1 < n * 3 by omega]
  · rw [World.cell?_alloc_at _ _ _ _ rfl]
    simp [madeCells, m2, show i * 3 + 2 < n * 3 by omega]
set_option maxHeartbeats 1000000 in
theorem toCalcS (B : Nat) (a : Option Addr) (n cap : Nat) (C : Nat → CV) (w : World) (hB : B ≤ w.heap.size) (h : LC B w a n C) (hn : (n : Int) ≤ 1048576) :
    Calls Try.prog 83 #[.slice a n cap] w fun e w' => ∃ U, e = .returned (.slice (some ⟨w.heap.size, 0, none⟩) n n) ∧ OCL w.heap.size w' w.heap.size n n U ∧ CSame n C U ∧ Below w.heap.size w w' := by
  have hmk := make_calc n hn
  obtain ⟨W0, hW0⟩ : ∃ W0, w.alloc (.cells (madeCells #[.int .i64 0, .int .i64 0, .int .i64 0] (n * 3)) 128) = W0 := ⟨_, rfl⟩
  have o0 := ocl_new w n C
  rw [hW0] at o0
  have bl : Below w.heap.size w W0 := by rw [← hW0]; exact (Below.refl _ _).alloc (Nat.le_refl _) _
  have O0 := hide o0
  have BL := hide bl
  have H := hide h
  clear h o0 bl
  go_enter Try.func83, Try.ntmps83
  go_wp2_with fail
  clear hW0 hmk
  go_loopw [4] (fun i wx => ∃ (k : Nat) (U : Nat → CV), k ≤ n ∧ i = .int .i64 k ∧ OCL w.heap.size wx w.heap.size n k U ∧ CSame k C U ∧ Below w.heap.size w wx) (fun i _ => n - (intOf i).toNat)
  case atStart => exact ⟨0, _, Nat.zero_le _, rfl, O0.out, fun i hi => by omega, BL.out⟩
  case round =>
    obtain ⟨X, rfl⟩ : ∃ X, X = wr := ⟨_, rfl⟩
    obtain ⟨k, U, hk, rfl, ho, hs, hby⟩ := hrel
    have HO := hide ho
    have HS := hide hs
    have HBY := hide hby
    clear ho hs hby
    by_cases hlt : k < n
    · have kI : (k : Int) < n := by omega
      rcases H.out.below (HBY.out.mono hB) with q0 | ⟨blk, off, rfl, hbk, hc⟩
      · omega
      obtain ⟨c0, c1, c2, d0⟩ := hc k hlt
      have CT := hide (toCalc (C k).x (C k).y (C k).z X)
      obtain ⟨e0, e1, e2⟩ := HO.out.rest k (Nat.le_refl _) hlt
      have DU := hide d0
      clear hc d0
      go_wp2_with fail
      refine CT.out.mono ?_
      rintro e X1 ⟨rfl, b1⟩
      have ltX := HO.out.lt
      have d0 := (b1.cell (p := ⟨w.heap.size, k * 3, none⟩) ltX).trans e0
      have d1 := (b1.cell (p := ⟨w.heap.size, k * 3 + 1, none⟩) ltX).trans e1
      have d2 := (b1.cell (p := ⟨w.heap.size, k * 3 + 2, none⟩) ltX).trans e2
      have f0 := (b1.frozen (p := ⟨w.heap.size, k * 3, none⟩) ltX).trans (HO.out.free (k * 3))
      have f1 := (b1.frozen (p := ⟨w.heap.size, k * 3 + 1, none⟩) ltX).trans (HO.out.free (k * 3 + 1))
      have f2 := (b1.frozen (p := ⟨w.heap.size, k * 3 + 2, none⟩) ltX).trans (HO.out.free (k * 3 + 2))
      have B1 := hide b1
      clear b1 c0 c1 c2 e0 e1 e2 CT
      go_wp2_with fail
      go_roundw
      all_goals first
        | (simp only [intOf]; omega)
        | (simp [intOf]; omega)
        | exact ⟨k + 1, _, by omega, by go_num, ocl_put HO.out hlt B1.out DU.out.1 DU.out.2.1 DU.out.2.2, fun i hi => by
            by_cases c : i = k
            · subst c
              simp only [if_true]
            · simp only [c, if_false]
              exact HS.out i (by omega), (((HBY.out.trans (B1.out.mono HBY.out.size)).setCell (p := ⟨w.heap.size, k * 3, none⟩) (Nat.le_refl _) _).setCell (p := ⟨w.heap.size, k * 3 + 1, none⟩) (Nat.le_refl _) _).setCell (p := ⟨w.heap.size, k * 3 + 2, none⟩) (Nat.le_refl _) _⟩
    · obtain rfl : k = n := by omega
      go_wp2_with fail
      go_ret
      exact ⟨U, rfl, HO.out, HS.out, HBY.out⟩
set_option maxHeartbeats 1000000 in
theorem eqCalcS (B : Nat) (a b : Option Addr) (n cap cap' : Nat) (C U : Nat → CV) (w : World) (hB : B ≤ w.heap.size) (h : LC B w a n C) (h' : LC B w b n U) (hn : (n : Int) ≤ 1048576) (hs : ∀ i, i < n → U i = C i) :
    Calls Try.prog 92 #[.slice a n cap, .slice b n cap'] w fun e w' => e = .returned (.bool true) ∧ Below w.heap.size w w' := by
  have H := hide h
  have H' := hide h'
  have HS := hide hs
  have c' : ((n : Int) != (n : Int)) = false := by simp
  clear h h' hs
  go_enter Try.func92, Try.ntmps92
  go_wp2_with fail
  clear c'
  go_loopw [5] (fun i wx => ∃ k : Nat, k ≤ n ∧ i = .int .i64 k ∧ Below w.heap.size w wx) (fun i _ => n - (intOf i).toNat)
  case atStart => exact ⟨0, Nat.zero_le _, rfl, Below.refl _ _⟩
  case round =>
    obtain ⟨X, rfl⟩ : ∃ X, X = wr := ⟨_, rfl⟩
    obtain ⟨k, hk, rfl, hby⟩ := hrel
    have HBY := hide hby
    clear hby
    by_cases hlt : k < n
    · have kI : (k : Int) < n := by omega
      rcases H.out.below (HBY.out.mono hB) with q0 | ⟨ba, oa, rfl, hba, hca⟩
      · omega
      rcases H'.out.below (HBY.out.mono hB) with q0 | ⟨bb, ob, rfl, hbb, hcb⟩
      · omega
      obtain ⟨a0, a1, a2, _⟩ := hca k hlt
      obtain ⟨b0, b1, b2, _⟩ := hcb k hlt
      rw [HS.out k hlt] at b0 b1 b2
      have CE := hide (eqCalc (C k).x (C k).y (C k).z X.drew)
      clear hca hcb
      have F : ∀ (W : World) (hW : Below X.drew.heap.size X.drew W) (p : Addr), p.block < B → W.cell? p = X.cell? p := fun W hW p hp => hW.cell (p := p) (by show p.block < X.heap.size; have := HBY.out.size; omega)
      have FF := hide F
      clear F
      go_wp2_with fail
      go_region_held3 (fun w' => (w'.cell? ⟨ba, oa + k * 3, none⟩ = some (.int .i64 (C k).x) ∧ w'.cell? ⟨ba, oa + k * 3 + 1, none⟩ = some (.int .i64 (C k).y) ∧ w'.cell? ⟨ba, oa + k * 3 + 2, none⟩ = some (.int .i64 (C k).z)) ∧ (w'.cell? ⟨bb, ob + k * 3, none⟩ = some (.int .i64 (C k).x) ∧ w'.cell? ⟨bb, ob + k * 3 + 1, none⟩ = some (.int .i64 (C k).y) ∧ w'.cell? ⟨bb, ob + k * 3 + 2, none⟩ = some (.int .i64 (C k).z)))
        ((try dsimp only) <;> (repeat' apply And.intro) <;> (first | with_reducible assumption | assumption))
        (first
        | (go_at_call 100
           refine CE.out.mono ?_
           rintro e X1 ⟨rfl, bX⟩
           have f1 := (FF.out X1 bX ⟨ba, oa + k * 3, none⟩ hba).trans a0
           have f2 := (FF.out X1 bX ⟨ba, oa + k * 3 + 1, none⟩ hba).trans a1
           have f3 := (FF.out X1 bX ⟨ba, oa + k * 3 + 2, none⟩ hba).trans a2
           have f4 := (FF.out X1 bX ⟨bb, ob + k * 3, none⟩ hbb).trans b0
           have f5 := (FF.out X1 bX ⟨bb, ob + k * 3 + 1, none⟩ hbb).trans b1
           have f6 := (FF.out X1 bX ⟨bb, ob + k * 3 + 2, none⟩ hbb).trans b2
           have BX := hide bX
           clear bX))
      all_goals (go_wp2_with fail)
      all_goals go_roundw
      all_goals first
        | (simp only [intOf]; omega)
        | (simp [intOf]; omega)
        | exact ⟨k + 1, by omega, by go_num, HBY.out.drew.trans (BX.out.mono HBY.out.size)⟩
    · obtain rfl : k = n := by omega
      go_wp2_with fail
      go_ret
      exact ⟨rfl, HBY.out⟩
end Vo
end Go.Proofs.Ytgmjijjckedmcaa
