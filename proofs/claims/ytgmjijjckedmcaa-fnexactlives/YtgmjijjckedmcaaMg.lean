/- Lives that are left out: slices.DeleteFunc of lives. -/
import Derived.Test.YtgmjijjckedmcaaMf
namespace Go.Proofs.Ytgmjijjckedmcaa
namespace Vo
open Go.ChangeShapes Go.WideShapes Go.ChangeAt Go.RowKit Go.Joins Go.Sort
open Vl Vp
set_option linter.unusedVariables false
set_option linter.unusedSimpArgs false
/-- a life that is left out -/
def delM (x : MV) : Prop := x.s = 0 ∨ x.f = -1
instance (x : MV) : Decidable (delM x) := by unfold delM; infer_instance
/-- the numbers of those below j that are kept -/
def kl (D : Nat → MV) (j : Nat) : List Nat := (List.range j).filter (fun q => !decide (delM (D q)))
theorem kl_succ (D : Nat → MV) (j : Nat) : kl D (j + 1) = if delM (D j) then kl D j else kl D j ++ [j] := by
  unfold kl
  rw [List.range_succ, List.filter_append]
  by_cases c : delM (D j)
  · rw [if_pos c]; simp [c]
  · rw [if_neg c]; simp [c]
theorem kl_all {D : Nat → MV} {j : Nat} (h : ∀ q, q < j → ¬ delM (D q)) : kl D j = List.range j := by
  unfold kl
  exact List.filter_eq_self.2 (fun q hq => by simp [h q (List.mem_range.1 hq)])
theorem kl_len (D : Nat → MV) (j : Nat) : (kl D j).length ≤ j := by
  have := List.length_filter_le (fun q => !decide (delM (D q))) (List.range j)
  unfold kl
  simpa using this
theorem kl_lt {D : Nat → MV} {j i : Nat} (h : i < (kl D j).length) : (kl D j).getD i 0 < j ∧ ¬ delM (D ((kl D j).getD i 0)) := by
  have m : (kl D j).getD i 0 ∈ kl D j := by
    rw [List.getD_eq_getElem?_getD, List.getElem?_eq_getElem h]
    exact List.getElem_mem h
  have q := List.mem_filter.1 m
  exact ⟨List.mem_range.1 q.1, by simpa using q.2⟩
theorem oml_set4 {B : Nat} {X : World} {g n j : Nat} {b s f t : Int} {U : Nat → MV} (h : OML B X g n n U) (hj : j < n) (hd : bd b ∧ bd s ∧ bd f ∧ bd t) :
    OML B ((((X.setCell ⟨g, j * 4, none⟩ (.int .i64 b)).setCell ⟨g, j * 4 + 1, none⟩ (.int .i64 s)).setCell ⟨g, j * 4 + 2, none⟩ (.int .i64 f)).setCell ⟨g, j * 4 + 3, none⟩ (.int .i64 t)) g n n (updM U j ⟨b, s, f, t⟩) := by
  obtain ⟨⟨e0, e1, e2, e3⟩, _⟩ := h.laid j hj
  have far : ∀ q, q ≠ j * 4 → q ≠ j * 4 + 1 → q ≠ j * 4 + 2 → q ≠ j * 4 + 3 → ((((X.setCell ⟨g, j * 4, none⟩ (.int .i64 b)).setCell ⟨g, j * 4 + 1, none⟩ (.int .i64 s)).setCell ⟨g, j * 4 + 2, none⟩ (.int .i64 f)).setCell ⟨g, j * 4 + 3, none⟩ (.int .i64 t)).cell? ⟨g, q, none⟩ = X.cell? ⟨g, q, none⟩ := fun q n0 n1 n2 n3 => by
    rw [World.cell?_setCell_other _ _ _ _ (by intro e; injection e with _ e _; omega), World.cell?_setCell_other _ _ _ _ (by intro e; injection e with _ e _; omega), World.cell?_setCell_other _ _ _ _ (by intro e; injection e with _ e _; omega), World.cell?_setCell_other _ _ _ _ (by intro e; injection e with _ e _; omega)]
  refine ⟨h.lo, by simpa [World.setCell] using h.lt, fun i hi => ?_, fun i h1 h2 => by omega, fun i => by rw [World.frozen?_setCell, World.frozen?_setCell, World.frozen?_setCell, World.frozen?_setCell]; exact h.free i⟩
  unfold updM
  by_cases c : i = j
  · subst c
    simp only [if_true]
    refine ⟨⟨?_, ?_, ?_, ?_⟩, hd⟩
    · rw [World.cell?_setCell_other _ _ _ _ (by intro e; injection e with _ e _; omega), World.cell?_setCell_other _ _ _ _ (by intro e; injection e with _ e _; omega), World.cell?_setCell_other _ _ _ _ (by intro e; injection e with _ e _; omega)]
      exact World.cell?_setCell_same _ _ _ e0
    · rw [World.cell?_setCell_other _ _ _ _ (by intro e; injection e with _ e _; omega), World.cell?_setCell_other _ _ _ _ (by intro e; injection e with _ e _; omega)]
      exact World.cell?_setCell_same _ _ _ ((World.cell?_setCell_other _ _ _ _ (by intro e; injection e with _ e _; omega)).trans e1)
    · rw [World.cell?_setCell_other _ _ _ _ (by intro e; injection e with _ e _; omega)]
      exact World.cell?_setCell_same _ _ _ ((World.cell?_setCell_other _ _ _ _ (by intro e; injection e with _ e _; omega)).trans ((World.cell?_setCell_other _ _ _ _ (by intro e; injection e with _ e _; omega)).trans e2))
    · exact World.cell?_setCell_same _ _ _ ((World.cell?_setCell_other _ _ _ _ (by intro e; injection e with _ e _; omega)).trans ((World.cell?_setCell_other _ _ _ _ (by intro e; injection e with _ e _; omega)).trans ((World.cell?_setCell_other _ _ _ _ (by intro e; injection e with _ e _; omega)).trans e3)))
  · simp only [c, if_false]
    rw [far _ (by omega) (by omega) (by omega) (by omega), far _ (by omega) (by omega) (by omega) (by omega), far _ (by omega) (by omega) (by omega) (by omega), far _ (by omega) (by omega) (by omega) (by omega)]
    exact h.laid i hi
theorem kept_set4 (X : World) (g a b c d : Nat) (u0 u1 u2 u3 : Value) : Kept (· = g) X ((((X.setCell ⟨g, a, none⟩ u0).setCell ⟨g, b, none⟩ u1).setCell ⟨g, c, none⟩ u2).setCell ⟨g, d, none⟩ u3) :=
  (((Kept.setCell X ⟨g, a, none⟩ u0).trans (Kept.setCell _ ⟨g, b, none⟩ u1)).trans (Kept.setCell _ ⟨g, c, none⟩ u2)).trans (Kept.setCell _ ⟨g, d, none⟩ u3)
theorem keptCells (g : Nat) : ∀ (vs : List Value) (o : Nat) (w : World), Kept (· = g) w (w.setCells g o vs)
  | [], _, w => Kept.refl _ w
  | v :: vs, o, w => (Kept.setCell w ⟨g, o, none⟩ v).trans (keptCells g vs (o + 1) _)
theorem cells_ahead (g q : Nat) : ∀ (vs : List Value) (o : Nat) (w : World), q < o → (w.setCells g o vs).cell? ⟨g, q, none⟩ = w.cell? ⟨g, q, none⟩
  | [], _, w, _ => rfl
  | v :: vs, o, w, h => by
    show ((w.setCell ⟨g, o, none⟩ v).setCells g (o + 1) vs).cell? ⟨g, q, none⟩ = _
    rw [cells_ahead g q vs (o + 1) _ (by omega), World.cell?_setCell_other _ _ _ _ (by intro e; injection e with _ e _; omega)]
set_option maxHeartbeats 1000000 in
theorem livesDel (x : MV) (w : World) : Calls Try.prog 63 #[.agg #[.int .i64 x.b, .int .i64 x.s, .int .i64 x.f, .int .i64 x.t]] w fun e w' => e = .returned (.bool (decide (delM x))) ∧ Below w.heap.size w w' := by
  have B0 := hide (show Below w.heap.size w (w.alloc (.cells #[.int .i64 x.b, .int .i64 x.s, .int .i64 x.f, .int .i64 x.t] 54)) from (Below.refl _ _).alloc (Nat.le_refl _) _)
  go_enter Try.func63, Try.ntmps63
  by_cases c : x.s = 0
  · have c' : (x.s == 0) = true := by simp [c]
    have e := hide (show delM x from .inl c)
    clear c
    go_wp2_with fail
    go_ret
    exact ⟨by rw [decide_eq_true e.out]; rfl, B0.out⟩
  have c' : (x.s == 0) = false := by simp [c]
  have e := hide (show (x.f == -1) = decide (delM x) by
    by_cases d : x.f = -1
    · rw [decide_eq_true (show delM x from .inr d)]; simp [d]
    · rw [decide_eq_false (show ¬ delM x from fun q => q.elim c d)]; simp [d])
  clear c
  go_wp2_with fail
  go_ret
  exact ⟨by rw [← e.out]; rfl, B0.out⟩
set_option maxHeartbeats 1000000 in
theorem indexDel (B g n : Nat) (D : Nat → MV) (w : World) (h : OML B w g n n D) (hn : (n : Int) ≤ 1048576) :
    Calls Try.prog 89 #[.slice (some ⟨g, 0, none⟩) n n, .func (.func 63) #[] #[]] w fun e w' => ((e = .returned (.int .i64 (-1)) ∧ ∀ q, q < n → ¬ delM (D q)) ∨ ∃ m, e = .returned (.int .i64 ((m : Nat) : Int)) ∧ m < n ∧ delM (D m) ∧ ∀ q, q < m → ¬ delM (D q)) ∧ Below w.heap.size w w' := by
  have H := hide h
  clear h
  go_enter Try.func89, Try.ntmps89
  go_wp2_with fail
  go_loopw [8] (fun i wx => ∃ k : Nat, k ≤ n ∧ i = .int .i64 k ∧ (∀ j, j < k → ¬ delM (D j)) ∧ Below w.heap.size w wx) (fun i _ => n - (intOf i).toNat)
  case atStart => exact ⟨0, Nat.zero_le _, rfl, fun j hj => by omega, Below.refl _ _⟩
  case round =>
    obtain ⟨X, rfl⟩ : ∃ X, X = wr := ⟨_, rfl⟩
    obtain ⟨k, hk, rfl, hall, hby⟩ := hrel
    have HA := hide hall
    have HBY := hide hby
    clear hall hby
    by_cases hlt : k < n
    · obtain ⟨⟨c0, c1, c2, c3⟩, _⟩ := (H.out.below HBY.out).laid k hlt
      have kI : (k : Int) < n := by omega
      have CW := hide (livesDel (D k) X)
      by_cases hq : delM (D k)
      · rw [decide_eq_true hq] at CW
        have HQ := hide hq
        clear hq
        go_wp2_with fail
        refine CW.out.mono ?_
        rintro e1 w1 ⟨rfl, b1⟩
        have B1 := hide (HBY.out.trans (b1.mono HBY.out.size))
        go_wp2_with fail
        go_ret
        exact ⟨.inr ⟨k, rfl, hlt, HQ.out, HA.out⟩, B1.out⟩
      · rw [decide_eq_false hq] at CW
        have f := hide (show ∀ j, j < k + 1 → ¬ delM (D j) from fun j hj => by
          by_cases ej : j = k
          · rw [ej]; exact hq
          · exact HA.out j (by omega))
        clear hq
        go_wp2_with fail
        refine CW.out.mono ?_
        rintro e1 w1 ⟨rfl, b1⟩
        have B1 := hide (HBY.out.trans (b1.mono HBY.out.size))
        go_wp2_with fail
        go_roundw
        case rel => exact ⟨k + 1, by omega, by go_num, f.out, B1.out⟩
        case measure => simp [intOf]; omega
    · obtain rfl : k = n := by omega
      go_wp2_with fail
      go_ret
      exact ⟨.inl ⟨rfl, HA.out⟩, HBY.out⟩
theorem zeroLife : ∀ w, (zeroValue 54).run Try.prog w = .ok (.agg #[.int .i64 0, .int .i64 0, .int .i64 0, .int .i64 0]) w := by
  intro w
  have hi : (Try.prog.info? 54).map (fun i => (i.zero, i.size, i.bytes)) = some (some (.agg #[.int .i64 0, .int .i64 0, .int .i64 0, .int .i64 0]), 4, 32) := by kernel_rfl
  obtain ⟨i, h1, h2⟩ := Option.map_eq_some_iff.1 hi
  simp only [Prod.mk.injEq] at h2
  obtain ⟨hz, hs, hb⟩ := h2
  simp [zeroValue, h1, hz, go_sem, Try.t54]
theorem clearLife (w : World) (ty : TypeId) (b o n c : Nat) (hn : 0 < n) (hc : ∀ j, j < n * 4 → (w.cell? ⟨b, o + j, none⟩).isSome = true) (hf : ∀ j, j < n * 4 → w.frozen? ⟨b, o + j, none⟩ = false) :
    (Builtin.clear_ #[28] ty #[.slice (some ⟨b, o, none⟩) n c]).run Try.prog w = .ok (.tuple #[]) (w.setCells b o (List.replicate (n * 4) (.int .i64 0))) := by
  have hzc : (Builtin.zeroCells (Value.agg #[.int .i64 0, .int .i64 0, .int .i64 0, .int .i64 0]).cells n).toList = List.replicate (n * 4) (.int .i64 0) := by
    apply List.ext_getElem
    · simp [Builtin.zeroCells, Value.cells]
    · intro i h1 h2
      have m : i % 4 = 0 ∨ i % 4 = 1 ∨ i % 4 = 2 ∨ i % 4 = 3 := by omega
      rcases m with m | m | m | m <;> simp [Builtin.zeroCells, Value.cells, m]
  have hst := run_storeCells_cells (P := Try.prog) b o (List.replicate (n * 4) (.int .i64 0)) 0 w (by simpa using hc) (by simpa using hf) (by intro v hv'; rw [List.eq_of_mem_replicate hv']; rfl)
  simp only [Nat.add_zero] at hst
  obtain ⟨m, rfl⟩ : ∃ m, n = m + 1 := ⟨n - 1, by omega⟩
  simp [Builtin.clear_, run_underlying Try.underlying28, zeroLife, hzc, hst]
end Vo
end Go.Proofs.Ytgmjijjckedmcaa
