/- Rooms: lists of them, and what is left when the small ones are deleted. -/
import Derived.Test.YtbdcbanbnbaoiaaSz
import Derived.Laws.IdiomCopy
import Derived.Laws.AppendOwn
namespace Go.Proofs.Ytbdcbanbnbaoiaa
namespace Vo
open Go.ChangeShapes Go.WideShapes Go.ChangeAt Go.RowKit Go.Joins Go.Sort
open Vl Vp
set_option linter.unusedVariables false
set_option linter.unusedSimpArgs false
/-- a room: its first place, its end -/
structure RV where
  f : Int
  e : Int
/-- a list of rooms of one's own -/
structure OR (B : Nat) (w : World) (g n : Nat) (D : Nat → RV) : Prop where
  lo : B ≤ g
  lt : g < w.heap.size
  laid : ∀ i, i < n → w.cell? ⟨g, i * 2, none⟩ = some (.int .i64 (D i).f) ∧ w.cell? ⟨g, i * 2 + 1, none⟩ = some (.int .i64 (D i).e)
  free : ∀ i, w.frozen? ⟨g, i, none⟩ = false
theorem OR.below {B : Nat} {w w' : World} {g n : Nat} {D : Nat → RV} (h : OR B w g n D) (hb : Below w.heap.size w w') : OR B w' g n D :=
  have c : ∀ i, w'.cell? ⟨g, i, none⟩ = w.cell? ⟨g, i, none⟩ := fun i => hb.cell (p := ⟨g, i, none⟩) h.lt
  ⟨h.lo, Nat.lt_of_lt_of_le h.lt hb.size, fun i hi => by rw [c, c]; exact h.laid i hi, fun i => (hb.frozen (p := ⟨g, i, none⟩) h.lt).trans (h.free i)⟩
theorem OR.kept {S : Nat → Prop} {B : Nat} {w w' : World} {g n : Nat} {D : Nat → RV} (h : OR B w g n D) (hk : Kept S w w') (hn : ¬ S g) : OR B w' g n D :=
  have c : ∀ i, w'.cell? ⟨g, i, none⟩ = w.cell? ⟨g, i, none⟩ := fun i => kept_cell (p := ⟨g, i, none⟩) hk h.lt hn
  ⟨h.lo, Nat.lt_of_lt_of_le h.lt hk.size, fun i hi => by rw [c, c]; exact h.laid i hi, fun i => (World.frozen?_of_block (w := w) (a := ⟨g, i, none⟩) (hk.block g h.lt hn)).trans (h.free i)⟩
theorem OR.same {B : Nat} {w : World} {g n : Nat} {D E : Nat → RV} (h : OR B w g n D) (e : ∀ i, i < n → E i = D i) : OR B w g n E := ⟨h.lo, h.lt, fun i hi => by rw [e i hi]; exact h.laid i hi, h.free⟩
def updR (U : Nat → RV) (j : Nat) (x : RV) : Nat → RV := fun i => if i = j then x else U i
theorem or_set2 {B : Nat} {X : World} {g n j : Nat} {U : Nat → RV} (h : OR B X g n U) (hj : j < n) (x : RV) :
    OR B ((X.setCell ⟨g, j * 2, none⟩ (.int .i64 x.f)).setCell ⟨g, j * 2 + 1, none⟩ (.int .i64 x.e)) g n (updR U j x) := by
  obtain ⟨e0, e1⟩ := h.laid j hj
  have far : ∀ q, q ≠ j * 2 → q ≠ j * 2 + 1 → ((X.setCell ⟨g, j * 2, none⟩ (.int .i64 x.f)).setCell ⟨g, j * 2 + 1, none⟩ (.int .i64 x.e)).cell? ⟨g, q, none⟩ = X.cell? ⟨g, q, none⟩ := fun q n0 n1 => by
    rw [World.cell?_setCell_other _ _ _ _ (by intro e; injection e with _ e _; omega), World.cell?_setCell_other _ _ _ _ (by intro e; injection e with _ e _; omega)]
  refine ⟨h.lo, by simpa [World.setCell] using h.lt, fun i hi => ?_, fun i => by rw [World.frozen?_setCell, World.frozen?_setCell]; exact h.free i⟩
  unfold updR
  by_cases c : i = j
  · subst c
    simp only [if_true]
    refine ⟨?_, ?_⟩
    · rw [World.cell?_setCell_other _ _ _ _ (by intro e; injection e with _ e _; omega)]
      exact World.cell?_setCell_same _ _ _ e0
    · exact World.cell?_setCell_same _ _ _ ((World.cell?_setCell_other _ _ _ _ (by intro e; injection e with _ e _; omega)).trans e1)
  · simp only [c, if_false]
    rw [far _ (by omega) (by omega), far _ (by omega) (by omega)]
    exact h.laid i hi
theorem kept_set2 (X : World) (g a b : Nat) (u0 u1 : Value) : Kept (· = g) X ((X.setCell ⟨g, a, none⟩ u0).setCell ⟨g, b, none⟩ u1) :=
  (Kept.setCell X ⟨g, a, none⟩ u0).trans (Kept.setCell _ ⟨g, b, none⟩ u1)
theorem keptCellsR (g : Nat) : ∀ (vs : List Value) (o : Nat) (w : World), Kept (· = g) w (w.setCells g o vs)
  | [], _, w => Kept.refl _ w
  | v :: vs, o, w => (Kept.setCell w ⟨g, o, none⟩ v).trans (keptCellsR g vs (o + 1) _)
theorem cells_aheadR (g q : Nat) : ∀ (vs : List Value) (o : Nat) (w : World), q < o → (w.setCells g o vs).cell? ⟨g, q, none⟩ = w.cell? ⟨g, q, none⟩
  | [], _, w, _ => rfl
  | v :: vs, o, w, h => by
    show ((w.setCell ⟨g, o, none⟩ v).setCells g (o + 1) vs).cell? ⟨g, q, none⟩ = _
    rw [cells_aheadR g q vs (o + 1) _ (by omega), World.cell?_setCell_other _ _ _ _ (by intro e; injection e with _ e _; omega)]
/-- it has fewer places -/
def delR (z : Int) (x : RV) : Prop := x.e - x.f < z
instance (z : Int) (x : RV) : Decidable (delR z x) := by unfold delR; infer_instance
/-- those that are left, of the first j -/
def kr (z : Int) (D : Nat → RV) (j : Nat) : List Nat := (List.range j).filter (fun q => !decide (delR z (D q)))
theorem kr_succ (z : Int) (D : Nat → RV) (j : Nat) : kr z D (j + 1) = if delR z (D j) then kr z D j else kr z D j ++ [j] := by
  unfold kr
  rw [List.range_succ, List.filter_append]
  by_cases c : delR z (D j) <;> simp [c]
theorem kr_all {z : Int} {D : Nat → RV} {j : Nat} (h : ∀ q, q < j → ¬ delR z (D q)) : kr z D j = List.range j := by
  unfold kr
  exact List.filter_eq_self.2 (fun q hq => by simp [h q (List.mem_range.1 hq)])
theorem kr_len (z : Int) (D : Nat → RV) (j : Nat) : (kr z D j).length ≤ j := by
  have := List.length_filter_le (fun q => !decide (delR z (D q))) (List.range j)
  unfold kr
  rw [List.length_range] at this
  exact this
theorem getD_appR {l : List Nat} {j q : Nat} : (l ++ [j]).getD q 0 = if q = l.length then j else l.getD q 0 := by
  by_cases c : q = l.length
  · subst c; simp
  · rw [if_neg c]
    by_cases d : q < l.length
    · simp [List.getD_eq_getElem?_getD, List.getElem?_append_left d]
    · simp [List.getD_eq_getElem?_getD, List.getElem?_append_right (show l.length ≤ q by omega), show ¬ q < l.length by omega]
      rw [List.getElem?_eq_none (by simp; omega)]
      simp
/-- numbers that can be taken from one another -/
def rb (x : RV) : Prop := -4000000 ≤ x.f ∧ x.f ≤ 4000000 ∧ -4000000 ≤ x.e ∧ x.e ≤ 4000000
set_option maxHeartbeats 1000000 in
theorem sizeR (x : RV) (w : World) (hx : rb x) : Calls Try.prog 39 #[.agg #[.int .i64 x.f, .int .i64 x.e]] w fun e w' => e = .returned (.int .i64 (x.e - x.f)) ∧ Below w.heap.size w w' := by
  have B0 := hide (show Below w.heap.size w (w.alloc (.cells #[.int .i64 x.f, .int .i64 x.e] 40)) from (Below.refl _ _).alloc (Nat.le_refl _) _)
  have wr : IntKind.i64.wrap (x.e - x.f) = x.e - x.f := by have := hx; unfold rb at this; rw [IntKind.wrap_i64]; omega
  clear hx
  go_enter Try.func39, Try.ntmps39
  go_wp2_with fail
  go_ret
  exact ⟨rfl, B0.out⟩
set_option maxHeartbeats 1000000 in
theorem smallR (x : RV) (z : Int) (ps : Nat) (w : World) (hx : rb x) (hp : w.cell? ⟨ps, 0, none⟩ = some (.int .i64 z)) : Calls Try.prog 38 #[.agg #[.int .i64 x.f, .int .i64 x.e], .pointer (some ⟨ps, 0, none⟩)] w fun e w' => e = .returned (.bool (decide (delR z x))) ∧ Below w.heap.size w w' := by
  obtain ⟨Z, hZ⟩ : ∃ Z, w.alloc (.cells #[.int .i64 x.f, .int .i64 x.e] 40) = Z := ⟨_, rfl⟩
  have bl : Below w.heap.size w Z := by rw [← hZ]; exact (Below.refl _ _).alloc (Nat.le_refl _) _
  have m0 : Z.cell? ⟨w.heap.size, 0, none⟩ = some (.int .i64 x.f) := by rw [← hZ]; simp [go_sem]
  have m1 : Z.cell? ⟨w.heap.size, 1, none⟩ = some (.int .i64 x.e) := by rw [← hZ]; simp [go_sem]
  have m2 := (bl.cell (p := ⟨ps, 0, none⟩) (World.block_lt_of_cell? _ _ hp)).trans hp
  have BL := hide bl
  have e0 := cell_regrown m0
  have e1 := cell_regrown m1
  have e2 := cell_regrown m2
  have cm := hide (fun (q1 : Nat) (os : Array Obj) => show Calls Try.prog 39 #[.agg #[.int .i64 x.f, .int .i64 x.e]] (Sort.grow (redrawn Z q1) os) (fun e w'' => e = .returned (.int .i64 (x.e - x.f)) ∧ ∃ p : Regrown, w'' = Sort.grow (redrawn Z p.d) p.os) from Calls.regrown_of (sizeR x _ hx))
  clear hx hp m0 m1 m2 bl
  go_enter Try.func38, Try.ntmps38
  go_wp2_with fail
  clear hZ
  refine wp_region_quiet_below (by kernel_rfl) (by kernel_rfl) ?_
  repeat (go_big_quiet_step (first | exact cm.out _ _))
  refine wpQuiet_nil ?_
  intro _ hw'
  obtain ⟨⟨dq, osq⟩, hw''⟩ := hw'
  subst hw''
  go_wp2_with fail
  go_ret
  exact ⟨rfl, BL.out.trans ((below_regrown Z dq osq).mono BL.out.size)⟩
set_option maxHeartbeats 1000000 in
theorem indexR (B g n cap ps : Nat) (z : Int) (D : Nat → RV) (w : World) (h : OR B w g n D) (hn : (n : Int) ≤ 4194304) (hp : w.cell? ⟨ps, 0, none⟩ = some (.int .i64 z)) (hb : ∀ i, i < n → rb (D i)) :
    Calls Try.prog 47 #[.slice (some ⟨g, 0, none⟩) n cap, .func (.func 38) #[] #[.pointer (some ⟨ps, 0, none⟩)]] w fun e w' => ((e = .returned (.int .i64 (-1)) ∧ ∀ q, q < n → ¬ delR z (D q)) ∨ ∃ m, e = .returned (.int .i64 ((m : Nat) : Int)) ∧ m < n ∧ delR z (D m) ∧ ∀ q, q < m → ¬ delR z (D q)) ∧ Below w.heap.size w w' := by
  have H := hide h
  have HP := hide hp
  have HB := hide hb
  have eF := enters_of Try.func38 (by kernel_rfl) rfl
  have lp := World.block_lt_of_cell? _ _ hp
  clear h hp hb
  go_enter Try.func47, Try.ntmps47
  go_wp2_with fail
  go_loopw [8] (fun i wx => ∃ k : Nat, k ≤ n ∧ i = .int .i64 k ∧ (∀ j, j < k → ¬ delR z (D j)) ∧ Below w.heap.size w wx) (fun i _ => n - (intOf i).toNat)
  case atStart => exact ⟨0, Nat.zero_le _, rfl, fun j hj => by omega, Below.refl _ _⟩
  case round =>
    obtain ⟨X, rfl⟩ : ∃ X, X = wr := ⟨_, rfl⟩
    obtain ⟨k, hk, rfl, hall, hby⟩ := hrel
    have HA := hide hall
    have HBY := hide hby
    clear hall hby
    by_cases hlt : k < n
    · obtain ⟨c0, c1⟩ := (H.out.below HBY.out).laid k hlt
      have kI : (k : Int) < n := by omega
      have CW := hide (smallR (D k) z ps X (HB.out k hlt) ((HBY.out.cell (p := ⟨ps, 0, none⟩) lp).trans HP.out))
      by_cases hq : delR z (D k)
      · rw [decide_eq_true hq] at CW
        have HQ := hide hq
        clear hq
        go_wp2_with fail
        refine CW.out.mono ?_
        rintro e1 w1 ⟨rfl, b1⟩
        have B1 := hide (HBY.out.trans (b1.mono HBY.out.size))
        go_wp2_with fail
        go_ret
        exact ⟨.inr ⟨k, rfl, hlt, HQ.out, HA.out⟩, B1.out⟩
      · rw [decide_eq_false hq] at CW
        have f := hide (show ∀ j, j < k + 1 → ¬ delR z (D j) from fun j hj => by
          by_cases ej : j = k
          · rw [ej]; exact hq
          · exact HA.out j (by omega))
        clear hq
        go_wp2_with fail
        refine CW.out.mono ?_
        rintro e1 w1 ⟨rfl, b1⟩
        have B1 := hide (HBY.out.trans (b1.mono HBY.out.size))
        go_wp2_with fail
        go_roundw
        case rel => exact ⟨k + 1, by omega, by go_num, f.out, B1.out⟩
        case measure => simp [intOf]; omega
    · obtain rfl : k = n := by omega
      go_wp2_with fail
      go_ret
      exact ⟨.inl ⟨rfl, HA.out⟩, HBY.out⟩
theorem zeroRoom : ∀ w, (zeroValue 40).run Try.prog w = .ok (.agg #[.int .i64 0, .int .i64 0]) w := by
  intro w
  have hi : (Try.prog.info? 40).map (fun i => (i.zero, i.size, i.bytes)) = some (some (.agg #[.int .i64 0, .int .i64 0]), 2, 16) := by kernel_rfl
  obtain ⟨i, h1, h2⟩ := Option.map_eq_some_iff.1 hi
  simp only [Prod.mk.injEq] at h2
  obtain ⟨hz, hs, hb⟩ := h2
  simp [zeroValue, h1, hz, go_sem, Try.t40]
theorem clearRoom (w : World) (ty : TypeId) (b o n c : Nat) (hn : 0 < n) (hc : ∀ j, j < n * 2 → (w.cell? ⟨b, o + j, none⟩).isSome = true) (hf : ∀ j, j < n * 2 → w.frozen? ⟨b, o + j, none⟩ = false) :
    (Builtin.clear_ #[41] ty #[.slice (some ⟨b, o, none⟩) n c]).run Try.prog w = .ok (.tuple #[]) (w.setCells b o (List.replicate (n * 2) (.int .i64 0))) := by
  have hzc : (Builtin.zeroCells (Value.agg #[.int .i64 0, .int .i64 0]).cells n).toList = List.replicate (n * 2) (.int .i64 0) := by
    apply List.ext_getElem
    · simp [Builtin.zeroCells, Value.cells]
    · intro i h1 h2
      have m : i % 2 = 0 ∨ i % 2 = 1 := by omega
      rcases m with m | m <;> simp [Builtin.zeroCells, Value.cells, m]
  have hst := run_storeCells_cells (P := Try.prog) b o (List.replicate (n * 2) (.int .i64 0)) 0 w (by simpa using hc) (by simpa using hf) (by intro v hv'; rw [List.eq_of_mem_replicate hv']; rfl)
  simp only [Nat.add_zero] at hst
  obtain ⟨m, rfl⟩ : ∃ m, n = m + 1 := ⟨n - 1, by omega⟩
  simp [Builtin.clear_, run_underlying Try.underlying41, zeroRoom, hzc, hst]
set_option maxRecDepth 100000 in
set_option maxHeartbeats 4000000 in
theorem deleteR (B g n cap ps : Nat) (z : Int) (D : Nat → RV) (w : World) (h : OR B w g n D) (hn : (n : Int) ≤ 4194304) (hcap : n ≤ cap) (hp : w.cell? ⟨ps, 0, none⟩ = some (.int .i64 z)) (hpg : ps ≠ g) (hb : ∀ i, i < n → rb (D i)) :
    Calls Try.prog 37 #[.slice (some ⟨g, 0, none⟩) n cap, .func (.func 38) #[] #[.pointer (some ⟨ps, 0, none⟩)]] w fun e w' => e = .returned (.slice (some ⟨g, 0, none⟩) (kr z D n).length cap) ∧ OR B w' g (kr z D n).length (fun q => D ((kr z D n).getD q 0)) ∧ Kept (· = g) w w' := by
  have H := hide h
  have CI := hide (indexR B g n cap ps z D w h hn hp hb)
  have HP := hide hp
  have HB := hide hb
  have eF := enters_of Try.func38 (by kernel_rfl) rfl
  have lp := World.block_lt_of_cell? _ _ hp
  clear h hp hb
  go_enter Try.func37, Try.ntmps37
  go_wp2_with fail
  refine CI.out.mono ?_
  intro e1 w1 hq
  obtain ⟨hq, b1⟩ := hq
  have B1 := hide b1
  have H1 := hide (H.out.below b1)
  clear b1 CI
  rcases hq with ⟨rfl, hall⟩ | ⟨m, rfl, hm, hdel, hall⟩
  · have e := hide (kr_all hall)
    clear hall
    go_wp2_with fail
    go_ret
    rw [e.out]
    refine ⟨by simp, ?_, Kept.of_below B1.out⟩
    rw [List.length_range]
    exact H1.out.same (fun i hi => by
      rw [List.getD_eq_getElem?_getD, List.getElem?_range hi]
      rfl)
  have E0 := hide (kr_all hall)
  have LT := hide (show (kr z D n).length < n by
    have q : ∀ j, m + 1 + j ≤ n → (kr z D (m + 1 + j)).length < m + 1 + j := by
      intro j
      induction j with
      | zero =>
        intro _
        rw [Nat.add_zero, kr_succ, if_pos hdel, kr_all hall]
        simp
      | succ j ih =>
        intro hj
        have := ih (by omega)
        rw [show m + 1 + (j + 1) = m + 1 + j + 1 by omega, kr_succ]
        split
        · omega
        · simp; omega
    have := q (n - (m + 1)) (by omega)
    rwa [show m + 1 + (n - (m + 1)) = n by omega] at this)
  have K0 := hide (show kr z D (m + 1) = List.range m by rw [kr_succ, if_pos hdel, E0.out])
  clear hall hdel E0
  have mm : ((m : Int) == -1) = false := by simp
  go_wp2_with fail
  clear mm
  go_loopw [5, 6] (fun v i wx => ∃ (j r : Nat) (E : Nat → RV), j ≤ n ∧ m < j ∧ i = .int .i64 j ∧ v = .int .i64 r ∧ r = (kr z D j).length ∧ OR B wx g n E ∧ (∀ q, q < r → E q = D ((kr z D j).getD q 0)) ∧ (∀ q, j ≤ q → q < n → E q = D q) ∧ Kept (· = g) w wx) (fun _ i _ => n - (intOf i).toNat)
  case atStart => exact ⟨m + 1, m, D, by omega, by omega, by go_num, rfl, by rw [K0.out]; simp, H1.out, fun q hq => by rw [K0.out, List.getD_eq_getElem?_getD, List.getElem?_range hq]; rfl, fun q _ _ => rfl, Kept.of_below B1.out⟩
  case round =>
    obtain ⟨X, rfl⟩ : ∃ X, X = wr := ⟨_, rfl⟩
    obtain ⟨j, r, E, hj, hmj, rfl, rfl, hr, ho, he, hx, hkp⟩ := hrel
    have rj : r < j ∨ r = j := by have := kr_len z D j; omega
    have rn : r < n := by
      rcases Nat.lt_or_ge j n with c | c
      · have := kr_len z D j; omega
      · have : j = n := by omega
        rw [this] at hr
        have := LT.out
        omega
    have HR := hide hr
    have HO := hide ho
    have HE := hide he
    have HX := hide hx
    have HK := hide hkp
    clear hr ho he hx hkp
    have rI : (r : Int) < n := by omega
    by_cases hlt : j < n
    case pos =>
      have jI : (j : Int) < n := by omega
      obtain ⟨c0, c1⟩ := HO.out.laid j hlt
      rw [HX.out j (Nat.le_refl _) hlt] at c0 c1
      have dd := HB.out j hlt
      obtain ⟨x, hx⟩ : ∃ x, D j = x := ⟨_, rfl⟩
      rw [hx] at c0 c1 dd
      have DD := hide dd
      have EX := hide hx
      clear dd hx
      obtain ⟨Y, hY⟩ : ∃ Y, X.alloc (.cells #[.int .i64 x.f, .int .i64 x.e] 40) = Y := ⟨_, rfl⟩
      have bY : Below X.heap.size X Y := by rw [← hY]; exact (Below.refl _ _).alloc (Nat.le_refl _) _
      have m0 : Y.cell? ⟨X.heap.size, 0, none⟩ = some (.int .i64 x.f) := by rw [← hY]; simp [go_sem]
      have m1 : Y.cell? ⟨X.heap.size, 1, none⟩ = some (.int .i64 x.e) := by rw [← hY]; simp [go_sem]
      have zY : X.heap.size < Y.heap.size := World.block_lt_of_cell? _ _ m0
      have CD := hide (smallR x z ps Y DD.out ((bY.cell (p := ⟨ps, 0, none⟩) (Nat.lt_of_lt_of_le lp HK.out.size)).trans ((kept_cell (p := ⟨ps, 0, none⟩) HK.out lp hpg).trans HP.out)))
      have BY := hide bY
      clear bY
      by_cases hd : delR z x
      · rw [decide_eq_true hd] at CD
        have KS := hide (show kr z D (j + 1) = kr z D j by rw [kr_succ, EX.out, if_pos hd])
        clear hd
        go_wp2_with fail
        refine CD.out.mono ?_
        rintro e1 Y1 ⟨rfl, b2⟩
        have B2 := hide (BY.out.trans (b2.mono BY.out.size))
        clear b2 hY m0 m1 c0 c1 CD
        go_wp2_with fail
        go_roundw
        all_goals first
          | (simp only [intOf]; omega)
          | (simp [intOf]; omega)
          | exact ⟨j + 1, r, E, by omega, by omega, by go_num, rfl, by rw [KS.out]; exact HR.out, HO.out.below B2.out, fun q hq => by rw [KS.out]; exact HE.out q hq, fun q h1 h2 => HX.out q (by omega) h2, HK.out.trans (Kept.of_below B2.out)⟩
      · rw [decide_eq_false hd] at CD
        have KS := hide (show kr z D (j + 1) = kr z D j ++ [j] by rw [kr_succ, EX.out, if_neg hd])
        clear hd
        go_wp2_with fail
        refine CD.out.mono ?_
        rintro e1 Y1 ⟨rfl, b2⟩
        have B2 := hide (BY.out.trans (b2.mono BY.out.size))
        have n0 := (b2.cell (p := ⟨X.heap.size, 0, none⟩) zY).trans m0
        have n1 := (b2.cell (p := ⟨X.heap.size, 1, none⟩) zY).trans m1
        have O2 := hide (HO.out.below B2.out)
        obtain ⟨d0, d1⟩ := O2.out.laid r rn
        have f0 := O2.out.free (r * 2)
        have f1 := O2.out.free (r * 2 + 1)
        have wr1 : IntKind.i64.wrap ((r : Int) + 1) = ((r + 1 : Nat) : Int) := by rw [IntKind.wrap_i64]; omega
        clear b2 hY m0 m1 c0 c1 CD
        go_wp2_with fail
        go_roundw
        all_goals first
          | (simp only [intOf]; omega)
          | (simp [intOf]; omega)
          | exact ⟨j + 1, r + 1, updR E r x, by omega, by omega, by go_num, by go_num, by rw [KS.out, List.length_append, ← HR.out]; rfl, or_set2 O2.out rn x, fun q hq => by
              rw [KS.out, getD_appR, ← HR.out]
              unfold updR
              by_cases c : q = r
              · rw [if_pos c, if_pos c, EX.out]
              · rw [if_neg c, if_neg c]; exact HE.out q (by omega), fun q h1 h2 => by
              unfold updR
              rw [if_neg (by omega)]
              exact HX.out q (by omega) h2, (HK.out.trans (Kept.of_below B2.out)).trans (kept_set2 _ _ _ _ _ _)⟩
    case neg =>
      obtain rfl : j = n := by omega
      have HC := hide (fun ty => clearRoom X ty g (r * 2) (j - r) (cap - r) (by omega) (fun q hq => by
        obtain ⟨c0, c1⟩ := HO.out.laid (r + q / 2) (by omega)
        have md : q % 2 = 0 ∨ q % 2 = 1 := by omega
        rcases md with md | md
        · rw [show r * 2 + q = (r + q / 2) * 2 by omega, c0]; rfl
        · rw [show r * 2 + q = (r + q / 2) * 2 + 1 by omega, c1]; rfl) (fun q hq => HO.out.free _))
      obtain ⟨Y, hY⟩ : ∃ Y, X.setCells g (r * 2) (List.replicate ((j - r) * 2) (.int .i64 0)) = Y := ⟨_, rfl⟩
      have hcl := HC.out
      rw [hY] at hcl
      have KY := hide (show Kept (· = g) X Y by rw [← hY]; exact keptCellsR g _ _ X)
      have OY := hide (show OR B Y g r (fun q => D ((kr z D j).getD q 0)) by
        have ca : ∀ q, q < r * 2 → Y.cell? ⟨g, q, none⟩ = X.cell? ⟨g, q, none⟩ := fun q hq => by rw [← hY]; exact cells_aheadR g q _ _ X hq
        refine ⟨HO.out.lo, Nat.lt_of_lt_of_le HO.out.lt KY.out.size, fun q hq => ?_, fun q => by rw [← hY, World.frozen?_setCells]; exact HO.out.free q⟩
        rw [ca _ (by omega), ca _ (by omega), ← HE.out q hq]
        exact HO.out.laid q (by omega))
      have rle : (r : Int) ≤ j := by omega
      have rc : (r : Int) ≤ cap := by omega
      have jc : (j : Int) ≤ cap := by omega
      have rle' : r ≤ j := by omega
      clear hY HC
      go_wp2_with fail
      go_ret
      rw [← HR.out]
      exact ⟨by simp, OY.out, HK.out.trans KY.out⟩
end Vo
end Go.Proofs.Ytbdcbanbnbaoiaa
