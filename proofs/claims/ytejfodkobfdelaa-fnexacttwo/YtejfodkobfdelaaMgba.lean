/- Lemmas for the proof of the law. -/
import Derived.Test.YtejfodkobfdelaaMgai
import Derived.Test.YtejfodkobfdelaaMgaz
import Derived.Test.YtejfodkobfdelaaMgax
/- Whole on the model's side. -/
namespace Go.Proofs.Ytejfodkobfdelaa
namespace Vo
open Go.ChangeShapes Go.WideShapes Go.ChangeAt Go.RowKit Go.Joins
open Vl Vp Vr
set_option linter.unusedVariables false
set_option linter.unusedSimpArgs false

/-- a call of one argument at a step of a region that draws its order, by its contract -/
theorem step_call {P : Program} {ops : Array Oper} {o : Oper} {a : Act} {w : World} {K : Act → World → Prop} {Q : Exit → Act → World → Prop} {E : Prop} (hgd : o.guard = none) (f : FuncId) (x : Operand) (t : TypeId)
    (ho : o.op = .call { callee := .value (.func f), args := #[x], argTypes := #[t] }) (eg : ∀ args w, (callFunc f args).run P w = .ok (.enter f args) w) (v : Value) (hx : a.eval x = v) (R : Value → World → Prop)
    (hc : Calls P f #[v] w fun e w' => ∃ u, e = .returned u ∧ R u w') (h : ∀ u w', R u w' → K (a.put o.dst u) w') : if Region.wanted o (yielded ops a.tmps) = true then Oper.wp P o a w K Q else E := by
  have hw : Region.wanted o (yielded ops a.tmps) = true := by simp [Region.wanted, hgd]
  rw [if_pos hw]
  have he : (execOp a.eval o).run P w = .ok (.enter f #[v]) w := by
    unfold execOp
    have hx2 : (#[x] : Array Operand).map a.eval = #[v] := by simp [hx]
    simp [ho, resolve, invoke, go_sem, hx, hx2, eg, Act.eval]
  unfold Oper.wp
  rw [he, Oper.upon_enter]
  refine hc.mono ?_
  rintro e w' ⟨u, rfl, hr⟩
  exact h u w' hr
end Vo
end Go.Proofs.Ytejfodkobfdelaa

/- The turn of Slice. -/
namespace Go.Proofs.Ytejfodkobfdelaa
namespace Vo
open Go.ChangeShapes Go.WideShapes Go.ChangeAt Go.RowKit Go.Joins
open Vl Vp Vr
set_option linter.unusedVariables false
set_option linter.unusedSimpArgs false

theorem ints_here {B : Nat} {w : World} {a : Option Addr} {r : Nat} {D : Nat → Int} (h : Ints B w a r D) : Ints w.heap.size w a r D := by
  rcases h with h | ⟨b, off, e, hb, hc⟩
  · exact .inl h
  · by_cases h0 : r = 0
    · exact .inl h0
    · exact .inr ⟨b, off, e, World.block_lt_of_cell? _ _ (hc 0 (by omega)).1, hc⟩
theorem sliceV_no {r s : Nat} {D S : Nat → Int} {o n x f c t : Int} (h : ¬ sliceOk r D x f c t) : sliceV r s D S o n x f c t = PV.zero := by unfold sliceV; rw [if_neg h]
theorem sliceV_yes {r s : Nat} {D S : Nat → Int} {o n x f c t : Int} (h : sliceOk r D x f c t) : sliceV r s D S o n x f c t = ⟨r, s, upd D x.toNat c, upd S x.toNat (if c = 1 then 0 else S x.toNat * t), o + f * S x.toNat, n⟩ := by unfold sliceV; rw [if_pos h]
/-- products of numbers up to 4096 -/
theorem mul_bd {a b : Int} (a1 : -4096 ≤ a) (a2 : a ≤ 4096) (b1 : -4096 ≤ b) (b2 : b ≤ 4096) : -16777216 ≤ a * b ∧ a * b ≤ 16777216 := by
  have h1 : 0 ≤ (4096 - a) * (4096 - b) := Int.mul_nonneg (by omega) (by omega)
  have h2 : 0 ≤ (4096 + a) * (4096 + b) := Int.mul_nonneg (by omega) (by omega)
  have h3 : 0 ≤ (4096 - a) * (4096 + b) := Int.mul_nonneg (by omega) (by omega)
  have h4 : 0 ≤ (4096 + a) * (4096 - b) := Int.mul_nonneg (by omega) (by omega)
  simp only [Int.mul_sub, Int.sub_mul, Int.add_mul, Int.mul_add] at h1 h2 h3 h4
  omega
theorem wrap_id {z : Int} (h1 : -9223372036854775808 ≤ z) (h2 : z ≤ 9223372036854775807) : IntKind.i64.wrap z = z := by rw [IntKind.wrap_i64]; omega
/-- a view with one place turned -/
theorem upd_own {B : Nat} {w : World} {g h r : Nat} {D S : Nat → Int} (k : Nat) (u v : Int) (hd : Rw w g r D) (hs : Rw w h r S) (b1 : B ≤ g) (b2 : B ≤ h) (hn : g ≠ h) (bu : bd u) (bv : bd v) :
    VOwn B ((w.setCell ⟨g, k, none⟩ (.int .i64 u)).setCell ⟨h, k, none⟩ (.int .i64 v)) (some ⟨g, 0, none⟩) (some ⟨h, 0, none⟩) r r (upd D k u) (upd S k v) :=
  vown_of (Rw.other (hd.set k u bu) hn) ((Rw.other (p := ⟨g, k, none⟩) hs (by exact fun e => hn e.symm)).set k v bv) b1 b2 hn
/-- which way the tests go, in the program's order -/
theorem slice_ways {r : Nat} {D : Nat → Int} {k : Nat} {f c t L : Int} (hk : k < r) (hL : f + (c - 1) * t = L) :
    (decide (f < 0) = true ∧ ¬ sliceOk r D k f c t) ∨ (decide (f < 0) = false ∧ decide (D k ≤ f) = true ∧ ¬ sliceOk r D k f c t) ∨
    (decide (f < 0) = false ∧ decide (D k ≤ f) = false ∧ decide (c < 1) = true ∧ ¬ sliceOk r D k f c t) ∨ (decide (f < 0) = false ∧ decide (D k ≤ f) = false ∧ decide (c < 1) = false ∧ decide (4096 < c) = true ∧ ¬ sliceOk r D k f c t) ∨
    (decide (f < 0) = false ∧ decide (D k ≤ f) = false ∧ decide (c < 1) = false ∧ decide (4096 < c) = false ∧ decide (t < -4096) = true ∧ ¬ sliceOk r D k f c t) ∨ (decide (f < 0) = false ∧ decide (D k ≤ f) = false ∧ decide (c < 1) = false ∧ decide (4096 < c) = false ∧ decide (t < -4096) = false ∧ decide (4096 < t) = true ∧ ¬ sliceOk r D k f c t) ∨
    (decide (f < 0) = false ∧ decide (D k ≤ f) = false ∧ decide (c < 1) = false ∧ decide (4096 < c) = false ∧ decide (t < -4096) = false ∧ decide (4096 < t) = false ∧ decide (L < 0) = true ∧ ¬ sliceOk r D k f c t) ∨ (decide (f < 0) = false ∧ decide (D k ≤ f) = false ∧ decide (c < 1) = false ∧ decide (4096 < c) = false ∧ decide (t < -4096) = false ∧ decide (4096 < t) = false ∧ decide (L < 0) = false ∧ decide (D k ≤ L) = true ∧ ¬ sliceOk r D k f c t) ∨
    (decide (f < 0) = false ∧ decide (D k ≤ f) = false ∧ decide (c < 1) = false ∧ decide (4096 < c) = false ∧ decide (t < -4096) = false ∧ decide (4096 < t) = false ∧ decide (L < 0) = false ∧ decide (D k ≤ L) = false ∧ sliceOk r D k f c t) := by
  have key : sliceOk r D k f c t ↔ (0 ≤ f ∧ f < D k ∧ 1 ≤ c ∧ c ≤ 4096 ∧ -4096 ≤ t ∧ t ≤ 4096 ∧ 0 ≤ L ∧ L < D k) := by
    unfold sliceOk
    rw [hL, Int.toNat_natCast]
    exact ⟨fun q => q.2.2, fun q => ⟨by omega, by omega, q⟩⟩
  rw [key]
  clear key hL hk
  generalize D k = d
  by_cases a1 : f < 0
  · exact .inl ⟨decide_eq_true a1, by omega⟩
  refine .inr ?_
  by_cases a2 : d ≤ f
  · exact .inl ⟨decide_eq_false a1, decide_eq_true a2, by omega⟩
  refine .inr ?_
  by_cases a3 : c < 1
  · exact .inl ⟨decide_eq_false a1, decide_eq_false a2, decide_eq_true a3, by omega⟩
  refine .inr ?_
  by_cases a4 : 4096 < c
  · exact .inl ⟨decide_eq_false a1, decide_eq_false a2, decide_eq_false a3, decide_eq_true a4, by omega⟩
  refine .inr ?_
  by_cases a5 : t < -4096
  · exact .inl ⟨decide_eq_false a1, decide_eq_false a2, decide_eq_false a3, decide_eq_false a4, decide_eq_true a5, by omega⟩
  refine .inr ?_
  by_cases a6 : 4096 < t
  · exact .inl ⟨decide_eq_false a1, decide_eq_false a2, decide_eq_false a3, decide_eq_false a4, decide_eq_false a5, decide_eq_true a6, by omega⟩
  refine .inr ?_
  by_cases a7 : L < 0
  · exact .inl ⟨decide_eq_false a1, decide_eq_false a2, decide_eq_false a3, decide_eq_false a4, decide_eq_false a5, decide_eq_false a6, decide_eq_true a7, by omega⟩
  refine .inr ?_
  by_cases a8 : d ≤ L
  · exact .inl ⟨decide_eq_false a1, decide_eq_false a2, decide_eq_false a3, decide_eq_false a4, decide_eq_false a5, decide_eq_false a6, decide_eq_false a7, decide_eq_true a8, by omega⟩
  exact .inr ⟨decide_eq_false a1, decide_eq_false a2, decide_eq_false a3, decide_eq_false a4, decide_eq_false a5, decide_eq_false a6, decide_eq_false a7, decide_eq_false a8, by omega⟩
theorem slice_wraps {f c t L d : Int} (hL : f + (c - 1) * t = L) (hd : d ≤ 4096) (d1 : decide (f < 0) = false) (d2 : decide (d ≤ f) = false) (d3 : decide (c < 1) = false) (d4 : decide (4096 < c) = false) (d5 : decide (t < -4096) = false) (d6 : decide (4096 < t) = false) :
    IntKind.i64.wrap (c - 1) = c - 1 ∧ IntKind.i64.wrap ((c - 1) * t) = (c - 1) * t ∧ IntKind.i64.wrap (f + (c - 1) * t) = L := by
  simp only [decide_eq_false_iff_not] at d1 d2 d3 d4 d5 d6
  have := mul_bd (a := c - 1) (b := t) (by omega) (by omega) (by omega) (by omega)
  exact ⟨wrap_id (by omega) (by omega), wrap_id (by omega) (by omega), by rw [wrap_id (by omega) (by omega), hL]⟩
/-- the stride of an axis that was made -/
def so (c m : Int) : Int := if c = 1 then 0 else m
theorem so_bd {c m : Int} (h : bd m) : bd (so c m) := by
  unfold so bd at *
  split <;> omega
theorem strideSo (x y : Int) (w : World) : Calls Try.prog 92 #[.int .i64 x, .int .i64 y] w fun e w' => e = .returned (.int .i64 (so x y)) ∧ w' = w := strideOf x y w
/-- a turn under way: the view in its variable, its two lists, the variable of the answer -/
structure TS (W : World) (ga gb r ac ad : Nat) (D S : Nat → Int) (o n : Int) (X : World) : Prop where
  box : Box X W.heap.size (.slice (some ⟨ga, 0, none⟩) r ac) (.slice (some ⟨gb, 0, none⟩) r ad) (.int .i64 o) (.int .i64 n)
  free : Free X W.heap.size
  rbox : Box X (W.heap.size + 1) (.slice none 0 0) (.slice none 0 0) (.int .i64 0) (.int .i64 0)
  rfree : Free X (W.heap.size + 1)
  ra : Rw X ga r D
  rb : Rw X gb r S
  la : ga < W.heap.size
  lb : gb < W.heap.size
  ne : ga ≠ gb
  sz : W.heap.size + 1 < X.heap.size
  kept : Kept (fun k => k = ga ∨ k = gb) W X
theorem TS.drewN {W : World} {ga gb r ac ad : Nat} {D S : Nat → Int} {o n : Int} {X : World} (h : TS W ga gb r ac ad D S o n X) (q : Nat) : TS W ga gb r ac ad D S o n (X.drewN q) :=
  ⟨h.box, h.free, h.rbox, h.rfree, h.ra, h.rb, h.la, h.lb, h.ne, h.sz, ⟨h.kept.os, h.kept.tape, h.kept.output, h.kept.size, h.kept.block⟩⟩
theorem box_set2 {w : World} {p : Nat} {v0 v1 v2 v3 : Value} (h : Box w p v0 v1 v2 v3) (u : Value) : Box (w.setCell ⟨p, 2, none⟩ u) p v0 v1 u v3 := by
  obtain ⟨a, b, c, d⟩ := h
  refine ⟨?_, ?_, World.cell?_setCell_same _ _ _ c, ?_⟩
  · rw [World.cell?_setCell_other _ _ _ _ (by intro e; cases e)]; exact a
  · rw [World.cell?_setCell_other _ _ _ _ (by intro e; cases e)]; exact b
  · rw [World.cell?_setCell_other _ _ _ _ (by intro e; cases e)]; exact d
theorem TS.setO {W : World} {ga gb r ac ad : Nat} {D S : Nat → Int} {o n : Int} {X : World} (h : TS W ga gb r ac ad D S o n X) (u : Int) : TS W ga gb r ac ad D S u n (X.setCell ⟨W.heap.size, 2, none⟩ (.int .i64 u)) :=
  ⟨box_set2 h.box _, h.free.set _ _, h.rbox.set _ _ (by show W.heap.size + 1 ≠ W.heap.size; omega), h.rfree.set _ _, Rw.other h.ra (by have := h.la; show ga ≠ W.heap.size; omega), Rw.other h.rb (by have := h.lb; show gb ≠ W.heap.size; omega), h.la, h.lb, h.ne, by simp [World.setCell]; exact h.sz,
    Kept.then h.kept (Kept.setCell X ⟨W.heap.size, 2, none⟩ (.int .i64 u)) (fun i e => .inl (by have e : i = W.heap.size := e; omega))⟩
theorem TS.setA {W : World} {ga gb r ac ad : Nat} {D S : Nat → Int} {o n : Int} {X : World} (h : TS W ga gb r ac ad D S o n X) (k : Nat) (u : Int) (hu : bd u) : TS W ga gb r ac ad (upd D k u) S o n (X.setCell ⟨ga, k, none⟩ (.int .i64 u)) :=
  ⟨h.box.set _ _ (by have := h.la; show W.heap.size ≠ ga; omega), h.free.set _ _, h.rbox.set _ _ (by have := h.la; show W.heap.size + 1 ≠ ga; omega), h.rfree.set _ _, h.ra.set k u hu, Rw.other h.rb (by have := h.ne; show gb ≠ ga; omega), h.la, h.lb, h.ne, by simp [World.setCell]; exact h.sz,
    Kept.then h.kept (Kept.setCell X ⟨ga, k, none⟩ (.int .i64 u)) (fun i e => .inr (.inl e))⟩
theorem TS.setB {W : World} {ga gb r ac ad : Nat} {D S : Nat → Int} {o n : Int} {X : World} (h : TS W ga gb r ac ad D S o n X) (k : Nat) (u : Int) (hu : bd u) : TS W ga gb r ac ad D (upd S k u) o n (X.setCell ⟨gb, k, none⟩ (.int .i64 u)) :=
  ⟨h.box.set _ _ (by have := h.lb; show W.heap.size ≠ gb; omega), h.free.set _ _, h.rbox.set _ _ (by have := h.lb; show W.heap.size + 1 ≠ gb; omega), h.rfree.set _ _, Rw.other h.ra (by have := h.ne; show ga ≠ gb; omega), h.rb.set k u hu, h.la, h.lb, h.ne, by simp [World.setCell]; exact h.sz,
    Kept.then h.kept (Kept.setCell X ⟨gb, k, none⟩ (.int .i64 u)) (fun i e => .inr (.inr e))⟩
theorem TS.out {W : World} {C ga gb r ac ad : Nat} {D S : Nat → Int} {o n : Int} {X : World} (h : TS W ga gb r ac ad D S o n X) (ha : C ≤ ga) (hb : C ≤ gb) : TurnR C ⟨r, r, D, S, o, n⟩ (.slice (some ⟨ga, 0, none⟩) r ac) (.slice (some ⟨gb, 0, none⟩) r ad) W
    (.returned (.agg #[.slice (some ⟨ga, 0, none⟩) r ac, .slice (some ⟨gb, 0, none⟩) r ad, .int .i64 o, .int .i64 n])) ((((X.setCell ⟨W.heap.size + 1, 0, none⟩ (.slice (some ⟨ga, 0, none⟩) r ac)).setCell ⟨W.heap.size + 1, 1, none⟩ (.slice (some ⟨gb, 0, none⟩) r ad)).setCell ⟨W.heap.size + 1, 2, none⟩ (.int .i64 o)).setCell ⟨W.heap.size + 1, 3, none⟩ (.int .i64 n)) := by
  have k4 := kept_sets4 X (W.heap.size + 1) (.slice (some ⟨ga, 0, none⟩) r ac) (.slice (some ⟨gb, 0, none⟩) r ad) (.int .i64 o) (.int .i64 n)
  have la := h.la
  have lb := h.lb
  refine ⟨_, _, _, _, rfl, vown_of (h.ra.kept k4 (by omega)) (h.rb.kept k4 (by omega)) ha hb h.ne, (Kept.then h.kept k4 (fun i e => .inl (by have e : i = W.heap.size + 1 := e; omega))).mono ?_⟩
  rintro k _ (rfl | rfl)
  · exact .inl rfl
  · exact .inr rfl
set_option maxRecDepth 100000 in
set_option maxHeartbeats 4000000 in
theorem sliceTurn (r s : Nat) (D S : Nat → Int) (o n x f c t : Int) (C B : Nat) (ia : Option Addr) (ica : Nat) (va vb : Value) (W : World) (hV : VOk r s D S o n) (ra : RowV C W va r D) (rb : RowV C W vb s S) (hne : ∀ k, va.ownBlock = some k → vb.ownBlock = some k → False) (hi : Ints B W ia 4 (four x f c t)) (hC : C ≤ W.heap.size) :
    Calls Try.prog 71 #[.agg #[va, vb, .int .i64 o, .int .i64 n], .slice ia 4 ica] W fun e W' => TurnR C (sliceV r s D S o n x f c t) va vb W e W' := by
  obtain ⟨aa, ac, rfl, oa⟩ := ra.own
  obtain ⟨ab, ad, rfl, ob⟩ := rb.own
  rcases ints_here hi with h0 | ⟨bi, off, rfl, hbi, hcc⟩
  · omega
  obtain ⟨W0, hW0⟩ : ∃ W0, (W.alloc (.cells #[.slice aa r ac, .slice ab s ad, .int .i64 o, .int .i64 n] 26)).alloc (.cells #[.slice none 0 0, .slice none 0 0, .int .i64 0, .int .i64 0] 26) = W0 := ⟨_, rfl⟩
  have hs0 : W0.heap.size = W.heap.size + 1 + 1 := by rw [← hW0]; simp
  have bl : Below W.heap.size W W0 := by rw [← hW0]; exact ((Below.refl _ _).alloc (Nat.le_refl _) _).alloc (by simp) _
  have n0 : Box W0 W.heap.size (.slice aa r ac) (.slice ab s ad) (.int .i64 o) (.int .i64 n) := by
    rw [← hW0]; exact (box_new W (.slice aa r ac) (.slice ab s ad) (.int .i64 o) (.int .i64 n) 26).below ((Below.refl (W.heap.size + 1) _).alloc (by simp) _) (by omega)
  have f0 : Free W0 W.heap.size := by
    rw [← hW0]; exact (free_new W #[.slice aa r ac, .slice ab s ad, .int .i64 o, .int .i64 n] 26).below ((Below.refl (W.heap.size + 1) _).alloc (by simp) _) (by omega)
  have m0 : Box W0 (W.heap.size + 1) (.slice none 0 0) (.slice none 0 0) (.int .i64 0) (.int .i64 0) := by
    have q := box_new (W.alloc (.cells #[.slice aa r ac, .slice ab s ad, .int .i64 o, .int .i64 n] 26)) (.slice none 0 0) (.slice none 0 0) (.int .i64 0) (.int .i64 0) 26
    rw [World.size_alloc] at q
    rw [← hW0]; exact q
  have g0 : Free W0 (W.heap.size + 1) := by
    have q := free_new (W.alloc (.cells #[.slice aa r ac, .slice ab s ad, .int .i64 o, .int .i64 n] 26)) #[.slice none 0 0, .slice none 0 0, .int .i64 0, .int .i64 0] 26
    rw [World.size_alloc] at q
    rw [← hW0]; exact q
  have i0 := (bl.cell (p := ⟨bi, off, none⟩) hbi).trans (hcc 0 (by omega)).1
  have i1 := (bl.cell (p := ⟨bi, off + 1, none⟩) hbi).trans (hcc 1 (by omega)).1
  have i2 := (bl.cell (p := ⟨bi, off + 2, none⟩) hbi).trans (hcc 2 (by omega)).1
  have i3 := (bl.cell (p := ⟨bi, off + 3, none⟩) hbi).trans (hcc 3 (by omega)).1
  simp only [four] at i0 i1 i2 i3
  have bx := (hcc 0 (by omega)).2
  have bf := (hcc 1 (by omega)).2
  have bc := (hcc 2 (by omega)).2
  have bt := (hcc 3 (by omega)).2
  simp only [four] at bx bf bc bt
  have HV := hide hV
  have OAW := hide oa
  have OBW := hide ob
  have OA := hide (oa.below bl)
  have OBB := hide (ob.below bl)
  have BL := hide bl
  have N0 := hide n0
  have F0 := hide f0
  have M0 := hide m0
  have G0 := hide g0
  have HS0 := hide hs0
  have HNE := hide hne
  have BX := hide bx
  have BF := hide bf
  have BC := hide bc
  have BT := hide bt
  obtain ⟨x0, x1, x2, x3⟩ := n0
  clear hi hcc bl f0 m0 g0 hs0 hV oa ob ra rb hne hbi bx bf bc bt
  go_enter Try.func71, Try.ntmps71
  go_wp2_with fail
  clear hW0
  go_quiet (fail)
  go_wp2_with fail
  refine (hasAxis aa ab r s ac ad o n x _).mono ?_
  rintro e w1 ⟨rfl, hw1⟩
  have b1 : Below W0.heap.size W0 w1 := by rw [hw1]; exact (below_drewN (Below.refl _ W0) nq).alloc (Nat.le_refl W0.heap.size) _
  clear hw1 x0 x1 x2 x3 i0 i1 i2 i3
  have zz := HS0.out
  have z1 : W.heap.size + 1 < w1.heap.size := by have := b1.size; omega
  have N1 := hide (N0.out.below b1 (by omega))
  have F1 := hide (F0.out.below b1 (by omega))
  have M1 := hide (M0.out.below b1 (by omega))
  have G1 := hide (G0.out.below b1 (by omega))
  have OA1 := hide (OA.out.below b1)
  have OB1 := hide (OBB.out.below b1)
  have B1 := hide (BL.out.trans (b1.mono BL.out.size))
  clear b1 zz
  obtain ⟨x0, x1, x2, x3⟩ := N1.out
  obtain ⟨y0, y1, y2, y3⟩ := M1.out
  have ff := F1.out
  have gg := G1.out
  unfold Free at ff gg
  by_cases hx : 0 ≤ x ∧ x < r
  rotate_left
  · have ez := hide (sliceV_no (r := r) (s := s) (D := D) (S := S) (o := o) (n := n) (x := x) (f := f) (c := c) (t := t) (fun q => hx ⟨q.1, q.2.1⟩))
    rw [decide_eq_false hx]
    clear hx
    go_wp2_with fail
    refine bodyPost_ret (v := .agg #[.slice none 0 0, .slice none 0 0, .int .i64 0, .int .i64 0]) (by simp [results, Try.results71, go_sem, y0, y1, y2, y3]) rfl (by
      rw [ez.out]
      refine turnR_zero (Kept.of_below ?_)
      repeat (refine Below.setCell ?_ (by simp) _)
      exact B1.out)
  rw [decide_eq_true hx]
  obtain ⟨k, rfl⟩ : ∃ k : Nat, x = k := ⟨x.toNat, by omega⟩
  have hk : k < r := by omega
  have hkI : (k : Int) < r := by omega
  have k0 : (0 : Int) ≤ (k : Int) := by omega
  clear hx
  obtain ⟨e1, e2, v1, v2, v3, v4, v5, _, _⟩ := HV.out
  subst e2
  have ld := HV.out.len hk
  have ls := v5 k hk
  clear e1 v5
  rcases OA1.out with h0 | ⟨ga, rfl, hga, rwa⟩
  · omega
  rcases OB1.out with h0 | ⟨gb, rfl, hgb, rwb⟩
  · omega
  have hgn : ga ≠ gb := fun e => by subst e; exact HNE.out ga rfl rfl
  obtain ⟨ca, fa, _⟩ := rwa k hk
  obtain ⟨cb, fb, bS⟩ := rwb k hk
  have RA := hide rwa
  have RB := hide rwb
  have LD := hide ld
  have LS := hide ls
  have VV := hide (show 1 ≤ n ∧ n ≤ 4096 ∧ 0 ≤ o ∧ o < n from ⟨v1, v2, v3, v4⟩)
  have BS := hide bS
  clear rwa rwb ld ls v1 v2 v3 v4 bS
  obtain ⟨L, hL⟩ : ∃ L, f + (c - 1) * t = L := ⟨_, rfl⟩
  rcases slice_ways (D := D) hk hL with ⟨d1, no⟩ | ⟨d1, d2, no⟩ | ⟨d1, d2, d3, no⟩ | ⟨d1, d2, d3, d4, no⟩ | ⟨d1, d2, d3, d4, d5, no⟩ | ⟨d1, d2, d3, d4, d5, d6, no⟩ | ⟨d1, d2, d3, d4, d5, d6, d7, no⟩ | ⟨d1, d2, d3, d4, d5, d6, d7, d8, no⟩ | ⟨d1, d2, d3, d4, d5, d6, d7, d8, yes⟩
  all_goals
    have HL := hide hL
    have HK := hide hk
  rotate_right
  · obtain ⟨q1, q2, q3⟩ := slice_wraps HL.out LD.out.2 d1 d2 d3 d4 d5 d6
    have YES := hide yes
    obtain ⟨p, hp⟩ : ∃ p, f * S k = p := ⟨_, rfl⟩
    obtain ⟨m, hm⟩ : ∃ m, S k * t = m := ⟨_, rfl⟩
    have bb1 := mul_bd (a := f) (b := S k) (by simp at d1; omega) (by simp at d2; have := LD.out; omega) LS.out.1 LS.out.2
    have bb2 := mul_bd (a := S k) (b := t) LS.out.1 LS.out.2 (by simp at d5; omega) (by simp at d6; omega)
    rw [hp] at bb1
    rw [hm] at bb2
    have q4 : IntKind.i64.wrap (f * S k) = p := by rw [hp]; exact wrap_id (by omega) (by omega)
    have q5 : IntKind.i64.wrap (o + p) = o + p := wrap_id (by have := VV.out; omega) (by have := VV.out; omega)
    have q6 : IntKind.i64.wrap (S k * t) = m := by rw [hm]; exact wrap_id (by omega) (by omega)
    have BM := hide bb2
    have HP := hide hp
    have HM := hide hm
    clear hL hk yes hp hm bb1 bb2
    have la := (OAW.out.blk ⟨by omega, _, rfl, rfl⟩).2
    have lb := (OBW.out.blk ⟨by omega, _, rfl, rfl⟩).2
    have T1 := hide (show TS W ga gb s ac ad D S o n w1 from ⟨N1.out, F1.out, M1.out, G1.out, RA.out, RB.out, la, lb, hgn, z1, Kept.of_below B1.out⟩)
    go_wp2_with fail
    go_region
    go_wp2_with fail
    refine abs_wp (fun X => TS W ga gb s ac ad D S (o + p) n X) (by exact (T1.out.setO _).drewN 1) ?_
    intro X hX
    have T2 := hide hX
    clear x0 x1 x2 x3 y0 y1 y2 y3 ff gg ca fa cb fb q1 q2 q3 q4 q5 la lb d1 d2 d3 d4 d5 d6 d7 d8
    obtain ⟨x0, x1, x2, x3⟩ := hX.box
    have ff := hX.free
    obtain ⟨ca, fa, _⟩ := hX.ra k HK.out
    obtain ⟨cb, fb, _⟩ := hX.rb k HK.out
    have cb' : ∀ u, (X.setCell ⟨ga, k, none⟩ u).cell? ⟨gb, k, none⟩ = some (.int .i64 (S k)) := fun u => set_other (by show gb ≠ ga; omega) cb
    have hz : W.heap.size ≠ ga := by have := hX.la; omega
    have hz' : ∀ u i, (X.setCell ⟨ga, k, none⟩ u).cell? ⟨W.heap.size, i, none⟩ = X.cell? ⟨W.heap.size, i, none⟩ := fun u i => World.cell?_of_block (Below.heap_setCell X ⟨ga, k, none⟩ u W.heap.size hz)
    unfold Free at ff
    clear hX hz
    go_cut [] (fun wx => TS W ga gb s ac ad (upd D k c) (upd S k (so c m)) (o + p) n wx)
    case first =>
      go_region_with (go_at_call 92; refine (strideSo c m _).mono ?_; rintro e w3 ⟨rfl, rfl⟩)
      all_goals (go_wp2_with fail)
      all_goals go_meet
      all_goals exact ((T2.out.setA k c BC.out).setB k (so c m) (so_bd ⟨by have := BM.out; omega, by have := BM.out; omega⟩)).drewN 1
    case rest =>
      have T3 := hide hcut
      clear x0 x1 x2 x3 ff ca fa cb fb cb' hz' q6
      obtain ⟨x0, x1, x2, x3⟩ := hcut.box
      obtain ⟨y0, y1, y2, y3⟩ := hcut.rbox
      have gg := hcut.rfree
      unfold Free at gg
      clear hcut
      go_wp2_with fail
      refine bodyPost_ret (v := .agg #[.slice (some ⟨ga, 0, none⟩) s ac, .slice (some ⟨gb, 0, none⟩) s ad, .int .i64 (o + p), .int .i64 n]) (by simp [results, Try.results71, go_sem, y0, y1, y2, y3]) rfl ?_
      have e1 : sliceV s s D S o n (k : Int) f c t = ⟨s, s, upd D k c, upd S k (so c m), o + p, n⟩ := by
        rw [sliceV_yes YES.out, Int.toNat_natCast]
        unfold so
        rw [HP.out, HM.out]
      rw [e1]
      exact T3.out.out hga hgb
  all_goals
    have ez := hide (sliceV_no (s := s) (S := S) (o := o) (n := n) no)
    clear no
  rotate_left 6
  · obtain ⟨q1, q2, q3⟩ := slice_wraps HL.out LD.out.2 d1 d2 d3 d4 d5 d6
    clear hL hk
    go_wp2_with fail
    refine bodyPost_ret (v := .agg #[.slice none 0 0, .slice none 0 0, .int .i64 0, .int .i64 0]) (by simp [results, Try.results71, go_sem, y0, y1, y2, y3]) rfl (by
      rw [ez.out]
      refine turnR_zero (Kept.of_below ?_)
      repeat (refine Below.setCell ?_ (by simp) _)
      exact B1.out)
  · obtain ⟨q1, q2, q3⟩ := slice_wraps HL.out LD.out.2 d1 d2 d3 d4 d5 d6
    clear hL hk
    go_wp2_with fail
    refine bodyPost_ret (v := .agg #[.slice none 0 0, .slice none 0 0, .int .i64 0, .int .i64 0]) (by simp [results, Try.results71, go_sem, y0, y1, y2, y3]) rfl (by
      rw [ez.out]
      refine turnR_zero (Kept.of_below ?_)
      repeat (refine Below.setCell ?_ (by simp) _)
      exact B1.out)
  all_goals
    clear hL hk
    go_wp2_with fail
    refine bodyPost_ret (v := .agg #[.slice none 0 0, .slice none 0 0, .int .i64 0, .int .i64 0]) (by simp [results, Try.results71, go_sem, y0, y1, y2, y3]) rfl (by
      rw [ez.out]
      refine turnR_zero (Kept.of_below ?_)
      repeat (refine Below.setCell ?_ (by simp) _)
      exact B1.out)
end Vo
end Go.Proofs.Ytejfodkobfdelaa
