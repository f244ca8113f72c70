/- Lemmas for the proof of the law. -/
import Derived.Test.YtejfodkobfdelaaMgba
import Derived.Test.YtejfodkobfdelaaMgaz
import Derived.Maps.AppendAt
/- Slice of the model. -/
namespace Go.Proofs.Ytejfodkobfdelaa
namespace Vo
open Go.ChangeShapes Go.WideShapes Go.ChangeAt Go.RowKit Go.Joins
open Vl Vp Vr
set_option linter.unusedVariables false
set_option linter.unusedSimpArgs false

theorem zero_orZero : PV.zero.orZero = PV.zero := by
  unfold PV.orZero
  split <;> rfl
theorem turnedV_zero {r s : Nat} {D S : Nat → Int} {o n : Int} {T : PV} (h : T = PV.zero) : turnedV r s D S o n T = PV.zero := by
  subst h
  unfold turnedV
  rw [zero_orZero]
  split <;> rfl
theorem turnedV_no {r s : Nat} {D S : Nat → Int} {o n x : Int} {T : PV} (h : axOk r s D S o n x = false) (ht : ¬ (0 ≤ x ∧ x < r) → T = PV.zero) : turnedV r s D S o n T = PV.zero := by
  by_cases q : 0 ≤ x ∧ x < r
  · unfold turnedV
    unfold axOk at h
    rw [decide_eq_true q, Bool.and_true] at h
    rw [h]; rfl
  · exact turnedV_zero (ht q)
/-- the model's view under way -/
structure MS (w : World) (P g h r ac ad : Nat) (D S : Nat → Int) (o n : Int) (X : World) : Prop where
  box : Box X P (.slice (some ⟨g, 0, none⟩) r ac) (.slice (some ⟨h, 0, none⟩) r ad) (.int .i64 o) (.int .i64 n)
  free : Free X P
  rbox : Box X (w.heap.size + 1) (.slice none 0 0) (.slice none 0 0) (.int .i64 0) (.int .i64 0)
  rfree : Free X (w.heap.size + 1)
  ra : Rw X g r D
  rb : Rw X h r S
  l1 : w.heap.size + 1 < P
  l2 : w.heap.size + 1 < g
  l3 : w.heap.size + 1 < h
  n1 : P ≠ g
  n2 : P ≠ h
  n3 : g ≠ h
  sz : w.heap.size + 1 < X.heap.size
  below : Below w.heap.size w X
theorem MS.drewN {w : World} {P g h r ac ad : Nat} {D S : Nat → Int} {o n : Int} {X : World} (q : MS w P g h r ac ad D S o n X) (k : Nat) : MS w P g h r ac ad D S o n (X.drewN k) :=
  ⟨q.box, q.free, q.rbox, q.rfree, q.ra, q.rb, q.l1, q.l2, q.l3, q.n1, q.n2, q.n3, q.sz, below_drewN q.below k⟩
theorem MS.setO {w : World} {P g h r ac ad : Nat} {D S : Nat → Int} {o n : Int} {X : World} (q : MS w P g h r ac ad D S o n X) (u : Int) : MS w P g h r ac ad D S u n (X.setCell ⟨P, 2, none⟩ (.int .i64 u)) :=
  ⟨box_set2 q.box _, q.free.set _ _, q.rbox.set _ _ (by have := q.l1; show w.heap.size + 1 ≠ P; omega), q.rfree.set _ _, Rw.other q.ra (by have := q.n1; show g ≠ P; omega), Rw.other q.rb (by have := q.n2; show h ≠ P; omega), q.l1, q.l2, q.l3, q.n1, q.n2, q.n3, by simp [World.setCell]; exact q.sz, q.below.setCell (by have := q.l1; show w.heap.size ≤ P; omega) _⟩
theorem MS.setA {w : World} {P g h r ac ad : Nat} {D S : Nat → Int} {o n : Int} {X : World} (q : MS w P g h r ac ad D S o n X) (k : Nat) (u : Int) (hu : bd u) : MS w P g h r ac ad (upd D k u) S o n (X.setCell ⟨g, k, none⟩ (.int .i64 u)) :=
  ⟨q.box.set _ _ (by exact q.n1), q.free.set _ _, q.rbox.set _ _ (by have := q.l2; show w.heap.size + 1 ≠ g; omega), q.rfree.set _ _, q.ra.set k u hu, Rw.other q.rb (by have := q.n3; show h ≠ g; omega), q.l1, q.l2, q.l3, q.n1, q.n2, q.n3, by simp [World.setCell]; exact q.sz, q.below.setCell (by have := q.l2; show w.heap.size ≤ g; omega) _⟩
theorem MS.setB {w : World} {P g h r ac ad : Nat} {D S : Nat → Int} {o n : Int} {X : World} (q : MS w P g h r ac ad D S o n X) (k : Nat) (u : Int) (hu : bd u) : MS w P g h r ac ad D (upd S k u) o n (X.setCell ⟨h, k, none⟩ (.int .i64 u)) :=
  ⟨q.box.set _ _ (by exact q.n2), q.free.set _ _, q.rbox.set _ _ (by have := q.l3; show w.heap.size + 1 ≠ h; omega), q.rfree.set _ _, Rw.other q.ra (by exact q.n3), q.rb.set k u hu, q.l1, q.l2, q.l3, q.n1, q.n2, q.n3, by simp [World.setCell]; exact q.sz, q.below.setCell (by have := q.l3; show w.heap.size ≤ h; omega) _⟩
theorem MS.own {w : World} {P g h r ac ad : Nat} {D S : Nat → Int} {o n : Int} {X : World} (q : MS w P g h r ac ad D S o n X) : VOwn w.heap.size X (some ⟨g, 0, none⟩) (some ⟨h, 0, none⟩) r r D S :=
  vown_of q.ra q.rb (by have := q.l2; omega) (by have := q.l3; omega) q.n3
theorem upd_upd (D : Nat → Int) (k : Nat) (a b : Int) : upd (upd D k a) k b = upd D k b := by
  funext j
  unfold upd
  split <;> rfl
theorem upd_at (D : Nat → Int) (k : Nat) (a : Int) : upd D k a k = a := by unfold upd; simp
/-- which way the tests go, in the model's order -/
theorem slice_ways' {r : Nat} {D : Nat → Int} {k : Nat} {f c t L : Int} (hk : k < r) (hL : f + (c - 1) * t = L) :
    (decide (c < 1) = true ∧ ¬ sliceOk r D k f c t) ∨ (decide (c < 1) = false ∧ decide (4096 < c) = true ∧ ¬ sliceOk r D k f c t) ∨
    (decide (c < 1) = false ∧ decide (4096 < c) = false ∧ decide (t < -4096) = true ∧ ¬ sliceOk r D k f c t) ∨ (decide (c < 1) = false ∧ decide (4096 < c) = false ∧ decide (t < -4096) = false ∧ decide (4096 < t) = true ∧ ¬ sliceOk r D k f c t) ∨
    (decide (c < 1) = false ∧ decide (4096 < c) = false ∧ decide (t < -4096) = false ∧ decide (4096 < t) = false ∧ decide (f < 0) = true ∧ ¬ sliceOk r D k f c t) ∨ (decide (c < 1) = false ∧ decide (4096 < c) = false ∧ decide (t < -4096) = false ∧ decide (4096 < t) = false ∧ decide (f < 0) = false ∧ decide (D k ≤ f) = true ∧ ¬ sliceOk r D k f c t) ∨
    (decide (f < 0) = false ∧ decide (D k ≤ f) = false ∧ decide (c < 1) = false ∧ decide (4096 < c) = false ∧ decide (t < -4096) = false ∧ decide (4096 < t) = false ∧ decide (L < 0) = true ∧ ¬ sliceOk r D k f c t) ∨ (decide (f < 0) = false ∧ decide (D k ≤ f) = false ∧ decide (c < 1) = false ∧ decide (4096 < c) = false ∧ decide (t < -4096) = false ∧ decide (4096 < t) = false ∧ decide (L < 0) = false ∧ decide (D k ≤ L) = true ∧ ¬ sliceOk r D k f c t) ∨
    (decide (f < 0) = false ∧ decide (D k ≤ f) = false ∧ decide (c < 1) = false ∧ decide (4096 < c) = false ∧ decide (t < -4096) = false ∧ decide (4096 < t) = false ∧ decide (L < 0) = false ∧ decide (D k ≤ L) = false ∧ sliceOk r D k f c t) := by
  rcases slice_ways (D := D) hk hL with q | q | q | q | q | q | q | q | q
  · obtain ⟨d1, no⟩ := q
    by_cases a3 : c < 1
    · exact .inl ⟨decide_eq_true a3, no⟩
    refine .inr ?_
    by_cases a4 : 4096 < c
    · exact .inl ⟨decide_eq_false a3, decide_eq_true a4, no⟩
    refine .inr ?_
    by_cases a5 : t < -4096
    · exact .inl ⟨decide_eq_false a3, decide_eq_false a4, decide_eq_true a5, no⟩
    refine .inr ?_
    by_cases a6 : 4096 < t
    · exact .inl ⟨decide_eq_false a3, decide_eq_false a4, decide_eq_false a5, decide_eq_true a6, no⟩
    exact .inr (.inl ⟨decide_eq_false a3, decide_eq_false a4, decide_eq_false a5, decide_eq_false a6, d1, no⟩)
  · obtain ⟨d1, d2, no⟩ := q
    by_cases a3 : c < 1
    · exact .inl ⟨decide_eq_true a3, no⟩
    refine .inr ?_
    by_cases a4 : 4096 < c
    · exact .inl ⟨decide_eq_false a3, decide_eq_true a4, no⟩
    refine .inr ?_
    by_cases a5 : t < -4096
    · exact .inl ⟨decide_eq_false a3, decide_eq_false a4, decide_eq_true a5, no⟩
    refine .inr ?_
    by_cases a6 : 4096 < t
    · exact .inl ⟨decide_eq_false a3, decide_eq_false a4, decide_eq_false a5, decide_eq_true a6, no⟩
    exact .inr (.inr (.inl ⟨decide_eq_false a3, decide_eq_false a4, decide_eq_false a5, decide_eq_false a6, d1, d2, no⟩))
  · obtain ⟨d1, d2, d3, no⟩ := q
    exact .inl ⟨d3, no⟩
  · obtain ⟨d1, d2, d3, d4, no⟩ := q
    exact .inr (.inl ⟨d3, d4, no⟩)
  · obtain ⟨d1, d2, d3, d4, d5, no⟩ := q
    exact .inr (.inr (.inl ⟨d3, d4, d5, no⟩))
  · obtain ⟨d1, d2, d3, d4, d5, d6, no⟩ := q
    exact .inr (.inr (.inr (.inl ⟨d3, d4, d5, d6, no⟩)))
  · exact .inr (.inr (.inr (.inr (.inr (.inr (.inl q))))))
  · exact .inr (.inr (.inr (.inr (.inr (.inr (.inr (.inl q)))))))
  · exact .inr (.inr (.inr (.inr (.inr (.inr (.inr (.inr q)))))))
theorem turned_le (r s : Nat) (D S : Nat → Int) (o n : Int) (T : PV) : (turnedV r s D S o n T).r ≤ T.r ∧ (turnedV r s D S o n T).s ≤ T.s := by
  unfold turnedV PV.orZero
  split
  · split
    · exact ⟨Nat.le_refl _, Nat.le_refl _⟩
    · exact ⟨Nat.zero_le _, Nat.zero_le _⟩
  · exact ⟨Nat.zero_le _, Nat.zero_le _⟩
end Vo
end Go.Proofs.Ytejfodkobfdelaa

/- push: an axis behind all others. -/
namespace Go.Proofs.Ytejfodkobfdelaa
namespace Vo
open Go.ChangeShapes Go.WideShapes Go.ChangeAt Go.RowKit Go.Joins
open Vl Vp Vr
set_option linter.unusedVariables false
set_option linter.unusedSimpArgs false

/-- a row of one's own under a store into itself -/
theorem RowV.set {B : Nat} {w : World} {v : Value} {r : Nat} {D : Nat → Int} (h : RowV B w v r D) {g : Nat} (hg : v.ownBlock = some g) (k : Nat) (hk : k < r) (u : Int) (hu : bd u) : RowV B (w.setCell ⟨g, k, none⟩ (.int .i64 u)) v r (upd D k u) := by
  obtain ⟨⟨h1, h2⟩, hb⟩ := h
  refine ⟨⟨by simp [ints], ?_⟩, fun j hj => ?_⟩
  · rcases h2 with ⟨rfl, rfl⟩ | ⟨g', cap, cur, rfl, hg', hh, hc1, hc2, hc3, hc4⟩
    · omega
    · have e : g' = g := by simpa [Value.ownBlock] using hg
      subst e
      refine .inr ⟨g', cap, cur.setIfInBounds k (.int .i64 u), rfl, hg', ?_, hc1, hc2, by simpa using hc3, ?_⟩
      · have hlt := lt_of_block hh
        have h' : w.heap[g'] = .cells cur 3 (0, 0) := by simpa [Array.getElem?_eq_getElem hlt] using hh
        show (w.heap.modify g' _)[g']? = _
        rw [Array.getElem?_eq_getElem (by simpa using hlt), Array.getElem_modify_self, h']
        simp
      · have e : ints r (upd D k u) = (ints r D).set k (.int .i64 u) := by
          refine List.ext_getElem? fun j => ?_
          by_cases hj : j < r
          · rw [ints_get r _ j hj, List.getElem?_set]
            by_cases hjk : k = j
            · subst hjk
              rw [if_pos rfl, if_pos (by rw [ints_len]; exact hj)]
              unfold upd; rw [if_pos rfl]
            · rw [if_neg hjk, ints_get r _ j hj]
              unfold upd; rw [if_neg (fun q => hjk q.symm)]
          · rw [List.getElem?_eq_none (by rw [ints_len]; omega), List.getElem?_eq_none (by rw [List.length_set, ints_len]; omega)]
        rw [e, ← hc4, Array.toList_setIfInBounds, Nat.mul_one, List.take_set]
  · unfold upd
    split
    · exact hu
    · exact hb j hj
theorem own_some {w : World} {B : Nat} {t : TypeId} {v : Value} {r : Nat} {xs : List Value} (h : w.ownsRow B t 1 v (r + 1) xs) : ∃ g c, v = .slice (some ⟨g, 0, none⟩) (r + 1) c := by
  obtain ⟨_, ⟨_, h0⟩ | ⟨g, cap, cur, e, _⟩⟩ := h
  · omega
  · exact ⟨g, cap, e⟩
/-- a list with one more behind -/
theorem ints_snoc (r : Nat) (D : Nat → Int) (x : Int) : ints r D ++ [.int .i64 x] = ints (r + 1) (upd D r x) := by
  rw [← ints_succ]
  have e : ints r D = ints r (upd D r x) := by
    unfold ints
    refine List.map_congr_left fun t ht => ?_
    rw [List.mem_range] at ht
    unfold upd; rw [if_neg (by omega)]
  rw [← e, show upd D r x r = x from upd_at D r x]
theorem bd_snoc {r : Nat} {D : Nat → Int} {x : Int} (h : ∀ j, j < r → bd (D j)) (hx : bd x) : ∀ j, j < r + 1 → bd (upd D r x j) := by
  intro j hj
  unfold upd
  split
  · exact hx
  · exact h j (by omega)
/-- a view in its variable whose two lists are rows of one's own -/
structure PB (B : Nat) (P : Nat) (va vb : Value) (r s : Nat) (D S : Nat → Int) (o n : Int) (X : World) : Prop where
  box : Box X P va vb (.int .i64 o) (.int .i64 n)
  free : Free X P
  ra : RowV B X va r D
  rb : RowV B X vb s S
  ne : ∀ k, va.ownBlock = some k → vb.ownBlock = some k → False
  np : ∀ k, OB va vb k → k ≠ P
  lt : P < X.heap.size
  hB : B ≤ X.heap.size
/-- what push leaves -/
def PushR (B P : Nat) (va vb : Value) (r s : Nat) (D S : Nat → Int) (o n x y : Int) (w w' : World) : Prop :=
  ∃ va' vb', PB B P va' vb' (r + 1) (s + 1) (upd D r x) (upd S s y) o n w' ∧ Kept (fun k => k = P ∨ OB va vb k) w w' ∧ ∀ k, OB va' vb' k → OB va vb k ∨ w.heap.size ≤ k
theorem box_set0 {w : World} {p : Nat} {v0 v1 v2 v3 : Value} (h : Box w p v0 v1 v2 v3) (u : Value) : Box (w.setCell ⟨p, 0, none⟩ u) p u v1 v2 v3 := by
  obtain ⟨a, b, c, d⟩ := h
  refine ⟨World.cell?_setCell_same _ _ _ a, ?_, ?_, ?_⟩
  · rw [World.cell?_setCell_other _ _ _ _ (by intro e; cases e)]; exact b
  · rw [World.cell?_setCell_other _ _ _ _ (by intro e; cases e)]; exact c
  · rw [World.cell?_setCell_other _ _ _ _ (by intro e; cases e)]; exact d
/-- one list of a view that grows -/
theorem grow_one {B P : Nat} {v v' : Value} {r : Nat} {D : Nat → Int} {x : Int} {w w1 : World} (c : Nat) (hr : RowV B w v r D) (hx : bd x) (hP : P < w.heap.size) (hnp : ¬ v.ownBlock = some P) (hown : w1.ownsRow B 3 1 v' (r + 1) (ints r D ++ [.int .i64 x]))
    (hg : (w.alloc (.cells #[.int .i64 x] 3)).grownBy w1 v.ownBlock) (hat : v'.ownBlock = v.ownBlock ∨ v'.ownBlock = some (w.alloc (.cells #[.int .i64 x] 3)).heap.size) (u : Value) :
    RowV B (w1.setCell ⟨P, c, none⟩ u) v' (r + 1) (upd D r x) ∧ Kept (fun k => k = P ∨ v.ownBlock = some k) w (w1.setCell ⟨P, c, none⟩ u) ∧ (∀ k, v'.ownBlock = some k → v.ownBlock = some k ∨ w.heap.size ≤ k) := by
  have K1 : Kept (fun k => v.ownBlock = some k) w w1 := (Kept.of_below ((Below.refl _ w).alloc (Nat.le_refl _) _)).trans ⟨hg.os, hg.tape, hg.output, hg.size, fun j hj hn => hg.block j hj (fun e => hn e.symm)⟩
  have hw : ∀ k, v'.ownBlock = some k → v.ownBlock = some k ∨ w.heap.size ≤ k := by
    intro k q
    rcases hat with e | e
    · exact .inl (e ▸ q)
    · rw [q] at e
      injection e with e
      simp at e
      exact .inr (by omega)
  refine ⟨⟨?_, bd_snoc hr.2 hx⟩, ?_, hw⟩
  · rw [← ints_snoc]
    refine ownsRow_setCell_other hown ?_ _
    intro q
    rcases hw P q with q | q
    · exact hnp q
    · omega
  · exact Kept.then (K1.mono (fun k _ q => .inr q)) (Kept.setCell w1 ⟨P, c, none⟩ u) (fun i e => .inr (.inl e))
set_option maxRecDepth 100000 in
set_option maxHeartbeats 1000000 in
theorem push (B P : Nat) (va vb : Value) (r s : Nat) (D S : Nat → Int) (o n x y : Int) (w : World) (h : PB B P va vb r s D S o n w) (hr : (r : Int) ≤ 1048576) (hs : (s : Int) ≤ 1048576) (hx : bd x) (hy : bd y) :
    Calls Try.prog 94 #[.pointer (some ⟨P, 0, none⟩), .int .i64 x, .int .i64 y] w fun e w' => (∃ v, e = .returned v) ∧ PushR B P va vb r s D S o n x y w w' := by
  obtain ⟨i0, hi0, hz0, hz1, hz2⟩ := info_parts infoInt
  have H := hide h
  have LT := hide h.lt
  obtain ⟨x0, x1, x2, x3⟩ := h.box
  have ff := h.free
  have OA := hide (h.ra.1.alloc (.cells #[.int .i64 x] 3))
  have HN := hide (World.news_of_block (cs := #[.int .i64 x]) (t := 3) (fr := (0, 0)) (heap_alloc_new w _))
  have hb0 := h.hB
  obtain ⟨aa, ac, rfl, _⟩ := h.ra.own
  obtain ⟨ab, ad, rfl, _⟩ := h.rb.own
  unfold Free at ff
  have KW := hide (fun (w1 : World) (q : (w.alloc (.cells #[.int .i64 x] 3)).grownBy w1 (Value.slice aa r ac).ownBlock) => show Kept (fun k => (Value.slice aa r ac).ownBlock = some k) w w1 from (Kept.of_below ((Below.refl _ w).alloc (Nat.le_refl _) _)).trans ⟨q.os, q.tape, q.output, q.size, fun j hj hn => q.block j hj (fun e => hn e.symm)⟩)
  have NP1 := hide (show ¬ (Value.slice aa r ac).ownBlock = some P from fun q => H.out.np P (.inl q) rfl)
  have NP2 := hide (show ¬ (Value.slice ab s ad).ownBlock = some P from fun q => H.out.np P (.inr q) rfl)
  clear h
  go_enter Try.func94, Try.ntmps94
  go_step
  go_step
  go_cut [] (fun wx => ∃ g1 c1, Box wx P (.slice (some ⟨g1, 0, none⟩) (r + 1) c1) (.slice ab s ad) (.int .i64 o) (.int .i64 n) ∧ Free wx P ∧ RowV B wx (.slice (some ⟨g1, 0, none⟩) (r + 1) c1) (r + 1) (upd D r x) ∧ Kept (fun k => k = P ∨ (Value.slice aa r ac).ownBlock = some k) w wx ∧ ((Value.slice aa r ac).ownBlock = some g1 ∨ w.heap.size ≤ g1))
  case first =>
    go_wp2_with (at_builtin; refine wpList_append_own_at _ rfl _ _ 22 rfl B 3 i0 (.int .i64 0) 1 8 Try.underlying22 hi0 hz0 hz1 hz2 rfl (by decide) _ _ _ rfl OA.out ⟨w.heap.size, 0, none⟩ 1 1 [.int .i64 x] rfl rfl HN.out (by simp [Value.oneCell']) (by unfold maxLen; omega) (by omega) (by simp; omega) ?_; intro v' w1 hown1 hgrow1 _ hat1; obtain ⟨g1, c1, rfl⟩ := own_some hown1; have K1 := KW.out w1 hgrow1; have cP := fun i => World.cell?_of_block (w := w) (a := ⟨P, i, none⟩) (K1.block P LT.out NP1.out); have fP := fun i => World.frozen?_of_block (w := w) (a := ⟨P, i, none⟩) (K1.block P LT.out NP1.out))
    go_meet
    obtain ⟨q1, q2, q3⟩ := grow_one 0 H.out.ra hx LT.out NP1.out hown1 hgrow1 hat1 (.slice (some ⟨g1, 0, none⟩) (r + 1) c1)
    have bx := H.out.box.kept K1 LT.out NP1.out
    exact ⟨g1, c1, box_set0 bx _, (H.out.free.kept K1 LT.out NP1.out).set _ _, q1, q2, q3 g1 rfl⟩
  case rest =>
    obtain ⟨g1, c1, bx, fr, ra, kp, hat⟩ := hcut
    have rb0 : RowV B wc (.slice ab s ad) s S := H.out.rb.kept kp (fun k q => by
      rintro (e | e)
      · exact NP2.out (e ▸ q)
      · exact H.out.ne k e q)
    have LT2 := hide (Nat.lt_of_lt_of_le LT.out kp.size)
    have RA := hide ra
    have RB := hide rb0
    have FR := hide fr
    have BX := hide bx
    have KP := hide kp
    have OA2 := hide (rb0.1.alloc (.cells #[.int .i64 y] 3))
    have HN2 := hide (World.news_of_block (cs := #[.int .i64 y]) (t := 3) (fr := (0, 0)) (heap_alloc_new wc _))
    have KW2 := hide (fun (w1 : World) (q : (wc.alloc (.cells #[.int .i64 y] 3)).grownBy w1 (Value.slice ab s ad).ownBlock) => show Kept (fun k => (Value.slice ab s ad).ownBlock = some k) wc w1 from (Kept.of_below ((Below.refl _ wc).alloc (Nat.le_refl _) _)).trans ⟨q.os, q.tape, q.output, q.size, fun j hj hn => q.block j hj (fun e => hn e.symm)⟩)
    have hb2 : B ≤ wc.heap.size := Nat.le_trans hb0 kp.size
    clear x0 x1 x2 x3 ff KW OA HN ra rb0 kp
    obtain ⟨x0, x1, x2, x3⟩ := bx
    unfold Free at fr
    go_wp2_with (at_builtin; refine wpList_append_own_at _ rfl _ _ 22 rfl B 3 i0 (.int .i64 0) 1 8 Try.underlying22 hi0 hz0 hz1 hz2 rfl (by decide) _ _ _ rfl OA2.out ⟨wc.heap.size, 0, none⟩ 1 1 [.int .i64 y] rfl rfl HN2.out (by simp [Value.oneCell']) (by unfold maxLen; omega) (by omega) (by simp; omega) ?_; intro v' w1 hown1 hgrow1 _ hat1; obtain ⟨g2, c2, rfl⟩ := own_some hown1; have K1 := KW2.out w1 hgrow1; have cP := fun i => World.cell?_of_block (w := wc) (a := ⟨P, i, none⟩) (K1.block P LT2.out NP2.out); have fP := fun i => World.frozen?_of_block (w := wc) (a := ⟨P, i, none⟩) (K1.block P LT2.out NP2.out))
    refine bodyPost_end (results_none rfl _ _ _) rfl ⟨⟨_, rfl⟩, ?_⟩
    obtain ⟨q1, q2, q3⟩ := grow_one 1 RB.out hy LT2.out NP2.out hown1 hgrow1 hat1 (.slice (some ⟨g2, 0, none⟩) (s + 1) c2)
    have bx := BX.out.kept K1 LT2.out NP2.out
    have e1 := RA.out.lt (k := g1) rfl
    have sc := KP.out.size
    have n12 : ¬ (Value.slice ab s ad).ownBlock = some g1 := by
      intro q
      rcases hat with e | e
      · exact H.out.ne g1 e q
      · have := (H.out.rb.lt q).2; omega
    have nP1 : g1 ≠ P := by
      rintro rfl
      rcases hat with e | e
      · exact NP1.out e
      · have := LT.out; omega
    refine ⟨_, _, ⟨box_set1 bx _, (FR.out.kept K1 LT2.out NP2.out).set _ _, RA.out.kept q2 (fun k q => ?_), q1, ?_, ?_, ?_, ?_⟩, ?_, ?_⟩
    · have q : g1 = k := by simpa [Value.ownBlock] using q
      subst q
      rintro (e | e)
      · exact nP1 e
      · exact n12 e
    · intro k a b
      have a : g1 = k := by simpa [Value.ownBlock] using a
      subst a
      rcases q3 _ b with e | e
      · exact n12 e
      · omega
    · rintro k (a | a)
      · have a : g1 = k := by simpa [Value.ownBlock] using a
        subst a
        exact nP1
      · rcases q3 _ a with e | e
        · exact fun z => NP2.out (z ▸ e)
        · have := LT2.out; omega
    · exact Nat.lt_of_lt_of_le LT2.out q2.size
    · exact Nat.le_trans hb2 q2.size
    · refine Kept.then (KP.out.mono (fun k _ q => ?_)) (q2.mono (T := fun k => k = P ∨ (Value.slice ab s ad).ownBlock = some k) (fun k _ q => q)) (fun i e => ?_)
      · rcases q with q | q
        · exact .inl q
        · exact .inr (.inl q)
      · rcases e with e | e
        · exact .inr (.inl e)
        · exact .inr (.inr (.inr e))
    · rintro k (a | a)
      · have a : g1 = k := by simpa [Value.ownBlock] using a
        subst a
        rcases hat with e | e
        · exact .inl (.inl e)
        · exact .inr e
      · rcases q3 _ a with e | e
        · exact .inl (.inr e)
        · exact .inr (by omega)
end Vo
end Go.Proofs.Ytejfodkobfdelaa
