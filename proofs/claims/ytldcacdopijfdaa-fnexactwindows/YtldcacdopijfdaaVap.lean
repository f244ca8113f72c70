/- Slice of the model. -/
import Derived.Test.YtldcacdopijfdaaVao
import Derived.Test.YtldcacdopijfdaaVam
namespace Go.Proofs.Ytldcacdopijfdaa
namespace Vo
open Go.ChangeShapes Go.WideShapes Go.ChangeAt Go.RowKit Go.Joins
open Vl Vp Vr
set_option linter.unusedVariables false
set_option linter.unusedSimpArgs false

theorem zero_orZero : PV.zero.orZero = PV.zero := by
  unfold PV.orZero
  split <;> rfl
theorem turnedV_zero {r s : Nat} {D S : Nat → Int} {o n : Int} {T : PV} (h : T = PV.zero) : turnedV r s D S o n T = PV.zero := by
  subst h
  unfold turnedV
  rw [zero_orZero]
  split <;> rfl
theorem turnedV_no {r s : Nat} {D S : Nat → Int} {o n x : Int} {T : PV} (h : axOk r s D S o n x = false) (ht : ¬ (0 ≤ x ∧ x < r) → T = PV.zero) : turnedV r s D S o n T = PV.zero := by
  by_cases q : 0 ≤ x ∧ x < r
  · unfold turnedV
    unfold axOk at h
    rw [decide_eq_true q, Bool.and_true] at h
    rw [h]; rfl
  · exact turnedV_zero (ht q)
/-- the model's view under way -/
structure MS (w : World) (P g h r ac ad : Nat) (D S : Nat → Int) (o n : Int) (X : World) : Prop where
  box : Box X P (.slice (some ⟨g, 0, none⟩) r ac) (.slice (some ⟨h, 0, none⟩) r ad) (.int .i64 o) (.int .i64 n)
  free : Free X P
  rbox : Box X (w.heap.size + 1) (.slice none 0 0) (.slice none 0 0) (.int .i64 0) (.int .i64 0)
  rfree : Free X (w.heap.size + 1)
  ra : Rw X g r D
  rb : Rw X h r S
  l1 : w.heap.size + 1 < P
  l2 : w.heap.size + 1 < g
  l3 : w.heap.size + 1 < h
  n1 : P ≠ g
  n2 : P ≠ h
  n3 : g ≠ h
  sz : w.heap.size + 1 < X.heap.size
  below : Below w.heap.size w X
theorem MS.drewN {w : World} {P g h r ac ad : Nat} {D S : Nat → Int} {o n : Int} {X : World} (q : MS w P g h r ac ad D S o n X) (k : Nat) : MS w P g h r ac ad D S o n (X.drewN k) :=
  ⟨q.box, q.free, q.rbox, q.rfree, q.ra, q.rb, q.l1, q.l2, q.l3, q.n1, q.n2, q.n3, q.sz, below_drewN q.below k⟩
theorem MS.setO {w : World} {P g h r ac ad : Nat} {D S : Nat → Int} {o n : Int} {X : World} (q : MS w P g h r ac ad D S o n X) (u : Int) : MS w P g h r ac ad D S u n (X.setCell ⟨P, 2, none⟩ (.int .i64 u)) :=
  ⟨box_set2 q.box _, q.free.set _ _, q.rbox.set _ _ (by have := q.l1; show w.heap.size + 1 ≠ P; omega), q.rfree.set _ _, Rw.other q.ra (by have := q.n1; show g ≠ P; omega), Rw.other q.rb (by have := q.n2; show h ≠ P; omega), q.l1, q.l2, q.l3, q.n1, q.n2, q.n3, by simp [World.setCell]; exact q.sz, q.below.setCell (by have := q.l1; show w.heap.size ≤ P; omega) _⟩
theorem MS.setA {w : World} {P g h r ac ad : Nat} {D S : Nat → Int} {o n : Int} {X : World} (q : MS w P g h r ac ad D S o n X) (k : Nat) (u : Int) (hu : bd u) : MS w P g h r ac ad (upd D k u) S o n (X.setCell ⟨g, k, none⟩ (.int .i64 u)) :=
  ⟨q.box.set _ _ (by exact q.n1), q.free.set _ _, q.rbox.set _ _ (by have := q.l2; show w.heap.size + 1 ≠ g; omega), q.rfree.set _ _, q.ra.set k u hu, Rw.other q.rb (by have := q.n3; show h ≠ g; omega), q.l1, q.l2, q.l3, q.n1, q.n2, q.n3, by simp [World.setCell]; exact q.sz, q.below.setCell (by have := q.l2; show w.heap.size ≤ g; omega) _⟩
theorem MS.setB {w : World} {P g h r ac ad : Nat} {D S : Nat → Int} {o n : Int} {X : World} (q : MS w P g h r ac ad D S o n X) (k : Nat) (u : Int) (hu : bd u) : MS w P g h r ac ad D (upd S k u) o n (X.setCell ⟨h, k, none⟩ (.int .i64 u)) :=
  ⟨q.box.set _ _ (by exact q.n2), q.free.set _ _, q.rbox.set _ _ (by have := q.l3; show w.heap.size + 1 ≠ h; omega), q.rfree.set _ _, Rw.other q.ra (by exact q.n3), q.rb.set k u hu, q.l1, q.l2, q.l3, q.n1, q.n2, q.n3, by simp [World.setCell]; exact q.sz, q.below.setCell (by have := q.l3; show w.heap.size ≤ h; omega) _⟩
theorem MS.own {w : World} {P g h r ac ad : Nat} {D S : Nat → Int} {o n : Int} {X : World} (q : MS w P g h r ac ad D S o n X) : VOwn w.heap.size X (some ⟨g, 0, none⟩) (some ⟨h, 0, none⟩) r r D S :=
  vown_of q.ra q.rb (by have := q.l2; omega) (by have := q.l3; omega) q.n3
theorem upd_upd (D : Nat → Int) (k : Nat) (a b : Int) : upd (upd D k a) k b = upd D k b := by
  funext j
  unfold upd
  split <;> rfl
theorem upd_at (D : Nat → Int) (k : Nat) (a : Int) : upd D k a k = a := by unfold upd; simp
/-- which way the tests go, in the model's order -/
theorem slice_ways' {r : Nat} {D : Nat → Int} {k : Nat} {f c t L : Int} (hk : k < r) (hL : f + (c - 1) * t = L) :
    (decide (c < 1) = true ∧ ¬ sliceOk r D k f c t) ∨ (decide (c < 1) = false ∧ decide (4096 < c) = true ∧ ¬ sliceOk r D k f c t) ∨
    (decide (c < 1) = false ∧ decide (4096 < c) = false ∧ decide (t < -4096) = true ∧ ¬ sliceOk r D k f c t) ∨ (decide (c < 1) = false ∧ decide (4096 < c) = false ∧ decide (t < -4096) = false ∧ decide (4096 < t) = true ∧ ¬ sliceOk r D k f c t) ∨
    (decide (c < 1) = false ∧ decide (4096 < c) = false ∧ decide (t < -4096) = false ∧ decide (4096 < t) = false ∧ decide (f < 0) = true ∧ ¬ sliceOk r D k f c t) ∨ (decide (c < 1) = false ∧ decide (4096 < c) = false ∧ decide (t < -4096) = false ∧ decide (4096 < t) = false ∧ decide (f < 0) = false ∧ decide (D k ≤ f) = true ∧ ¬ sliceOk r D k f c t) ∨
    (decide (f < 0) = false ∧ decide (D k ≤ f) = false ∧ decide (c < 1) = false ∧ decide (4096 < c) = false ∧ decide (t < -4096) = false ∧ decide (4096 < t) = false ∧ decide (L < 0) = true ∧ ¬ sliceOk r D k f c t) ∨ (decide (f < 0) = false ∧ decide (D k ≤ f) = false ∧ decide (c < 1) = false ∧ decide (4096 < c) = false ∧ decide (t < -4096) = false ∧ decide (4096 < t) = false ∧ decide (L < 0) = false ∧ decide (D k ≤ L) = true ∧ ¬ sliceOk r D k f c t) ∨
    (decide (f < 0) = false ∧ decide (D k ≤ f) = false ∧ decide (c < 1) = false ∧ decide (4096 < c) = false ∧ decide (t < -4096) = false ∧ decide (4096 < t) = false ∧ decide (L < 0) = false ∧ decide (D k ≤ L) = false ∧ sliceOk r D k f c t) := by
  rcases slice_ways (D := D) hk hL with q | q | q | q | q | q | q | q | q
  · obtain ⟨d1, no⟩ := q
    by_cases a3 : c < 1
    · exact .inl ⟨decide_eq_true a3, no⟩
    refine .inr ?_
    by_cases a4 : 4096 < c
    · exact .inl ⟨decide_eq_false a3, decide_eq_true a4, no⟩
    refine .inr ?_
    by_cases a5 : t < -4096
    · exact .inl ⟨decide_eq_false a3, decide_eq_false a4, decide_eq_true a5, no⟩
    refine .inr ?_
    by_cases a6 : 4096 < t
    · exact .inl ⟨decide_eq_false a3, decide_eq_false a4, decide_eq_false a5, decide_eq_true a6, no⟩
    exact .inr (.inl ⟨decide_eq_false a3, decide_eq_false a4, decide_eq_false a5, decide_eq_false a6, d1, no⟩)
  · obtain ⟨d1, d2, no⟩ := q
    by_cases a3 : c < 1
    · exact .inl ⟨decide_eq_true a3, no⟩
    refine .inr ?_
    by_cases a4 : 4096 < c
    · exact .inl ⟨decide_eq_false a3, decide_eq_true a4, no⟩
    refine .inr ?_
    by_cases a5 : t < -4096
    · exact .inl ⟨decide_eq_false a3, decide_eq_false a4, decide_eq_true a5, no⟩
    refine .inr ?_
    by_cases a6 : 4096 < t
    · exact .inl ⟨decide_eq_false a3, decide_eq_false a4, decide_eq_false a5, decide_eq_true a6, no⟩
    exact .inr (.inr (.inl ⟨decide_eq_false a3, decide_eq_false a4, decide_eq_false a5, decide_eq_false a6, d1, d2, no⟩))
  · obtain ⟨d1, d2, d3, no⟩ := q
    exact .inl ⟨d3, no⟩
  · obtain ⟨d1, d2, d3, d4, no⟩ := q
    exact .inr (.inl ⟨d3, d4, no⟩)
  · obtain ⟨d1, d2, d3, d4, d5, no⟩ := q
    exact .inr (.inr (.inl ⟨d3, d4, d5, no⟩))
  · obtain ⟨d1, d2, d3, d4, d5, d6, no⟩ := q
    exact .inr (.inr (.inr (.inl ⟨d3, d4, d5, d6, no⟩)))
  · exact .inr (.inr (.inr (.inr (.inr (.inr (.inl q))))))
  · exact .inr (.inr (.inr (.inr (.inr (.inr (.inr (.inl q)))))))
  · exact .inr (.inr (.inr (.inr (.inr (.inr (.inr (.inr q)))))))
set_option maxRecDepth 100000 in
set_option maxHeartbeats 4000000 in
theorem specSlice (B : Nat) (a b : Option Addr) (r s cap dap : Nat) (D S : Nat → Int) (o n x f c t : Int) (w : World) (hB : B ≤ w.heap.size) (h : Ints B w a r D) (h' : Ints B w b s S) (hr : (r : Int) ≤ 1048576) (hs : (s : Int) ≤ 1048576) (hb : bd x ∧ bd f ∧ bd c ∧ bd t) :
    Calls Try.prog 18 #[.agg #[.slice a r cap, .slice b s dap, .int .i64 o, .int .i64 n], .int .i64 x, .int .i64 f, .int .i64 c, .int .i64 t] w fun e w' => ViewR w.heap.size (turnedV r s D S o n (sliceV r s D S o n x f c t)) w e w' := by
  have BL := hide (show Below w.heap.size w ((w.alloc (.cells #[.slice a r cap, .slice b s dap, .int .i64 o, .int .i64 n] 24)).alloc (.cells #[.slice none 0 0, .slice none 0 0, .int .i64 0, .int .i64 0] 24)) from ((Below.refl _ _).alloc (Nat.le_refl _) _).alloc (by simp) _)
  have N0 := hide ((box_new w (.slice a r cap) (.slice b s dap) (.int .i64 o) (.int .i64 n) 24).below ((Below.refl (w.heap.size + 1) _).alloc (by simp) (.cells #[.slice none 0 0, .slice none 0 0, .int .i64 0, .int .i64 0] 24)) (by omega))
  have m0 := box_new (w.alloc (.cells #[.slice a r cap, .slice b s dap, .int .i64 o, .int .i64 n] 24)) (.slice none 0 0) (.slice none 0 0) (.int .i64 0) (.int .i64 0) 24
  have g0 := free_new (w.alloc (.cells #[.slice a r cap, .slice b s dap, .int .i64 o, .int .i64 n] 24)) #[.slice none 0 0, .slice none 0 0, .int .i64 0, .int .i64 0] 24
  rw [World.size_alloc] at m0 g0
  have M0 := hide m0
  have G0 := hide g0
  have H := hide h
  have H' := hide h'
  have HBD := hide hb
  clear h h' m0 g0 hb
  go_enter Try.func18, Try.ntmps18
  go_wp2_with fail
  refine (l3Axis B a b r s cap dap D S o n x _ (by simp; omega) (H.out.below (BL.out.mono hB)) (H'.out.below (BL.out.mono hB)) hr hs).mono ?_
  rintro e w1 ⟨rfl, b1⟩
  have B1 := hide (BL.out.trans (b1.mono (by simp; omega)))
  have z1 : w.heap.size + 1 < w1.heap.size := by have := b1.size; simp at this; omega
  have N1 := hide (N0.out.below b1 (by simp; omega))
  have M1 := hide (M0.out.below b1 (by simp))
  have G1 := hide (G0.out.below b1 (by simp))
  obtain ⟨x0, x1, x2, x3⟩ := N1.out
  obtain ⟨y0, y1, y2, y3⟩ := M1.out
  have gg := G1.out
  unfold Free at gg
  clear b1
  cases hax : axOk r s D S o n x with
  | false =>
    have ez := hide (turnedV_no (T := sliceV r s D S o n x f c t) hax (fun q => sliceV_no (fun q' => q ⟨q'.1, q'.2.1⟩)))
    clear hax
    go_wp2_with fail
    refine bodyPost_ret (v := .agg #[.slice none 0 0, .slice none 0 0, .int .i64 0, .int .i64 0]) (by simp [results, Try.results18, go_sem, y0, y1, y2, y3]) rfl (by
      rw [ez.out]
      refine viewR_zero ?_
      repeat (refine Below.setCell ?_ (by simp) _)
      exact B1.out)
  | true =>
  unfold axOk at hax
  rw [Bool.and_eq_true, decide_eq_true_eq] at hax
  obtain ⟨hv, hx⟩ := hax
  have HV := hide (vok_iff.1 hv)
  have et := hide (show turnedV r s D S o n (sliceV r s D S o n x f c t) = (sliceV r s D S o n x f c t).orZero by unfold turnedV; rw [hv]; rfl)
  obtain ⟨k, rfl⟩ : ∃ k : Nat, x = k := ⟨x.toNat, by omega⟩
  have hk : k < r := by omega
  have HK := hide hk
  have hkI : (k : Int) < r := by omega
  have k0 : (0 : Int) ≤ (k : Int) := by omega
  clear hx hv
  obtain ⟨e1, e2, v1, v2, v3, v4, v5, _, _⟩ := HV.out
  subst e2
  have ld := HV.out.len hk
  have ls := v5 k hk
  clear e1 v5
  rcases H.out.below (B1.out.mono hB) with h0 | ⟨ga, oa, rfl, hga, rwa⟩
  · omega
  rcases H'.out.below (B1.out.mono hB) with h0 | ⟨gb, ob, rfl, hgb, rwb⟩
  · omega
  have ca := (rwa k hk).1
  have LD := hide ld
  have LS := hide ls
  have VV := hide (show 1 ≤ n ∧ n ≤ 4096 ∧ 0 ≤ o ∧ o < n from ⟨v1, v2, v3, v4⟩)
  clear rwa rwb ld ls v1 v2 v3 v4
  obtain ⟨L, hL⟩ : ∃ L, f + (c - 1) * t = L := ⟨_, rfl⟩
  have HL := hide hL
  rcases slice_ways' (D := D) hk hL with ⟨d1, no⟩ | ⟨d1, d2, no⟩ | ⟨d1, d2, d3, no⟩ | ⟨d1, d2, d3, d4, no⟩ | ⟨d1, d2, d3, d4, d5, no⟩ | ⟨d1, d2, d3, d4, d5, d6, no⟩ | ⟨d1, d2, d3, d4, d5, d6, d7, no⟩ | ⟨d1, d2, d3, d4, d5, d6, d7, d8, no⟩ | ⟨d1, d2, d3, d4, d5, d6, d7, d8, yes⟩
  rotate_right
  · obtain ⟨q1, q2, q3⟩ := slice_wraps HL.out LD.out.2 d1 d2 d3 d4 d5 d6
    have YES := hide yes
    obtain ⟨p, hp⟩ : ∃ p, f * S k = p := ⟨_, rfl⟩
    obtain ⟨m, hm⟩ : ∃ m, S k * t = m := ⟨_, rfl⟩
    have bb1 := mul_bd (a := f) (b := S k) (by simp at d1; omega) (by simp at d2; have := LD.out; omega) LS.out.1 LS.out.2
    have bb2 := mul_bd (a := S k) (b := t) LS.out.1 LS.out.2 (by simp at d5; omega) (by simp at d6; omega)
    rw [hp] at bb1
    rw [hm] at bb2
    have q4 : IntKind.i64.wrap (f * S k) = p := by rw [hp]; exact wrap_id (by omega) (by omega)
    have q5 : IntKind.i64.wrap (o + p) = o + p := wrap_id (by have := VV.out; omega) (by have := VV.out; omega)
    have q6 : IntKind.i64.wrap (S k * t) = m := by rw [hm]; exact wrap_id (by omega) (by omega)
    have BM := hide (show bd m from ⟨by omega, by omega⟩)
    have HP := hide hp
    have HM := hide hm
    clear hL hk yes hp hm bb1 bb2
    go_wp2_with fail
    refine (l3Copy B ⟨ga, oa, none⟩ ⟨gb, ob, none⟩ s s cap dap D S o n _ (Nat.le_trans hB B1.out.size) (H.out.below (B1.out.mono hB)) (H'.out.below (B1.out.mono hB)) hr hs).mono ?_
    rintro e w2 ⟨ta, tb, tc, td, rfl, hvo, b2⟩
    rcases hvo.d with h0 | ⟨gA, rfl, hg, rg⟩
    · have h0 : s = 0 := h0
      have := HK.out; omega
    rcases hvo.t with h0 | ⟨gB, rfl, hh, rh⟩
    · have h0 : s = 0 := h0
      have := HK.out; omega
    have hne : gA ≠ gB := fun e => by subst e; exact hvo.ne gA ⟨by have := HK.out; show s ≠ 0; omega, _, rfl, rfl⟩ ⟨by have := HK.out; show s ≠ 0; omega, _, rfl, rfl⟩
    have lg := rg.lt (by have := HK.out; show s ≠ 0; omega)
    have lh := rh.lt (by have := HK.out; show s ≠ 0; omega)
    have b3 : Below w2.heap.size w2 (w2.alloc (.cells #[.slice (some ⟨gA, 0, none⟩) s tc, .slice (some ⟨gB, 0, none⟩) s td, .int .i64 o, .int .i64 n] 24)) := (Below.refl _ _).alloc (Nat.le_refl _) _
    have s2 := b2.size
    have T0 := hide (show MS w w2.heap.size gA gB s tc td D S o n (w2.alloc (.cells #[.slice (some ⟨gA, 0, none⟩) s tc, .slice (some ⟨gB, 0, none⟩) s td, .int .i64 o, .int .i64 n] 24)) from
      ⟨box_new w2 _ _ _ _ _, free_new w2 _ _, (M1.out.below b2 z1).below b3 (by omega), (G1.out.below b2 z1).below b3 (by omega), rg.below b3 lg, rh.below b3 lh, by omega, by omega, by omega, by omega, by omega, hne, by rw [World.size_alloc]; omega, (B1.out.trans (b2.mono B1.out.size)).trans (b3.mono (by omega))⟩)
    clear hvo b2 b3 rg rh lg lh hg hh x0 x1 x2 x3 y0 y1 y2 y3 gg ca d1 d2 d3 d4 d5 d6 d7 d8 q1 q2 q3
    go_wp2_with fail
    refine abs_wp (fun X => MS w w2.heap.size gA gB s tc td D S o n X) T0.out ?_
    intro X hX
    obtain ⟨x0, x1, x2, x3⟩ := hX.box
    have ff := hX.free
    obtain ⟨ca, fa, _⟩ := hX.ra k HK.out
    obtain ⟨cb, fb, _⟩ := hX.rb k HK.out
    have T1 := hide hX
    have ca' : ∀ u, (X.setCell ⟨w2.heap.size, 2, none⟩ u).cell? ⟨gA, k, none⟩ = some (.int .i64 (D k)) := fun u => set_other (by have := T1.out.n1; show gA ≠ w2.heap.size; omega) ca
    unfold Free at ff
    clear hX T0
    go_region
    go_wp2_with fail
    refine abs_wp (fun X => MS w w2.heap.size gA gB s tc td (upd D k c) S (o + p) n X) (by exact ((T1.out.setO _).drewN 1).setA k c HBD.out.2.2.1) ?_
    clear x0 x1 x2 x3 ff ca fa ca' cb fb T1 X
    intro X hX
    obtain ⟨x0, x1, x2, x3⟩ := hX.box
    have ff := hX.free
    obtain ⟨cb, fb, _⟩ := hX.rb k HK.out
    have T1 := hide hX
    have hz' : ∀ (Y : World) u i, (Y.setCell ⟨gB, k, none⟩ u).cell? ⟨w2.heap.size, i, none⟩ = Y.cell? ⟨w2.heap.size, i, none⟩ := fun Y u i => World.cell?_of_block (Below.heap_setCell Y ⟨gB, k, none⟩ u w2.heap.size (by exact T1.out.n2))
    unfold Free at ff
    clear hX
    have e1 : sliceV s s D S o n (k : Int) f c t = ⟨s, s, upd D k c, upd S k (so c m), o + p, n⟩ := by
      rw [sliceV_yes YES.out, Int.toNat_natCast]
      unfold so
      rw [HP.out, HM.out]
    have E1 := hide e1
    clear e1
    by_cases c1 : c = 1
    · have c1' : (c == 1) = true := beq_iff_eq.2 c1
      have so1 := hide (show so c m = 0 by unfold so; rw [if_pos c1])
      clear c1
      go_region
      go_wp2_with fail
      have T2 := hide (show MS w w2.heap.size gA gB s tc td (upd D k c) (upd S k (so c m)) (o + p) n _ from (by rw [so1.out]; exact upd_upd S k m 0 ▸ (((T1.out.setB k m BM.out).drewN 1).setB k 0 ⟨by omega, by omega⟩)))
      refine (l3Or w.heap.size ⟨s, s, upd D k c, upd S k (so c m), o + p, n⟩ _ _ tc td _ T2.out.below.size T2.out.own hr hs).mono ?_
      rintro e w5 ⟨ua, ub, uc, ud, rfl, hvo, b5⟩
      have et2 := et.out
      rw [E1.out] at et2
      obtain ⟨T, hT⟩ : ∃ T, PV.orZero ⟨s, s, upd D k c, upd S k (so c m), o + p, n⟩ = T := ⟨_, rfl⟩
      rw [hT] at hvo et2 ⊢
      have M5 := hide (T2.out.rbox.below b5 T2.out.sz)
      have G5 := hide (T2.out.rfree.below b5 T2.out.sz)
      have B5 := hide (T2.out.below.trans (b5.mono T2.out.below.size))
      have z5 : w.heap.size + 1 < w5.heap.size := Nat.lt_of_lt_of_le T2.out.sz b5.size
      have VO := hide hvo
      have ET := hide et2
      have EK := hide E1.out
      clear hvo b5 et2 T2 T1 E1 hT x0 x1 x2 x3 ff cb fb hz'
      obtain ⟨y0, y1, y2, y3⟩ := M5.out
      have gg := G5.out
      unfold Free at gg
      go_wp2_with fail
      refine bodyPost_ret (v := .agg #[.slice ua T.r uc, .slice ub T.s ud, .int .i64 T.o, .int .i64 T.n]) (by simp [results, Try.results18, go_sem, y0, y1, y2, y3]) rfl ?_
      have k4 := kept_sets4 w5 (w.heap.size + 1) (.slice ua T.r uc) (.slice ub T.s ud) (.int .i64 T.o) (.int .i64 T.n)
      have ed := et.out
      rw [EK.out] at ed
      show ViewR w.heap.size (turnedV s s D S o n (sliceV s s D S o n (k : Int) f c t)) w _ _
      rw [EK.out, ET.out]
      exact ⟨ua, ub, uc, ud, rfl, VO.out.kept k4 (fun k q e => by have e : k = w.heap.size + 1 := e; subst e; exact VO.out.apart y0 _ q rfl), B5.out.trans (k4.below B5.out.size (fun j e => by have e : j = w.heap.size + 1 := e; omega))⟩
    · have c1' : (c == 1) = false := beq_eq_false_iff_ne.2 c1
      have so1 := hide (show so c m = m by unfold so; rw [if_neg c1])
      clear c1
      go_region
      go_wp2_with fail
      have T2 := hide (show MS w w2.heap.size gA gB s tc td (upd D k c) (upd S k (so c m)) (o + p) n _ from (by rw [so1.out]; exact ((T1.out.setB k m BM.out).drewN 1)))
      refine (l3Or w.heap.size ⟨s, s, upd D k c, upd S k (so c m), o + p, n⟩ _ _ tc td _ T2.out.below.size T2.out.own hr hs).mono ?_
      rintro e w5 ⟨ua, ub, uc, ud, rfl, hvo, b5⟩
      have et2 := et.out
      rw [E1.out] at et2
      obtain ⟨T, hT⟩ : ∃ T, PV.orZero ⟨s, s, upd D k c, upd S k (so c m), o + p, n⟩ = T := ⟨_, rfl⟩
      rw [hT] at hvo et2 ⊢
      have M5 := hide (T2.out.rbox.below b5 T2.out.sz)
      have G5 := hide (T2.out.rfree.below b5 T2.out.sz)
      have B5 := hide (T2.out.below.trans (b5.mono T2.out.below.size))
      have z5 : w.heap.size + 1 < w5.heap.size := Nat.lt_of_lt_of_le T2.out.sz b5.size
      have VO := hide hvo
      have ET := hide et2
      have EK := hide E1.out
      clear hvo b5 et2 T2 T1 E1 hT x0 x1 x2 x3 ff cb fb hz'
      obtain ⟨y0, y1, y2, y3⟩ := M5.out
      have gg := G5.out
      unfold Free at gg
      go_wp2_with fail
      refine bodyPost_ret (v := .agg #[.slice ua T.r uc, .slice ub T.s ud, .int .i64 T.o, .int .i64 T.n]) (by simp [results, Try.results18, go_sem, y0, y1, y2, y3]) rfl ?_
      have k4 := kept_sets4 w5 (w.heap.size + 1) (.slice ua T.r uc) (.slice ub T.s ud) (.int .i64 T.o) (.int .i64 T.n)
      have ed := et.out
      rw [EK.out] at ed
      show ViewR w.heap.size (turnedV s s D S o n (sliceV s s D S o n (k : Int) f c t)) w _ _
      rw [EK.out, ET.out]
      exact ⟨ua, ub, uc, ud, rfl, VO.out.kept k4 (fun k q e => by have e : k = w.heap.size + 1 := e; subst e; exact VO.out.apart y0 _ q rfl), B5.out.trans (k4.below B5.out.size (fun j e => by have e : j = w.heap.size + 1 := e; omega))⟩
  all_goals
    have ez := hide (turnedV_zero (r := s) (s := s) (D := D) (S := S) (o := o) (n := n) (sliceV_no (s := s) (S := S) (o := o) (n := n) no))
    clear no
  rotate_left 6
  · obtain ⟨q1, q2, q3⟩ := slice_wraps HL.out LD.out.2 d1 d2 d3 d4 d5 d6
    clear hL hk
    go_wp2_with fail
    refine bodyPost_ret (v := .agg #[.slice none 0 0, .slice none 0 0, .int .i64 0, .int .i64 0]) (by simp [results, Try.results18, go_sem, y0, y1, y2, y3]) rfl (by
      rw [ez.out]
      refine viewR_zero ?_
      repeat (refine Below.setCell ?_ (by simp) _)
      exact B1.out)
  · obtain ⟨q1, q2, q3⟩ := slice_wraps HL.out LD.out.2 d1 d2 d3 d4 d5 d6
    clear hL hk
    go_wp2_with fail
    refine bodyPost_ret (v := .agg #[.slice none 0 0, .slice none 0 0, .int .i64 0, .int .i64 0]) (by simp [results, Try.results18, go_sem, y0, y1, y2, y3]) rfl (by
      rw [ez.out]
      refine viewR_zero ?_
      repeat (refine Below.setCell ?_ (by simp) _)
      exact B1.out)
  all_goals
    clear hL hk
    go_wp2_with fail
    refine bodyPost_ret (v := .agg #[.slice none 0 0, .slice none 0 0, .int .i64 0, .int .i64 0]) (by simp [results, Try.results18, go_sem, y0, y1, y2, y3]) rfl (by
      rw [ez.out]
      refine viewR_zero ?_
      repeat (refine Below.setCell ?_ (by simp) _)
      exact B1.out)
theorem turned_le (r s : Nat) (D S : Nat → Int) (o n : Int) (T : PV) : (turnedV r s D S o n T).r ≤ T.r ∧ (turnedV r s D S o n T).s ≤ T.s := by
  unfold turnedV PV.orZero
  split
  · split
    · exact ⟨Nat.le_refl _, Nat.le_refl _⟩
    · exact ⟨Nat.zero_le _, Nat.zero_le _⟩
  · exact ⟨Nat.zero_le _, Nat.zero_le _⟩
theorem sliceFF (B : Nat) (a b : Addr) (r s cap dap : Nat) (D S : Nat → Int) (o n x f c t : Int) (w : World) (hB : B ≤ w.heap.size) (h : Ints B w (some a) r D) (h' : Ints B w (some b) s S) (hr : (r : Int) ≤ 1048576) (hs : (s : Int) ≤ 1048576) (hb : bd x ∧ bd f ∧ bd c ∧ bd t) :
    Calls Try.prog 20 #[.agg #[.slice (some a) r cap, .slice (some b) s dap, .int .i64 o, .int .i64 n], .int .i64 x, .int .i64 f, .int .i64 c, .int .i64 t] w fun e w' => ViewR w.heap.size (turnedV r s D S o n (sliceV r s D S o n x f c t)) w e w' :=
  sliceF B (some a) (some b) r s cap dap D S o n x f c t w hB h h' hr hs (fun e => by cases e) (fun e => by cases e) hb (fun C B ia ica va vb W h1 h2 h3 h4 h5 h6 => sliceTurn r s D S o n x f c t C B ia ica va vb W h1 h2 h3 h4 h5 h6)
end Vo
end Go.Proofs.Ytldcacdopijfdaa
