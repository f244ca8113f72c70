/- Lemmas for the proof of the law. -/
import Derived.Test.YtejfodkobfdelaaMgbb
/- The turn of Windows. -/
namespace Go.Proofs.Ytejfodkobfdelaa
namespace Vo
open Go.ChangeShapes Go.WideShapes Go.ChangeAt Go.RowKit Go.Joins
open Vl Vp Vr
set_option linter.unusedVariables false
set_option linter.unusedSimpArgs false

/-- a turn under way whose lists may grow: A, what of W it may write into -/
structure WS (W : World) (C P : Nat) (A : Nat → Prop) (va vb : Value) (r s : Nat) (D S : Nat → Int) (o n : Int) (X : World) : Prop where
  pb : PB C P va vb r s D S o n X
  rbox : Box X (W.heap.size + 1) (.slice none 0 0) (.slice none 0 0) (.int .i64 0) (.int .i64 0)
  rfree : Free X (W.heap.size + 1)
  nr : ∀ k, OB va vb k → k ≠ W.heap.size + 1
  lP : W.heap.size ≤ P
  nP : P ≠ W.heap.size + 1
  sz : W.heap.size + 1 < X.heap.size
  kept : Kept A W X
  wA : ∀ k, OB va vb k → A k ∨ W.heap.size ≤ k
theorem PB.drewN {B P : Nat} {va vb : Value} {r s : Nat} {D S : Nat → Int} {o n : Int} {X : World} (h : PB B P va vb r s D S o n X) (q : Nat) : PB B P va vb r s D S o n (X.drewN q) :=
  ⟨h.box, h.free, h.ra, h.rb, h.ne, h.np, h.lt, h.hB⟩
theorem WS.drewN {W : World} {C P : Nat} {A : Nat → Prop} {va vb : Value} {r s : Nat} {D S : Nat → Int} {o n : Int} {X : World} (h : WS W C P A va vb r s D S o n X) (q : Nat) : WS W C P A va vb r s D S o n (X.drewN q) :=
  ⟨h.pb.drewN q, h.rbox, h.rfree, h.nr, h.lP, h.nP, h.sz, ⟨h.kept.os, h.kept.tape, h.kept.output, h.kept.size, h.kept.block⟩, h.wA⟩
theorem size_set (X : World) (p : Addr) (u : Value) : (X.setCell p u).heap.size = X.heap.size := by simp [World.setCell]
theorem WS.setA {W : World} {C P : Nat} {A : Nat → Prop} {va vb : Value} {r s : Nat} {D S : Nat → Int} {o n : Int} {X : World} (h : WS W C P A va vb r s D S o n X) {g : Nat} (hg : va.ownBlock = some g) (k : Nat) (hk : k < r) (u : Int) (hu : bd u) : WS W C P A va vb r s (upd D k u) S o n (X.setCell ⟨g, k, none⟩ (.int .i64 u)) := by
  have K := Kept.setCell X ⟨g, k, none⟩ (.int .i64 u)
  have e := size_set X ⟨g, k, none⟩ (.int .i64 u)
  refine ⟨⟨h.pb.box.set _ _ (by exact fun q => h.pb.np g (.inl hg) q.symm), h.pb.free.set _ _, h.pb.ra.set hg k hk u hu, h.pb.rb.kept K (fun j q q' => ?_), h.pb.ne, h.pb.np, by rw [e]; exact h.pb.lt, by rw [e]; exact h.pb.hB⟩, h.rbox.set _ _ (by exact fun q => h.nr g (.inl hg) q.symm), h.rfree.set _ _, h.nr, h.lP, h.nP, by rw [e]; exact h.sz, Kept.then h.kept K (fun i q => ?_), h.wA⟩
  · have q' : j = g := q'
    subst q'
    exact h.pb.ne j hg q
  · have q : i = g := q
    subst q
    rcases h.wA i (.inl hg) with q | q
    · exact .inr q
    · exact .inl q
theorem WS.setB {W : World} {C P : Nat} {A : Nat → Prop} {va vb : Value} {r s : Nat} {D S : Nat → Int} {o n : Int} {X : World} (h : WS W C P A va vb r s D S o n X) {g : Nat} (hg : vb.ownBlock = some g) (k : Nat) (hk : k < s) (u : Int) (hu : bd u) : WS W C P A va vb r s D (upd S k u) o n (X.setCell ⟨g, k, none⟩ (.int .i64 u)) := by
  have K := Kept.setCell X ⟨g, k, none⟩ (.int .i64 u)
  have e := size_set X ⟨g, k, none⟩ (.int .i64 u)
  refine ⟨⟨h.pb.box.set _ _ (by exact fun q => h.pb.np g (.inr hg) q.symm), h.pb.free.set _ _, h.pb.ra.kept K (fun j q q' => ?_), h.pb.rb.set hg k hk u hu, h.pb.ne, h.pb.np, by rw [e]; exact h.pb.lt, by rw [e]; exact h.pb.hB⟩, h.rbox.set _ _ (by exact fun q => h.nr g (.inr hg) q.symm), h.rfree.set _ _, h.nr, h.lP, h.nP, by rw [e]; exact h.sz, Kept.then h.kept K (fun i q => ?_), h.wA⟩
  · have q' : j = g := q'
    subst q'
    exact h.pb.ne j q hg
  · have q : i = g := q
    subst q
    rcases h.wA i (.inr hg) with q | q
    · exact .inr q
    · exact .inl q
theorem WS.push {W : World} {C P : Nat} {A : Nat → Prop} {va vb : Value} {r s : Nat} {D S : Nat → Int} {o n x y : Int} {X X' : World} (h : WS W C P A va vb r s D S o n X) (hp : PushR C P va vb r s D S o n x y X X') : ∃ va' vb', WS W C P A va' vb' (r + 1) (s + 1) (upd D r x) (upd S s y) o n X' := by
  obtain ⟨va', vb', pb, K, hw⟩ := hp
  have sz := h.sz
  have nn : ¬ (W.heap.size + 1 = P ∨ OB va vb (W.heap.size + 1)) := by
    rintro (q | q)
    · exact h.nP q.symm
    · exact h.nr _ q rfl
  refine ⟨va', vb', pb, h.rbox.kept K sz nn, h.rfree.kept K sz nn, fun k q => ?_, h.lP, h.nP, Nat.lt_of_lt_of_le sz K.size, Kept.then h.kept K (fun i q => ?_), fun k q => ?_⟩
  · rcases hw k q with q | q
    · exact h.nr k q
    · omega
  · rcases q with q | q
    · exact .inl (by rw [q]; exact h.lP)
    · rcases h.wA i q with q | q
      · exact .inr q
      · exact .inl q
  · rcases hw k q with q | q
    · exact h.wA k q
    · exact .inr (by omega)
theorem WS.out {W : World} {C P : Nat} {va0 vb0 va vb : Value} {r s : Nat} {D S : Nat → Int} {o n : Int} {X : World} (h : WS W C P (OB va0 vb0) va vb r s D S o n X) : TurnR C ⟨r, s, D, S, o, n⟩ va0 vb0 W
    (.returned (.agg #[va, vb, .int .i64 o, .int .i64 n])) ((((X.setCell ⟨W.heap.size + 1, 0, none⟩ va).setCell ⟨W.heap.size + 1, 1, none⟩ vb).setCell ⟨W.heap.size + 1, 2, none⟩ (.int .i64 o)).setCell ⟨W.heap.size + 1, 3, none⟩ (.int .i64 n)) := by
  have k4 := kept_sets4 X (W.heap.size + 1) va vb (.int .i64 o) (.int .i64 n)
  have ra := h.pb.ra.kept k4 (fun k q e => h.nr k (.inl q) e)
  have rb := h.pb.rb.kept k4 (fun k q e => h.nr k (.inr q) e)
  have hne := h.pb.ne
  have kp : Kept (OB va0 vb0) W _ := Kept.then h.kept k4 (fun i e => .inl (by have e : i = W.heap.size + 1 := e; omega))
  clear h k4
  obtain ⟨aa, ac, rfl, oa⟩ := ra.own
  obtain ⟨ab, ad, rfl, ob⟩ := rb.own
  refine ⟨aa, ab, ac, ad, rfl, ⟨oa, ob, fun k q1 q2 => ?_⟩, kp⟩
  have q3 : (Value.slice aa r ac).ownBlock = some k := by obtain ⟨_, ad', e', e''⟩ := q1; rw [e']; exact congrArg some e''
  have q4 : (Value.slice ab s ad).ownBlock = some k := by obtain ⟨_, ad', e', e''⟩ := q2; rw [e']; exact congrArg some e''
  exact hne k q3 q4
/-- what Windows asks -/
def winOk (r : Nat) (D : Nat → Int) (x z t : Int) : Prop := 0 ≤ x ∧ x < r ∧ 1 ≤ z ∧ 1 ≤ t ∧ z ≤ D x.toNat
instance (r : Nat) (D : Nat → Int) (x z t : Int) : Decidable (winOk r D x z t) := by unfold winOk; infer_instance
/-- what it answers ahead of the last ViewOk -/
def winV (r s : Nat) (D S : Nat → Int) (o n x z t : Int) : PV :=
  if winOk r D x z t then ⟨r + 1, s + 1, upd (upd D x.toNat ((D x.toNat - z).tdiv t + 1)) r z, upd (upd S x.toNat (so ((D x.toNat - z).tdiv t + 1) (IntKind.i64.wrap (S x.toNat * t)))) s (so z (S x.toNat)), o, n⟩ else PV.zero
theorem winV_no {r s : Nat} {D S : Nat → Int} {o n x z t : Int} (h : ¬ winOk r D x z t) : winV r s D S o n x z t = PV.zero := by unfold winV; rw [if_neg h]
theorem winV_yes {r s : Nat} {D S : Nat → Int} {o n x z t : Int} (h : winOk r D x z t) : winV r s D S o n x z t = ⟨r + 1, s + 1, upd (upd D x.toNat ((D x.toNat - z).tdiv t + 1)) r z, upd (upd S x.toNat (so ((D x.toNat - z).tdiv t + 1) (IntKind.i64.wrap (S x.toNat * t)))) s (so z (S x.toNat)), o, n⟩ := by unfold winV; rw [if_pos h]
theorem winV_le (r s : Nat) (D S : Nat → Int) (o n x z t : Int) : (winV r s D S o n x z t).r ≤ r + 1 ∧ (winV r s D S o n x z t).s ≤ s + 1 := by
  unfold winV
  split
  · exact ⟨Nat.le_refl _, Nat.le_refl _⟩
  · exact ⟨Nat.zero_le _, Nat.zero_le _⟩
theorem win_ways {r : Nat} {D : Nat → Int} {k : Nat} {z t : Int} (hk : k < r) :
    (decide (z < 1) = true ∧ ¬ winOk r D k z t) ∨ (decide (z < 1) = false ∧ decide (t < 1) = true ∧ ¬ winOk r D k z t) ∨ (decide (z < 1) = false ∧ decide (t < 1) = false ∧ decide (D k < z) = true ∧ ¬ winOk r D k z t) ∨ (decide (z < 1) = false ∧ decide (t < 1) = false ∧ decide (D k < z) = false ∧ winOk r D k z t) := by
  have key : winOk r D k z t ↔ (1 ≤ z ∧ 1 ≤ t ∧ z ≤ D k) := by
    unfold winOk
    rw [Int.toNat_natCast]
    exact ⟨fun q => q.2.2, fun q => ⟨by omega, by omega, q⟩⟩
  rw [key]
  clear key hk
  generalize D k = d
  by_cases a1 : z < 1
  · exact .inl ⟨decide_eq_true a1, by omega⟩
  refine .inr ?_
  by_cases a2 : t < 1
  · exact .inl ⟨decide_eq_false a1, decide_eq_true a2, by omega⟩
  refine .inr ?_
  by_cases a3 : d < z
  · exact .inl ⟨decide_eq_false a1, decide_eq_false a2, decide_eq_true a3, by omega⟩
  exact .inr ⟨decide_eq_false a1, decide_eq_false a2, decide_eq_false a3, by omega⟩
theorem win_wraps {d z t : Int} (h1 : 1 ≤ z) (h2 : 1 ≤ t) (h3 : z ≤ d) (h4 : d ≤ 4096) : IntKind.i64.wrap (d - z) = d - z ∧ IntKind.i64.wrap ((d - z).tdiv t) = (d - z).tdiv t ∧ IntKind.i64.wrap ((d - z).tdiv t + 1) = (d - z).tdiv t + 1 ∧ 0 ≤ (d - z).tdiv t ∧ (d - z).tdiv t ≤ 4096 := by
  have e : (d - z).tdiv t = (d - z) / t := Int.tdiv_eq_ediv_of_nonneg (by omega)
  have a : 0 ≤ (d - z) / t := Int.ediv_nonneg (by omega) (by omega)
  have b : (d - z) / t ≤ d - z := Int.ediv_le_self _ (by omega)
  rw [e]
  exact ⟨wrap_id (by omega) (by omega), wrap_id (by omega) (by omega), wrap_id (by omega) (by omega), a, by omega⟩
theorem wrap_bd (z : Int) : bd (IntKind.i64.wrap z) := by
  unfold bd
  rw [IntKind.wrap_i64]
  omega
/-- three ints as a list -/
def three (x z t : Int) : Nat → Int | 0 => x | 1 => z | _ => t
set_option maxRecDepth 100000 in
set_option maxHeartbeats 4000000 in
theorem windowsTurn (r s : Nat) (D S : Nat → Int) (o n x z t : Int) (C B : Nat) (ia : Option Addr) (ica : Nat) (va vb : Value) (W : World) (hV : VOk r s D S o n) (ra : RowV C W va r D) (rb : RowV C W vb s S) (hne : ∀ k, va.ownBlock = some k → vb.ownBlock = some k → False) (hi : Ints B W ia 3 (three x z t)) (hC : C ≤ W.heap.size) (hr : (r : Int) ≤ 1048576) :
    Calls Try.prog 75 #[.agg #[va, vb, .int .i64 o, .int .i64 n], .slice ia 3 ica] W fun e W' => TurnR C (winV r s D S o n x z t) va vb W e W' := by
  have RAW := hide ra
  have RBW := hide rb
  obtain ⟨aa, ac, rfl, oa⟩ := ra.own
  obtain ⟨ab, ad, rfl, ob⟩ := rb.own
  rcases ints_here hi with h0 | ⟨bi, off, rfl, hbi, hcc⟩
  · omega
  obtain ⟨W0, hW0⟩ : ∃ W0, (W.alloc (.cells #[.slice aa r ac, .slice ab s ad, .int .i64 o, .int .i64 n] 26)).alloc (.cells #[.slice none 0 0, .slice none 0 0, .int .i64 0, .int .i64 0] 26) = W0 := ⟨_, rfl⟩
  have hs0 : W0.heap.size = W.heap.size + 1 + 1 := by rw [← hW0]; simp
  have bl : Below W.heap.size W W0 := by rw [← hW0]; exact ((Below.refl _ _).alloc (Nat.le_refl _) _).alloc (by simp) _
  have n0 : Box W0 W.heap.size (.slice aa r ac) (.slice ab s ad) (.int .i64 o) (.int .i64 n) := by
    rw [← hW0]; exact (box_new W (.slice aa r ac) (.slice ab s ad) (.int .i64 o) (.int .i64 n) 26).below ((Below.refl (W.heap.size + 1) _).alloc (by simp) _) (by omega)
  have f0 : Free W0 W.heap.size := by
    rw [← hW0]; exact (free_new W #[.slice aa r ac, .slice ab s ad, .int .i64 o, .int .i64 n] 26).below ((Below.refl (W.heap.size + 1) _).alloc (by simp) _) (by omega)
  have m0 : Box W0 (W.heap.size + 1) (.slice none 0 0) (.slice none 0 0) (.int .i64 0) (.int .i64 0) := by
    have q := box_new (W.alloc (.cells #[.slice aa r ac, .slice ab s ad, .int .i64 o, .int .i64 n] 26)) (.slice none 0 0) (.slice none 0 0) (.int .i64 0) (.int .i64 0) 26
    rw [World.size_alloc] at q
    rw [← hW0]; exact q
  have g0 : Free W0 (W.heap.size + 1) := by
    have q := free_new (W.alloc (.cells #[.slice aa r ac, .slice ab s ad, .int .i64 o, .int .i64 n] 26)) #[.slice none 0 0, .slice none 0 0, .int .i64 0, .int .i64 0] 26
    rw [World.size_alloc] at q
    rw [← hW0]; exact q
  have i0 := (bl.cell (p := ⟨bi, off, none⟩) hbi).trans (hcc 0 (by omega)).1
  have i1 := (bl.cell (p := ⟨bi, off + 1, none⟩) hbi).trans (hcc 1 (by omega)).1
  have i2 := (bl.cell (p := ⟨bi, off + 2, none⟩) hbi).trans (hcc 2 (by omega)).1
  simp only [three] at i0 i1 i2
  have bz := (hcc 1 (by omega)).2
  simp only [three] at bz
  have HV := hide hV
  have BL := hide bl
  have N0 := hide n0
  have F0 := hide f0
  have M0 := hide m0
  have G0 := hide g0
  have HS0 := hide hs0
  have HNE := hide hne
  have BZ := hide bz
  obtain ⟨x0, x1, x2, x3⟩ := n0
  clear hi hcc bl f0 m0 g0 hs0 hV oa ob ra rb hne hbi bz
  go_enter Try.func75, Try.ntmps75
  go_wp2_with fail
  clear hW0
  go_quiet (fail)
  go_wp2_with fail
  refine (hasAxis aa ab r s ac ad o n x _).mono ?_
  rintro e w1 ⟨rfl, hw1⟩
  have b1 : Below W0.heap.size W0 w1 := by rw [hw1]; exact (below_drewN (Below.refl _ W0) nq).alloc (Nat.le_refl W0.heap.size) _
  clear hw1 x0 x1 x2 x3 i0 i1 i2
  have zz := HS0.out
  have z1 : W.heap.size + 1 < w1.heap.size := by have := b1.size; omega
  have N1 := hide (N0.out.below b1 (by omega))
  have F1 := hide (F0.out.below b1 (by omega))
  have M1 := hide (M0.out.below b1 (by omega))
  have G1 := hide (G0.out.below b1 (by omega))
  have B1 := hide (BL.out.trans (b1.mono BL.out.size))
  clear b1 zz
  obtain ⟨x0, x1, x2, x3⟩ := N1.out
  obtain ⟨y0, y1, y2, y3⟩ := M1.out
  have ff := F1.out
  have gg := G1.out
  unfold Free at ff gg
  by_cases hx : 0 ≤ x ∧ x < r
  rotate_left
  · have ez := hide (winV_no (r := r) (s := s) (D := D) (S := S) (o := o) (n := n) (x := x) (z := z) (t := t) (fun q => hx ⟨q.1, q.2.1⟩))
    rw [decide_eq_false hx]
    clear hx
    go_wp2_with fail
    refine bodyPost_ret (v := .agg #[.slice none 0 0, .slice none 0 0, .int .i64 0, .int .i64 0]) (by simp [results, Try.results75, go_sem, y0, y1, y2, y3]) rfl (by
      rw [ez.out]
      refine turnR_zero (Kept.of_below ?_)
      repeat (refine Below.setCell ?_ (by simp) _)
      exact B1.out)
  rw [decide_eq_true hx]
  obtain ⟨k, rfl⟩ : ∃ k : Nat, x = k := ⟨x.toNat, by omega⟩
  have hk : k < r := by omega
  have hkI : (k : Int) < r := by omega
  have k0 : (0 : Int) ≤ (k : Int) := by omega
  clear hx
  obtain ⟨e1, e2, v1, v2, v3, v4, v5, _, _⟩ := HV.out
  subst e2
  have ld := HV.out.len hk
  have ls := v5 k hk
  clear e1 v5
  have ra1 := RAW.out.below (B1.out)
  have rb1 := RBW.out.below (B1.out)
  obtain ⟨_, _, ea, oa⟩ := ra1.own
  obtain ⟨_, _, eb, ob⟩ := rb1.own
  injection ea with ea1 ea2 ea3
  injection eb with eb1 eb2 eb3
  subst ea1 eb1
  clear ea2 ea3 eb2 eb3
  rcases oa with h0 | ⟨ga, rfl, hga, rwa⟩
  · omega
  rcases ob with h0 | ⟨gb, rfl, hgb, rwb⟩
  · omega
  have hgn : ga ≠ gb := fun e => by subst e; exact HNE.out ga rfl rfl
  obtain ⟨ca, fa, _⟩ := rwa k hk
  obtain ⟨cb, fb, bS⟩ := rwb k hk
  have LD := hide ld
  have HK := hide hk
  have BS := hide bS
  have la := (RAW.out.lt (k := ga) rfl).2
  have lb := (RBW.out.lt (k := gb) rfl).2
  have T1 := hide (show WS W C W.heap.size (OB (.slice (some ⟨ga, 0, none⟩) s ac) (.slice (some ⟨gb, 0, none⟩) s ad)) (.slice (some ⟨ga, 0, none⟩) s ac) (.slice (some ⟨gb, 0, none⟩) s ad) s s D S o n w1 from
    ⟨⟨N1.out, F1.out, ra1, rb1, HNE.out, by
      rintro j (q | q)
      · have := (RAW.out.lt q).2; omega
      · have := (RBW.out.lt q).2; omega, by omega, by omega⟩, M1.out, G1.out, by
      rintro j (q | q)
      · have := (RAW.out.lt q).2; omega
      · have := (RBW.out.lt q).2; omega, Nat.le_refl _, by omega, z1, Kept.of_below B1.out, fun j q => .inl q⟩)
  clear rwa rwb ld ls v1 v2 v3 v4 bS ra1 rb1
  rcases win_ways (D := D) (z := z) (t := t) hk with ⟨d1, no⟩ | ⟨d1, d2, no⟩ | ⟨d1, d2, d3, no⟩ | ⟨d1, d2, d3, yes⟩
  rotate_right
  · have e1 : 1 ≤ z := by simp at d1; omega
    have e2 : 1 ≤ t := by simp at d2; omega
    have e3 : z ≤ D k := by simp at d3; omega
    obtain ⟨q1, q2, q3, q4, q5⟩ := win_wraps e1 e2 e3 LD.out.2
    have t0 : (t == 0) = false := by simp; omega
    have YES := hide yes
    obtain ⟨c, hc⟩ : ∃ c, (D k - z).tdiv t + 1 = c := ⟨_, rfl⟩
    obtain ⟨b, hb⟩ : ∃ b, (D k - z).tdiv t = b := ⟨_, rfl⟩
    obtain ⟨m, hm⟩ : ∃ m, IntKind.i64.wrap (S k * t) = m := ⟨_, rfl⟩
    have BM := hide (show bd m from hm ▸ wrap_bd _)
    have BC := hide (show bd c from hc ▸ ⟨by omega, by omega⟩)
    have E2 := hide e2
    have HC := hide hc
    rw [hb] at q2 q3 hc
    have q3' : IntKind.i64.wrap (b + 1) = c := q3.trans hc
    have HM := hide hm
    clear hk yes e1 e3 hc q3 q4 q5 HV hm
    go_wp2_with fail
    go_quiet (fail)
    go_wp2_with fail
    refine abs_wp (fun X => WS W C W.heap.size (OB (.slice (some ⟨ga, 0, none⟩) s ac) (.slice (some ⟨gb, 0, none⟩) s ad)) (.slice (some ⟨ga, 0, none⟩) s ac) (.slice (some ⟨gb, 0, none⟩) s ad) s s D S o n X) (by exact T1.out.drewN _) ?_
    intro X hX
    have hm := HM.out
    clear x0 x1 x2 x3 y0 y1 y2 y3 ff gg ca fa cb fb q1 q2 q3' d1 d2 d3 t0 hb
    obtain ⟨x0, x1, x2, x3⟩ := hX.pb.box
    have ff := hX.pb.free
    obtain ⟨_, _, ea, oa⟩ := hX.pb.ra.own
    obtain ⟨_, _, eb, ob⟩ := hX.pb.rb.own
    injection ea with ea1 ea2 ea3
    injection eb with eb1 eb2 eb3
    subst ea1 eb1
    clear ea2 ea3 eb2 eb3
    obtain ⟨ca, fa⟩ : X.cell? ⟨ga, k, none⟩ = some (.int .i64 (D k)) ∧ X.frozen? ⟨ga, k, none⟩ = false := by
      rcases oa with h0 | ⟨g, e, _, rw1⟩
      · have := HK.out; omega
      · injection e with e
        injection e with e
        subst e
        exact ⟨(rw1 k HK.out).1, (rw1 k HK.out).2.1⟩
    obtain ⟨cb, fb⟩ : X.cell? ⟨gb, k, none⟩ = some (.int .i64 (S k)) ∧ X.frozen? ⟨gb, k, none⟩ = false := by
      rcases ob with h0 | ⟨g, e, _, rw1⟩
      · have := HK.out; omega
      · injection e with e
        injection e with e
        subst e
        exact ⟨(rw1 k HK.out).1, (rw1 k HK.out).2.1⟩
    have T2 := hide hX
    have cb' : ∀ u, (X.setCell ⟨ga, k, none⟩ u).cell? ⟨gb, k, none⟩ = some (.int .i64 (S k)) := fun u => set_other (by show gb ≠ ga; omega) cb
    have hz : W.heap.size ≠ ga := by omega
    have hz' : ∀ u i, (X.setCell ⟨ga, k, none⟩ u).cell? ⟨W.heap.size, i, none⟩ = X.cell? ⟨W.heap.size, i, none⟩ := fun u i => World.cell?_of_block (Below.heap_setCell X ⟨ga, k, none⟩ u W.heap.size hz)
    unfold Free at ff
    clear hX hz oa ob
    go_cut [] (fun wx => WS W C W.heap.size (OB (.slice (some ⟨ga, 0, none⟩) s ac) (.slice (some ⟨gb, 0, none⟩) s ad)) (.slice (some ⟨ga, 0, none⟩) s ac) (.slice (some ⟨gb, 0, none⟩) s ad) s s (upd D k c) (upd S k (so c m)) o n wx)
    case first =>
      go_region_with (go_at_call 92; refine (strideSo c m _).mono ?_; rintro e w3 ⟨rfl, rfl⟩)
      all_goals (go_wp2_with fail)
      all_goals go_meet
      all_goals exact ((T2.out.setA rfl k HK.out c BC.out).setB rfl k HK.out (so c m) (so_bd BM.out)).drewN 1
    case rest =>
      have T3 := hide hcut
      clear x0 x1 x2 x3 ff ca fa cb fb cb' hz' hcut hm T2
      go_wp2_with (go_at_call 92; refine (strideSo z (S k) _).mono ?_; rintro e w3 ⟨rfl, rfl⟩)
      refine (push C W.heap.size _ _ s s _ _ o n z (so z (S k)) _ T3.out.pb hr hr BZ.out (so_bd BS.out)).mono ?_
      rintro e w4 ⟨⟨_, rfl⟩, hp⟩
      obtain ⟨va', vb', T4'⟩ := T3.out.push hp
      have T4 := hide T4'
      clear hp T3
      obtain ⟨x0, x1, x2, x3⟩ := T4'.pb.box
      obtain ⟨y0, y1, y2, y3⟩ := T4'.rbox
      have gg := T4'.rfree
      obtain ⟨aa', ac', ea, _⟩ := T4'.pb.ra.own
      obtain ⟨ab', ad', eb, _⟩ := T4'.pb.rb.own
      subst ea eb
      unfold Free at gg
      clear T4'
      go_wp2_with fail
      refine bodyPost_ret (v := .agg #[.slice aa' (s + 1) ac', .slice ab' (s + 1) ad', .int .i64 o, .int .i64 n]) (by simp [results, Try.results75, go_sem, y0, y1, y2, y3]) rfl ?_
      have e1 : winV s s D S o n (k : Int) z t = ⟨s + 1, s + 1, upd (upd D k c) s z, upd (upd S k (so c m)) s (so z (S k)), o, n⟩ := by
        rw [winV_yes YES.out, Int.toNat_natCast, HC.out, HM.out]
      rw [e1]
      exact T4.out.out
  all_goals
    have ez := hide (winV_no (s := s) (S := S) (o := o) (n := n) no)
    clear no hk
    go_wp2_with fail
    refine bodyPost_ret (v := .agg #[.slice none 0 0, .slice none 0 0, .int .i64 0, .int .i64 0]) (by simp [results, Try.results75, go_sem, y0, y1, y2, y3]) rfl (by
      rw [ez.out]
      refine turnR_zero (Kept.of_below ?_)
      repeat (refine Below.setCell ?_ (by simp) _)
      exact B1.out)
end Vo
end Go.Proofs.Ytejfodkobfdelaa

/- Windows of the program; the model's copy as rows that may grow. -/
namespace Go.Proofs.Ytejfodkobfdelaa
namespace Vo
open Go.ChangeShapes Go.WideShapes Go.ChangeAt Go.RowKit Go.Joins
open Vl Vp Vr
set_option linter.unusedVariables false
set_option linter.unusedSimpArgs false

/-- a view, where it is asked for -/
def gv (b : Bool) (T : PV) : PV := if b = true then T else PV.zero
theorem gv_yes {b : Bool} {T : PV} (h : b = true) : gv b T = T := by unfold gv; rw [if_pos h]
theorem gv_turned (r s : Nat) (D S : Nat → Int) (o n : Int) (T : PV) : turnedV r s D S o n (gv (vok r s D S o n) T) = turnedV r s D S o n T := by
  unfold turnedV gv
  split <;> rfl
theorem gv_le {r s : Nat} {D S : Nat → Int} {o n : Int} {T : PV} (h : T.r ≤ r + 1 ∧ T.s ≤ s + 1) : ((gv (vok r s D S o n) T).r : Int) ≤ 1048576 ∧ ((gv (vok r s D S o n) T).s : Int) ≤ 1048576 := by
  unfold gv
  split
  · rename_i q
    have v := vok_iff.1 q
    have a := (dok_iff.1 v.1).1
    have b := v.2.1
    omega
  · exact ⟨by simp [PV.zero], by simp [PV.zero]⟩
theorem gv_win (r s : Nat) (D S : Nat → Int) (o n x z t : Int) : ((gv (vok r s D S o n) (winV r s D S o n x z t)).r : Int) ≤ 1048576 ∧ ((gv (vok r s D S o n) (winV r s D S o n x z t)).s : Int) ≤ 1048576 := gv_le (winV_le r s D S o n x z t)
theorem turned_le1 {r s : Nat} {D S : Nat → Int} {o n : Int} {T : PV} (h : T.r ≤ r + 1 ∧ T.s ≤ s + 1) : ((turnedV r s D S o n T).r : Int) ≤ 1048576 ∧ ((turnedV r s D S o n T).s : Int) ≤ 1048576 := by
  rw [← gv_turned]
  have a := turned_le r s D S o n (gv (vok r s D S o n) T)
  have b := gv_le (D := D) (S := S) (o := o) (n := n) h
  omega
end Vo
end Go.Proofs.Ytejfodkobfdelaa
