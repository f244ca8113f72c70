/- Windows of the model. -/
import Derived.Test.YtldcacdopijfdaaVas
namespace Go.Proofs.Ytldcacdopijfdaa
namespace Vo
open Go.ChangeShapes Go.WideShapes Go.ChangeAt Go.RowKit Go.Joins
open Vl Vp Vr
set_option linter.unusedVariables false
set_option linter.unusedSimpArgs false

theorem kept_row {v : Value} {w w1 : World} {x : Int} (hg : (w.alloc (.cells #[.int .i64 x] 3)).grownBy w1 v.ownBlock) : Kept (fun k => v.ownBlock = some k) w w1 :=
  (Kept.of_below ((Below.refl _ w).alloc (Nat.le_refl _) _)).trans ⟨hg.os, hg.tape, hg.output, hg.size, fun j hj hn => hg.block j hj (fun e => hn e.symm)⟩
theorem WS.growA {W : World} {C P : Nat} {A : Nat → Prop} {va vb v' : Value} {r s : Nat} {D S : Nat → Int} {o n x : Int} {X w1 : World} (h : WS W C P A va vb r s D S o n X) (hx : bd x) (hown : w1.ownsRow C 3 1 v' (r + 1) (ints r D ++ [.int .i64 x]))
    (hg : (X.alloc (.cells #[.int .i64 x] 3)).grownBy w1 va.ownBlock) (hat : v'.ownBlock = va.ownBlock ∨ v'.ownBlock = some (X.alloc (.cells #[.int .i64 x] 3)).heap.size) : WS W C P A v' vb (r + 1) s (upd D r x) S o n (w1.setCell ⟨P, 0, none⟩ v') := by
  have np : ¬ va.ownBlock = some P := fun q => h.pb.np P (.inl q) rfl
  obtain ⟨q1, q2, q3⟩ := grow_one 0 h.pb.ra hx h.pb.lt np hown hg hat v'
  have K1 := kept_row hg
  have sz := h.sz
  have lt := h.pb.lt
  have nn : ¬ (W.heap.size + 1 = P ∨ va.ownBlock = some (W.heap.size + 1)) := by
    rintro (q | q)
    · exact h.nP q.symm
    · exact h.nr _ (.inl q) rfl
  refine ⟨⟨box_set0 (h.pb.box.kept K1 lt np) _, (h.pb.free.kept K1 lt np).set _ _, q1, h.pb.rb.kept q2 (fun k q => ?_), fun k a b => ?_, fun k a => ?_, Nat.lt_of_lt_of_le lt q2.size, Nat.le_trans h.pb.hB q2.size⟩, h.rbox.kept q2 sz nn, h.rfree.kept q2 sz nn, fun k a => ?_, h.lP, h.nP, Nat.lt_of_lt_of_le sz q2.size, Kept.then h.kept q2 (fun i a => ?_), fun k a => ?_⟩
  · rintro (e | e)
    · exact h.pb.np k (.inr q) e
    · exact h.pb.ne k e q
  · rcases q3 k a with e | e
    · exact h.pb.ne k e b
    · have := (h.pb.rb.lt b).2; omega
  · rcases a with a | a
    · rcases q3 k a with e | e
      · exact h.pb.np k (.inl e)
      · omega
    · exact h.pb.np k (.inr a)
  · rcases a with a | a
    · rcases q3 k a with e | e
      · exact h.nr k (.inl e)
      · omega
    · exact h.nr k (.inr a)
  · rcases a with a | a
    · exact .inl (by rw [a]; exact h.lP)
    · rcases h.wA i (.inl a) with e | e
      · exact .inr e
      · exact .inl e
  · rcases a with a | a
    · rcases q3 k a with e | e
      · exact h.wA k (.inl e)
      · exact .inr (by omega)
    · exact h.wA k (.inr a)
theorem WS.growB {W : World} {C P : Nat} {A : Nat → Prop} {va vb v' : Value} {r s : Nat} {D S : Nat → Int} {o n x : Int} {X w1 : World} (h : WS W C P A va vb r s D S o n X) (hx : bd x) (hown : w1.ownsRow C 3 1 v' (s + 1) (ints s S ++ [.int .i64 x]))
    (hg : (X.alloc (.cells #[.int .i64 x] 3)).grownBy w1 vb.ownBlock) (hat : v'.ownBlock = vb.ownBlock ∨ v'.ownBlock = some (X.alloc (.cells #[.int .i64 x] 3)).heap.size) : WS W C P A va v' r (s + 1) D (upd S s x) o n (w1.setCell ⟨P, 1, none⟩ v') := by
  have np : ¬ vb.ownBlock = some P := fun q => h.pb.np P (.inr q) rfl
  obtain ⟨q1, q2, q3⟩ := grow_one 1 h.pb.rb hx h.pb.lt np hown hg hat v'
  have K1 := kept_row hg
  have sz := h.sz
  have lt := h.pb.lt
  have nn : ¬ (W.heap.size + 1 = P ∨ vb.ownBlock = some (W.heap.size + 1)) := by
    rintro (q | q)
    · exact h.nP q.symm
    · exact h.nr _ (.inr q) rfl
  refine ⟨⟨box_set1 (h.pb.box.kept K1 lt np) _, (h.pb.free.kept K1 lt np).set _ _, h.pb.ra.kept q2 (fun k q => ?_), q1, fun k a b => ?_, fun k a => ?_, Nat.lt_of_lt_of_le lt q2.size, Nat.le_trans h.pb.hB q2.size⟩, h.rbox.kept q2 sz nn, h.rfree.kept q2 sz nn, fun k a => ?_, h.lP, h.nP, Nat.lt_of_lt_of_le sz q2.size, Kept.then h.kept q2 (fun i a => ?_), fun k a => ?_⟩
  · rintro (e | e)
    · exact h.pb.np k (.inl q) e
    · exact h.pb.ne k q e
  · rcases q3 k b with e | e
    · exact h.pb.ne k a e
    · have := (h.pb.ra.lt a).2; omega
  · rcases a with a | a
    · exact h.pb.np k (.inl a)
    · rcases q3 k a with e | e
      · exact h.pb.np k (.inr e)
      · omega
  · rcases a with a | a
    · exact h.nr k (.inl a)
    · rcases q3 k a with e | e
      · exact h.nr k (.inr e)
      · omega
  · rcases a with a | a
    · exact .inl (by rw [a]; exact h.lP)
    · rcases h.wA i (.inr a) with e | e
      · exact .inr e
      · exact .inl e
  · rcases a with a | a
    · exact h.wA k (.inl a)
    · rcases q3 k a with e | e
      · exact h.wA k (.inr e)
      · exact .inr (by omega)
theorem WS.own {W : World} {C P : Nat} {A : Nat → Prop} {a b : Option Addr} {r s c d : Nat} {D S : Nat → Int} {o n : Int} {X : World} (h : WS W C P A (.slice a r c) (.slice b s d) r s D S o n X) : VOwn C X a b r s D S := by
  obtain ⟨_, _, ea, oa⟩ := h.pb.ra.own
  obtain ⟨_, _, eb, ob⟩ := h.pb.rb.own
  injection ea with ea1 _ _
  injection eb with eb1 _ _
  subst ea1 eb1
  refine ⟨oa, ob, fun k q1 q2 => ?_⟩
  have q3 : (Value.slice a r c).ownBlock = some k := by obtain ⟨_, ad', e', e''⟩ := q1; rw [e']; exact congrArg some e''
  have q4 : (Value.slice b s d).ownBlock = some k := by obtain ⟨_, ad', e', e''⟩ := q2; rw [e']; exact congrArg some e''
  exact h.pb.ne k q3 q4
theorem WS.cellA {W : World} {C P : Nat} {A : Nat → Prop} {vb : Value} {g r s c k : Nat} {D S : Nat → Int} {o n : Int} {X : World} (h : WS W C P A (.slice (some ⟨g, 0, none⟩) r c) vb r s D S o n X) (hk : k < r) : X.cell? ⟨g, k, none⟩ = some (.int .i64 (D k)) ∧ X.frozen? ⟨g, k, none⟩ = false := by
  obtain ⟨_, _, ea, oa⟩ := h.pb.ra.own
  injection ea with ea1 _ _
  rcases oa with h0 | ⟨g', e, _, rw1⟩
  · omega
  · rw [← ea1] at e
    injection e with e
    injection e with e
    subst e
    exact ⟨(rw1 k hk).1, (rw1 k hk).2.1⟩
theorem WS.cellB {W : World} {C P : Nat} {A : Nat → Prop} {va : Value} {g r s c k : Nat} {D S : Nat → Int} {o n : Int} {X : World} (h : WS W C P A va (.slice (some ⟨g, 0, none⟩) s c) r s D S o n X) (hk : k < s) : X.cell? ⟨g, k, none⟩ = some (.int .i64 (S k)) ∧ X.frozen? ⟨g, k, none⟩ = false := by
  obtain ⟨_, _, ea, oa⟩ := h.pb.rb.own
  injection ea with ea1 _ _
  rcases oa with h0 | ⟨g', e, _, rw1⟩
  · omega
  · rw [← ea1] at e
    injection e with e
    injection e with e
    subst e
    exact ⟨(rw1 k hk).1, (rw1 k hk).2.1⟩
/-- of the model's: nothing of w is written -/
def NoA : Nat → Prop := fun _ => False
theorem WS.below {W : World} {C P : Nat} {va vb : Value} {r s : Nat} {D S : Nat → Int} {o n : Int} {X : World} (h : WS W C P NoA va vb r s D S o n X) : Below W.heap.size W X := h.kept.below (Nat.le_refl _) (fun k q => absurd q id)
set_option maxRecDepth 100000 in
set_option maxHeartbeats 4000000 in
theorem specWindows (B : Nat) (a b : Option Addr) (r s cap dap : Nat) (D S : Nat → Int) (o n x z t : Int) (w : World) (hB : B ≤ w.heap.size) (h : Ints B w a r D) (h' : Ints B w b s S) (hr : (r : Int) ≤ 1048576) (hs : (s : Int) ≤ 1048576) (hb : bd x ∧ bd z ∧ bd t) :
    Calls Try.prog 27 #[.agg #[.slice a r cap, .slice b s dap, .int .i64 o, .int .i64 n], .int .i64 x, .int .i64 z, .int .i64 t] w fun e w' => ViewR w.heap.size (turnedV r s D S o n (winV r s D S o n x z t)) w e w' := by
  have BL := hide (show Below w.heap.size w ((w.alloc (.cells #[.slice a r cap, .slice b s dap, .int .i64 o, .int .i64 n] 24)).alloc (.cells #[.slice none 0 0, .slice none 0 0, .int .i64 0, .int .i64 0] 24)) from ((Below.refl _ _).alloc (Nat.le_refl _) _).alloc (by simp) _)
  have N0 := hide ((box_new w (.slice a r cap) (.slice b s dap) (.int .i64 o) (.int .i64 n) 24).below ((Below.refl (w.heap.size + 1) _).alloc (by simp) (.cells #[.slice none 0 0, .slice none 0 0, .int .i64 0, .int .i64 0] 24)) (by omega))
  have m0 := box_new (w.alloc (.cells #[.slice a r cap, .slice b s dap, .int .i64 o, .int .i64 n] 24)) (.slice none 0 0) (.slice none 0 0) (.int .i64 0) (.int .i64 0) 24
  have g0 := free_new (w.alloc (.cells #[.slice a r cap, .slice b s dap, .int .i64 o, .int .i64 n] 24)) #[.slice none 0 0, .slice none 0 0, .int .i64 0, .int .i64 0] 24
  rw [World.size_alloc] at m0 g0
  have M0 := hide m0
  have G0 := hide g0
  have H := hide h
  have H' := hide h'
  have HBD := hide hb
  clear h h' m0 g0 hb
  go_enter Try.func27, Try.ntmps27
  go_wp2_with fail
  refine (l3Axis B a b r s cap dap D S o n x _ (by simp; omega) (H.out.below (BL.out.mono hB)) (H'.out.below (BL.out.mono hB)) hr hs).mono ?_
  rintro e w1 ⟨rfl, b1⟩
  have B1 := hide (BL.out.trans (b1.mono (by simp; omega)))
  have z1 : w.heap.size + 1 < w1.heap.size := by have := b1.size; simp at this; omega
  have N1 := hide (N0.out.below b1 (by simp; omega))
  have M1 := hide (M0.out.below b1 (by simp))
  have G1 := hide (G0.out.below b1 (by simp))
  obtain ⟨x0, x1, x2, x3⟩ := N1.out
  obtain ⟨y0, y1, y2, y3⟩ := M1.out
  have gg := G1.out
  unfold Free at gg
  clear b1
  cases hax : axOk r s D S o n x with
  | false =>
    have ez := hide (turnedV_no (T := winV r s D S o n x z t) hax (fun q => winV_no (fun q' => q ⟨q'.1, q'.2.1⟩)))
    clear hax
    go_wp2_with fail
    refine bodyPost_ret (v := .agg #[.slice none 0 0, .slice none 0 0, .int .i64 0, .int .i64 0]) (by simp [results, Try.results27, go_sem, y0, y1, y2, y3]) rfl (by
      rw [ez.out]
      refine viewR_zero ?_
      repeat (refine Below.setCell ?_ (by simp) _)
      exact B1.out)
  | true =>
  unfold axOk at hax
  rw [Bool.and_eq_true, decide_eq_true_eq] at hax
  obtain ⟨hv, hx⟩ := hax
  have HV := hide (vok_iff.1 hv)
  have et := hide (show turnedV r s D S o n (winV r s D S o n x z t) = (winV r s D S o n x z t).orZero by unfold turnedV; rw [hv]; rfl)
  obtain ⟨k, rfl⟩ : ∃ k : Nat, x = k := ⟨x.toNat, by omega⟩
  have hk : k < r := by omega
  have HK := hide hk
  have hkI : (k : Int) < r := by omega
  have k0 : (0 : Int) ≤ (k : Int) := by omega
  clear hx hv
  obtain ⟨e1, e2, v1, v2, v3, v4, v5, _, _⟩ := HV.out
  subst e2
  have ld := HV.out.len hk
  have ls := v5 k hk
  clear e1 v5
  rcases H.out.below (B1.out.mono hB) with h0 | ⟨ga, oa, rfl, hga, rwa⟩
  · omega
  rcases H'.out.below (B1.out.mono hB) with h0 | ⟨gb, ob, rfl, hgb, rwb⟩
  · omega
  have ca := (rwa k hk).1
  have cb := (rwb k hk).1
  have LD := hide ld
  have LS := hide ls
  have VV := hide (show 1 ≤ n ∧ n ≤ 4096 ∧ 0 ≤ o ∧ o < n from ⟨v1, v2, v3, v4⟩)
  clear rwa rwb ld ls v1 v2 v3 v4
  rcases win_ways (D := D) (z := z) (t := t) hk with ⟨d1, no⟩ | ⟨d1, d2, no⟩ | ⟨d1, d2, d3, no⟩ | ⟨d1, d2, d3, yes⟩
  rotate_right
  · have e1 : 1 ≤ z := by simp at d1; omega
    have e2 : 1 ≤ t := by simp at d2; omega
    have e3 : z ≤ D k := by simp at d3; omega
    obtain ⟨q1, q2, q3, q4, q5⟩ := win_wraps e1 e2 e3 LD.out.2
    have t0 : (t == 0) = false := by simp; omega
    have hs1 : ((s + 1 : Nat) : Int) ≤ 1048576 := by have := (dok_iff.1 HV.out.1).1; omega
    have YES := hide yes
    obtain ⟨c, hc⟩ : ∃ c, (D k - z).tdiv t + 1 = c := ⟨_, rfl⟩
    obtain ⟨b, hb⟩ : ∃ b, (D k - z).tdiv t = b := ⟨_, rfl⟩
    obtain ⟨m, hm⟩ : ∃ m, IntKind.i64.wrap (S k * t) = m := ⟨_, rfl⟩
    have c1 : 1 ≤ c := by omega
    have BM := hide (show bd m from hm ▸ wrap_bd _)
    have BC := hide (show bd c from hc ▸ ⟨by omega, by omega⟩)
    have BS := hide (show bd (S k) from ⟨by have := LS.out; omega, by have := LS.out; omega⟩)
    have HC := hide hc
    rw [hb] at q2 q3 hc
    have q3' : IntKind.i64.wrap (b + 1) = c := q3.trans hc
    have HM := hide hm
    have e1' : winV s s D S o n (k : Int) z t = ⟨s + 1, s + 1, upd (upd D k c) s z, upd (upd S k (so c m)) s (so z (S k)), o, n⟩ := by
      rw [winV_yes YES.out, Int.toNat_natCast, HC.out, HM.out]
    have E1 := hide e1'
    have CA := hide ca
    have CB := hide cb
    clear hk yes e1 e3 hc q3 q4 q5 HV e1'
    go_wp2_with fail
    refine (l3Copy2 B ⟨ga, oa, none⟩ ⟨gb, ob, none⟩ s s cap dap D S o n _ (Nat.le_trans hB B1.out.size) (H.out.below (B1.out.mono hB)) (H'.out.below (B1.out.mono hB)) hr hs).mono ?_
    rintro e w2 ⟨va, vb, rfl, rva, rvb, hne, b2⟩
    obtain ⟨va1, vac, rfl, ova⟩ := rva.own
    obtain ⟨vb1, vbc, rfl, ovb⟩ := rvb.own
    rcases ova with h0 | ⟨gA, rfl, hgA, _⟩
    · have := HK.out; omega
    rcases ovb with h0 | ⟨gB, rfl, hgB, _⟩
    · have := HK.out; omega
    obtain ⟨X, hX⟩ : ∃ X, w2.alloc (.cells #[.slice (some ⟨gA, 0, none⟩) s vac, .slice (some ⟨gB, 0, none⟩) s vbc, .int .i64 o, .int .i64 n] 24) = X := ⟨_, rfl⟩
    have b3 : Below w2.heap.size w2 X := by rw [← hX]; exact (Below.refl _ _).alloc (Nat.le_refl _) _
    have s2 := b2.size
    have s3 : X.heap.size = w2.heap.size + 1 := by rw [← hX]; simp
    have T0 := hide (show WS w (w.heap.size + 2) w2.heap.size NoA (.slice (some ⟨gA, 0, none⟩) s vac) (.slice (some ⟨gB, 0, none⟩) s vbc) s s D S o n X from
      ⟨⟨by rw [← hX]; exact box_new w2 _ _ _ _ _, by rw [← hX]; exact free_new w2 _ _, (rva.below b3).mono (by omega), (rvb.below b3).mono (by omega), hne, by
        rintro j (q | q)
        · have := (rva.lt q).2; omega
        · have := (rvb.lt q).2; omega, by omega, by omega⟩, (M1.out.below b2 z1).below b3 (by omega), (G1.out.below b2 z1).below b3 (by omega), by
        rintro j (q | q)
        · have := (rva.lt q).1; omega
        · have := (rvb.lt q).1; omega, by omega, by omega, by omega, Kept.of_below ((B1.out.trans (b2.mono B1.out.size)).trans (b3.mono (by omega))), by
        rintro j (q | q)
        · have := (rva.lt q).1; exact .inr (by omega)
        · have := (rvb.lt q).1; exact .inr (by omega)⟩)
    have V0 := hide ((N1.out.below b2 (by omega)).below b3 (by omega))
    have ca' := (b3.cell (p := ⟨ga, oa + k, none⟩) (by show ga < w2.heap.size; omega)).trans ((b2.cell (p := ⟨ga, oa + k, none⟩) (by show ga < w1.heap.size; omega)).trans CA.out)
    have cb' := (b3.cell (p := ⟨gb, ob + k, none⟩) (by show gb < w2.heap.size; omega)).trans ((b2.cell (p := ⟨gb, ob + k, none⟩) (by show gb < w1.heap.size; omega)).trans CB.out)
    clear b2 b3 rva rvb hne x0 x1 x2 x3 y0 y1 y2 y3 gg ca cb d1 d2 d3
    obtain ⟨x0, x1, x2, x3⟩ := V0.out
    obtain ⟨i0, hi0, hz0, hz1, hz2⟩ := info_parts infoInt
    obtain ⟨X1, hX1⟩ : ∃ X1, X.setCell ⟨gA, k, none⟩ (.int .i64 c) = X1 := ⟨_, rfl⟩
    obtain ⟨X2, hX2⟩ : ∃ X2, X1.setCell ⟨gB, k, none⟩ (.int .i64 0) = X2 := ⟨_, rfl⟩
    have T1 := hide (show WS w (w.heap.size + 2) w2.heap.size NoA (.slice (some ⟨gA, 0, none⟩) s vac) (.slice (some ⟨gB, 0, none⟩) s vbc) s s (upd D k c) S o n X1 from by rw [← hX1]; exact T0.out.setA rfl k HK.out c BC.out)
    have T2 := hide (show WS w (w.heap.size + 2) w2.heap.size NoA (.slice (some ⟨gA, 0, none⟩) s vac) (.slice (some ⟨gB, 0, none⟩) s vbc) s s (upd D k c) (upd S k 0) o n X2 from by rw [← hX2]; exact T1.out.setB rfl k HK.out 0 ⟨by omega, by omega⟩)
    obtain ⟨u0, u1, u2, u3⟩ := T0.out.pb.box
    obtain ⟨v0, v1, v2, v3⟩ := T1.out.pb.box
    obtain ⟨p0, p1, p2, p3⟩ := T2.out.pb.box
    have f0 := T0.out.pb.free
    have f1 := T1.out.pb.free
    have f2 := T2.out.pb.free
    obtain ⟨ca0, fa0⟩ := T0.out.cellA HK.out
    obtain ⟨cb1, fb1⟩ := T1.out.cellB HK.out
    obtain ⟨cb2, fb2⟩ := T2.out.cellB HK.out
    unfold Free at f0 f1 f2
    by_cases c2 : c = 1
    · have c2' : decide (1 < c) = false := decide_eq_false (by omega)
      have ES := hide (show upd S k 0 = upd S k (so c m) by unfold so; rw [if_pos c2])
      have TT := hide (show WS w (w.heap.size + 2) w2.heap.size NoA (.slice (some ⟨gA, 0, none⟩) s vac) (.slice (some ⟨gB, 0, none⟩) s vbc) s s (upd D k c) (upd S k (so c m)) o n X2 from by rw [← ES.out]; exact T2.out)
      clear c1 c2
      have OA := hide (TT.out.pb.ra.1.alloc (.cells #[.int .i64 z] 3))
      have HN := hide (World.news_of_block (cs := #[.int .i64 z]) (t := 3) (fr := (0, 0)) (heap_alloc_new X2 _))
      have hb0 := TT.out.pb.hB
      by_cases zz1 : z = 1
      · have z1' : (z == 1) = true := beq_iff_eq.2 zz1
        have SO := hide (show so z (S k) = 0 by unfold so; rw [if_pos zz1])
        clear zz1
        go_wp2_with (at_builtin; first
          | (refine wpList_append_own_at _ rfl _ _ 22 rfl (w.heap.size + 2) 3 i0 (.int .i64 0) 1 8 Try.underlying22 hi0 hz0 hz1 hz2 rfl (by decide) _ _ _ rfl OA.out ⟨X2.heap.size, 0, none⟩ 1 1 [.int .i64 z] rfl rfl HN.out (by simp [Value.oneCell']) (by unfold maxLen; omega) (by omega) (by simp; omega) ?_; intro v' w5 hown1 hgrow1 _ hat1; obtain ⟨g1, c5, rfl⟩ := own_some hown1; have T5 := hide (TT.out.growA HBD.out.2.1 hown1 hgrow1 hat1); have K1 := kept_row hgrow1; have np1 : ¬ (Value.slice (some ⟨gA, 0, none⟩) s vac).ownBlock = some w2.heap.size := (fun q => TT.out.pb.np _ (.inl q) rfl); have cP := fun i => World.cell?_of_block (w := X2) (a := ⟨w2.heap.size, i, none⟩) (K1.block w2.heap.size TT.out.pb.lt np1); have fP := fun i => World.frozen?_of_block (w := X2) (a := ⟨w2.heap.size, i, none⟩) (K1.block w2.heap.size TT.out.pb.lt np1); obtain ⟨Y, hY⟩ : ∃ Y, w5.setCell ⟨w2.heap.size, 0, none⟩ (.slice (some ⟨g1, 0, none⟩) (s + 1) c5) = Y := ⟨_, rfl⟩; rw [hY] at T5; obtain ⟨k0, k1, k2, k3⟩ := T5.out.pb.box; have f5 := T5.out.pb.free; unfold Free at f5; have OA2 := hide (T5.out.pb.rb.1.alloc (.cells #[.int .i64 0] 3)); have HN2 := hide (World.news_of_block (cs := #[.int .i64 0]) (t := 3) (fr := (0, 0)) (heap_alloc_new Y _)); have hb5 := T5.out.pb.hB; clear hown1 hgrow1 hat1 K1 np1)
          | (refine wpList_append_own_at _ rfl _ _ 22 rfl (w.heap.size + 2) 3 i0 (.int .i64 0) 1 8 Try.underlying22 hi0 hz0 hz1 hz2 rfl (by decide) _ _ _ rfl OA2.out ⟨Y.heap.size, 0, none⟩ 1 1 [.int .i64 0] rfl rfl HN2.out (by simp [Value.oneCell']) (by unfold maxLen; omega) (by omega) (by simp; omega) ?_; intro v' w6 hown2 hgrow2 _ hat2; obtain ⟨g2, c6, rfl⟩ := own_some hown2; have T6 := hide (T5.out.growB ⟨by omega, by omega⟩ hown2 hgrow2 hat2); have K2 := kept_row hgrow2; have np2 : ¬ (Value.slice (some ⟨gB, 0, none⟩) s vbc).ownBlock = some w2.heap.size := (fun q => T5.out.pb.np _ (.inr q) rfl); have cP2 := fun i => World.cell?_of_block (w := Y) (a := ⟨w2.heap.size, i, none⟩) (K2.block w2.heap.size T5.out.pb.lt np2); have fP2 := fun i => World.frozen?_of_block (w := Y) (a := ⟨w2.heap.size, i, none⟩) (K2.block w2.heap.size T5.out.pb.lt np2); obtain ⟨Z, hZ⟩ : ∃ Z, w6.setCell ⟨w2.heap.size, 1, none⟩ (.slice (some ⟨g2, 0, none⟩) (s + 1) c6) = Z := ⟨_, rfl⟩; rw [hZ] at T6; obtain ⟨l0, l1, l2, l3⟩ := T6.out.pb.box; clear hown2 hgrow2 hat2 K2 np2))
        rw [← SO.out] at T6
        refine (l3Or w.heap.size ⟨s + 1, s + 1, upd (upd D k c) s z, upd (upd S k (so c m)) s (so z (S k)), o, n⟩ _ _ c5 c6 _ T6.out.below.size (T6.out.own.mono (by omega)) hs1 hs1).mono ?_
        rintro e w9 ⟨ua, ub, uc, ud, rfl, hvo, b9⟩
        have et2 := et.out
        rw [E1.out] at et2
        obtain ⟨T, hT⟩ : ∃ T, PV.orZero ⟨s + 1, s + 1, upd (upd D k c) s z, upd (upd S k (so c m)) s (so z (S k)), o, n⟩ = T := ⟨_, rfl⟩
        rw [hT] at hvo et2 ⊢
        have M5 := hide (T6.out.rbox.below b9 T6.out.sz)
        have G5 := hide (T6.out.rfree.below b9 T6.out.sz)
        have B5 := hide (T6.out.below.trans (b9.mono T6.out.below.size))
        have z5 : w.heap.size + 1 < w9.heap.size := Nat.lt_of_lt_of_le T6.out.sz b9.size
        have VO := hide hvo
        have ET := hide et2
        have EK := hide E1.out
        clear hvo b9 et2 T6 T5 TT T2 T1 T0 E1 hT hZ hY hX hX1 hX2 l0 l1 l2 l3 k0 k1 k2 k3 x0 x1 x2 x3 u0 u1 u2 u3 v0 v1 v2 v3 p0 p1 p2 p3 cP cP2 fP fP2 f0 f1 f2 f5
        obtain ⟨y0, y1, y2, y3⟩ := M5.out
        have gg := G5.out
        unfold Free at gg
        go_wp2_with fail
        refine bodyPost_ret (v := .agg #[.slice ua T.r uc, .slice ub T.s ud, .int .i64 T.o, .int .i64 T.n]) (by simp [results, Try.results27, go_sem, y0, y1, y2, y3]) rfl ?_
        have k4 := kept_sets4 w9 (w.heap.size + 1) (.slice ua T.r uc) (.slice ub T.s ud) (.int .i64 T.o) (.int .i64 T.n)
        show ViewR w.heap.size (turnedV s s D S o n (winV s s D S o n (k : Int) z t)) w _ _
        rw [EK.out, ET.out]
        exact ⟨ua, ub, uc, ud, rfl, VO.out.kept k4 (fun k q e => by have e : k = w.heap.size + 1 := e; subst e; exact VO.out.apart y0 _ q rfl), B5.out.trans (k4.below B5.out.size (fun j e => by have e : j = w.heap.size + 1 := e; omega))⟩
      · have z1' : (z == 1) = false := beq_eq_false_iff_ne.2 zz1
        have SO := hide (show so z (S k) = (S k) by unfold so; rw [if_neg zz1])
        clear zz1
        go_wp2_with (at_builtin; first
          | (refine wpList_append_own_at _ rfl _ _ 22 rfl (w.heap.size + 2) 3 i0 (.int .i64 0) 1 8 Try.underlying22 hi0 hz0 hz1 hz2 rfl (by decide) _ _ _ rfl OA.out ⟨X2.heap.size, 0, none⟩ 1 1 [.int .i64 z] rfl rfl HN.out (by simp [Value.oneCell']) (by unfold maxLen; omega) (by omega) (by simp; omega) ?_; intro v' w5 hown1 hgrow1 _ hat1; obtain ⟨g1, c5, rfl⟩ := own_some hown1; have T5 := hide (TT.out.growA HBD.out.2.1 hown1 hgrow1 hat1); have K1 := kept_row hgrow1; have np1 : ¬ (Value.slice (some ⟨gA, 0, none⟩) s vac).ownBlock = some w2.heap.size := (fun q => TT.out.pb.np _ (.inl q) rfl); have cP := fun i => World.cell?_of_block (w := X2) (a := ⟨w2.heap.size, i, none⟩) (K1.block w2.heap.size TT.out.pb.lt np1); have fP := fun i => World.frozen?_of_block (w := X2) (a := ⟨w2.heap.size, i, none⟩) (K1.block w2.heap.size TT.out.pb.lt np1); obtain ⟨Y, hY⟩ : ∃ Y, w5.setCell ⟨w2.heap.size, 0, none⟩ (.slice (some ⟨g1, 0, none⟩) (s + 1) c5) = Y := ⟨_, rfl⟩; rw [hY] at T5; obtain ⟨k0, k1, k2, k3⟩ := T5.out.pb.box; have f5 := T5.out.pb.free; unfold Free at f5; have OA2 := hide (T5.out.pb.rb.1.alloc (.cells #[.int .i64 (S k)] 3)); have HN2 := hide (World.news_of_block (cs := #[.int .i64 (S k)]) (t := 3) (fr := (0, 0)) (heap_alloc_new Y _)); have hb5 := T5.out.pb.hB; clear hown1 hgrow1 hat1 K1 np1)
          | (refine wpList_append_own_at _ rfl _ _ 22 rfl (w.heap.size + 2) 3 i0 (.int .i64 0) 1 8 Try.underlying22 hi0 hz0 hz1 hz2 rfl (by decide) _ _ _ rfl OA2.out ⟨Y.heap.size, 0, none⟩ 1 1 [.int .i64 (S k)] rfl rfl HN2.out (by simp [Value.oneCell']) (by unfold maxLen; omega) (by omega) (by simp; omega) ?_; intro v' w6 hown2 hgrow2 _ hat2; obtain ⟨g2, c6, rfl⟩ := own_some hown2; have T6 := hide (T5.out.growB BS.out hown2 hgrow2 hat2); have K2 := kept_row hgrow2; have np2 : ¬ (Value.slice (some ⟨gB, 0, none⟩) s vbc).ownBlock = some w2.heap.size := (fun q => T5.out.pb.np _ (.inr q) rfl); have cP2 := fun i => World.cell?_of_block (w := Y) (a := ⟨w2.heap.size, i, none⟩) (K2.block w2.heap.size T5.out.pb.lt np2); have fP2 := fun i => World.frozen?_of_block (w := Y) (a := ⟨w2.heap.size, i, none⟩) (K2.block w2.heap.size T5.out.pb.lt np2); obtain ⟨Z, hZ⟩ : ∃ Z, w6.setCell ⟨w2.heap.size, 1, none⟩ (.slice (some ⟨g2, 0, none⟩) (s + 1) c6) = Z := ⟨_, rfl⟩; rw [hZ] at T6; obtain ⟨l0, l1, l2, l3⟩ := T6.out.pb.box; clear hown2 hgrow2 hat2 K2 np2))
        rw [← SO.out] at T6
        refine (l3Or w.heap.size ⟨s + 1, s + 1, upd (upd D k c) s z, upd (upd S k (so c m)) s (so z (S k)), o, n⟩ _ _ c5 c6 _ T6.out.below.size (T6.out.own.mono (by omega)) hs1 hs1).mono ?_
        rintro e w9 ⟨ua, ub, uc, ud, rfl, hvo, b9⟩
        have et2 := et.out
        rw [E1.out] at et2
        obtain ⟨T, hT⟩ : ∃ T, PV.orZero ⟨s + 1, s + 1, upd (upd D k c) s z, upd (upd S k (so c m)) s (so z (S k)), o, n⟩ = T := ⟨_, rfl⟩
        rw [hT] at hvo et2 ⊢
        have M5 := hide (T6.out.rbox.below b9 T6.out.sz)
        have G5 := hide (T6.out.rfree.below b9 T6.out.sz)
        have B5 := hide (T6.out.below.trans (b9.mono T6.out.below.size))
        have z5 : w.heap.size + 1 < w9.heap.size := Nat.lt_of_lt_of_le T6.out.sz b9.size
        have VO := hide hvo
        have ET := hide et2
        have EK := hide E1.out
        clear hvo b9 et2 T6 T5 TT T2 T1 T0 E1 hT hZ hY hX hX1 hX2 l0 l1 l2 l3 k0 k1 k2 k3 x0 x1 x2 x3 u0 u1 u2 u3 v0 v1 v2 v3 p0 p1 p2 p3 cP cP2 fP fP2 f0 f1 f2 f5
        obtain ⟨y0, y1, y2, y3⟩ := M5.out
        have gg := G5.out
        unfold Free at gg
        go_wp2_with fail
        refine bodyPost_ret (v := .agg #[.slice ua T.r uc, .slice ub T.s ud, .int .i64 T.o, .int .i64 T.n]) (by simp [results, Try.results27, go_sem, y0, y1, y2, y3]) rfl ?_
        have k4 := kept_sets4 w9 (w.heap.size + 1) (.slice ua T.r uc) (.slice ub T.s ud) (.int .i64 T.o) (.int .i64 T.n)
        show ViewR w.heap.size (turnedV s s D S o n (winV s s D S o n (k : Int) z t)) w _ _
        rw [EK.out, ET.out]
        exact ⟨ua, ub, uc, ud, rfl, VO.out.kept k4 (fun k q e => by have e : k = w.heap.size + 1 := e; subst e; exact VO.out.apart y0 _ q rfl), B5.out.trans (k4.below B5.out.size (fun j e => by have e : j = w.heap.size + 1 := e; omega))⟩
    · have c2' : decide (1 < c) = true := decide_eq_true (by omega)
      have ES := hide (show upd (upd S k 0) k m = upd S k (so c m) by unfold so; rw [if_neg c2, upd_upd])
      obtain ⟨X3, hX3⟩ : ∃ X3, X2.setCell ⟨gB, k, none⟩ (.int .i64 m) = X3 := ⟨_, rfl⟩
      have TT := hide (show WS w (w.heap.size + 2) w2.heap.size NoA (.slice (some ⟨gA, 0, none⟩) s vac) (.slice (some ⟨gB, 0, none⟩) s vbc) s s (upd D k c) (upd S k (so c m)) o n X3 from by rw [← hX3, ← ES.out]; exact T2.out.setB rfl k HK.out m BM.out)
      obtain ⟨o0, o1, o2, o3⟩ := TT.out.pb.box
      have f3 := TT.out.pb.free
      unfold Free at f3
      clear c1 c2
      have OA := hide (TT.out.pb.ra.1.alloc (.cells #[.int .i64 z] 3))
      have HN := hide (World.news_of_block (cs := #[.int .i64 z]) (t := 3) (fr := (0, 0)) (heap_alloc_new X3 _))
      have hb0 := TT.out.pb.hB
      by_cases zz1 : z = 1
      · have z1' : (z == 1) = true := beq_iff_eq.2 zz1
        have SO := hide (show so z (S k) = 0 by unfold so; rw [if_pos zz1])
        clear zz1
        go_wp2_with (at_builtin; first
          | (refine wpList_append_own_at _ rfl _ _ 22 rfl (w.heap.size + 2) 3 i0 (.int .i64 0) 1 8 Try.underlying22 hi0 hz0 hz1 hz2 rfl (by decide) _ _ _ rfl OA.out ⟨X3.heap.size, 0, none⟩ 1 1 [.int .i64 z] rfl rfl HN.out (by simp [Value.oneCell']) (by unfold maxLen; omega) (by omega) (by simp; omega) ?_; intro v' w5 hown1 hgrow1 _ hat1; obtain ⟨g1, c5, rfl⟩ := own_some hown1; have T5 := hide (TT.out.growA HBD.out.2.1 hown1 hgrow1 hat1); have K1 := kept_row hgrow1; have np1 : ¬ (Value.slice (some ⟨gA, 0, none⟩) s vac).ownBlock = some w2.heap.size := (fun q => TT.out.pb.np _ (.inl q) rfl); have cP := fun i => World.cell?_of_block (w := X3) (a := ⟨w2.heap.size, i, none⟩) (K1.block w2.heap.size TT.out.pb.lt np1); have fP := fun i => World.frozen?_of_block (w := X3) (a := ⟨w2.heap.size, i, none⟩) (K1.block w2.heap.size TT.out.pb.lt np1); obtain ⟨Y, hY⟩ : ∃ Y, w5.setCell ⟨w2.heap.size, 0, none⟩ (.slice (some ⟨g1, 0, none⟩) (s + 1) c5) = Y := ⟨_, rfl⟩; rw [hY] at T5; obtain ⟨k0, k1, k2, k3⟩ := T5.out.pb.box; have f5 := T5.out.pb.free; unfold Free at f5; have OA2 := hide (T5.out.pb.rb.1.alloc (.cells #[.int .i64 0] 3)); have HN2 := hide (World.news_of_block (cs := #[.int .i64 0]) (t := 3) (fr := (0, 0)) (heap_alloc_new Y _)); have hb5 := T5.out.pb.hB; clear hown1 hgrow1 hat1 K1 np1)
          | (refine wpList_append_own_at _ rfl _ _ 22 rfl (w.heap.size + 2) 3 i0 (.int .i64 0) 1 8 Try.underlying22 hi0 hz0 hz1 hz2 rfl (by decide) _ _ _ rfl OA2.out ⟨Y.heap.size, 0, none⟩ 1 1 [.int .i64 0] rfl rfl HN2.out (by simp [Value.oneCell']) (by unfold maxLen; omega) (by omega) (by simp; omega) ?_; intro v' w6 hown2 hgrow2 _ hat2; obtain ⟨g2, c6, rfl⟩ := own_some hown2; have T6 := hide (T5.out.growB ⟨by omega, by omega⟩ hown2 hgrow2 hat2); have K2 := kept_row hgrow2; have np2 : ¬ (Value.slice (some ⟨gB, 0, none⟩) s vbc).ownBlock = some w2.heap.size := (fun q => T5.out.pb.np _ (.inr q) rfl); have cP2 := fun i => World.cell?_of_block (w := Y) (a := ⟨w2.heap.size, i, none⟩) (K2.block w2.heap.size T5.out.pb.lt np2); have fP2 := fun i => World.frozen?_of_block (w := Y) (a := ⟨w2.heap.size, i, none⟩) (K2.block w2.heap.size T5.out.pb.lt np2); obtain ⟨Z, hZ⟩ : ∃ Z, w6.setCell ⟨w2.heap.size, 1, none⟩ (.slice (some ⟨g2, 0, none⟩) (s + 1) c6) = Z := ⟨_, rfl⟩; rw [hZ] at T6; obtain ⟨l0, l1, l2, l3⟩ := T6.out.pb.box; clear hown2 hgrow2 hat2 K2 np2))
        rw [← SO.out] at T6
        refine (l3Or w.heap.size ⟨s + 1, s + 1, upd (upd D k c) s z, upd (upd S k (so c m)) s (so z (S k)), o, n⟩ _ _ c5 c6 _ T6.out.below.size (T6.out.own.mono (by omega)) hs1 hs1).mono ?_
        rintro e w9 ⟨ua, ub, uc, ud, rfl, hvo, b9⟩
        have et2 := et.out
        rw [E1.out] at et2
        obtain ⟨T, hT⟩ : ∃ T, PV.orZero ⟨s + 1, s + 1, upd (upd D k c) s z, upd (upd S k (so c m)) s (so z (S k)), o, n⟩ = T := ⟨_, rfl⟩
        rw [hT] at hvo et2 ⊢
        have M5 := hide (T6.out.rbox.below b9 T6.out.sz)
        have G5 := hide (T6.out.rfree.below b9 T6.out.sz)
        have B5 := hide (T6.out.below.trans (b9.mono T6.out.below.size))
        have z5 : w.heap.size + 1 < w9.heap.size := Nat.lt_of_lt_of_le T6.out.sz b9.size
        have VO := hide hvo
        have ET := hide et2
        have EK := hide E1.out
        clear hvo b9 et2 T6 T5 TT T2 T1 T0 E1 hT hZ hY hX hX1 hX2 l0 l1 l2 l3 k0 k1 k2 k3 x0 x1 x2 x3 u0 u1 u2 u3 v0 v1 v2 v3 p0 p1 p2 p3 cP cP2 fP fP2 f0 f1 f2 f5
        obtain ⟨y0, y1, y2, y3⟩ := M5.out
        have gg := G5.out
        unfold Free at gg
        go_wp2_with fail
        refine bodyPost_ret (v := .agg #[.slice ua T.r uc, .slice ub T.s ud, .int .i64 T.o, .int .i64 T.n]) (by simp [results, Try.results27, go_sem, y0, y1, y2, y3]) rfl ?_
        have k4 := kept_sets4 w9 (w.heap.size + 1) (.slice ua T.r uc) (.slice ub T.s ud) (.int .i64 T.o) (.int .i64 T.n)
        show ViewR w.heap.size (turnedV s s D S o n (winV s s D S o n (k : Int) z t)) w _ _
        rw [EK.out, ET.out]
        exact ⟨ua, ub, uc, ud, rfl, VO.out.kept k4 (fun k q e => by have e : k = w.heap.size + 1 := e; subst e; exact VO.out.apart y0 _ q rfl), B5.out.trans (k4.below B5.out.size (fun j e => by have e : j = w.heap.size + 1 := e; omega))⟩
      · have z1' : (z == 1) = false := beq_eq_false_iff_ne.2 zz1
        have SO := hide (show so z (S k) = (S k) by unfold so; rw [if_neg zz1])
        clear zz1
        go_wp2_with (at_builtin; first
          | (refine wpList_append_own_at _ rfl _ _ 22 rfl (w.heap.size + 2) 3 i0 (.int .i64 0) 1 8 Try.underlying22 hi0 hz0 hz1 hz2 rfl (by decide) _ _ _ rfl OA.out ⟨X3.heap.size, 0, none⟩ 1 1 [.int .i64 z] rfl rfl HN.out (by simp [Value.oneCell']) (by unfold maxLen; omega) (by omega) (by simp; omega) ?_; intro v' w5 hown1 hgrow1 _ hat1; obtain ⟨g1, c5, rfl⟩ := own_some hown1; have T5 := hide (TT.out.growA HBD.out.2.1 hown1 hgrow1 hat1); have K1 := kept_row hgrow1; have np1 : ¬ (Value.slice (some ⟨gA, 0, none⟩) s vac).ownBlock = some w2.heap.size := (fun q => TT.out.pb.np _ (.inl q) rfl); have cP := fun i => World.cell?_of_block (w := X3) (a := ⟨w2.heap.size, i, none⟩) (K1.block w2.heap.size TT.out.pb.lt np1); have fP := fun i => World.frozen?_of_block (w := X3) (a := ⟨w2.heap.size, i, none⟩) (K1.block w2.heap.size TT.out.pb.lt np1); obtain ⟨Y, hY⟩ : ∃ Y, w5.setCell ⟨w2.heap.size, 0, none⟩ (.slice (some ⟨g1, 0, none⟩) (s + 1) c5) = Y := ⟨_, rfl⟩; rw [hY] at T5; obtain ⟨k0, k1, k2, k3⟩ := T5.out.pb.box; have f5 := T5.out.pb.free; unfold Free at f5; have OA2 := hide (T5.out.pb.rb.1.alloc (.cells #[.int .i64 (S k)] 3)); have HN2 := hide (World.news_of_block (cs := #[.int .i64 (S k)]) (t := 3) (fr := (0, 0)) (heap_alloc_new Y _)); have hb5 := T5.out.pb.hB; clear hown1 hgrow1 hat1 K1 np1)
          | (refine wpList_append_own_at _ rfl _ _ 22 rfl (w.heap.size + 2) 3 i0 (.int .i64 0) 1 8 Try.underlying22 hi0 hz0 hz1 hz2 rfl (by decide) _ _ _ rfl OA2.out ⟨Y.heap.size, 0, none⟩ 1 1 [.int .i64 (S k)] rfl rfl HN2.out (by simp [Value.oneCell']) (by unfold maxLen; omega) (by omega) (by simp; omega) ?_; intro v' w6 hown2 hgrow2 _ hat2; obtain ⟨g2, c6, rfl⟩ := own_some hown2; have T6 := hide (T5.out.growB BS.out hown2 hgrow2 hat2); have K2 := kept_row hgrow2; have np2 : ¬ (Value.slice (some ⟨gB, 0, none⟩) s vbc).ownBlock = some w2.heap.size := (fun q => T5.out.pb.np _ (.inr q) rfl); have cP2 := fun i => World.cell?_of_block (w := Y) (a := ⟨w2.heap.size, i, none⟩) (K2.block w2.heap.size T5.out.pb.lt np2); have fP2 := fun i => World.frozen?_of_block (w := Y) (a := ⟨w2.heap.size, i, none⟩) (K2.block w2.heap.size T5.out.pb.lt np2); obtain ⟨Z, hZ⟩ : ∃ Z, w6.setCell ⟨w2.heap.size, 1, none⟩ (.slice (some ⟨g2, 0, none⟩) (s + 1) c6) = Z := ⟨_, rfl⟩; rw [hZ] at T6; obtain ⟨l0, l1, l2, l3⟩ := T6.out.pb.box; clear hown2 hgrow2 hat2 K2 np2))
        rw [← SO.out] at T6
        refine (l3Or w.heap.size ⟨s + 1, s + 1, upd (upd D k c) s z, upd (upd S k (so c m)) s (so z (S k)), o, n⟩ _ _ c5 c6 _ T6.out.below.size (T6.out.own.mono (by omega)) hs1 hs1).mono ?_
        rintro e w9 ⟨ua, ub, uc, ud, rfl, hvo, b9⟩
        have et2 := et.out
        rw [E1.out] at et2
        obtain ⟨T, hT⟩ : ∃ T, PV.orZero ⟨s + 1, s + 1, upd (upd D k c) s z, upd (upd S k (so c m)) s (so z (S k)), o, n⟩ = T := ⟨_, rfl⟩
        rw [hT] at hvo et2 ⊢
        have M5 := hide (T6.out.rbox.below b9 T6.out.sz)
        have G5 := hide (T6.out.rfree.below b9 T6.out.sz)
        have B5 := hide (T6.out.below.trans (b9.mono T6.out.below.size))
        have z5 : w.heap.size + 1 < w9.heap.size := Nat.lt_of_lt_of_le T6.out.sz b9.size
        have VO := hide hvo
        have ET := hide et2
        have EK := hide E1.out
        clear hvo b9 et2 T6 T5 TT T2 T1 T0 E1 hT hZ hY hX hX1 hX2 l0 l1 l2 l3 k0 k1 k2 k3 x0 x1 x2 x3 u0 u1 u2 u3 v0 v1 v2 v3 p0 p1 p2 p3 cP cP2 fP fP2 f0 f1 f2 f5
        obtain ⟨y0, y1, y2, y3⟩ := M5.out
        have gg := G5.out
        unfold Free at gg
        go_wp2_with fail
        refine bodyPost_ret (v := .agg #[.slice ua T.r uc, .slice ub T.s ud, .int .i64 T.o, .int .i64 T.n]) (by simp [results, Try.results27, go_sem, y0, y1, y2, y3]) rfl ?_
        have k4 := kept_sets4 w9 (w.heap.size + 1) (.slice ua T.r uc) (.slice ub T.s ud) (.int .i64 T.o) (.int .i64 T.n)
        show ViewR w.heap.size (turnedV s s D S o n (winV s s D S o n (k : Int) z t)) w _ _
        rw [EK.out, ET.out]
        exact ⟨ua, ub, uc, ud, rfl, VO.out.kept k4 (fun k q e => by have e : k = w.heap.size + 1 := e; subst e; exact VO.out.apart y0 _ q rfl), B5.out.trans (k4.below B5.out.size (fun j e => by have e : j = w.heap.size + 1 := e; omega))⟩
  all_goals
    have ez := hide (turnedV_zero (r := s) (s := s) (D := D) (S := S) (o := o) (n := n) (winV_no (s := s) (S := S) (o := o) (n := n) no))
    clear no hk
    go_wp2_with fail
    refine bodyPost_ret (v := .agg #[.slice none 0 0, .slice none 0 0, .int .i64 0, .int .i64 0]) (by simp [results, Try.results27, go_sem, y0, y1, y2, y3]) rfl (by
      rw [ez.out]
      refine viewR_zero ?_
      repeat (refine Below.setCell ?_ (by simp) _)
      exact B1.out)
end Vo
end Go.Proofs.Ytldcacdopijfdaa
