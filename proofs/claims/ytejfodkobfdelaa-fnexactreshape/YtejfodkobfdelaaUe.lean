/- The turn of Permute; Permute of the program. -/
import Derived.Test.YtejfodkobfdelaaUd
import Derived.Test.YtejfodkobfdelaaUc
import Derived.Test.YtejfodkobfdelaaVat
namespace Go.Proofs.Ytejfodkobfdelaa
namespace Vo
open Go.ChangeShapes Go.WideShapes Go.ChangeAt Go.RowKit Go.Joins
open Vl Vp Vr
set_option linter.unusedVariables false
set_option linter.unusedSimpArgs false

theorem rowV_nil (B : Nat) (w : World) (f : Nat → Int) : RowV B w (.slice none 0 0) 0 f := ⟨⟨by simp [ints], .inl ⟨rfl, rfl⟩⟩, fun j hj => by omega⟩
theorem PB.later {B P : Nat} {va vb : Value} {r s : Nat} {D S : Nat → Int} {o n : Int} {X Y : World} (h : PB B P va vb r s D S o n X) (hb : Below X.heap.size X Y) : PB B P va vb r s D S o n Y :=
  ⟨h.box.below hb h.lt, h.free.below hb h.lt, h.ra.below hb, h.rb.below hb, h.ne, h.np, Nat.lt_of_lt_of_le h.lt hb.size, Nat.le_trans h.hB hb.size⟩
theorem WS.later {W : World} {C P : Nat} {A : Nat → Prop} {va vb : Value} {r s : Nat} {D S : Nat → Int} {o n : Int} {X Y : World} (h : WS W C P A va vb r s D S o n X) (hb : Below X.heap.size X Y) : WS W C P A va vb r s D S o n Y :=
  ⟨h.pb.later hb, h.rbox.below hb h.sz, h.rfree.below hb h.sz, h.nr, h.lP, h.nP, Nat.lt_of_lt_of_le h.sz hb.size, h.kept.trans (Kept.of_below hb), h.wA⟩
/-- an empty view in a new variable -/
theorem ws_new {W W0 : World} {o n : Int} (D S : Nat → Int) (t : TypeId) (h0 : Below W.heap.size W W0) (rb : Box W0 (W.heap.size + 1) (.slice none 0 0) (.slice none 0 0) (.int .i64 0) (.int .i64 0)) (rf : Free W0 (W.heap.size + 1)) (sz : W.heap.size + 1 < W0.heap.size) :
    WS W (W0.heap.size + 1) W0.heap.size NoA (.slice none 0 0) (.slice none 0 0) 0 0 D S o n (W0.alloc (.cells #[.slice none 0 0, .slice none 0 0, .int .i64 o, .int .i64 n] t)) := by
  have b1 : Below W0.heap.size W0 (W0.alloc (.cells #[.slice none 0 0, .slice none 0 0, .int .i64 o, .int .i64 n] t)) := (Below.refl _ _).alloc (Nat.le_refl _) _
  have nb : ∀ k, ¬ OB (.slice none 0 0) (.slice none 0 0) k := by
    rintro k (q | q) <;> simp [Value.ownBlock] at q
  exact ⟨⟨box_new W0 _ _ _ _ _, free_new W0 _ _, rowV_nil _ _ _, rowV_nil _ _ _, fun k q _ => nb k (.inl q), fun k q => absurd q (nb k), by simp, by simp⟩, rb.below b1 sz, rf.below b1 sz, fun k q => absurd q (nb k), by omega, by omega, by simp; omega, Kept.of_below (h0.trans (b1.mono h0.size)), fun k q => absurd q (nb k)⟩
/-- what a turn under way answers, where it wrote nothing of what it was handed -/
theorem WS.turnR {W : World} {C C' P : Nat} {va0 vb0 : Value} {a b : Option Addr} {r s c d : Nat} {D S : Nat → Int} {o n : Int} {X : World} (h : WS W C' P NoA (.slice a r c) (.slice b s d) r s D S o n X) (hC : C ≤ C') :
    TurnR C ⟨r, s, D, S, o, n⟩ va0 vb0 W (.returned (.agg #[.slice a r c, .slice b s d, .int .i64 o, .int .i64 n])) ((((X.setCell ⟨W.heap.size + 1, 0, none⟩ (.slice a r c)).setCell ⟨W.heap.size + 1, 1, none⟩ (.slice b s d)).setCell ⟨W.heap.size + 1, 2, none⟩ (.int .i64 o)).setCell ⟨W.heap.size + 1, 3, none⟩ (.int .i64 n)) := by
  have k4 := kept_sets4 X (W.heap.size + 1) (.slice a r c) (.slice b s d) (.int .i64 o) (.int .i64 n)
  refine ⟨a, b, c, d, rfl, (h.own.kept k4 (fun k q e => ?_)).mono hC, Kept.then (h.kept.mono (fun k _ q => absurd q id)) k4 (fun i e => .inl (by have e : i = W.heap.size + 1 := e; omega))⟩
  have e : k = W.heap.size + 1 := e
  subst e
  rcases q with ⟨_, ad, e1, e2⟩ | ⟨_, ad, e1, e2⟩
  · exact h.nr _ (.inl (by rw [e1]; exact congrArg some e2)) rfl
  · exact h.nr _ (.inr (by rw [e1]; exact congrArg some e2)) rfl
set_option maxRecDepth 100000 in
set_option maxHeartbeats 3000000 in
theorem permuteTurn (r s q : Nat) (D S A : Nat → Int) (o n : Int) (C B : Nat) (ia : Option Addr) (ica : Nat) (va vb : Value) (W : World) (hV : VOk r s D S o n) (ra : RowV C W va r D) (rb : RowV C W vb s S) (hi : Ints B W ia q A) (hC : C ≤ W.heap.size) (hq : (q : Int) ≤ 1048576) (hcap : q ≤ ica) :
    Calls Try.prog 72 #[.agg #[va, vb, .int .i64 o, .int .i64 n], .slice ia q ica] W fun e W' => TurnR C (perV r q D S A o n) va vb W e W' := by
  obtain ⟨aa, ac, rfl, oa⟩ := ra.own
  obtain ⟨ab, ad, rfl, ob⟩ := rb.own
  obtain rfl := hV.2.1
  have r6 : s ≤ 6 := (dok_iff.1 hV.1).1
  obtain ⟨W0, hW0⟩ : ∃ W0, (W.alloc (.cells #[.slice aa s ac, .slice ab s ad, .int .i64 o, .int .i64 n] 26)).alloc (.cells #[.slice none 0 0, .slice none 0 0, .int .i64 0, .int .i64 0] 26) = W0 := ⟨_, rfl⟩
  have hs0 : W0.heap.size = W.heap.size + 1 + 1 := by rw [← hW0]; simp
  have bl : Below W.heap.size W W0 := by rw [← hW0]; exact ((Below.refl _ _).alloc (Nat.le_refl _) _).alloc (by simp) _
  have n0 : Box W0 W.heap.size (.slice aa s ac) (.slice ab s ad) (.int .i64 o) (.int .i64 n) := by
    rw [← hW0]; exact (box_new W (.slice aa s ac) (.slice ab s ad) (.int .i64 o) (.int .i64 n) 26).below ((Below.refl (W.heap.size + 1) _).alloc (by simp) _) (by omega)
  have m0 : Box W0 (W.heap.size + 1) (.slice none 0 0) (.slice none 0 0) (.int .i64 0) (.int .i64 0) := by
    have q := box_new (W.alloc (.cells #[.slice aa s ac, .slice ab s ad, .int .i64 o, .int .i64 n] 26)) (.slice none 0 0) (.slice none 0 0) (.int .i64 0) (.int .i64 0) 26
    rw [World.size_alloc] at q
    rw [← hW0]; exact q
  have g0 : Free W0 (W.heap.size + 1) := by
    have q := free_new (W.alloc (.cells #[.slice aa s ac, .slice ab s ad, .int .i64 o, .int .i64 n] 26)) #[.slice none 0 0, .slice none 0 0, .int .i64 0, .int .i64 0] 26
    rw [World.size_alloc] at q
    rw [← hW0]; exact q
  have HIW := hide (ints_here2 hi)
  have OAW := hide oa.ints
  have OBW := hide ob.ints
  have BL := hide bl
  have N0 := hide n0
  have M0 := hide m0
  have G0 := hide g0
  have HS0 := hide hs0
  obtain ⟨x0, x1, x2, x3⟩ := n0
  clear hi bl oa ob ra rb hV
  by_cases hqs : q = s
  rotate_left
  · have ez := hide (perV_no (r := s) (q := q) (D := D) (S := S) (A := A) (o := o) (n := n) (fun h => hqs h.1))
    have e1 : ((q : Int) != (s : Int)) = true := by rw [bne_iff_ne]; omega
    obtain ⟨y0, y1, y2, y3⟩ := m0
    have gg := g0
    unfold Free at gg
    clear hqs g0 hs0
    go_enter Try.func72, Try.ntmps72
    go_wp2_with fail
    clear hW0
    refine bodyPost_ret (v := .agg #[.slice none 0 0, .slice none 0 0, .int .i64 0, .int .i64 0]) (by simp [results, Try.results72, go_sem, y0, y1, y2, y3]) rfl (by
      rw [ez.out]
      refine turnR_zero (Kept.of_below ?_)
      repeat (refine Below.setCell ?_ (by simp) _)
      exact BL.out)
  obtain rfl : s = q := hqs.symm
  have e1 : ((s : Int) != (s : Int)) = false := by simp
  obtain ⟨W1, hW1⟩ : ∃ W1, W0.alloc (.cells #[.slice none 0 0, .slice none 0 0, .int .i64 o, .int .i64 n] 26) = W1 := ⟨_, rfl⟩
  have T0 := hide (show WS W (W0.heap.size + 1) W0.heap.size NoA (.slice none 0 0) (.slice none 0 0) 0 0 (perf D A 0) (perf S A 0) o n W1 from by rw [← hW1]; exact ws_new _ _ _ BL.out m0 g0 (by omega))
  have N1 := hide (N0.out.below (show Below W0.heap.size W0 W1 by rw [← hW1]; exact (Below.refl _ _).alloc (Nat.le_refl _) _) (by omega))
  clear m0 g0 hs0 hqs
  go_enter Try.func72, Try.ntmps72
  go_wp2_with fail
  clear hW0 hW1 x0 x1 x2 x3 e1
  go_loopw [22] (fun i wx => ∃ (t : Nat) (a1 b1 : Option Addr) (c1 d1 : Nat), t ≤ s ∧ i = .int .i64 t ∧ PerOk s A t ∧ WS W (W0.heap.size + 1) W0.heap.size NoA (.slice a1 t c1) (.slice b1 t d1) t t (perf D A t) (perf S A t) o n wx ∧ Box wx W.heap.size (.slice aa s ac) (.slice ab s ad) (.int .i64 o) (.int .i64 n)) (fun i _ => s - (intOf i).toNat)
  case atStart => exact ⟨0, none, none, 0, 0, Nat.zero_le _, rfl, fun i hi => by omega, T0.out, N1.out⟩
  case round =>
    obtain ⟨X, rfl⟩ : ∃ X, X = wr := ⟨_, rfl⟩
    obtain ⟨t, a1, b1, c1, d1, ht, rfl, hper, hws, hbx⟩ := hrel
    have HPER := hide hper
    have HWS := hide hws
    have HBX := hide hbx
    have zz : W.heap.size + 1 < W0.heap.size := by have := HS0.out; omega
    have zX := hws.sz
    have kp := hws.kept
    have HIX := hide (HIW.out.kept (Nat.le_refl _) kp (fun y hy e => e))
    have OAX := hide (OAW.out.kept (Nat.le_refl _) kp (fun y hy e => e))
    have OBX := hide (OBW.out.kept (Nat.le_refl _) kp (fun y hy e => e))
    have bWX : Below W.heap.size W X := hws.below
    have BWX := hide bWX
    have sX := bWX.size
    clear hper hws kp bWX
    obtain ⟨x0, x1, x2, x3⟩ := hbx
    by_cases hlt : t < s
    · have tI : (t : Int) < s := by omega
      have tI2 : (t : Int) ≤ ica := by omega
      have tI0 : (0 : Int) ≤ t := by omega
      rcases HIX.out with h0 | ⟨bi, oi, rfl, hbi, hci⟩
      · omega
      have ci := (hci t hlt).1
      have PRE := hide (show ∀ Y, Below X.heap.size X Y → Ints W.heap.size Y (some ⟨bi, oi, none⟩) t A from fun Y hY => Ints.below (.inr ⟨bi, oi, rfl, hbi, fun j hj => hci j (by omega)⟩) (hY.mono (by omega)))
      by_cases hx : 0 ≤ A t ∧ A t < s
      rotate_left
      · have ez := hide (perV_no (r := s) (q := s) (D := D) (S := S) (A := A) (o := o) (n := n) (fun h => hx (h.2 t hlt).1))
        clear hci
        go_wp2_with fail
        refine (hasAxis aa ab s s ac ad o n (A t) X).mono ?_
        rintro e X1 ⟨rfl, hX1⟩
        have b2 : Below X.heap.size X X1 := by rw [hX1]; exact (Below.refl _ _).alloc (Nat.le_refl _) _
        have T1 := hide (HWS.out.later b2)
        rw [decide_eq_false hx]
        obtain ⟨y0, y1, y2, y3⟩ := T1.out.rbox
        have gg := T1.out.rfree
        unfold Free at gg
        have B1 := hide T1.out.below
        clear hX1 b2 x0 x1 x2 x3 hx
        go_wp2_with fail
        refine bodyPost_ret (v := .agg #[.slice none 0 0, .slice none 0 0, .int .i64 0, .int .i64 0]) (by simp [results, Try.results72, go_sem, y0, y1, y2, y3]) rfl (by
          rw [ez.out]
          refine turnR_zero (Kept.of_below ?_)
          repeat (refine Below.setCell ?_ (by simp) _)
          exact B1.out)
      obtain ⟨k, hk⟩ : ∃ k : Nat, A t = k := ⟨(A t).toNat, by omega⟩
      have kI : (k : Int) < s := by omega
      have ks : k < s := by omega
      have HK := hide hk
      rw [hk] at ci
      clear hx hk hci
      go_wp2_with fail
      refine (hasAxis aa ab s s ac ad o n (k : Int) X).mono ?_
      rintro e X1 ⟨rfl, hX1⟩
      have b2 : Below X.heap.size X X1 := by rw [hX1]; exact (Below.refl _ _).alloc (Nat.le_refl _) _
      have T1 := hide (HWS.out.later b2)
      have HBX1 := hide (HBX.out.below b2 (by omega))
      have PR1 := hide (PRE.out X1 b2)
      have OA1 := hide (OAX.out.below (b2.mono (by omega)))
      have OB1 := hide (OBX.out.below (b2.mono (by omega)))
      have sX1 : X.heap.size ≤ X1.heap.size := b2.size
      rw [decide_eq_true (show (0 : Int) ≤ (k : Int) ∧ (k : Int) < s from ⟨by omega, kI⟩)]
      clear hX1 b2 x0 x1 x2 x3 ci
      go_wp2_with fail
      refine (containsI W.heap.size (some ⟨bi, oi, none⟩) t ica A (k : Int) X1 PR1.out (by omega)).mono ?_
      rintro e X2 ⟨⟨z, rfl, hz⟩, hw⟩
      have hw := hw.symm
      subst hw
      cases z with
      | true =>
        have ez := hide (perV_no (r := s) (q := s) (D := D) (S := S) (A := A) (o := o) (n := n) (fun h => by
          obtain ⟨j, hj, e⟩ := hz.1 rfl
          exact (h.2 t hlt).2 j hj (by rw [e, HK.out])))
        obtain ⟨y0, y1, y2, y3⟩ := T1.out.rbox
        have gg := T1.out.rfree
        unfold Free at gg
        have B1 := hide T1.out.below
        clear hz
        go_wp2_with fail
        refine bodyPost_ret (v := .agg #[.slice none 0 0, .slice none 0 0, .int .i64 0, .int .i64 0]) (by simp [results, Try.results72, go_sem, y0, y1, y2, y3]) rfl (by
          rw [ez.out]
          refine turnR_zero (Kept.of_below ?_)
          repeat (refine Below.setCell ?_ (by simp) _)
          exact B1.out)
      | false =>
        have NEW := hide (show PerOk s A (t + 1) from HPER.out.next (by rw [HK.out]; omega) (fun j hj e => by
          have := hz.2 ⟨j, hj, by rw [e, HK.out]⟩
          cases this))
        clear hz
        rcases OA1.out with h0 | ⟨ba, oa, rfl, hba, hca⟩
        · omega
        rcases OB1.out with h0 | ⟨bb, ob, rfl, hbb, hcb⟩
        · omega
        have ca := (hca k ks).1
        have cb := (hcb k ks).1
        have BD := hide (hca k ks).2
        have BS := hide (hcb k ks).2
        clear hca hcb
        have TD := hide (show WS W (W0.heap.size + 1) W0.heap.size NoA (.slice a1 t c1) (.slice b1 t d1) t t (perf D A t) (perf S A t) o n X1.drew from T1.out.drewN 1)
        have CP := hide (push (W0.heap.size + 1) W0.heap.size (.slice a1 t c1) (.slice b1 t d1) t t (perf D A t) (perf S A t) o n (D k) (S k) X1.drew TD.out.pb (by omega) (by omega) BD.out BS.out)
        have NOB := hide (show ∀ j, j < W0.heap.size → ¬ (j = W0.heap.size ∨ OB (.slice a1 t c1) (.slice b1 t d1) j) from fun j hj e => by
          rcases e with e | e | e
          · omega
          · have := (TD.out.pb.ra.lt e).1; omega
          · have := (TD.out.pb.rb.lt e).1; omega)
        have F1 := hide (fun (Y : World) (hY : Kept (fun j => j = W0.heap.size ∨ OB (.slice a1 t c1) (.slice b1 t d1) j) X1.drew Y) => Box.kept (w := X1.drew) HBX1.out hY (by show W.heap.size < X1.heap.size; omega) (NOB.out _ (by omega)))
        have F2 := hide (fun (Y : World) (hY : Kept (fun j => j = W0.heap.size ∨ OB (.slice a1 t c1) (.slice b1 t d1) j) X1.drew Y) => (World.cell?_of_block (w := X1.drew) (a := ⟨ba, oa + k, none⟩) (hY.block ba (by show ba < X1.heap.size; omega) (NOB.out _ (by omega)))).trans ca)
        have F3 := hide (fun (Y : World) (hY : Kept (fun j => j = W0.heap.size ∨ OB (.slice a1 t c1) (.slice b1 t d1) j) X1.drew Y) => (World.cell?_of_block (w := X1.drew) (a := ⟨bb, ob + k, none⟩) (hY.block bb (by show bb < X1.heap.size; omega) (NOB.out _ (by omega)))).trans cb)
        obtain ⟨x0, x1, x2, x3⟩ := HBX1.out
        have EK := hide (show (fun j => if j = t then D k else perf D A t j) = perf D A (t + 1) ∧ (fun j => if j = t then S k else perf S A t j) = perf S A (t + 1) by
          constructor <;> (simp only [perf]; rw [HK.out, Int.toNat_natCast]))
        go_wp2_with fail
        go_region_held3 (fun w' => w'.cell? ⟨W.heap.size, 0, none⟩ = some (.slice (some ⟨ba, oa, none⟩) s ac) ∧ w'.cell? ⟨W.heap.size, 1, none⟩ = some (.slice (some ⟨bb, ob, none⟩) s ad) ∧ w'.cell? ⟨ba, oa + k, none⟩ = some (.int .i64 (D k)) ∧ w'.cell? ⟨bb, ob + k, none⟩ = some (.int .i64 (S k)))
          ((try dsimp only) <;> (repeat' apply And.intro) <;> (first | with_reducible assumption | assumption))
          (first
          | (go_at_call 94
             refine CP.out.mono ?_
             rintro e Y ⟨⟨v, rfl⟩, hpu⟩
             obtain ⟨va', vb', hpb, hkY, hob⟩ := hpu
             have hpu' := hide (show PushR (W0.heap.size + 1) W0.heap.size (.slice a1 t c1) (.slice b1 t d1) t t (perf D A t) (perf S A t) o n (D k) (S k) X1.drew Y from ⟨va', vb', hpb, hkY, hob⟩)
             have BY := hide (F1.out Y hkY)
             obtain ⟨u0, u1, u2, u3⟩ := F1.out Y hkY
             have ca2 := F2.out Y hkY
             have cb2 := F3.out Y hkY
             clear hpb hkY hob))
        all_goals (go_wp2_with fail)
        all_goals go_roundw
        all_goals first
          | (simp only [intOf]; omega)
          | (simp [intOf]; omega)
          | (obtain ⟨v1, v2, T2⟩ := TD.out.push hpu'.out
             obtain ⟨a2, c2, rfl, _⟩ := T2.pb.ra.own
             obtain ⟨b2, d2, rfl, _⟩ := T2.pb.rb.own
             have T3 : WS W (W0.heap.size + 1) W0.heap.size NoA (.slice a2 (t + 1) c2) (.slice b2 (t + 1) d2) (t + 1) (t + 1) (perf D A (t + 1)) (perf S A (t + 1)) o n Y := by
               rw [← EK.out.1, ← EK.out.2]; exact T2
             exact ⟨t + 1, a2, b2, c2, d2, by omega, by go_num, NEW.out, T3, BY.out⟩)
    · obtain rfl : t = s := by omega
      have ez := hide (perV_yes (r := t) (q := t) (D := D) (S := S) (A := A) (o := o) (n := n) ⟨rfl, HPER.out⟩)
      obtain ⟨y0, y1, y2, y3⟩ := HWS.out.rbox
      have gg := HWS.out.rfree
      unfold Free at gg
      obtain ⟨p0, p1, p2, p3⟩ := HWS.out.pb.box
      go_wp2_with fail
      refine bodyPost_ret (v := .agg #[.slice a1 t c1, .slice b1 t d1, .int .i64 o, .int .i64 n]) (by simp [results, Try.results72, go_sem, y0, y1, y2, y3]) rfl ?_
      show TurnR C (perV t t D S A o n) (Value.slice aa t ac) (Value.slice ab t ad) W _ _
      rw [ez.out]
      exact HWS.out.turnR (by omega)
end Vo
end Go.Proofs.Ytejfodkobfdelaa
