/- Lemmas for the proof of the law. -/
import Derived.Test.YtejfodkobfdelaaMgar
import Derived.Deep.RegionHeld3
import Derived.Test.YtejfodkobfdelaaMgaj
/- Spread: plain, and the turn of the program. -/
namespace Go.Proofs.Ytejfodkobfdelaa
namespace Vo
open Go.ChangeShapes Go.WideShapes Go.ChangeAt Go.RowKit Go.Joins
open Vl Vp Vr
set_option linter.unusedVariables false
set_option linter.unusedSimpArgs false

/-- can lengths be spread to others -/
def SprOk (r q : Nat) (D E : Nat → Int) : Prop := dok q E = true ∧ r ≤ q ∧ ∀ i, i < r → D i = E (q - r + i) ∨ D i = 1
instance (r q : Nat) (D E : Nat → Int) : Decidable (SprOk r q D E) := by unfold SprOk; infer_instance
/-- the strides when m axes are done -/
def sprS (r q : Nat) (D S E : Nat → Int) (m : Nat) : Nat → Int := fun j => if q - r ≤ j ∧ j - (q - r) < m ∧ D (j - (q - r)) = E j then S (j - (q - r)) else 0
def sprV (r q : Nat) (D S E : Nat → Int) (o n : Int) : PV := if SprOk r q D E then ⟨q, q, E, sprS r q D S E r, o, n⟩ else PV.zero
theorem sprV_no {r q : Nat} {D S E : Nat → Int} {o n : Int} (h : ¬ SprOk r q D E) : sprV r q D S E o n = PV.zero := by unfold sprV; rw [if_neg h]
theorem sprV_yes {r q : Nat} {D S E : Nat → Int} {o n : Int} (h : SprOk r q D E) : sprV r q D S E o n = ⟨q, q, E, sprS r q D S E r, o, n⟩ := by unfold sprV; rw [if_pos h]
theorem sprV_le (r q : Nat) (D S E : Nat → Int) (o n : Int) : (sprV r q D S E o n).r ≤ q ∧ (sprV r q D S E o n).s ≤ q := by
  unfold sprV
  split
  · exact ⟨Nat.le_refl _, Nat.le_refl _⟩
  · exact ⟨Nat.zero_le _, Nat.zero_le _⟩
theorem sprS_zero (r q : Nat) (D S E : Nat → Int) (j : Nat) : sprS r q D S E 0 j = 0 := by
  unfold sprS
  rw [if_neg (by omega)]
theorem sprS_at {r q : Nat} {D S E : Nat → Int} (m : Nat) (h : D m = E (q - r + m)) : sprS r q D S E (m + 1) (q - r + m) = S m := by
  unfold sprS
  rw [if_pos ⟨by omega, by omega, by rw [show q - r + m - (q - r) = m by omega]; exact h⟩, show q - r + m - (q - r) = m by omega]
theorem sprS_ne {r q : Nat} {D S E : Nat → Int} (m : Nat) {j : Nat} (h : j ≠ q - r + m) : sprS r q D S E (m + 1) j = sprS r q D S E m j := by
  unfold sprS
  by_cases c : q - r ≤ j ∧ j - (q - r) < m ∧ D (j - (q - r)) = E j
  · rw [if_pos c, if_pos ⟨c.1, by omega, c.2.2⟩]
  · rw [if_neg c, if_neg (fun e => c ⟨e.1, by omega, e.2.2⟩)]
theorem sprS_no {r q : Nat} {D S E : Nat → Int} (m : Nat) (h : ¬ D m = E (q - r + m)) (j : Nat) : sprS r q D S E (m + 1) j = sprS r q D S E m j := by
  by_cases e : j = q - r + m
  · subst e
    unfold sprS
    rw [if_neg (fun e => by rw [show q - r + m - (q - r) = m by omega] at e; exact h e.2.2), if_neg (fun e => by omega)]
  · exact sprS_ne m e
theorem lo_zero {F T : Nat → Int} {a : Nat} (h : ∀ j, j < a → T j = 0) : lo F T a = 0 ∧ hi F T a = 0 := by
  induction a with
  | zero => exact ⟨rfl, rfl⟩
  | succ a ih =>
    have ih := ih (fun j hj => h j (by omega))
    have e := h a (by omega)
    simp only [lo, hi]
    rw [ih.1, ih.2, e, Int.mul_zero]
    omega
theorem lo_behind {F T D S : Nat → Int} {a m : Nat} (h : ∀ j, j < a → T j = 0) (h' : ∀ i, i < m → (F (a + i) - 1) * T (a + i) = (D i - 1) * S i) : lo F T (a + m) = lo D S m ∧ hi F T (a + m) = hi D S m := by
  induction m with
  | zero => exact lo_zero h
  | succ m ih =>
    have ih := ih (fun i hi => h' i (by omega))
    have e := h' m (by omega)
    show lo F T (a + m) + min ((F (a + m) - 1) * T (a + m)) 0 = lo D S m + _ ∧ hi F T (a + m) + max ((F (a + m) - 1) * T (a + m)) 0 = hi D S m + _
    rw [ih.1, ih.2, e]
    exact ⟨rfl, rfl⟩
theorem spr_ok {r q : Nat} {D S E : Nat → Int} {o n : Int} (hv : VOk r r D S o n) (h : SprOk r q D E) : VOk q q E (sprS r q D S E r) o n := by
  obtain ⟨v1, v2, v3, v4, v5, v6, v7, v8, v9⟩ := hv
  obtain ⟨h1, h2, h3⟩ := h
  have lh := lo_behind (F := E) (T := sprS r q D S E r) (D := D) (S := S) (a := q - r) (m := r) (fun j hj => by unfold sprS; rw [if_neg (by omega)]) (fun i hi => by
    by_cases c : D i = E (q - r + i)
    · have : sprS r q D S E r (q - r + i) = S i := by unfold sprS; rw [if_pos ⟨by omega, by omega, by rw [show q - r + i - (q - r) = i by omega]; exact c⟩, show q - r + i - (q - r) = i by omega]
      rw [this, c]
    · have : sprS r q D S E r (q - r + i) = 0 := by unfold sprS; rw [if_neg (fun e => by rw [show q - r + i - (q - r) = i by omega] at e; exact c e.2.2)]
      have e1 : D i = 1 := (h3 i hi).resolve_left c
      rw [this, e1]; omega)
  rw [show q - r + r = q by omega] at lh
  refine ⟨h1, rfl, v3, v4, v5, v6, fun j hj => ?_, by rw [lh.1]; exact v8, by rw [lh.2]; exact v9⟩
  unfold sprS
  split
  · rename_i c; exact v7 _ (by omega)
  · omega
theorem spr_turned {r s q : Nat} {D S E : Nat → Int} {o n : Int} : turnedV r s D S o n (sprV r q D S E o n) = if vok r s D S o n = true then sprV r q D S E o n else PV.zero := by
  unfold turnedV
  by_cases hv : vok r s D S o n = true
  · rw [if_pos hv, if_pos hv]
    have hv' := vok_iff.1 hv
    obtain rfl := hv'.2.1
    by_cases h : SprOk s q D E
    · rw [sprV_yes h]
      unfold PV.orZero
      rw [if_pos (show PV.ok _ = true from vok_iff.2 (spr_ok hv' h))]
    · rw [sprV_no h]
      unfold PV.orZero
      split <;> rfl
  · rw [if_neg hv, if_neg hv]
theorem turned_le2 (r s : Nat) (D S : Nat → Int) (o n : Int) (T : PV) : (turnedV r s D S o n T).r ≤ T.r ∧ (turnedV r s D S o n T).s ≤ T.s := by
  unfold turnedV PV.orZero
  split
  · split
    · exact ⟨Nat.le_refl _, Nat.le_refl _⟩
    · exact ⟨Nat.zero_le _, Nat.zero_le _⟩
  · exact ⟨Nat.zero_le _, Nat.zero_le _⟩
theorem ints_here2 {B : Nat} {w : World} {a : Option Addr} {r : Nat} {D : Nat → Int} (h : Ints B w a r D) : Ints w.heap.size w a r D := by
  rcases h with h | ⟨b, off, e, hb, hc⟩
  · exact .inl h
  · by_cases h0 : r = 0
    · exact .inl h0
    · exact .inr ⟨b, off, e, World.block_lt_of_cell? _ _ (hc 0 (by omega)).1, hc⟩
theorem box_put {w : World} {p : Nat} {v0 v1 v2 v3 : Value} (h : Box w p v0 v1 v2 v3) (u0 u1 : Value) : Box ((w.setCell ⟨p, 0, none⟩ u0).setCell ⟨p, 1, none⟩ u1) p u0 u1 v2 v3 := by
  obtain ⟨a0, a1, a2, a3⟩ := h
  exact ⟨by simp [go_sem, a0, a1], by simp [go_sem, a0, a1], by simp [go_sem, a0, a1, a2], by simp [go_sem, a0, a1, a3]⟩
set_option maxRecDepth 100000 in
set_option maxHeartbeats 2000000 in
theorem spreadTurn (r s q : Nat) (D S E : Nat → Int) (o n : Int) (C B : Nat) (ia : Option Addr) (ica : Nat) (va vb : Value) (W : World) (hV : VOk r s D S o n) (ra : RowV C W va r D) (rb : RowV C W vb s S) (hi : Ints B W ia q E) (hC : C ≤ W.heap.size) (hq : (q : Int) ≤ 1048576) (hna : ia = none → q = 0 ∧ ica = 0) :
    Calls Try.prog 73 #[.agg #[va, vb, .int .i64 o, .int .i64 n], .slice ia q ica] W fun e W' => TurnR C (sprV r q D S E o n) va vb W e W' := by
  obtain ⟨aa, ac, rfl, oa⟩ := ra.own
  obtain ⟨ab, ad, rfl, ob⟩ := rb.own
  obtain rfl := hV.2.1
  have r6 : s ≤ 6 := (dok_iff.1 hV.1).1
  obtain ⟨W0, hW0⟩ : ∃ W0, (W.alloc (.cells #[.slice aa s ac, .slice ab s ad, .int .i64 o, .int .i64 n] 26)).alloc (.cells #[.slice none 0 0, .slice none 0 0, .int .i64 0, .int .i64 0] 26) = W0 := ⟨_, rfl⟩
  have hs0 : W0.heap.size = W.heap.size + 1 + 1 := by rw [← hW0]; simp
  have bl : Below W.heap.size W W0 := by rw [← hW0]; exact ((Below.refl _ _).alloc (Nat.le_refl _) _).alloc (by simp) _
  have n0 : Box W0 W.heap.size (.slice aa s ac) (.slice ab s ad) (.int .i64 o) (.int .i64 n) := by
    rw [← hW0]; exact (box_new W (.slice aa s ac) (.slice ab s ad) (.int .i64 o) (.int .i64 n) 26).below ((Below.refl (W.heap.size + 1) _).alloc (by simp) _) (by omega)
  have f0 : Free W0 W.heap.size := by
    rw [← hW0]; exact (free_new W #[.slice aa s ac, .slice ab s ad, .int .i64 o, .int .i64 n] 26).below ((Below.refl (W.heap.size + 1) _).alloc (by simp) _) (by omega)
  have m0 : Box W0 (W.heap.size + 1) (.slice none 0 0) (.slice none 0 0) (.int .i64 0) (.int .i64 0) := by
    have q := box_new (W.alloc (.cells #[.slice aa s ac, .slice ab s ad, .int .i64 o, .int .i64 n] 26)) (.slice none 0 0) (.slice none 0 0) (.int .i64 0) (.int .i64 0) 26
    rw [World.size_alloc] at q
    rw [← hW0]; exact q
  have g0 : Free W0 (W.heap.size + 1) := by
    have q := free_new (W.alloc (.cells #[.slice aa s ac, .slice ab s ad, .int .i64 o, .int .i64 n] 26)) #[.slice none 0 0, .slice none 0 0, .int .i64 0, .int .i64 0] 26
    rw [World.size_alloc] at q
    rw [← hW0]; exact q
  have HI := hide ((ints_here2 hi).below bl)
  have OA := hide (oa.ints.below bl)
  have OBB := hide (ob.ints.below bl)
  have BL := hide bl
  have N0 := hide n0
  have F0 := hide f0
  have M0 := hide m0
  have G0 := hide g0
  have HS0 := hide hs0
  have HV := hide hV
  have HNA := hide hna
  obtain ⟨x0, x1, x2, x3⟩ := n0
  obtain ⟨y0, y1, y2, y3⟩ := m0
  have gg := g0
  unfold Free at gg
  clear hi bl f0 g0 hs0 hV oa ob ra rb hna
  have CD := hide (Vs.dimsOk W.heap.size ia q ica E W0 HI.out hq)
  cases hd : dok q E with
  | false =>
    rw [hd] at CD
    have ez := hide (sprV_no (r := s) (q := q) (D := D) (S := S) (E := E) (o := o) (n := n) (fun h => by have := h.1; rw [hd] at this; exact absurd this (by decide)))
    clear hd
    go_enter Try.func73, Try.ntmps73
    go_wp2_with fail
    clear hW0
    refine CD.out.mono ?_
    rintro e w1 ⟨rfl, hw⟩
    have hw := hw.symm
    subst hw
    go_wp2_with fail
    refine bodyPost_ret (v := .agg #[.slice none 0 0, .slice none 0 0, .int .i64 0, .int .i64 0]) (by simp [results, Try.results73, go_sem, y0, y1, y2, y3]) rfl (by
      rw [ez.out]
      refine turnR_zero (Kept.of_below ?_)
      repeat (refine Below.setCell ?_ (by simp) _)
      exact BL.out)
  | true =>
  rw [hd] at CD
  have HD := hide hd
  clear hd
  by_cases hrq : s ≤ q
  rotate_left
  · have ez := hide (sprV_no (r := s) (q := q) (D := D) (S := S) (E := E) (o := o) (n := n) (fun h => hrq h.2.1))
    have e1 : IntKind.i64.wrap ((q : Int) - (s : Int)) = (q : Int) - s := by rw [IntKind.wrap_i64]; omega
    have e2 : decide ((q : Int) - s < 0) = true := decide_eq_true (by omega)
    clear hrq
    go_enter Try.func73, Try.ntmps73
    go_wp2_with fail
    clear hW0
    refine CD.out.mono ?_
    rintro e w1 ⟨rfl, hw⟩
    have hw := hw.symm
    subst hw
    go_wp2_with fail
    refine bodyPost_ret (v := .agg #[.slice none 0 0, .slice none 0 0, .int .i64 0, .int .i64 0]) (by simp [results, Try.results73, go_sem, y0, y1, y2, y3]) rfl (by
      rw [ez.out]
      refine turnR_zero (Kept.of_below ?_)
      repeat (refine Below.setCell ?_ (by simp) _)
      exact BL.out)
  obtain ⟨ah, hah⟩ : ∃ ah : Nat, q - s = ah := ⟨_, rfl⟩
  have e1 : IntKind.i64.wrap ((q : Int) - (s : Int)) = (ah : Int) := by rw [IntKind.wrap_i64]; omega
  have e2 : decide ((ah : Int) < 0) = false := decide_eq_false (by omega)
  have q6 : q ≤ 6 := (dok_iff.1 HD.out).1
  have hmk := make_int q (by omega)
  obtain ⟨W1, hW1⟩ : ∃ W1, W0.alloc (.cells (madeCells #[.int .i64 0] q) 3) = W1 := ⟨_, rfl⟩
  have z1 : W1.heap.size = W0.heap.size + 1 := by rw [← hW1]; simp
  have b1 : Below W0.heap.size W0 W1 := by rw [← hW1]; exact (Below.refl _ _).alloc (Nat.le_refl _) _
  have rg : Rw W1 W0.heap.size q (fun _ => 0) := by rw [← hW1]; exact rw_new W0 q 3
  have Z1 := hide z1
  have RG := hide rg
  have zz := HS0.out
  have N1 := hide (N0.out.below b1 (by omega))
  have F1 := hide (F0.out.below b1 (by omega))
  have M1 := hide (M0.out.below b1 (by omega))
  have G1 := hide (G0.out.below b1 (by omega))
  have HI1 := hide (HI.out.below (b1.mono (by omega)))
  have OA1 := hide (OA.out.below (b1.mono (by omega)))
  have OB1 := hide (OBB.out.below (b1.mono (by omega)))
  have B1 := hide (BL.out.trans (b1.mono BL.out.size))
  have AH := hide hah
  obtain ⟨p0, p1, p2, p3⟩ := N1.out
  clear b1 rg zz z1 y0 y1 y2 y3 gg hah
  go_enter Try.func73, Try.ntmps73
  go_wp2_with fail
  clear hW0
  refine CD.out.mono ?_
  rintro e w1 ⟨rfl, hw⟩
  have hw := hw.symm
  subst hw
  go_wp2_with fail
  clear hW1 e1 e2 x0 x1 x2 x3
  go_loopw [29] (fun i wx => ∃ t : Nat, t ≤ s ∧ i = .int .i64 t ∧ Rw wx W0.heap.size q (sprS s q D S E t) ∧ Kept (· = W0.heap.size) W1 wx ∧ ∀ j, j < t → D j = E (ah + j) ∨ D j = 1) (fun i _ => s - (intOf i).toNat)
  case atStart => exact ⟨0, Nat.zero_le _, rfl, RG.out.same (fun t ht => sprS_zero _ _ _ _ _ _), Kept.refl _ _, fun j hj => by omega⟩
  case round =>
    obtain ⟨X, rfl⟩ : ∃ X, X = wr := ⟨_, rfl⟩
    obtain ⟨t, ht, rfl, hrw, hkp, hall⟩ := hrel
    have HRW := hide hrw
    have HKP := hide hkp
    have HALL := hide hall
    have zz := HS0.out
    have zz1 := Z1.out
    have sX : W1.heap.size ≤ X.heap.size := hkp.size
    have NX := hide (N1.out.kept hkp (by omega) (by show ¬ W.heap.size = W0.heap.size; omega))
    have MX := hide (M1.out.kept hkp (by omega) (by show ¬ W.heap.size + 1 = W0.heap.size; omega))
    have FX := hide (F1.out.kept hkp (by omega) (by show ¬ W.heap.size = W0.heap.size; omega))
    have GX := hide (G1.out.kept hkp (by omega) (by show ¬ W.heap.size + 1 = W0.heap.size; omega))
    have HIX := hide (HI1.out.kept (by omega) hkp (fun y hy e => by have e : y = W0.heap.size := e; omega))
    have OAX := hide (OA1.out.kept (by omega) hkp (fun y hy e => by have e : y = W0.heap.size := e; omega))
    have OBX := hide (OB1.out.kept (by omega) hkp (fun y hy e => by have e : y = W0.heap.size := e; omega))
    have BX := hide (B1.out.trans (hkp.below B1.out.size (fun j e => by have e : j = W0.heap.size := e; omega)))
    clear hrw hkp hall p0 p1 p2 p3
    obtain ⟨p0, p1, p2, p3⟩ := NX.out
    by_cases hlt : t < s
    · have tI : (t : Int) < s := by omega
      have tq : ah + t < q := by have := AH.out; omega
      have tqI : (ah : Int) + t < q := by omega
      have e3 : IntKind.i64.wrap ((ah : Int) + (t : Int)) = ((ah + t : Nat) : Int) := by rw [IntKind.wrap_i64]; omega
      have e4 : ((ah + t : Nat) : Int) < q := by omega
      rcases OAX.out with h0 | ⟨ba, oa, rfl, hba, hca⟩
      · omega
      rcases OBX.out with h0 | ⟨bb, ob, rfl, hbb, hcb⟩
      · omega
      rcases HIX.out with h0 | ⟨bi, oi, rfl, hbi, hci⟩
      · omega
      have ca := (hca t hlt).1
      have cb := (hcb t hlt).1
      have ci := (hci (ah + t) tq).1
      have BS := hide (hcb t hlt).2
      obtain ⟨cg, fg, _⟩ := HRW.out (ah + t) tq
      clear hca hcb hci hba hbb hbi zz zz1
      by_cases d1 : D t = E (ah + t)
      · have d1' : (D t == E (ah + t)) = true := beq_iff_eq.2 d1
        have D1 := hide d1
        clear d1
        go_wp2_with fail
        go_roundw
        case rel => exact ⟨t + 1, by omega, by go_num, (HRW.out.set (ah + t) (S t) BS.out).same (fun j hj => by
          have a' := AH.out
          by_cases c : j = ah + t
          · subst c
            have := sprS_at (r := s) (q := q) (D := D) (S := S) (E := E) t (by rw [a']; exact D1.out)
            rw [a'] at this
            rw [this]; simp
          · rw [sprS_ne t (by rw [a']; exact c)]; simp [c]), HKP.out.trans (Kept.setCell _ ⟨W0.heap.size, ah + t, none⟩ _), fun j hj => by
            by_cases c : j = t
            · subst c; exact .inl D1.out
            · exact HALL.out j (by omega)⟩
        case measure => simp [intOf]; omega
      · have d1' : (D t == E (ah + t)) = false := beq_eq_false_iff_ne.2 d1
        have D1 := hide d1
        by_cases d2 : D t = 1
        · have d2' : (D t != 1) = false := by rw [bne_eq_false_iff_eq]; exact d2
          have D2 := hide d2
          clear d1 d2
          go_wp2_with fail
          go_roundw
          case rel => exact ⟨t + 1, by omega, by go_num, HRW.out.same (fun j hj => sprS_no t (by rw [AH.out]; exact D1.out) j), HKP.out, fun j hj => by
            by_cases c : j = t
            · subst c; exact .inr D2.out
            · exact HALL.out j (by omega)⟩
          case measure => simp [intOf]; omega
        · have d2' : (D t != 1) = true := by rw [bne_iff_ne]; exact d2
          have ez := hide (sprV_no (r := s) (q := q) (D := D) (S := S) (E := E) (o := o) (n := n) (fun h => by rcases h.2.2 t hlt with e | e; rw [AH.out] at e; exact d1 e; exact d2 e))
          obtain ⟨y0, y1, y2, y3⟩ := MX.out
          have gg := GX.out
          unfold Free at gg
          clear d1 d2
          go_wp2_with fail
          refine bodyPost_ret (v := .agg #[.slice none 0 0, .slice none 0 0, .int .i64 0, .int .i64 0]) (by simp [results, Try.results73, go_sem, y0, y1, y2, y3]) rfl (by
            rw [ez.out]
            refine turnR_zero (Kept.of_below ?_)
            repeat (refine Below.setCell ?_ (by simp) _)
            exact BX.out)
    · obtain rfl : t = s := by omega
      have ez := hide (sprV_yes (r := t) (q := q) (D := D) (S := S) (E := E) (o := o) (n := n) ⟨HD.out, hrq, fun j hj => by rw [AH.out]; exact HALL.out j hj⟩)
      go_wp2_with fail
      refine (clone W.heap.size ia q ica E _ HIX.out (by omega) hq HNA.out).mono ?_
      rintro e X1 ⟨v, rfl, rv, b2⟩
      obtain ⟨ca, cc, rfl, ov⟩ := rv.own
      have sX1 : X.heap.size ≤ X1.heap.size := b2.size
      have N2 := hide (NX.out.below b2 (by omega))
      have F2 := hide (FX.out.below b2 (by omega))
      have M2 := hide (MX.out.below b2 (by omega))
      have G2 := hide (GX.out.below b2 (by omega))
      have R2 := hide (HRW.out.below b2 (by omega))
      have OV := hide ov
      have B2 := hide (BX.out.trans (b2.mono BX.out.size))
      clear rv b2 ov p0 p1 p2 p3
      obtain ⟨p0, p1, p2, p3⟩ := N2.out
      obtain ⟨y0, y1, y2, y3⟩ := M2.out
      have ff := F2.out
      have gg := G2.out
      unfold Free at ff gg
      have ne : ¬ (W.heap.size + 1 = W.heap.size) := by omega
      have ne' : ¬ (W.heap.size = W.heap.size + 1) := by omega
      have zz2 := hide (show W0.heap.size = W.heap.size + 1 + 1 ∧ W0.heap.size < X.heap.size from ⟨zz, by omega⟩)
      clear zz zz1
      go_wp2_with fail
      refine bodyPost_ret (v := .agg #[.slice ca q cc, .slice (some ⟨W0.heap.size, 0, none⟩) q q, .int .i64 o, .int .i64 n]) (by simp [results, Try.results73, go_sem, y0, y1, y2, y3]) rfl ?_
      have zs := zz2.out
      have k2 : Kept (· = W.heap.size) X1 ((X1.setCell ⟨W.heap.size, 0, none⟩ (.slice ca q cc)).setCell ⟨W.heap.size, 1, none⟩ (.slice (some ⟨W0.heap.size, 0, none⟩) q q)) := (Kept.setCell X1 ⟨W.heap.size, 0, none⟩ _).trans (Kept.setCell _ ⟨W.heap.size, 1, none⟩ _)
      have k4 := kept_sets4 ((X1.setCell ⟨W.heap.size, 0, none⟩ (.slice ca q cc)).setCell ⟨W.heap.size, 1, none⟩ (.slice (some ⟨W0.heap.size, 0, none⟩) q q)) (W.heap.size + 1) (.slice ca q cc) (.slice (some ⟨W0.heap.size, 0, none⟩) q q) (.int .i64 o) (.int .i64 n)
      have bz := (B2.out.trans (k2.below B2.out.size (fun j e => by have e : j = W.heap.size := e; omega)))
      have bz := bz.trans (k4.below bz.size (fun j e => by have e : j = W.heap.size + 1 := e; omega))
      show TurnR C (sprV t q D S E o n) (Value.slice aa t ac) (Value.slice ab t ad) W _ _
      rw [ez.out]
      refine ⟨ca, some ⟨W0.heap.size, 0, none⟩, cc, q, rfl, ?_, Kept.of_below bz⟩
      have rS := (R2.out.kept k2 (by show ¬ W0.heap.size = W.heap.size; omega)).kept k4 (by show ¬ W0.heap.size = W.heap.size + 1; omega)
      rcases OV.out with h0 | ⟨g, rfl, hg, rwg⟩
      · exact ⟨.inl h0, .inl h0, fun k q1 q2 => absurd h0 q1.1⟩
      · exact vown_of ((rwg.kept k2 (by show ¬ g = W.heap.size; omega)).kept k4 (by show ¬ g = W.heap.size + 1; omega)) rS (by omega) (by omega) (by omega)
end Vo
end Go.Proofs.Ytejfodkobfdelaa

/- Places of whole views, and of whole views that are spread. -/
namespace Go.Proofs.Ytejfodkobfdelaa
namespace Vo
open Go.ChangeShapes Go.WideShapes Go.ChangeAt Go.RowKit Go.Joins
open Vl Vp Vr
set_option linter.unusedVariables false
set_option linter.unusedSimpArgs false

theorem sm_mul (I T : Nat → Int) (d : Int) (n : Nat) : sm I (fun j => T j * d) n = sm I T n * d := by
  induction n with
  | zero => simp [sm]
  | succ n ih =>
    show sm I (fun j => T j * d) n + I n * (T n * d) = (sm I T n + I n * T n) * d
    rw [ih, Int.add_mul, Int.mul_assoc]
/-- products of the lengths behind j, below n -/
def wgt (D : Nat → Int) (n j : Nat) : Int := pr (fun t => D (j + 1 + t)) (n - (j + 1))
theorem od_sm (D I : Nat → Int) (n : Nat) : od D I n = sm I (wgt D n) n := by
  induction n with
  | zero => rfl
  | succ n ih =>
    show od D I n * D n + I n = sm I (wgt D (n + 1)) n + I n * wgt D (n + 1) n
    have e1 : wgt D (n + 1) n = 1 := by unfold wgt; rw [show n + 1 - (n + 1) = 0 by omega]; rfl
    have e2 : sm I (wgt D (n + 1)) n = sm I (fun j => wgt D n j * D n) n := sm_same (fun j _ => rfl) (fun j hj => by
      unfold wgt
      rw [show n + 1 - (j + 1) = n - (j + 1) + 1 by omega]
      show pr (fun t => D (j + 1 + t)) (n - (j + 1)) * D (j + 1 + (n - (j + 1))) = _
      rw [show j + 1 + (n - (j + 1)) = n by omega])
    rw [e1, e2, sm_mul, ← ih, Int.mul_one]
theorem bh_wgt {D : Nat → Int} {r j : Nat} (hj : j < r) : bh D r (r - 1 - j) = wgt D r j := by
  rw [bh_seg D r (r - 1 - j) (by omega)]
  unfold wgt
  rw [show r - (r - 1 - j) = j + 1 by omega, show r - (j + 1) = r - 1 - j by omega]
/-- an index's place in the whole view is where it stands -/
theorem sm_whole {D I : Nat → Int} {r : Nat} (hi : ∀ j, j < r → 0 ≤ I j ∧ I j < D j) : sm I (stW D r) r = od D I r := by
  rw [od_sm]
  have key : ∀ n, n ≤ r → sm I (stW D r) n = sm I (wgt D r) n := by
    intro n hn
    induction n with
    | zero => rfl
    | succ n ih =>
      show sm I (stW D r) n + I n * stW D r n = sm I (wgt D r) n + I n * wgt D r n
      rw [ih (by omega)]
      unfold stW
      split
      · rename_i c
        have := hi n (by omega)
        rw [show I n = 0 by omega, Int.zero_mul, Int.zero_mul]
      · rw [bh_wgt (by omega)]
  exact key r (Nat.le_refl _)
theorem sm_behind {F T I S : Nat → Int} {a m : Nat} (h : ∀ j, j < a → T j = 0) (h' : ∀ i, i < m → F (a + i) * T (a + i) = I i * S i) : sm F T (a + m) = sm I S m := by
  induction m with
  | zero =>
    show sm F T a = 0
    clear h'
    induction a with
    | zero => rfl
    | succ a ih =>
      show sm F T a + F a * T a = 0
      rw [ih (fun j hj => h j (by omega)), h a (by omega), Int.mul_zero]; rfl
  | succ m ih =>
    show sm F T (a + m) + F (a + m) * T (a + m) = sm I S m + I m * S m
    rw [ih (fun i hi => h' i (by omega)), h' m (by omega)]
/-- the index that an index of greater dims shows -/
def sprI (r q : Nat) (D J : Nat → Int) : Nat → Int := fun i => if D i = 1 then 0 else J (q - r + i)
theorem sprI_rng {r q : Nat} {D E J : Nat → Int} (h : SprOk r q D E) (hd : ∀ i, i < r → 1 ≤ D i) (hJ : ∀ j, j < q → 0 ≤ J j ∧ J j < E j) : ∀ i, i < r → 0 ≤ sprI r q D J i ∧ sprI r q D J i < D i := by
  intro i hi
  unfold sprI
  split
  · rename_i c; omega
  · rename_i c
    have := hJ (q - r + i) (by have := h.2.1; omega)
    rcases h.2.2 i hi with e | e
    · omega
    · exact absurd e c
/-- a place of a whole view that is spread -/
theorem spr_place {r q : Nat} {D E : Nat → Int} (h : SprOk r q D E) (hd : ∀ i, i < r → 1 ≤ D i) (k : Int) (hE : ∀ j, j < q → 1 ≤ E j) : rel E (sprS r q D (stW D r) E r) q k = od D (sprI r q D (dg E q k)) r := by
  rw [← sm_dg, ← sm_whole (sprI_rng h hd (dg_rng E q hE k))]
  have := sm_behind (F := dg E q k) (T := sprS r q D (stW D r) E r) (I := sprI r q D (dg E q k)) (S := stW D r) (a := q - r) (m := r) (fun j hj => by unfold sprS; rw [if_neg (by omega)]) (fun i hi => by
    unfold sprI
    by_cases c : D i = E (q - r + i)
    · have e : sprS r q D (stW D r) E r (q - r + i) = stW D r i := by unfold sprS; rw [if_pos ⟨by omega, by omega, by rw [show q - r + i - (q - r) = i by omega]; exact c⟩, show q - r + i - (q - r) = i by omega]
      rw [e]
      split
      · rename_i c1
        have : stW D r i = 0 := by unfold stW; rw [if_pos c1]
        rw [this, Int.mul_zero, Int.mul_zero]
      · rfl
    · have e : sprS r q D (stW D r) E r (q - r + i) = 0 := by unfold sprS; rw [if_neg (fun e => by rw [show q - r + i - (q - r) = i by omega] at e; exact c e.2.2)]
      have c1 : D i = 1 := (h.2.2 i hi).resolve_left c
      rw [e, if_pos c1, Int.mul_zero, Int.zero_mul])
  rw [show q - r + r = q by have := h.2.1; omega] at this
  exact this
end Vo
end Go.Proofs.Ytejfodkobfdelaa
