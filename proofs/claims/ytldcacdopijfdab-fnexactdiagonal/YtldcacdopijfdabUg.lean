/- The turn of Diagonal; Diagonal of the program. -/
import Derived.Test.YtldcacdopijfdabUe
namespace Go.Proofs.Ytldcacdopijfdab
namespace Vo
open Go.ChangeShapes Go.WideShapes Go.ChangeAt Go.RowKit Go.Joins
open Vl Vp Vr
set_option linter.unusedVariables false
set_option linter.unusedSimpArgs false

/-- how many of the first axes are kept -/
def dgc (a b : Nat) : Nat → Nat | 0 => 0 | i + 1 => if i = a ∨ i = b then dgc a b i else dgc a b i + 1
/-- what stands along them -/
def dgf (a b : Nat) (D : Nat → Int) : Nat → Nat → Int | 0 => fun _ => 0 | i + 1 => if i = a ∨ i = b then dgf a b D i else upd (dgf a b D i) (dgc a b i) (D i)
theorem dgc_le (a b i : Nat) : dgc a b i ≤ i := by
  induction i with
  | zero => exact Nat.le_refl _
  | succ i ih => simp only [dgc]; split <;> omega
theorem dgc_cnt {a b : Nat} (h : a ≠ b) (i : Nat) : dgc a b i + (if a < i then 1 else 0) + (if b < i then 1 else 0) = i := by
  induction i with
  | zero => simp [dgc]
  | succ i ih =>
    simp only [dgc]
    by_cases c3 : i = a
    · subst c3
      rw [if_pos (.inl rfl), if_pos (show i < i + 1 by omega)]
      rw [if_neg (show ¬ i < i by omega)] at ih
      by_cases c2 : b < i
      · rw [if_pos c2] at ih; rw [if_pos (show b < i + 1 by omega)]; omega
      · rw [if_neg c2] at ih; rw [if_neg (show ¬ b < i + 1 by omega)]; omega
    · by_cases c4 : i = b
      · subst c4
        rw [if_pos (.inr rfl), if_pos (show i < i + 1 by omega)]
        rw [if_neg (show ¬ i < i by omega)] at ih
        by_cases c2 : a < i
        · rw [if_pos c2] at ih; rw [if_pos (show a < i + 1 by omega)]; omega
        · rw [if_neg c2] at ih; rw [if_neg (show ¬ a < i + 1 by omega)]; omega
      · rw [if_neg (fun e => by rcases e with e | e; exact c3 e; exact c4 e)]
        by_cases c1 : a < i
        · rw [if_pos c1] at ih; rw [if_pos (show a < i + 1 by omega)]
          by_cases c2 : b < i
          · rw [if_pos c2] at ih; rw [if_pos (show b < i + 1 by omega)]; omega
          · rw [if_neg c2] at ih; rw [if_neg (show ¬ b < i + 1 by omega)]; omega
        · rw [if_neg c1] at ih; rw [if_neg (show ¬ a < i + 1 by omega)]
          by_cases c2 : b < i
          · rw [if_pos c2] at ih; rw [if_pos (show b < i + 1 by omega)]; omega
          · rw [if_neg c2] at ih; rw [if_neg (show ¬ b < i + 1 by omega)]; omega
def diaOk (r : Nat) (x y : Int) : Prop := (0 ≤ x ∧ x < r) ∧ (0 ≤ y ∧ y < r) ∧ x ≠ y
instance (r : Nat) (x y : Int) : Decidable (diaOk r x y) := by unfold diaOk; infer_instance
/-- the view over the axes that are kept, and the one that goes along both -/
def diaN (r : Nat) (D S : Nat → Int) (o n : Int) (a b : Nat) : PV :=
  ⟨dgc a b r + 1, dgc a b r + 1, upd (dgf a b D r) (dgc a b r) (min (D a) (D b)), upd (dgf a b S r) (dgc a b r) (so (min (D a) (D b)) (S a + S b)), o, n⟩
def diaV (r : Nat) (D S : Nat → Int) (o n x y : Int) : PV := if diaOk r x y then diaN r D S o n x.toNat y.toNat else PV.zero
theorem diaV_no {r : Nat} {D S : Nat → Int} {o n x y : Int} (h : ¬ diaOk r x y) : diaV r D S o n x y = PV.zero := by unfold diaV; rw [if_neg h]
theorem diaV_yes {r : Nat} {D S : Nat → Int} {o n : Int} {a b : Nat} (h : diaOk r a b) : diaV r D S o n a b = diaN r D S o n a b := by unfold diaV; rw [if_pos h, Int.toNat_natCast, Int.toNat_natCast]
theorem diaV_le (r : Nat) (D S : Nat → Int) (o n x y : Int) : (diaV r D S o n x y).r ≤ r ∧ (diaV r D S o n x y).s ≤ r := by
  unfold diaV diaN
  split
  · rename_i h
    obtain ⟨h1, h2, h3⟩ := h
    have := dgc_cnt (a := x.toNat) (b := y.toNat) (by omega) r
    rw [if_pos (by omega), if_pos (by omega)] at this
    exact ⟨by show dgc x.toNat y.toNat r + 1 ≤ r; omega, by show dgc x.toNat y.toNat r + 1 ≤ r; omega⟩
  · exact ⟨Nat.zero_le _, Nat.zero_le _⟩
/-- two ints as a list -/
def twoI (x y : Int) : Nat → Int | 0 => x | _ => y
set_option maxRecDepth 100000 in
set_option maxHeartbeats 3000000 in
theorem diagonalTurn (r s : Nat) (D S : Nat → Int) (o n x y : Int) (C B : Nat) (ia : Option Addr) (ica : Nat) (va vb : Value) (W : World) (hV : VOk r s D S o n) (ra : RowV C W va r D) (rb : RowV C W vb s S) (hi : Ints B W ia 2 (twoI x y)) (hC : C ≤ W.heap.size) :
    Calls Try.prog 91 #[.agg #[va, vb, .int .i64 o, .int .i64 n], .slice ia 2 ica] W fun e W' => TurnR C (diaV r D S o n x y) va vb W e W' := by
  obtain ⟨aa, ac, rfl, oa⟩ := ra.own
  obtain ⟨ab, ad, rfl, ob⟩ := rb.own
  obtain rfl := hV.2.1
  have r6 : s ≤ 6 := (dok_iff.1 hV.1).1
  rcases ints_here2 hi with h0 | ⟨bi, off, rfl, hbi, hcc⟩
  · omega
  obtain ⟨W0, hW0⟩ : ∃ W0, (W.alloc (.cells #[.slice aa s ac, .slice ab s ad, .int .i64 o, .int .i64 n] 26)).alloc (.cells #[.slice none 0 0, .slice none 0 0, .int .i64 0, .int .i64 0] 26) = W0 := ⟨_, rfl⟩
  have hs0 : W0.heap.size = W.heap.size + 1 + 1 := by rw [← hW0]; simp
  have bl : Below W.heap.size W W0 := by rw [← hW0]; exact ((Below.refl _ _).alloc (Nat.le_refl _) _).alloc (by simp) _
  have n0 : Box W0 W.heap.size (.slice aa s ac) (.slice ab s ad) (.int .i64 o) (.int .i64 n) := by
    rw [← hW0]; exact (box_new W (.slice aa s ac) (.slice ab s ad) (.int .i64 o) (.int .i64 n) 26).below ((Below.refl (W.heap.size + 1) _).alloc (by simp) _) (by omega)
  have m0 : Box W0 (W.heap.size + 1) (.slice none 0 0) (.slice none 0 0) (.int .i64 0) (.int .i64 0) := by
    have q := box_new (W.alloc (.cells #[.slice aa s ac, .slice ab s ad, .int .i64 o, .int .i64 n] 26)) (.slice none 0 0) (.slice none 0 0) (.int .i64 0) (.int .i64 0) 26
    rw [World.size_alloc] at q
    rw [← hW0]; exact q
  have g0 : Free W0 (W.heap.size + 1) := by
    have q := free_new (W.alloc (.cells #[.slice aa s ac, .slice ab s ad, .int .i64 o, .int .i64 n] 26)) #[.slice none 0 0, .slice none 0 0, .int .i64 0, .int .i64 0] 26
    rw [World.size_alloc] at q
    rw [← hW0]; exact q
  have i0 := (bl.cell (p := ⟨bi, off, none⟩) hbi).trans (hcc 0 (by omega)).1
  have i1 := (bl.cell (p := ⟨bi, off + 1, none⟩) hbi).trans (hcc 1 (by omega)).1
  simp only [twoI] at i0 i1
  have OAW := hide oa.ints
  have OBW := hide ob.ints
  have BL := hide bl
  have N0 := hide n0
  have M0 := hide m0
  have G0 := hide g0
  have HS0 := hide hs0
  have HV := hide hV
  obtain ⟨x0, x1, x2, x3⟩ := n0
  clear hi hcc bl oa ob ra rb hV m0 g0 hs0 hbi
  go_enter Try.func91, Try.ntmps91
  go_wp2_with fail
  clear hW0
  go_region_held3 (fun w' => w'.cell? ⟨bi, off, none⟩ = some (.int .i64 x) ∧ w'.cell? ⟨bi, off + 1, none⟩ = some (.int .i64 y))
    ((try dsimp only) <;> (repeat' apply And.intro) <;> (first | with_reducible assumption | assumption)) (fail)
  go_wp2_with fail
  refine (hasAxis aa ab s s ac ad o n x _).mono ?_
  rintro e w1 ⟨rfl, hw1⟩
  have b1 : Below W0.heap.size W0 w1 := by rw [hw1]; exact (Below.refl _ W0).drew.alloc (Nat.le_refl _) _
  clear hw1 x0 x1 x2 x3 i0 i1
  have zz := HS0.out
  have z1 : W.heap.size + 1 < w1.heap.size := by have := b1.size; omega
  have N1 := hide (N0.out.below b1 (by omega))
  have M1 := hide (M0.out.below b1 (by omega))
  have G1 := hide (G0.out.below b1 (by omega))
  have B1 := hide (BL.out.trans (b1.mono BL.out.size))
  clear b1 zz
  by_cases hx : 0 ≤ x ∧ x < s
  rotate_left
  · have ez := hide (diaV_no (r := s) (D := D) (S := S) (o := o) (n := n) (x := x) (y := y) (fun h => hx h.1))
    rw [decide_eq_false hx]
    obtain ⟨y0, y1, y2, y3⟩ := M1.out
    have gg := G1.out
    unfold Free at gg
    clear hx
    go_wp2_with fail
    refine bodyPost_ret (v := .agg #[.slice none 0 0, .slice none 0 0, .int .i64 0, .int .i64 0]) (by simp [results, Try.results91, go_sem, y0, y1, y2, y3]) rfl (by
      rw [ez.out]
      refine turnR_zero (Kept.of_below ?_)
      repeat (refine Below.setCell ?_ (by simp) _)
      exact B1.out)
  rw [decide_eq_true hx]
  obtain ⟨x0, x1, x2, x3⟩ := N1.out
  go_wp2_with fail
  refine (hasAxis aa ab s s ac ad o n y _).mono ?_
  rintro e w2 ⟨rfl, hw2⟩
  have b1 : Below w1.heap.size w1 w2 := by rw [hw2]; exact (Below.refl _ w1).alloc (Nat.le_refl _) _
  clear hw2 x0 x1 x2 x3
  have z2 : W.heap.size + 1 < w2.heap.size := by have := b1.size; omega
  have N2 := hide (N1.out.below b1 (by omega))
  have M2 := hide (M1.out.below b1 (by omega))
  have G2 := hide (G1.out.below b1 (by omega))
  have B2 := hide (B1.out.trans (b1.mono B1.out.size))
  clear b1 N1 M1 G1 B1
  by_cases hy : 0 ≤ y ∧ y < s
  rotate_left
  · have ez := hide (diaV_no (r := s) (D := D) (S := S) (o := o) (n := n) (x := x) (y := y) (fun h => hy h.2.1))
    rw [decide_eq_false hy]
    obtain ⟨y0, y1, y2, y3⟩ := M2.out
    have gg := G2.out
    unfold Free at gg
    have B1 := B2
    clear hy
    go_wp2_with fail
    refine bodyPost_ret (v := .agg #[.slice none 0 0, .slice none 0 0, .int .i64 0, .int .i64 0]) (by simp [results, Try.results91, go_sem, y0, y1, y2, y3]) rfl (by
      rw [ez.out]
      refine turnR_zero (Kept.of_below ?_)
      repeat (refine Below.setCell ?_ (by simp) _)
      exact B1.out)
  rw [decide_eq_true hy]
  obtain ⟨p, rfl⟩ : ∃ p : Nat, x = p := ⟨x.toNat, by omega⟩
  obtain ⟨q, rfl⟩ : ∃ q : Nat, y = q := ⟨y.toNat, by omega⟩
  have hp : p < s := by omega
  have hq : q < s := by omega
  have pI : (p : Int) < s := by omega
  have qI : (q : Int) < s := by omega
  clear hx hy
  by_cases hpq : p = q
  · have e1 : ((p : Int) == (q : Int)) = true := beq_iff_eq.2 (by omega)
    have ez := hide (diaV_no (r := s) (D := D) (S := S) (o := o) (n := n) (x := (p : Int)) (y := (q : Int)) (fun h => h.2.2 (by omega)))
    obtain ⟨y0, y1, y2, y3⟩ := M2.out
    have gg := G2.out
    unfold Free at gg
    have B1 := B2
    clear hpq
    go_wp2_with fail
    refine bodyPost_ret (v := .agg #[.slice none 0 0, .slice none 0 0, .int .i64 0, .int .i64 0]) (by simp [results, Try.results91, go_sem, y0, y1, y2, y3]) rfl (by
      rw [ez.out]
      refine turnR_zero (Kept.of_below ?_)
      repeat (refine Below.setCell ?_ (by simp) _)
      exact B1.out)
  have e1 : ((p : Int) == (q : Int)) = false := beq_eq_false_iff_ne.2 (by omega)
  have ez := hide (diaV_yes (r := s) (D := D) (S := S) (o := o) (n := n) (a := p) (b := q) ⟨by omega, by omega, by omega⟩)
  obtain ⟨W1, hW1⟩ : ∃ W1, w2.alloc (.cells #[.slice none 0 0, .slice none 0 0, .int .i64 o, .int .i64 n] 26) = W1 := ⟨_, rfl⟩
  have HCC := hide (show C ≤ w2.heap.size + 1 by omega)
  have T0 := hide (show WS W (w2.heap.size + 1) w2.heap.size NoA (.slice none 0 0) (.slice none 0 0) 0 0 (dgf p q D 0) (dgf p q S 0) o n W1 from by rw [← hW1]; exact ws_new _ _ _ B2.out M2.out G2.out z2)
  have N3 := hide (N2.out.below (show Below w2.heap.size w2 W1 by rw [← hW1]; exact (Below.refl _ _).alloc (Nat.le_refl _) _) (by omega))
  obtain ⟨x0, x1, x2, x3⟩ := N2.out
  have k1 : ∀ (z : Obj) i, (w2.alloc z).cell? ⟨W.heap.size, i, none⟩ = w2.cell? ⟨W.heap.size, i, none⟩ := fun z i => World.cell?_alloc_old w2 z ⟨W.heap.size, i, none⟩ (by show W.heap.size ≠ w2.heap.size; omega)
  obtain ⟨v0, v1, v2, v3⟩ := N3.out
  clear hpq
  go_wp2_with fail
  clear hW1 x0 x1 x2 x3 e1 k1 v0 v1 v2 v3
  go_loopw [41] (fun i wx => ∃ (t : Nat) (a1 b1 : Option Addr) (c1 d1 : Nat), t ≤ s ∧ i = .int .i64 t ∧ WS W (w2.heap.size + 1) w2.heap.size NoA (.slice a1 (dgc p q t) c1) (.slice b1 (dgc p q t) d1) (dgc p q t) (dgc p q t) (dgf p q D t) (dgf p q S t) o n wx ∧ Box wx W.heap.size (.slice aa s ac) (.slice ab s ad) (.int .i64 o) (.int .i64 n)) (fun i _ => s - (intOf i).toNat)
  case atStart => exact ⟨0, none, none, 0, 0, Nat.zero_le _, rfl, T0.out, N3.out⟩
  case round =>
    obtain ⟨X, rfl⟩ : ∃ X, X = wr := ⟨_, rfl⟩
    obtain ⟨t, a1, b1, c1, d1, ht, rfl, hws, hbx⟩ := hrel
    have HWS := hide hws
    have HBX := hide hbx
    have zX := hws.sz
    have lP := hws.pb.lt
    have OAX := hide (OAW.out.kept (Nat.le_refl _) hws.kept (fun y hy e => e))
    have OBX := hide (OBW.out.kept (Nat.le_refl _) hws.kept (fun y hy e => e))
    have dle := dgc_le p q t
    clear hws
    obtain ⟨x0, x1, x2, x3⟩ := hbx
    rcases OAX.out with h0 | ⟨ba, oa, rfl, hba, hca⟩
    · omega
    rcases OBX.out with h0 | ⟨bb, ob, rfl, hbb, hcb⟩
    · omega
    have HCA := hide hca
    have HCB := hide hcb
    clear hca hcb
    by_cases hlt : t < s
    · have tI : (t : Int) < s := by omega
      have ca := (HCA.out t hlt).1
      have cb := (HCB.out t hlt).1
      have BD := hide (HCA.out t hlt).2
      have BS := hide (HCB.out t hlt).2
      by_cases htp : t = p ∨ t = q
      · have EC := hide (show dgc p q (t + 1) = dgc p q t ∧ dgf p q D (t + 1) = dgf p q D t ∧ dgf p q S (t + 1) = dgf p q S t from ⟨by simp only [dgc]; rw [if_pos htp], by simp only [dgf]; rw [if_pos htp], by simp only [dgf]; rw [if_pos htp]⟩)
        by_cases h1 : t = p
        · have e1 : ((t : Int) != (p : Int)) = false := by rw [bne_eq_false_iff_eq]; omega
          clear htp h1
          go_wp2_with fail
          go_roundw
          case rel => exact ⟨t + 1, a1, b1, c1, d1, by omega, by go_num, by rw [EC.out.1, EC.out.2.1, EC.out.2.2]; exact HWS.out, HBX.out⟩
          case measure => simp [intOf]; omega
        · have e1 : ((t : Int) != (p : Int)) = true := by rw [bne_iff_ne]; omega
          have e2 : ((t : Int) != (q : Int)) = false := by rw [bne_eq_false_iff_eq]; omega
          clear htp h1
          go_wp2_with fail
          go_roundw
          case rel => exact ⟨t + 1, a1, b1, c1, d1, by omega, by go_num, by rw [EC.out.1, EC.out.2.1, EC.out.2.2]; exact HWS.out, HBX.out⟩
          case measure => simp [intOf]; omega
      · have EC := hide (show dgc p q (t + 1) = dgc p q t + 1 ∧ dgf p q D (t + 1) = upd (dgf p q D t) (dgc p q t) (D t) ∧ dgf p q S (t + 1) = upd (dgf p q S t) (dgc p q t) (S t) from ⟨by simp only [dgc]; rw [if_neg htp], by simp only [dgf]; rw [if_neg htp], by simp only [dgf]; rw [if_neg htp]⟩)
        have e1 : ((t : Int) != (p : Int)) = true := by rw [bne_iff_ne]; omega
        have e2 : ((t : Int) != (q : Int)) = true := by rw [bne_iff_ne]; omega
        have CP := hide (push (w2.heap.size + 1) w2.heap.size (.slice a1 (dgc p q t) c1) (.slice b1 (dgc p q t) d1) (dgc p q t) (dgc p q t) (dgf p q D t) (dgf p q S t) o n (D t) (S t) X HWS.out.pb (by omega) (by omega) BD.out BS.out)
        have F1 := hide (fun (Y : World) (hY : Kept (fun j => j = w2.heap.size ∨ OB (.slice a1 (dgc p q t) c1) (.slice b1 (dgc p q t) d1) j) X Y) => HBX.out.kept hY (by omega) (fun e => by
          rcases e with e | e | e
          · omega
          · have := (HWS.out.pb.ra.lt e).1; omega
          · have := (HWS.out.pb.rb.lt e).1; omega))
        clear htp
        go_wp2_with fail
        refine CP.out.mono ?_
        rintro e Y ⟨⟨v, rfl⟩, hpu⟩
        have HPU := hide hpu
        obtain ⟨va', vb', hpb, hkY, hob⟩ := hpu
        have BY := hide (F1.out Y hkY)
        clear hpb hkY hob x0 x1 x2 x3
        go_wp2_with fail
        go_roundw
        case rel =>
          obtain ⟨v1, v2, T2⟩ := HWS.out.push HPU.out
          obtain ⟨a2, c2, rfl, _⟩ := T2.pb.ra.own
          obtain ⟨b2, d2, rfl, _⟩ := T2.pb.rb.own
          exact ⟨t + 1, a2, b2, c2, d2, by omega, by go_num, by rw [EC.out.1, EC.out.2.1, EC.out.2.2]; exact T2, BY.out⟩
        case measure => simp [intOf]; omega
    · obtain rfl : t = s := by omega
      have cp := (HCA.out p hp).1
      have cq := (HCA.out q hq).1
      have sp := (HCB.out p hp).1
      have sq := (HCB.out q hq).1
      obtain ⟨m, hm⟩ : ∃ m, min (D p) (D q) = m := ⟨_, rfl⟩
      have bdp := (HCA.out p hp).2
      have bdq := (HCA.out q hq).2
      have BM := hide (show bd m by rw [← hm]; unfold bd at *; omega)
      have v7 := HV.out.2.2.2.2.2.2.1
      have l1 := v7 p hp
      have l2 := v7 q hq
      have e3 : IntKind.i64.wrap (S p + S q) = S p + S q := by rw [IntKind.wrap_i64]; omega
      have BSO := hide (show bd (so m (S p + S q)) from so_bd (by unfold bd; omega))
      have TD := hide (show WS W (w2.heap.size + 1) w2.heap.size NoA (.slice a1 (dgc p q t) c1) (.slice b1 (dgc p q t) d1) (dgc p q t) (dgc p q t) (dgf p q D t) (dgf p q S t) o n X.drew.drew from (HWS.out.drewN 1).drewN 1)
      have CP := hide (push (w2.heap.size + 1) w2.heap.size (.slice a1 (dgc p q t) c1) (.slice b1 (dgc p q t) d1) (dgc p q t) (dgc p q t) (dgf p q D t) (dgf p q S t) o n m (so m (S p + S q)) X.drew.drew TD.out.pb (by omega) (by omega) BM.out BSO.out)
      have CS := hide (fun (Y : World) => strideSo m (S p + S q) Y)
      have NOB := hide (show ∀ j, j < w2.heap.size → ¬ (j = w2.heap.size ∨ OB (.slice a1 (dgc p q t) c1) (.slice b1 (dgc p q t) d1) j) from fun j hj e => by
        rcases e with e | e | e
        · omega
        · have := (HWS.out.pb.ra.lt e).1; omega
        · have := (HWS.out.pb.rb.lt e).1; omega)
      have F1 := hide (fun (Y : World) (hY : Kept (fun j => j = w2.heap.size ∨ OB (.slice a1 (dgc p q t) c1) (.slice b1 (dgc p q t) d1) j) X.drew.drew Y) (j i : Nat) (hj : j < w2.heap.size) => show Y.cell? ⟨j, i, none⟩ = X.cell? ⟨j, i, none⟩ from World.cell?_of_block (w := X.drew.drew) (a := ⟨j, i, none⟩) (hY.block j (by show j < X.heap.size; omega) (NOB.out j hj)))
      clear bdp bdq v7 l1 l2
      go_upto_region 11 with fail
      go_cut [10] (fun v wx => v = .int .i64 m ∧ wx = X.drew)
      case first =>
        go_region
        all_goals (go_wp2_with fail)
        all_goals go_meet
        all_goals exact ⟨by rw [← hm]; refine congrArg (Value.int IntKind.i64) ?_; omega, rfl⟩
      case rest =>
      obtain ⟨rfl, hw⟩ := hcut
      subst hw
      go_wp2_with fail
      go_region_held3 (fun w' => w'.cell? ⟨W.heap.size, 1, none⟩ = some (.slice (some ⟨bb, ob, none⟩) t ad) ∧ w'.cell? ⟨bb, ob + p, none⟩ = some (.int .i64 (S p)) ∧ w'.cell? ⟨bb, ob + q, none⟩ = some (.int .i64 (S q)))
        ((try dsimp only) <;> (repeat' apply And.intro) <;> (first | with_reducible assumption | assumption))
        (first
        | (go_at_call 107; refine (CS.out _).mono ?_; rintro e w4 ⟨rfl, rfl⟩)
        | (go_at_call 109
           refine CP.out.mono ?_
           rintro e Y ⟨⟨v, rfl⟩, hpu⟩
           have HPU := hide hpu
           obtain ⟨va', vb', hpb, hkY, hob⟩ := hpu
           have u1 := (F1.out Y hkY W.heap.size 1 (by omega)).trans x1
           have u2 := (F1.out Y hkY bb (ob + p) (by omega)).trans sp
           have u3 := (F1.out Y hkY bb (ob + q) (by omega)).trans sq
           clear hpb hkY hob))
      obtain ⟨v1, v2, T2⟩ := TD.out.push HPU.out
      obtain ⟨a2, c2, rfl, _⟩ := T2.pb.ra.own
      obtain ⟨b2, d2, rfl, _⟩ := T2.pb.rb.own
      have T3 := hide T2
      obtain ⟨y0, y1, y2, y3⟩ := T3.out.rbox
      have gg := T3.out.rfree
      unfold Free at gg
      obtain ⟨p0, p1, p2, p3⟩ := T3.out.pb.box
      clear T2
      go_wp2_with fail
      refine bodyPost_ret (v := .agg #[.slice a2 (dgc p q t + 1) c2, .slice b2 (dgc p q t + 1) d2, .int .i64 o, .int .i64 n]) (by simp [results, Try.results91, go_sem, y0, y1, y2, y3]) rfl ?_
      show TurnR C (diaV t D S o n p q) _ _ W _ _
      rw [ez.out]
      unfold diaN
      rw [hm]
      exact T3.out.turnR HCC.out
theorem diagonalF (B : Nat) (a b : Option Addr) (r s cap dap : Nat) (D S : Nat → Int) (o n x y : Int) (w : World) (hB : B ≤ w.heap.size) (h : Ints B w a r D) (h' : Ints B w b s S) (hr : (r : Int) ≤ 1048576) (hs : (s : Int) ≤ 1048576) (hna : a = none → r = 0 ∧ cap = 0) (hnb : b = none → s = 0 ∧ dap = 0) (hb : bd x ∧ bd y) :
    Calls Try.prog 9 #[.agg #[.slice a r cap, .slice b s dap, .int .i64 o, .int .i64 n], .int .i64 x, .int .i64 y] w fun e w' => ViewR w.heap.size (turnedV r s D S o n (diaV r D S o n x y)) w e w' := by
  obtain ⟨W0, hW0⟩ : ∃ W0, ((w.alloc (.cells #[.slice a r cap, .slice b s dap, .int .i64 o, .int .i64 n] 26)).alloc (.cells #[.slice none 0 0, .slice none 0 0, .int .i64 0, .int .i64 0] 26)).alloc (.cells #[.int .i64 x, .int .i64 y] 3) = W0 := ⟨_, rfl⟩
  have hs0 : W0.heap.size = w.heap.size + 1 + 1 + 1 := by rw [← hW0]; simp
  have bl : Below w.heap.size w W0 := by rw [← hW0]; exact (((Below.refl _ _).alloc (Nat.le_refl _) _).alloc (by simp) _).alloc (by simp; omega) _
  have m0 : Box W0 (w.heap.size + 1) (.slice none 0 0) (.slice none 0 0) (.int .i64 0) (.int .i64 0) := by
    have q := box_new (w.alloc (.cells #[.slice a r cap, .slice b s dap, .int .i64 o, .int .i64 n] 26)) (.slice none 0 0) (.slice none 0 0) (.int .i64 0) (.int .i64 0) 26
    rw [World.size_alloc] at q
    rw [← hW0]; exact q.below (B := w.heap.size + 1 + 1) ((Below.refl _ _).alloc (by simp) _) (by omega)
  have g0 : Free W0 (w.heap.size + 1) := by
    have q := free_new (w.alloc (.cells #[.slice a r cap, .slice b s dap, .int .i64 o, .int .i64 n] 26)) #[.slice none 0 0, .slice none 0 0, .int .i64 0, .int .i64 0] 26
    rw [World.size_alloc] at q
    rw [← hW0]; exact q.below (B := w.heap.size + 1 + 1) ((Below.refl _ _).alloc (by simp) _) (by omega)
  have i0 : Ints W0.heap.size W0 (some ⟨w.heap.size + 1 + 1, 0, none⟩) 2 (twoI x y) := by
    refine .inr ⟨_, _, rfl, by omega, fun j hj => ?_⟩
    obtain ⟨b1, b2⟩ := hb
    rw [← hW0]
    match j, hj with
    | 0, _ => exact ⟨by simp [go_sem, twoI], b1⟩
    | 1, _ => exact ⟨by simp [go_sem, twoI], b2⟩
  have H := hide (h.below (bl.mono hB))
  have H' := hide (h'.below (bl.mono hB))
  have lv := (diaV_le r D S o n x y).1
  have lw := (diaV_le r D S o n x y).2
  have CT := hide (turned ⟨#[100, 105, 97, 103, 111, 110, 97, 108]⟩ 91 (diaV r D S o n x y) (enters_of Try.func91 (by kernel_rfl) rfl) diagonalNamed W0.heap.size a b (some ⟨w.heap.size + 1 + 1, 0, none⟩) r s 2 cap dap 2 D S (twoI x y) o n W0 (Nat.le_refl _) (H.out.mono (by omega)) (H'.out.mono (by omega)) i0 hr hs hna hnb (by omega) (by omega)
    (fun va vb W v ra rb hne hi hsz => diagonalTurn r s D S o n x y _ _ _ _ va vb W v ra rb hi (by omega)))
  have BL := hide bl
  have M0 := hide m0
  have G0 := hide g0
  have HS0 := hide hs0
  clear h h' m0 g0 i0 bl hs0 lv lw
  go_enter Try.func9, Try.ntmps9
  go_wp2_with fail
  refine CT.out.mono ?_
  rintro e w1 ⟨ta, tb, tc, td, rfl, hvo, b1⟩
  obtain ⟨T, hTT⟩ : ∃ T, turnedV r s D S o n (diaV r D S o n x y) = T := ⟨_, rfl⟩
  rw [hTT] at hvo ⊢
  have zz := HS0.out
  have M1 := hide (M0.out.below b1 (by omega))
  have G1 := hide (G0.out.below b1 (by omega))
  have B1 := hide (BL.out.trans (b1.mono BL.out.size))
  have VO := hide hvo
  have HTT := hide hTT
  clear hvo b1 zz hW0 CT hTT
  obtain ⟨y0, y1, y2, y3⟩ := M1.out
  have gg := G1.out
  unfold Free at gg
  go_wp2_with fail
  refine bodyPost_ret (v := .agg #[.slice ta T.r tc, .slice tb T.s td, .int .i64 T.o, .int .i64 T.n]) (by simp [results, Try.results9, go_sem, y0, y1, y2, y3]) rfl ?_
  have zz := HS0.out
  have k4 := kept_sets4 w1 (w.heap.size + 1) (.slice ta T.r tc) (.slice tb T.s td) (.int .i64 T.o) (.int .i64 T.n)
  show ViewR w.heap.size (turnedV r s D S o n (diaV r D S o n x y)) w _ _
  rw [HTT.out]
  exact ⟨ta, tb, tc, td, rfl, (VO.out.kept k4 (fun k q e => by have := (VO.out.blk q).1; have e : k = w.heap.size + 1 := e; omega)).mono (B' := w.heap.size) (by omega), B1.out.trans (k4.below B1.out.size (fun j e => by have e : j = w.heap.size + 1 := e; omega))⟩
end Vo
end Go.Proofs.Ytldcacdopijfdab
