/- Look of the program, whatever the view's lists are. -/
import Derived.Test.YtldcacdopijfdabTo
import Derived.Test.YtldcacdopijfdabUc
import Derived.Test.YtldcacdopijfdabVaj
import Derived.Test.YtldcacdopijfdabUl
import Derived.Test.YtldcacdopijfdabTn
namespace Go.Proofs.Ytldcacdopijfdab
namespace Vo
open Go.ChangeShapes Go.WideShapes Go.ChangeAt Go.RowKit Go.Joins Go.Sort
open Vl Vp Vr
set_option linter.unusedVariables false
set_option linter.unusedSimpArgs false
set_option maxRecDepth 100000 in
set_option maxHeartbeats 2000000 in
theorem spreadTurnN (r s q : Nat) (D S E : Nat → Int) (o n : Int) (C B : Nat) (ia : Option Addr) (ica : Nat) (va vb : Value) (W : World) (hV : VOk r s D S o n) (ra : RowV C W va r D) (rb : RowV C W vb s S) (hi : Ints B W ia q E) (hC : C ≤ W.heap.size) (hq : (q : Int) ≤ 1048576) (hna : ia = none → q = 0) :
    Calls Try.prog 88 #[.agg #[va, vb, .int .i64 o, .int .i64 n], .slice ia q ica] W fun e W' => TurnR C (sprV r q D S E o n) va vb W e W' := by
  obtain ⟨aa, ac, rfl, oa⟩ := ra.own
  obtain ⟨ab, ad, rfl, ob⟩ := rb.own
  obtain rfl := hV.2.1
  have r6 : s ≤ 6 := (dok_iff.1 hV.1).1
  obtain ⟨W0, hW0⟩ : ∃ W0, (W.alloc (.cells #[.slice aa s ac, .slice ab s ad, .int .i64 o, .int .i64 n] 26)).alloc (.cells #[.slice none 0 0, .slice none 0 0, .int .i64 0, .int .i64 0] 26) = W0 := ⟨_, rfl⟩
  have hs0 : W0.heap.size = W.heap.size + 1 + 1 := by rw [← hW0]; simp
  have bl : Below W.heap.size W W0 := by rw [← hW0]; exact ((Below.refl _ _).alloc (Nat.le_refl _) _).alloc (by simp) _
  have n0 : Box W0 W.heap.size (.slice aa s ac) (.slice ab s ad) (.int .i64 o) (.int .i64 n) := by
    rw [← hW0]; exact (box_new W (.slice aa s ac) (.slice ab s ad) (.int .i64 o) (.int .i64 n) 26).below ((Below.refl (W.heap.size + 1) _).alloc (by simp) _) (by omega)
  have f0 : Free W0 W.heap.size := by
    rw [← hW0]; exact (free_new W #[.slice aa s ac, .slice ab s ad, .int .i64 o, .int .i64 n] 26).below ((Below.refl (W.heap.size + 1) _).alloc (by simp) _) (by omega)
  have m0 : Box W0 (W.heap.size + 1) (.slice none 0 0) (.slice none 0 0) (.int .i64 0) (.int .i64 0) := by
    have q := box_new (W.alloc (.cells #[.slice aa s ac, .slice ab s ad, .int .i64 o, .int .i64 n] 26)) (.slice none 0 0) (.slice none 0 0) (.int .i64 0) (.int .i64 0) 26
    rw [World.size_alloc] at q
    rw [← hW0]; exact q
  have g0 : Free W0 (W.heap.size + 1) := by
    have q := free_new (W.alloc (.cells #[.slice aa s ac, .slice ab s ad, .int .i64 o, .int .i64 n] 26)) #[.slice none 0 0, .slice none 0 0, .int .i64 0, .int .i64 0] 26
    rw [World.size_alloc] at q
    rw [← hW0]; exact q
  have HI := hide ((ints_here2 hi).below bl)
  have OA := hide (oa.ints.below bl)
  have OBB := hide (ob.ints.below bl)
  have BL := hide bl
  have N0 := hide n0
  have F0 := hide f0
  have M0 := hide m0
  have G0 := hide g0
  have HS0 := hide hs0
  have HV := hide hV
  have HNA := hide hna
  obtain ⟨x0, x1, x2, x3⟩ := n0
  obtain ⟨y0, y1, y2, y3⟩ := m0
  have gg := g0
  unfold Free at gg
  clear hi bl f0 g0 hs0 hV oa ob ra rb hna
  have CD := hide (Vs.dimsOk W.heap.size ia q ica E W0 HI.out hq)
  cases hd : dok q E with
  | false =>
    rw [hd] at CD
    have ez := hide (sprV_no (r := s) (q := q) (D := D) (S := S) (E := E) (o := o) (n := n) (fun h => by have := h.1; rw [hd] at this; exact absurd this (by decide)))
    clear hd
    go_enter Try.func88, Try.ntmps88
    go_wp2_with fail
    clear hW0
    refine CD.out.mono ?_
    rintro e w1 ⟨rfl, hw⟩
    have hw := hw.symm
    subst hw
    go_wp2_with fail
    refine bodyPost_ret (v := .agg #[.slice none 0 0, .slice none 0 0, .int .i64 0, .int .i64 0]) (by simp [results, Try.results88, go_sem, y0, y1, y2, y3]) rfl (by
      rw [ez.out]
      refine turnR_zero (Kept.of_below ?_)
      repeat (refine Below.setCell ?_ (by simp) _)
      exact BL.out)
  | true =>
  rw [hd] at CD
  have HD := hide hd
  clear hd
  by_cases hrq : s ≤ q
  rotate_left
  · have ez := hide (sprV_no (r := s) (q := q) (D := D) (S := S) (E := E) (o := o) (n := n) (fun h => hrq h.2.1))
    have e1 : IntKind.i64.wrap ((q : Int) - (s : Int)) = (q : Int) - s := by rw [IntKind.wrap_i64]; omega
    have e2 : decide ((q : Int) - s < 0) = true := decide_eq_true (by omega)
    clear hrq
    go_enter Try.func88, Try.ntmps88
    go_wp2_with fail
    clear hW0
    refine CD.out.mono ?_
    rintro e w1 ⟨rfl, hw⟩
    have hw := hw.symm
    subst hw
    go_wp2_with fail
    refine bodyPost_ret (v := .agg #[.slice none 0 0, .slice none 0 0, .int .i64 0, .int .i64 0]) (by simp [results, Try.results88, go_sem, y0, y1, y2, y3]) rfl (by
      rw [ez.out]
      refine turnR_zero (Kept.of_below ?_)
      repeat (refine Below.setCell ?_ (by simp) _)
      exact BL.out)
  obtain ⟨ah, hah⟩ : ∃ ah : Nat, q - s = ah := ⟨_, rfl⟩
  have e1 : IntKind.i64.wrap ((q : Int) - (s : Int)) = (ah : Int) := by rw [IntKind.wrap_i64]; omega
  have e2 : decide ((ah : Int) < 0) = false := decide_eq_false (by omega)
  have q6 : q ≤ 6 := (dok_iff.1 HD.out).1
  have hmk := make_int q (by omega)
  obtain ⟨W1, hW1⟩ : ∃ W1, W0.alloc (.cells (madeCells #[.int .i64 0] q) 3) = W1 := ⟨_, rfl⟩
  have z1 : W1.heap.size = W0.heap.size + 1 := by rw [← hW1]; simp
  have b1 : Below W0.heap.size W0 W1 := by rw [← hW1]; exact (Below.refl _ _).alloc (Nat.le_refl _) _
  have rg : Rw W1 W0.heap.size q (fun _ => 0) := by rw [← hW1]; exact rw_new W0 q 3
  have Z1 := hide z1
  have RG := hide rg
  have zz := HS0.out
  have N1 := hide (N0.out.below b1 (by omega))
  have F1 := hide (F0.out.below b1 (by omega))
  have M1 := hide (M0.out.below b1 (by omega))
  have G1 := hide (G0.out.below b1 (by omega))
  have HI1 := hide (HI.out.below (b1.mono (by omega)))
  have OA1 := hide (OA.out.below (b1.mono (by omega)))
  have OB1 := hide (OBB.out.below (b1.mono (by omega)))
  have B1 := hide (BL.out.trans (b1.mono BL.out.size))
  have AH := hide hah
  obtain ⟨p0, p1, p2, p3⟩ := N1.out
  clear b1 rg zz z1 y0 y1 y2 y3 gg hah
  go_enter Try.func88, Try.ntmps88
  go_wp2_with fail
  clear hW0
  refine CD.out.mono ?_
  rintro e w1 ⟨rfl, hw⟩
  have hw := hw.symm
  subst hw
  go_wp2_with fail
  clear hW1 e1 e2 x0 x1 x2 x3
  go_loopw [29] (fun i wx => ∃ t : Nat, t ≤ s ∧ i = .int .i64 t ∧ Rw wx W0.heap.size q (sprS s q D S E t) ∧ Kept (· = W0.heap.size) W1 wx ∧ ∀ j, j < t → D j = E (ah + j) ∨ D j = 1) (fun i _ => s - (intOf i).toNat)
  case atStart => exact ⟨0, Nat.zero_le _, rfl, RG.out.same (fun t ht => sprS_zero _ _ _ _ _ _), Kept.refl _ _, fun j hj => by omega⟩
  case round =>
    obtain ⟨X, rfl⟩ : ∃ X, X = wr := ⟨_, rfl⟩
    obtain ⟨t, ht, rfl, hrw, hkp, hall⟩ := hrel
    have HRW := hide hrw
    have HKP := hide hkp
    have HALL := hide hall
    have zz := HS0.out
    have zz1 := Z1.out
    have sX : W1.heap.size ≤ X.heap.size := hkp.size
    have NX := hide (N1.out.kept hkp (by omega) (by show ¬ W.heap.size = W0.heap.size; omega))
    have MX := hide (M1.out.kept hkp (by omega) (by show ¬ W.heap.size + 1 = W0.heap.size; omega))
    have FX := hide (F1.out.kept hkp (by omega) (by show ¬ W.heap.size = W0.heap.size; omega))
    have GX := hide (G1.out.kept hkp (by omega) (by show ¬ W.heap.size + 1 = W0.heap.size; omega))
    have HIX := hide (HI1.out.kept (by omega) hkp (fun y hy e => by have e : y = W0.heap.size := e; omega))
    have OAX := hide (OA1.out.kept (by omega) hkp (fun y hy e => by have e : y = W0.heap.size := e; omega))
    have OBX := hide (OB1.out.kept (by omega) hkp (fun y hy e => by have e : y = W0.heap.size := e; omega))
    have BX := hide (B1.out.trans (hkp.below B1.out.size (fun j e => by have e : j = W0.heap.size := e; omega)))
    clear hrw hkp hall p0 p1 p2 p3
    obtain ⟨p0, p1, p2, p3⟩ := NX.out
    by_cases hlt : t < s
    · have tI : (t : Int) < s := by omega
      have tq : ah + t < q := by have := AH.out; omega
      have tqI : (ah : Int) + t < q := by omega
      have e3 : IntKind.i64.wrap ((ah : Int) + (t : Int)) = ((ah + t : Nat) : Int) := by rw [IntKind.wrap_i64]; omega
      have e4 : ((ah + t : Nat) : Int) < q := by omega
      rcases OAX.out with h0 | ⟨ba, oa, rfl, hba, hca⟩
      · omega
      rcases OBX.out with h0 | ⟨bb, ob, rfl, hbb, hcb⟩
      · omega
      rcases HIX.out with h0 | ⟨bi, oi, rfl, hbi, hci⟩
      · omega
      have ca := (hca t hlt).1
      have cb := (hcb t hlt).1
      have ci := (hci (ah + t) tq).1
      have BS := hide (hcb t hlt).2
      obtain ⟨cg, fg, _⟩ := HRW.out (ah + t) tq
      clear hca hcb hci hba hbb hbi zz zz1
      by_cases d1 : D t = E (ah + t)
      · have d1' : (D t == E (ah + t)) = true := beq_iff_eq.2 d1
        have D1 := hide d1
        clear d1
        go_wp2_with fail
        go_roundw
        case rel => exact ⟨t + 1, by omega, by go_num, (HRW.out.set (ah + t) (S t) BS.out).same (fun j hj => by
          have a' := AH.out
          by_cases c : j = ah + t
          · subst c
            have := sprS_at (r := s) (q := q) (D := D) (S := S) (E := E) t (by rw [a']; exact D1.out)
            rw [a'] at this
            rw [this]; simp
          · rw [sprS_ne t (by rw [a']; exact c)]; simp [c]), HKP.out.trans (Kept.setCell _ ⟨W0.heap.size, ah + t, none⟩ _), fun j hj => by
            by_cases c : j = t
            · subst c; exact .inl D1.out
            · exact HALL.out j (by omega)⟩
        case measure => simp [intOf]; omega
      · have d1' : (D t == E (ah + t)) = false := beq_eq_false_iff_ne.2 d1
        have D1 := hide d1
        by_cases d2 : D t = 1
        · have d2' : (D t != 1) = false := by rw [bne_eq_false_iff_eq]; exact d2
          have D2 := hide d2
          clear d1 d2
          go_wp2_with fail
          go_roundw
          case rel => exact ⟨t + 1, by omega, by go_num, HRW.out.same (fun j hj => sprS_no t (by rw [AH.out]; exact D1.out) j), HKP.out, fun j hj => by
            by_cases c : j = t
            · subst c; exact .inr D2.out
            · exact HALL.out j (by omega)⟩
          case measure => simp [intOf]; omega
        · have d2' : (D t != 1) = true := by rw [bne_iff_ne]; exact d2
          have ez := hide (sprV_no (r := s) (q := q) (D := D) (S := S) (E := E) (o := o) (n := n) (fun h => by rcases h.2.2 t hlt with e | e; rw [AH.out] at e; exact d1 e; exact d2 e))
          obtain ⟨y0, y1, y2, y3⟩ := MX.out
          have gg := GX.out
          unfold Free at gg
          clear d1 d2
          go_wp2_with fail
          refine bodyPost_ret (v := .agg #[.slice none 0 0, .slice none 0 0, .int .i64 0, .int .i64 0]) (by simp [results, Try.results88, go_sem, y0, y1, y2, y3]) rfl (by
            rw [ez.out]
            refine turnR_zero (Kept.of_below ?_)
            repeat (refine Below.setCell ?_ (by simp) _)
            exact BX.out)
    · obtain rfl : t = s := by omega
      have ez := hide (sprV_yes (r := t) (q := q) (D := D) (S := S) (E := E) (o := o) (n := n) ⟨HD.out, hrq, fun j hj => by rw [AH.out]; exact HALL.out j hj⟩)
      go_wp2_with fail
      refine (cloneN W.heap.size ia q ica E _ HIX.out (by omega) hq HNA.out).mono ?_
      rintro e X1 ⟨v, rfl, rv, b2⟩
      obtain ⟨ca, cc, rfl, ov⟩ := rv.own
      have sX1 : X.heap.size ≤ X1.heap.size := b2.size
      have N2 := hide (NX.out.below b2 (by omega))
      have F2 := hide (FX.out.below b2 (by omega))
      have M2 := hide (MX.out.below b2 (by omega))
      have G2 := hide (GX.out.below b2 (by omega))
      have R2 := hide (HRW.out.below b2 (by omega))
      have OV := hide ov
      have B2 := hide (BX.out.trans (b2.mono BX.out.size))
      clear rv b2 ov p0 p1 p2 p3
      obtain ⟨p0, p1, p2, p3⟩ := N2.out
      obtain ⟨y0, y1, y2, y3⟩ := M2.out
      have ff := F2.out
      have gg := G2.out
      unfold Free at ff gg
      have ne : ¬ (W.heap.size + 1 = W.heap.size) := by omega
      have ne' : ¬ (W.heap.size = W.heap.size + 1) := by omega
      have zz2 := hide (show W0.heap.size = W.heap.size + 1 + 1 ∧ W0.heap.size < X.heap.size from ⟨zz, by omega⟩)
      clear zz zz1
      go_wp2_with fail
      refine bodyPost_ret (v := .agg #[.slice ca q cc, .slice (some ⟨W0.heap.size, 0, none⟩) q q, .int .i64 o, .int .i64 n]) (by simp [results, Try.results88, go_sem, y0, y1, y2, y3]) rfl ?_
      have zs := zz2.out
      have k2 : Kept (· = W.heap.size) X1 ((X1.setCell ⟨W.heap.size, 0, none⟩ (.slice ca q cc)).setCell ⟨W.heap.size, 1, none⟩ (.slice (some ⟨W0.heap.size, 0, none⟩) q q)) := (Kept.setCell X1 ⟨W.heap.size, 0, none⟩ _).trans (Kept.setCell _ ⟨W.heap.size, 1, none⟩ _)
      have k4 := kept_sets4 ((X1.setCell ⟨W.heap.size, 0, none⟩ (.slice ca q cc)).setCell ⟨W.heap.size, 1, none⟩ (.slice (some ⟨W0.heap.size, 0, none⟩) q q)) (W.heap.size + 1) (.slice ca q cc) (.slice (some ⟨W0.heap.size, 0, none⟩) q q) (.int .i64 o) (.int .i64 n)
      have bz := (B2.out.trans (k2.below B2.out.size (fun j e => by have e : j = W.heap.size := e; omega)))
      have bz := bz.trans (k4.below bz.size (fun j e => by have e : j = W.heap.size + 1 := e; omega))
      show TurnR C (sprV t q D S E o n) (Value.slice aa t ac) (Value.slice ab t ad) W _ _
      rw [ez.out]
      refine ⟨ca, some ⟨W0.heap.size, 0, none⟩, cc, q, rfl, ?_, Kept.of_below bz⟩
      have rS := (R2.out.kept k2 (by show ¬ W0.heap.size = W.heap.size; omega)).kept k4 (by show ¬ W0.heap.size = W.heap.size + 1; omega)
      rcases OV.out with h0 | ⟨g, rfl, hg, rwg⟩
      · exact ⟨.inl h0, .inl h0, fun k q1 q2 => absurd h0 q1.1⟩
      · exact vown_of ((rwg.kept k2 (by show ¬ g = W.heap.size; omega)).kept k4 (by show ¬ g = W.heap.size + 1; omega)) rS (by omega) (by omega) (by omega)
theorem spreadG (B : Nat) (a b c : Option Addr) (r s q cap dap cap' : Nat) (D S E : Nat → Int) (o n : Int) (w : World) (hB : B ≤ w.heap.size) (h : Ints B w a r D) (h' : Ints B w b s S) (hI : Ints B w c q E) (hr : (r : Int) ≤ 1048576) (hs : (s : Int) ≤ 1048576) (hq : (q : Int) ≤ 1048576) (hna : a = none → r = 0) (hnb : b = none → s = 0) (hnc : c = none → q = 0) :
    Calls Try.prog 84 #[.agg #[.slice a r cap, .slice b s dap, .int .i64 o, .int .i64 n], .slice c q cap'] w fun e w' => ViewR w.heap.size (turnedV r s D S o n (sprV r q D S E o n)) w e w' := by
  obtain ⟨W0, hW0⟩ : ∃ W0, (w.alloc (.cells #[.slice a r cap, .slice b s dap, .int .i64 o, .int .i64 n] 26)).alloc (.cells #[.slice none 0 0, .slice none 0 0, .int .i64 0, .int .i64 0] 26) = W0 := ⟨_, rfl⟩
  have hs0 : W0.heap.size = w.heap.size + 1 + 1 := by rw [← hW0]; simp
  have bl : Below w.heap.size w W0 := by rw [← hW0]; exact ((Below.refl _ _).alloc (Nat.le_refl _) _).alloc (by simp) _
  have n0 : Box W0 w.heap.size (.slice a r cap) (.slice b s dap) (.int .i64 o) (.int .i64 n) := by
    rw [← hW0]; exact (box_new w (.slice a r cap) (.slice b s dap) (.int .i64 o) (.int .i64 n) 26).below ((Below.refl (w.heap.size + 1) _).alloc (by simp) _) (by omega)
  obtain ⟨x0, x1, x2, x3⟩ := n0
  have m0 : Box W0 (w.heap.size + 1) (.slice none 0 0) (.slice none 0 0) (.int .i64 0) (.int .i64 0) := by
    have q := box_new (w.alloc (.cells #[.slice a r cap, .slice b s dap, .int .i64 o, .int .i64 n] 26)) (.slice none 0 0) (.slice none 0 0) (.int .i64 0) (.int .i64 0) 26
    rw [World.size_alloc] at q
    rw [← hW0]; exact q
  have g0 : Free W0 (w.heap.size + 1) := by
    have q := free_new (w.alloc (.cells #[.slice a r cap, .slice b s dap, .int .i64 o, .int .i64 n] 26)) #[.slice none 0 0, .slice none 0 0, .int .i64 0, .int .i64 0] 26
    rw [World.size_alloc] at q
    rw [← hW0]; exact q
  have H := hide (h.below (bl.mono hB))
  have H' := hide (h'.below (bl.mono hB))
  have HI := hide (hI.below (bl.mono hB))
  have l1 := (sprV_le r q D S E o n).1
  have l2 := (sprV_le r q D S E o n).2
  have CT := hide (turnedN ⟨#[115, 112, 114, 101, 97, 100]⟩ 88 (sprV r q D S E o n) (enters_of Try.func88 (by kernel_rfl) rfl) spreadNamed W0.heap.size a b c r s q cap dap cap' D S E o n W0 (Nat.le_refl _) (H.out.mono (by omega)) (H'.out.mono (by omega)) (HI.out.mono (by omega)) hr hs hna hnb (by omega) (by omega)
    (fun va vb W v ra rb hne hi hsz => spreadTurnN r s q D S E o n _ _ c cap' va vb W v ra rb hi hsz hq hnc))
  have BL := hide bl
  have M0 := hide m0
  have G0 := hide g0
  have HS0 := hide hs0
  clear h h' hI m0 g0 bl hs0 l1 l2
  go_enter Try.func84, Try.ntmps84
  go_wp2_with fail
  refine CT.out.mono ?_
  rintro e w1 ⟨ta, tb, tc, td, rfl, hvo, b1⟩
  obtain ⟨T, hTT⟩ : ∃ T, turnedV r s D S o n (sprV r q D S E o n) = T := ⟨_, rfl⟩
  rw [hTT] at hvo ⊢
  have zz := HS0.out
  have M1 := hide (M0.out.below b1 (by omega))
  have G1 := hide (G0.out.below b1 (by omega))
  have B1 := hide (BL.out.trans (b1.mono BL.out.size))
  have VO := hide hvo
  have HTT := hide hTT
  clear hvo b1 zz hW0 CT hTT x0 x1 x2 x3
  obtain ⟨y0, y1, y2, y3⟩ := M1.out
  have gg := G1.out
  unfold Free at gg
  go_wp2_with fail
  refine bodyPost_ret (v := .agg #[.slice ta T.r tc, .slice tb T.s td, .int .i64 T.o, .int .i64 T.n]) (by simp [results, Try.results84, go_sem, y0, y1, y2, y3]) rfl ?_
  have zz := HS0.out
  have k4 := kept_sets4 w1 (w.heap.size + 1) (.slice ta T.r tc) (.slice tb T.s td) (.int .i64 T.o) (.int .i64 T.n)
  show ViewR w.heap.size (turnedV r s D S o n (sprV r q D S E o n)) w _ _
  rw [HTT.out]
  exact ⟨ta, tb, tc, td, rfl, (VO.out.kept k4 (fun k q e => by have := (VO.out.blk q).1; have e : k = w.heap.size + 1 := e; omega)).mono (B' := w.heap.size) (by omega), B1.out.trans (k4.below B1.out.size (fun j e => by have e : j = w.heap.size + 1 := e; omega))⟩
set_option maxHeartbeats 1000000 in
set_option maxRecDepth 100000 in
set_option maxHeartbeats 2000000 in
theorem lookG (B : Nat) (a b : Option Addr) (c d : Option Addr) (r s cap dap q u cap' dap' : Nat) (D S E T : Nat → Int) (o n : Int) (w : World) (hB : B ≤ w.heap.size) (h : Ints B w a r D) (h' : Ints B w b s S) (hv : Ints B w c q E) (hv' : Ints B w d u T) (hr : (r : Int) ≤ 1048576) (hs : (s : Int) ≤ 1048576) (hq : (q : Int) ≤ 1048576) (hu : (u : Int) ≤ 1048576) (hcn : c = none → q = 0) :
    Calls Try.prog 83 #[.agg #[.slice a r cap, .slice b s dap], .agg #[.slice c q cap', .slice d u dap', .int .i64 o, .int .i64 n]] w fun e w' => TensR w.heap.size (lookP r s D S q u E T o n) w e w' := by
  obtain ⟨W0, hW0⟩ : ∃ W0, ((w.alloc (.cells #[.slice a r cap, .slice b s dap] 35)).alloc (.cells #[.slice c q cap', .slice d u dap', .int .i64 o, .int .i64 n] 26)).alloc (.cells #[.slice none 0 0, .slice none 0 0] 35) = W0 := ⟨_, rfl⟩
  have hs0 : W0.heap.size = w.heap.size + 1 + 1 + 1 := by rw [← hW0]; simp
  have bl : Below w.heap.size w W0 := by rw [← hW0]; exact (((Below.refl _ _).alloc (Nat.le_refl _) _).alloc (by simp) _).alloc (by simp; omega) _
  have n0 : Bx W0 w.heap.size (.slice a r cap) (.slice b s dap) := by
    rw [← hW0]; exact (bx_new w (.slice a r cap) (.slice b s dap) 35).below (((Below.refl (w.heap.size + 1) _).alloc (by simp) _).alloc (by simp) _) (by omega)
  have v0 : Box W0 (w.heap.size + 1) (.slice c q cap') (.slice d u dap') (.int .i64 o) (.int .i64 n) := by
    have q := (box_new (w.alloc (.cells #[.slice a r cap, .slice b s dap] 35)) (.slice c q cap') (.slice d u dap') (.int .i64 o) (.int .i64 n) 26)
    rw [World.size_alloc] at q
    rw [← hW0]; exact q.below ((Below.refl (w.heap.size + 1 + 1) _).alloc (by simp) _) (by omega)
  have m0 : Bx W0 (w.heap.size + 1 + 1) (.slice none 0 0) (.slice none 0 0) := by
    have q := bx_new ((w.alloc (.cells #[.slice a r cap, .slice b s dap] 35)).alloc (.cells #[.slice c q cap', .slice d u dap', .int .i64 o, .int .i64 n] 26)) (.slice none 0 0) (.slice none 0 0) 35
    rw [World.size_alloc, World.size_alloc] at q
    rw [← hW0]; exact q
  have g0 : Free W0 (w.heap.size + 1 + 1) := by
    have q := free_new ((w.alloc (.cells #[.slice a r cap, .slice b s dap] 35)).alloc (.cells #[.slice c q cap', .slice d u dap', .int .i64 o, .int .i64 n] 26)) #[.slice none 0 0, .slice none 0 0] 35
    rw [World.size_alloc, World.size_alloc] at q
    rw [← hW0]; exact q
  have H := hide (h.below (bl.mono hB))
  have H' := hide (h'.below (bl.mono hB))
  have HV := hide (hv.below (bl.mono hB))
  have HV' := hide (hv'.below (bl.mono hB))
  have BL := hide bl
  have HS0 := hide hs0
  have N0 := hide n0
  have V0 := hide v0
  have M0 := hide m0
  have G0 := hide g0
  obtain ⟨x0, x1⟩ := n0
  clear h h' hv hv' bl v0 m0 g0 hs0
  go_enter Try.func83, Try.ntmps83
  go_wp2_with fail
  clear hW0
  refine (tensorOk B a b r s cap dap D S _ (by have := HS0.out; omega) H.out H'.out hr hs).mono ?_
  rintro e w1 ⟨rfl, b1⟩
  have z0 := HS0.out
  have N1 := hide (N0.out.below b1 (by omega))
  have V1 := hide (V0.out.below b1 (by omega))
  have M1 := hide (M0.out.below b1 (by omega))
  have G1 := hide (G0.out.below b1 (by omega))
  have B1 := hide (BL.out.trans (b1.mono BL.out.size))
  have H1' := hide (H'.out.below (b1.mono (by omega)))
  have HV1 := hide (HV.out.below (b1.mono (by omega)))
  have HV1' := hide (HV'.out.below (b1.mono (by omega)))
  have s1 : w.heap.size + 1 + 1 < w1.heap.size := by have := b1.size; omega
  clear b1 x0 x1 z0
  cases ht : tok r s D S with
  | false =>
    obtain ⟨y0, y1⟩ := M1.out
    have gg := G1.out
    unfold Free at gg
    have ez := hide (lookP_no (q := q) (u := u) (E := E) (T := T) (o := o) (n := n) (fun q => by rw [ht] at q; exact absurd q.1 (by decide)))
    clear ht
    go_wp2_with fail
    refine bodyPost_ret (v := .agg #[.slice none 0 0, .slice none 0 0]) (by simp [results, Try.results83, go_sem, y0, y1]) rfl (by
      rw [ez.out]
      refine tensR_zero ?_
      repeat (refine Below.setCell ?_ (by simp; omega) _)
      exact B1.out)
  | true =>
  have HT := hide ht
  clear ht
  obtain ⟨v0, v1, v2, v3⟩ := V1.out
  go_wp2_with fail
  refine (viewOk B c d q u cap' dap' E T o n _ (by omega) HV1.out HV1'.out hq hu).mono ?_
  rintro e w2 ⟨rfl, b2⟩
  have N2 := hide (N1.out.below b2 (by omega))
  have V2 := hide (V1.out.below b2 (by omega))
  have M2 := hide (M1.out.below b2 (by omega))
  have G2 := hide (G1.out.below b2 (by omega))
  have B2 := hide (B1.out.trans (b2.mono B1.out.size))
  have H2' := hide (H1'.out.below (b2.mono (by omega)))
  have HV2 := hide (HV1.out.below (b2.mono (by omega)))
  have HV2' := hide (HV1'.out.below (b2.mono (by omega)))
  have s2 : w1.heap.size ≤ w2.heap.size := b2.size
  clear b2 v0 v1 v2 v3
  obtain ⟨y0, y1⟩ := M2.out
  have gg := G2.out
  unfold Free at gg
  obtain ⟨x0, x1⟩ := N2.out
  obtain ⟨v0, v1, v2, v3⟩ := V2.out
  cases hv : vok q u E T o n with
  | false =>
    have ez := hide (lookP_no (r := r) (s := s) (D := D) (S := S) (q := q) (u := u) (E := E) (T := T) (o := o) (n := n) (fun q => by rw [hv] at q; exact absurd q.2.1 (by decide)))
    clear hv
    go_wp2_with fail
    refine bodyPost_ret (v := .agg #[.slice none 0 0, .slice none 0 0]) (by simp [results, Try.results83, go_sem, y0, y1]) rfl (by
      rw [ez.out]
      refine tensR_zero ?_
      repeat (refine Below.setCell ?_ (by simp; omega) _)
      exact B2.out)
  | true =>
  by_cases hn : n = s
  rotate_left
  · have hn' : (n != (s : Int)) = true := bne_iff_ne.2 hn
    have ez := hide (lookP_no (r := r) (s := s) (D := D) (S := S) (q := q) (u := u) (E := E) (T := T) (o := o) (n := n) (fun q => hn q.2.2))
    clear hv hn
    go_wp2_with fail
    refine bodyPost_ret (v := .agg #[.slice none 0 0, .slice none 0 0]) (by simp [results, Try.results83, go_sem, y0, y1]) rfl (by
      rw [ez.out]
      refine tensR_zero ?_
      repeat (refine Below.setCell ?_ (by simp; omega) _)
      exact B2.out)
  have hn' : (n != (s : Int)) = false := by rw [bne_eq_false_iff_eq]; exact hn
  have ez := hide (lookP_yes ⟨HT.out, hv, hn⟩)
  have PL := hide (fun k => (vok_iff.1 hv).place k)
  have CN := hide (cntS_le q u E T o n)
  have HN := hide hn
  have PBD := hide (fun k => plcN_bd (vok_iff.1 hv) k)
  clear hv hn y0 y1 gg
  go_wp2_with fail
  refine (placesS B c d q u cap' dap' E T o n _ (by omega) HV2.out HV2'.out hq hu).mono ?_
  rintro e w3 ⟨pa, pc, rfl, po, b3⟩
  obtain ⟨N, hNN⟩ : ∃ N, cntS q u E T o n = N := ⟨_, rfl⟩
  rw [hNN] at po CN ez ⊢
  obtain ⟨W3, hW3⟩ : ∃ W3, w3.alloc (.cells #[.slice pa N pc] 22) = W3 := ⟨_, rfl⟩
  have b4 : Below w3.heap.size w3 W3 := by rw [← hW3]; exact (Below.refl _ _).alloc (Nat.le_refl _) _
  have z3 : W3.heap.size = w3.heap.size + 1 := by rw [← hW3]; simp
  have sb := b3.size
  have p3 : W3.cell? ⟨w3.heap.size, 0, none⟩ = some (.slice pa N pc) := by rw [← hW3]; simp [go_sem]
  have P3 := hide p3
  have N3 := hide ((N2.out.below b3 (by omega)).below b4 (by omega))
  have V3 := hide ((V2.out.below b3 (by omega)).below b4 (by omega))
  have M3 := hide ((M2.out.below b3 (by omega)).below b4 (by omega))
  have G3 := hide ((G2.out.below b3 (by omega)).below b4 (by omega))
  have B3 := hide ((B2.out.trans (b3.mono B2.out.size)).trans (b4.mono (by have := B2.out.size; omega)))
  have H3' := hide ((H2'.out.below (b3.mono (by omega))).below (b4.mono (by omega)))
  have HV3 := hide ((HV2.out.below (b3.mono (by omega))).below (b4.mono (by omega)))
  have PO := hide ((po.below b4).ints)
  have Z3 := hide z3
  have s3 : w.heap.size + 1 + 1 < w3.heap.size := by omega
  clear b3 b4 po z3 sb x0 x1 v0 v1 v2 v3
  obtain ⟨x0, x1⟩ := N3.out
  obtain ⟨v0, v1, v2, v3⟩ := V3.out
  go_wp2_with fail
  clear hW3
  refine (elementwise2 N 104 (.pointer (some ⟨w.heap.size, 0, none⟩)) (.pointer (some ⟨w3.heap.size, 0, none⟩)) (fun j => S (plcN E T q o j).toNat) _ (by have := CN.out; omega) (fun k hk => H3'.out.bd _ (by have := PL.out k; have := HN.out; unfold plcN; omega)) (enters_of Try.func104 (by kernel_rfl) rfl) (fun k W hk hW => lookPiece a b pa r s cap dap N pc k w3.heap.size w.heap.size S (plcN E T q o) W3.heap.size W (N3.out.below hW (by have := Z3.out; omega)) ((hW.cell (p := ⟨w3.heap.size, 0, none⟩) (by have := Z3.out; show w3.heap.size < W3.heap.size; omega)).trans P3.out) ((H3'.out.mono (by have := Z3.out; omega)).below hW) (PO.out.below hW) hk (by have := PL.out k; have := HN.out; unfold plcN; omega) (by have := CN.out; omega))).mono ?_
  rintro e w4 ⟨rfl, r4, s4, b4⟩
  have z3 := Z3.out
  have R4 := hide r4
  have V4 := hide (V3.out.below b4 (by omega))
  have M4 := hide (M3.out.below b4 (by omega))
  have G4 := hide (G3.out.below b4 (by omega))
  have B4 := hide (B3.out.trans (b4.mono B3.out.size))
  have HV4 := hide (HV3.out.below (b4.mono (by omega)))
  have sW : w.heap.size + 1 + 1 < W3.heap.size := by omega
  clear r4 b4 x0 x1 v0 v1 v2 v3 p3 z3
  obtain ⟨v0, v1, v2, v3⟩ := V4.out
  go_wp2_with fail
  refine (cloneN B c q cap' E _ HV4.out (by omega) hq hcn).mono ?_
  rintro e w5 ⟨v, rfl, rv, b5⟩
  obtain ⟨va, vc, rfl, ov⟩ := rv.own
  have M5 := hide (M4.out.below b5 (by omega))
  have G5 := hide (G4.out.below b5 (by omega))
  have B5 := hide (B4.out.trans (b5.mono B4.out.size))
  have R5 := hide (R4.out.below b5 s4)
  have OV := hide ov
  have s5 := b5.size
  clear rv b5 ov v0 v1 v2 v3
  obtain ⟨y0, y1⟩ := M5.out
  have gg := G5.out
  unfold Free at gg
  go_wp2_with fail
  refine bodyPost_ret (v := .agg #[.slice va q vc, .slice (some ⟨W3.heap.size, 0, none⟩) N N]) (by simp [results, Try.results83, go_sem, y0, y1]) rfl ?_
  show TensR w.heap.size (lookP r s D S q u E T o n) w _ _
  rw [ez.out]
  exact tens_end (v := ⟨q, N, E, fun j => S (plcN E T q o j).toNat⟩) (P := w.heap.size + 1 + 1) (B := W3.heap.size) ⟨OV.out.mono (by omega), .inr ⟨_, rfl, Nat.le_refl _, R5.out⟩, fun j q1 q2 => by
    have := (OV.out.blk q1).1
    obtain ⟨_, ad, e', e''⟩ := q2
    injection e' with e'
    subst e'
    have e'' : W3.heap.size = j := e''
    omega⟩ (by omega) (by omega) B5.out
end Vo
end Go.Proofs.Ytldcacdopijfdab
