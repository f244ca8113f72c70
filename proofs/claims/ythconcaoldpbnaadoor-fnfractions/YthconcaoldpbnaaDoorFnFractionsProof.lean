/-
  Proved: whatever the arguments, 'FnFractions' returns true: the landed function answers as its model, and what came in reads as it did. No condition.
-/
import Derived.Test.YthconcaoldpbnaaDoorRows
import Derived.Test.YthconcaoldpbnaaDoorShelf
import Derived.Test.YthconcaoldpbnaaDoorNum
import Derived.Test.YthconcaoldpbnaaDoorBase
import Derived.Test.YthconcaoldpbnaaDoorPow
import Derived.Test.YthconcaoldpbnaaDoorFrac
import Derived.Test.YthconcaoldpbnaaDoorOfFrac
import Derived.Test.YthconcaoldpbnaaDoorRec
import Derived.Test.YthconcaoldpbnaaDoorToFrac
import Derived.Test.YthconcaoldpbnaaDoorShow
import Derived.Test.YthconcaoldpbnaaDoorLaid
import Derived.Test.YthconcaoldpbnaaDoorFerm
import Derived.Test.YthconcaoldpbnaaDoorTxt
import Derived.Test.YthconcaoldpbnaaDoorGuess
import Derived.Test.YthconcaoldpbnaaDoorDraw
import Derived.Test.YthconcaoldpbnaaDoorFrc
import Derived.Test.YthconcaoldpbnaaDoorRead
import Derived.Test.YthconcaoldpbnaaDoorRead2
import Derived.Test.YthconcaoldpbnaaDoorLaid2
import Derived.Test.YthconcaoldpbnaaDoorFrc2
import Derived.WalkKit
import Derived.ProofKit
import Derived.OpenShut
import Derived.ShutString
import Derived.ChangeOld
import Derived.Below
import Derived.Lib.SmallJoins
import Derived.Test.YthconcaoldpbnaaDoorTie
import Derived.Test.YthconcaoldpbnaaDoorCards
import Derived.LaidMore
import Derived.Lay
import Derived.SevenTiedAt
import Derived.Stop.Joined
namespace Go.Proofs.YthconcaoldpbnaaDoor.fnFractions
open Go.ChangeShapes Go.WideShapes Go.ChangeAt Go.RowKit Go.Joins
open Go.ChangeMaps (open_string shut_string)
set_option linter.unusedVariables false

theorem own : ownKnob Tryd.prog.godebug = none := by kernel_rfl
theorem laidOut : laidOutB Tryd.prog = true := by kernel_rfl

set_option maxRecDepth 100000 in
set_option maxHeartbeats 4000000 in
theorem walk (a0 : Option Addr) (len0 cap0 : Nat) (a1 : Option Addr) (len1 cap1 : Nat) (w : World) (hL : laidMetH Tryd.prog Rows.fnFractionsRow.laid w) (w0 : Base.Code w.heap.size w a0 len0) (w1 : Base.Code w.heap.size w a1 len1) :
    Calls Tryd.prog 3 #[.slice a0 len0 cap0, .slice a1 len1 cap1] w fun e w' => e = .returned (.bool true) ∧ Below w.heap.size w w' := by
  have HV := Base.hide (Base.fractions_vars hL)
  clear hL
  have L0 := w0.1
  have L1 := w1.1
  have l0 : (len0 : Int) ≤ 9223372036854775807 := by omega
  have l1 : (len1 : Int) ≤ 9223372036854775807 := by omega
  have W0 := Base.hide w0
  have W1 := Base.hide w1
  clear w0 w1 L0 L1
  by_cases g0 : (1048576 : Int) < (len0 : Int)
  · have e0 := Base.hide (decide_eq_true g0)
    clear g0
    go_enter Tryd.func3, Tryd.ntmps3
    go_wp2_with fail
    refine (Base.big a0 len0 cap0 true _ l0 e0.out).mono ?_; rintro e w' ⟨rfl, rfl⟩
    go_wp2_with fail
    go_ret
    exact ⟨rfl, Below.refl _ _⟩
  · have e0 := Base.hide (decide_eq_false g0)
    by_cases g1 : (1048576 : Int) < (len1 : Int)
    · have e1 := Base.hide (decide_eq_true g1)
      clear g0 g1
      go_enter Tryd.func3, Tryd.ntmps3
      go_wp2_with fail
      refine (Base.big a0 len0 cap0 false _ l0 e0.out).mono ?_; rintro e w' ⟨rfl, rfl⟩
      go_wp2_with fail
      refine (Base.big a1 len1 cap1 true _ l1 e1.out).mono ?_; rintro e w' ⟨rfl, rfl⟩
      go_wp2_with fail
      go_ret
      exact ⟨rfl, Below.refl _ _⟩
    · have e1 := Base.hide (decide_eq_false g1)
      have n0 := Base.hide (show len0 ≤ 1048576 by omega)
      have n1 := Base.hide (show len1 ≤ 1048576 by omega)
      clear g0 g1
      go_enter Tryd.func3, Tryd.ntmps3
      go_wp2_with fail
      refine (Base.big a0 len0 cap0 false _ l0 e0.out).mono ?_; rintro e w' ⟨rfl, rfl⟩
      go_wp2_with fail
      refine (Base.big a1 len1 cap1 false _ l1 e1.out).mono ?_; rintro e w' ⟨rfl, rfl⟩
      go_wp2_with fail
      refine (Base.drawFracOk a0 len0 cap0 _ W0.out n0.out).mono ?_; rintro e u1 ⟨fn, fd, x0, x1, y0, y1, rfl, b1⟩
      have f1 := Base.Two.new u1 fn fd 25
      have c1 : Below w'.heap.size w' (u1.alloc (.cells #[.int .i64 fn, .int .i64 fd] 25)) := b1.alloc b1.size _
      have k1 := Base.hide ((W1.out.below c1).mono c1.size)
      clear b1 W0 W1
      go_wp2_with fail
      refine (Base.drawFracOk a1 len1 cap1 _ k1.out n1.out).mono ?_; rintro e u2 ⟨gn, gd, z0, z1, t0, t1, rfl, b2⟩
      have f2 := (f1.below b2).alloc (.cells #[.int .i64 gn, .int .i64 gd] 25)
      have g2 := Base.Two.new u2 gn gd 25
      have c2 : Below w'.heap.size w' (u2.alloc (.cells #[.int .i64 gn, .int .i64 gd] 25)) := (c1.trans (b2.mono c1.size)).alloc (Nat.le_trans c1.size b2.size) _
      clear b2 c1 f1 k1 n0 n1 e0 e1 l0 l1
      go_wp2_with fail
      refine (Base.implFracOk 1 2 _).mono ?_; rintro e u3 ⟨rfl, b3⟩
      rw [Base.ok12]
      have f3 := f2.below b3
      have g3 := g2.below b3
      have c3 := c2.trans (b3.mono c2.size)
      clear f2 g2 c2 b3
      go_wp2_with fail
      refine (Base.overO 1 2 _ _ (by omega) (by omega) (by omega) (by omega) Base.ok12 rfl).mono ?_; rintro e u' ⟨rfl, rfl⟩
      have v3 := Base.hide (Base.vars_below c3 HV.out)
      obtain ⟨h0, h1⟩ := Base.ofF_bd 1 2
      go_wp2_with fail
      refine (Base.showO _ 1 2 [49, 47, 50] _ h0 h1 v3.out (Base.ans_ofF Base.ok12) Base.half_text).mono ?_; rintro e u4 ⟨rfl, b4⟩
      have f4 := f3.below b4
      have g4 := g3.below b4
      have c4 := c3.trans (b4.mono c3.size)
      clear f3 g3 c3 b4 v3 h0 h1
      have F0 := f4.c0
      have F1 := f4.c1
      go_wp2_with fail
      refine (Base.specFracOk fn fd _).mono ?_; rintro e u5 ⟨rfl, b5⟩
      have f5 := f4.below b5
      have g5 := g4.below b5
      have c5 := c4.trans (b5.mono c4.size)
      clear f4 g4 c4 b5 F0 F1
      cases hf : Base.okB fn fd
      · go_wp2_with fail
        go_ret
        exact ⟨rfl, c5⟩
      · have G0 := g5.c0
        have G1 := g5.c1
        go_wp2_with fail
        refine (Base.specFracOk gn gd _).mono ?_; rintro e u6 ⟨rfl, b6⟩
        have f6 := f5.below b6
        have g6 := g5.below b6
        have c6 := c5.trans (b6.mono c5.size)
        clear f5 g5 c5 b6 G0 G1
        cases hg : Base.okB gn gd
        · go_wp2_with fail
          go_ret
          exact ⟨rfl, c6⟩
        · have F0 := f6.c0
          have F1 := f6.c1
          obtain ⟨x, Hx, xb0, xb1⟩ : ∃ v : Int, Hid (Base.ofF fn fd = v) ∧ 0 ≤ v ∧ v < 2147483647 := ⟨_, rfl, Base.ofF_bd fn fd⟩
          obtain ⟨y, Hy, yb0, yb1⟩ : ∃ v : Int, Hid (Base.ofF gn gd = v) ∧ 0 ≤ v ∧ v < 2147483647 := ⟨_, rfl, Base.ofF_bd gn gd⟩
          have Hans : Hid (Rec.Ans x fn fd true) := by show Rec.Ans x fn fd true; rw [← Hx.out]; exact Base.ans_ofF hf
          have Hsum : Hid (Base.okB (Base.frN (fn * gd + gn * fd) (fd * gd)) (Base.frD (fn * gd + gn * fd) (fd * gd)) = true → Rec.Ans ((x + y) % 2147483647) (Base.frN (fn * gd + gn * fd) (fd * gd)) (Base.frD (fn * gd + gn * fd) (fd * gd)) true) := by
            intro h; rw [← Hx.out, ← Hy.out]; exact Base.sum_ans hf hg h
          have Hprod : Hid (Base.okB (Base.frN (fn * gn) (fd * gd)) (Base.frD (fn * gn) (fd * gd)) = true → Rec.Ans (x * y % 2147483647) (Base.frN (fn * gn) (fd * gd)) (Base.frD (fn * gn) (fd * gd)) true) := by
            intro h; rw [← Hx.out, ← Hy.out]; exact Base.prod_ans hf hg h
          obtain ⟨fd0, fd1, fn0, fn1⟩ := Base.okB_bd hf
          obtain ⟨gd0, gd1, gn0, gn1⟩ := Base.okB_bd hg
          clear hf hg x0 x1 y0 y1 z0 z1 t0 t1
          go_wp2_with fail
          refine (Base.ofFracO fn fd x _ Hx.out).mono ?_; rintro e u7 ⟨rfl, b7⟩
          have f7 := f6.below b7
          have g7 := g6.below b7
          have c7 := c6.trans (b7.mono c6.size)
          clear f6 g6 c6 b7 F0 F1
          have G0 := g7.c0
          have G1 := g7.c1
          go_wp2_with fail
          refine (Base.ofFracO gn gd y _ Hy.out).mono ?_; rintro e u8 ⟨rfl, b8⟩
          have f8 := f7.below b8
          have g8 := g7.below b8
          have c8 := c7.trans (b8.mono c7.size)
          clear f7 g7 c7 b8 G0 G1 Hx Hy
          go_wp2_with fail
          refine (Base.toFracO x fn fd _ xb0 xb1 Hans.out).mono ?_; rintro e u9 ⟨rfl, b9⟩
          have f9 := (f8.below b9).alloc (.cells #[.int .i64 fn, .int .i64 fd] 25)
          have g9 := (g8.below b9).alloc (.cells #[.int .i64 fn, .int .i64 fd] 25)
          have k9 := Base.Two.new u9 fn fd 25
          have c9 : Below w'.heap.size w' (u9.alloc (.cells #[.int .i64 fn, .int .i64 fd] 25)) := (c8.trans (b9.mono c8.size)).alloc (Nat.le_trans c8.size b9.size) _
          have v9 := Base.hide (Base.vars_below c9 HV.out)
          clear f8 g8 c8 b9
          go_wp2_with fail
          refine (Base.showO x fn fd _ _ xb0 xb1 v9.out Hans.out rfl).mono ?_; rintro e u10 ⟨rfl, b10⟩
          have f10 := f9.below b10
          have g10 := g9.below b10
          have k10 := k9.below b10
          have c10 := c9.trans (b10.mono c9.size)
          have v10 := Base.hide (Base.vars_below c10 HV.out)
          clear f9 g9 k9 c9 b10 v9
          go_wp2_with fail
          refine (Base.readO x fn fd _ _ xb0 xb1 v10.out Hans.out rfl).mono ?_; rintro e u11 ⟨rfl, b11⟩
          have f11 := f10.below b11
          have g11 := g10.below b11
          have k11 := k10.below b11
          have c11 := c10.trans (b11.mono c10.size)
          clear f10 g10 k10 c10 b11 v10 Hans HV
          obtain ⟨p0, p1⟩ := Base.cross_bd fn0 fn1 gd0 gd1
          obtain ⟨p2, p3⟩ := Base.cross_bd gn0 gn1 fd0 fd1
          obtain ⟨p4, p5⟩ := Base.prod_bd fd0 fd1 gd0 gd1
          have F0 := f11.c0
          have F1 := f11.c1
          have G0 := g11.c0
          have G1 := g11.c1
          have K0 := k11.c0
          have K1 := k11.c1
          go_wp2_with fail
          refine (Base.frac _ _ _ (by omega) (by omega) (by omega) (by omega)).mono ?_; rintro e u12 ⟨rfl, b12⟩
          clear F0 F1 G0 G1 K0 K1 k11
          generalize Base.frN (fn * gd + gn * fd) (fd * gd) = sn at *
          generalize Base.frD (fn * gd + gn * fd) (fd * gd) = sd at *
          have f12 := (f11.below b12).alloc (.cells #[.int .i64 sn, .int .i64 sd] 25)
          have g12 := (g11.below b12).alloc (.cells #[.int .i64 sn, .int .i64 sd] 25)
          have s12 := Base.Two.new u12 sn sd 25
          have c12 : Below w'.heap.size w' (u12.alloc (.cells #[.int .i64 sn, .int .i64 sd] 25)) := (c11.trans (b12.mono c11.size)).alloc (Nat.le_trans c11.size b12.size) _
          clear f11 g11 c11 b12
          obtain ⟨p6, p7⟩ := Base.abs_bd fn0 fn1 gn0 gn1
          have F0 := f12.c0
          have F1 := f12.c1
          have G0 := g12.c0
          have G1 := g12.c1
          go_wp2_with fail
          refine (Base.frac _ _ _ (by omega) (by omega) (by omega) (by omega)).mono ?_; rintro e u13 ⟨rfl, b13⟩
          clear F0 F1 G0 G1 f12 g12
          generalize Base.frN (fn * gn) (fd * gd) = pn at *
          generalize Base.frD (fn * gn) (fd * gd) = pd at *
          have s13 := (s12.below b13).alloc (.cells #[.int .i64 pn, .int .i64 pd] 25)
          have t13 := Base.Two.new u13 pn pd 25
          have c13 : Below w'.heap.size w' (u13.alloc (.cells #[.int .i64 pn, .int .i64 pd] 25)) := (c12.trans (b13.mono c12.size)).alloc (Nat.le_trans c12.size b13.size) _
          clear s12 c12 b13
          obtain ⟨r, Hr, rb0, rb1⟩ : ∃ v : Int, Hid ((x + y) % 2147483647 = v) ∧ 0 ≤ v ∧ v < 2147483647 := ⟨_, rfl, by omega, by omega⟩
          obtain ⟨o, Ho, ob0, ob1⟩ : ∃ v : Int, Hid (x * y % 2147483647 = v) ∧ 0 ≤ v ∧ v < 2147483647 := ⟨_, rfl, by omega, by omega⟩
          rw [Hr.out] at Hsum
          rw [Ho.out] at Hprod
          go_wp2_with fail
          refine (Base.plusO x y r _ xb0 xb1 yb0 yb1 Hr.out).mono ?_; rintro e u' ⟨rfl, rfl⟩
          go_wp2_with fail
          refine (Base.toFracAny r _ rb0 rb1).mono ?_; rintro e u14 ⟨mn, md, mb, rfl, ra, b14⟩
          have Hm := Base.hide (Base.told Hsum.out ra)
          have s14 := (s13.below b14).alloc (.cells #[.int .i64 mn, .int .i64 md] 25)
          have t14 := (t13.below b14).alloc (.cells #[.int .i64 mn, .int .i64 md] 25)
          have m14 := Base.Two.new u14 mn md 25
          have c14 : Below w'.heap.size w' (u14.alloc (.cells #[.int .i64 mn, .int .i64 md] 25)) := (c13.trans (b14.mono c13.size)).alloc (Nat.le_trans c13.size b14.size) _
          clear s13 t13 c13 b14 ra Hsum Hr
          go_wp2_with fail
          refine (Base.timesO x y o _ xb0 xb1 yb0 yb1 Ho.out).mono ?_; rintro e u' ⟨rfl, rfl⟩
          go_wp2_with fail
          refine (Base.toFracAny o _ ob0 ob1).mono ?_; rintro e u15 ⟨kn, kd, kb, rfl, ra, b15⟩
          have Hk := Base.hide (Base.told Hprod.out ra)
          have s15 := (s14.below b15).alloc (.cells #[.int .i64 kn, .int .i64 kd] 25)
          have t15 := (t14.below b15).alloc (.cells #[.int .i64 kn, .int .i64 kd] 25)
          have m15 := (m14.below b15).alloc (.cells #[.int .i64 kn, .int .i64 kd] 25)
          have k15 := Base.Two.new u15 kn kd 25
          have c15 : Below w'.heap.size w' (u15.alloc (.cells #[.int .i64 kn, .int .i64 kd] 25)) := (c14.trans (b15.mono c14.size)).alloc (Nat.le_trans c14.size b15.size) _
          clear s14 t14 m14 c14 b15 ra Hprod Ho
          have S0 := s15.c0
          have S1 := s15.c1
          go_wp2_with fail
          refine (Base.specFracOk sn sd _).mono ?_; rintro e u16 ⟨rfl, b16⟩
          have s16 := s15.below b16
          have t16 := t15.below b16
          have m16 := m15.below b16
          have k16 := k15.below b16
          have c16 := c15.trans (b16.mono c15.size)
          clear s15 t15 m15 k15 c15 b16 S0 S1
          cases hs : Base.okB sn sd
          · clear s16 m16
            have T0 := t16.c0
            have T1 := t16.c1
            go_wp2_with fail
            refine (Base.specFracOk pn pd _).mono ?_; rintro e u17 ⟨rfl, b17⟩
            have t17 := t16.below b17
            have k17 := k16.below b17
            have c17 := c16.trans (b17.mono c16.size)
            clear t16 k16 c16 b17 T0 T1
            cases hp : Base.okB pn pd
            · go_wp2_with fail
              go_ret
              exact ⟨rfl, c17⟩
            · obtain ⟨rfl, rfl⟩ := Hk.out hp
              have T0 := t17.c0
              have T1 := t17.c1
              have K0 := k17.c0
              have K1 := k17.c1
              go_wp2_with fail
              go_ret
              exact ⟨by simp, c17⟩
          · obtain ⟨rfl, rfl⟩ := Hm.out hs
            have S0 := s16.c0
            have S1 := s16.c1
            have M0 := m16.c0
            have M1 := m16.c1
            have T0 := t16.c0
            have T1 := t16.c1
            go_wp2_with fail
            refine (Base.specFracOk pn pd _).mono ?_; rintro e u17 ⟨rfl, b17⟩
            have t17 := t16.below b17
            have k17 := k16.below b17
            have c17 := c16.trans (b17.mono c16.size)
            clear t16 k16 c16 b17 T0 T1
            cases hp : Base.okB pn pd
            · go_wp2_with fail
              go_ret
              exact ⟨rfl, c17⟩
            · obtain ⟨rfl, rfl⟩ := Hk.out hp
              have T0 := t17.c0
              have T1 := t17.c1
              have K0 := k17.c0
              have K1 := k17.c1
              go_wp2_with fail
              go_ret
              exact ⟨by simp, c17⟩

set_option maxRecDepth 100000 in
theorem lifted (os : Os) (started : os.Started) (H : Type) (enc : TypeId × Value → H) :
    ReturnsInHanded {} Tryd.checked os 3 .any (fun w args => (Rows.fnFractionsSpec.pre enc Tryd.prog Tryd.f3 Rows.fnFractionsRow.domain false w args ∧ laidMetH Tryd.prog Rows.fnFractionsRow.laid w) ∧ sizedMet enc Tryd.prog Tryd.f3 (OpenSpec.ofChange Rows.fnFractionsSpec) false w args) (Rows.fnFractionsSpec.post enc Tryd.prog Tryd.f3 false true false false) := by
  refine returnsInHanded_of_change_and (C := Tryd.checked) (X := fun w _ => laidMetH Tryd.prog Rows.fnFractionsRow.laid w) (fun _ _ _ hh h => h.of_heap hh) own started (by kernel_rfl) Tryd.func3
    (ChangeSpec.witness_shaped (enc := enc) (C := Tryd.checked) (os := os) (X := fun w _ => laidMetH Tryd.prog Rows.fnFractionsRow.laid w) false (World.laidAll Tryd.prog os Rows.fnFractionsRow.laid) #[.slice none 0 0, .slice none 0 0] 8 (World.laidAll_os _ _ _)
      (World.shaped_of_ZipB (by kernel_rfl) (by kernel_rfl)) (by kernel_rfl) (by kernel_rfl) (by kernel_rfl)
      (by rw [MakeChecks.laidMetH_plain _ _ _ (by kernel_rfl)]; exact laidMet_laidAll _ (by kernel_rfl) (by kernel_rfl))) ?_
  intro W base args ds gs before hval0 hW hcnd _ hL _
  have hval : ∀ (j : Nat) t v, Tryd.f3.params[j]? = some t → args[j]? = some v → Value.okWide Tryd.prog W .any base t v := hval0
  have hW' := hW
  obtain ⟨p, q, hA0, hV, rfl, hfz, hnd⟩ := hW
  have hA : DataW.TrodAll enc Tryd.prog W 0 (fun _ => true) true Tryd.f3.params.toList args.toList ds p := hA0
  rw [Tryd.params3] at hA hval
  obtain ⟨v0, vs0, d0, ds0, p0, q0, hargs, rfl, rfl, h0, r0⟩ := trodAll_cons hA
  obtain ⟨v1, vs1, d1, ds1, p1, q1, rfl, rfl, rfl, h1, r1⟩ := trodAll_cons r0
  obtain ⟨rfl, rfl, rfl⟩ := trodAll_nil r1
  obtain rfl : args = #[v0, v1] := by cases args; simp_all
  obtain ⟨rfl, rfl⟩ := trodVars_none hV
  have k0 := h0
  have lt0 : ∀ x ∈ p0, x.block < W.heap.size := by obtain ⟨m, hm⟩ := k0; exact DataW.trod_lt m _ _ _ hm
  obtain ⟨a0, len0, cap0, rfl⟩ := okWide_slice Tryd.underlying22 (hval 0 22 v0 rfl rfl)
  have w0 : Base.Code W.heap.size W a0 len0 := by
    obtain ⟨fuel, hf⟩ := h0
    rcases open_ints Tryd.underlying22 Tryd.underlying5 (by kernel_rfl) hf with ⟨hcs, _⟩ | ⟨x, l, c, zs, hcs, _, hl, hm, hz, _, hcell, hwz⟩
    · simp [Value.cells] at hcs
      obtain ⟨rfl, rfl, rfl⟩ := hcs
      exact ⟨by omega, .inl rfl⟩
    · simp [Value.cells] at hcs
      obtain ⟨rfl, rfl, rfl⟩ := hcs
      exact Base.code_of hl hm (by simpa using hz) hcell hwz
  have k1 := h1
  have lt1 : ∀ x ∈ p1, x.block < W.heap.size := by obtain ⟨m, hm⟩ := k1; exact DataW.trod_lt m _ _ _ hm
  obtain ⟨a1, len1, cap1, rfl⟩ := okWide_slice Tryd.underlying22 (hval 1 22 v1 rfl rfl)
  have w1 : Base.Code W.heap.size W a1 len1 := by
    obtain ⟨fuel, hf⟩ := h1
    rcases open_ints Tryd.underlying22 Tryd.underlying5 (by kernel_rfl) hf with ⟨hcs, _⟩ | ⟨x, l, c, zs, hcs, _, hl, hm, hz, _, hcell, hwz⟩
    · simp [Value.cells] at hcs
      obtain ⟨rfl, rfl, rfl⟩ := hcs
      exact ⟨by omega, .inl rfl⟩
    · simp [Value.cells] at hcs
      obtain ⟨rfl, rfl, rfl⟩ := hcs
      exact Base.code_of hl hm (by simpa using hz) hcell hwz
  clear hA0 hval0
  refine (walk a0 len0 cap0 a1 len1 cap1 W hL w0 w1).mono fun e W' ⟨he, bel⟩ => ?_
  subst he
  exact ⟨_, rfl, _, _, _, [], _, [], hW', trodAll_mk1 (shut_bool Tryd.underlying4 _), (trodAll_cons_mk (Below.trod laidOut (by kernel_rfl) (of_decide_eq_true (by kernel_rfl)) k0 bel lt0) (trodAll_cons_mk (Below.trod laidOut (by kernel_rfl) (of_decide_eq_true (by kernel_rfl)) k1 bel lt1) trodAll_mk0)), rfl, bel.frame _, fun h => by cases h⟩

theorem over : Rows.fnFractionsRow.holds Tryd.pinned (OpenSpec.ofChange Rows.fnFractionsSpec) :=
  OpenClaim.holds_of_wide 3 Tryd.f3 rfl rfl rfl rfl rfl rfl rfl ⟨rfl, rfl, rfl, rfl, rfl⟩ rfl rfl rfl rfl rfl (by kernel_rfl) Tryd.func3 (by kernel_rfl)
    (of_decide_eq_true (by kernel_rfl)) (by unfold Func.isWrapper; first | (rw [if_pos (by decide +kernel)]; kernel_rfl) | (rw [if_neg (by decide +kernel)]; exact ⟨rfl, rfl⟩))
    (fun os started H enc _ => lifted os started H enc)

theorem card : Rows.FnFractionsCardSaid :=
  Claim7.holds_tied_plain_at .later [] [.data, .data, .data, .sentinel, .sentinel] true (true, "330368ec9ef590c49573554c47500521309c9a7c36bd8fa791c02dfced1d3732") true over (fun _ h => by cases h) (by kernel_rfl) (fun _ h => by cases h) fnFractions_row_tie rfl ⟨rfl, rfl⟩ (by kernel_rfl) rfl
    (fun f fn hf hfn => by
      obtain rfl : f = 3 := Option.some.inj ((show Tryd.prog.funcNamed Tryd.f3.name = some 3 by kernel_rfl).symm.trans hf) |>.symm
      obtain rfl : fn = Tryd.f3 := (Option.some.inj (Tryd.func3.symm.trans hfn)).symm
      exact ⟨by kernel_rfl, fun j t ht => by
        rw [Tryd.params3] at ht
        have hm : t ∈ [22, 22] := by simpa using Array.mem_of_getElem? ht
        have hall : ([22, 22].all fun u => !Tryd.prog.wantsStandIn u) = true := by kernel_rfl
        exact (show Tryd.prog.wantsStandIn t = false by simpa using List.all_eq_true.1 hall t hm)⟩)
    (by kernel_rfl)
#print axioms card
end Go.Proofs.YthconcaoldpbnaaDoor.fnFractions
