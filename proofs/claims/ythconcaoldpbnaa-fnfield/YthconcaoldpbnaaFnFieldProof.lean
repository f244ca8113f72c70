/-
  Proved: whatever the arguments, 'FnField' returns true: the landed function answers as its model, and what came in reads as it did. No condition.
-/
import Derived.Test.YthconcaoldpbnaaRows
import Derived.Test.YthconcaoldpbnaaNum
import Derived.Test.YthconcaoldpbnaaBase
import Derived.Test.YthconcaoldpbnaaPow
import Derived.Test.YthconcaoldpbnaaDraw
import Derived.Test.YthconcaoldpbnaaRec
import Derived.Test.YthconcaoldpbnaaFerm
import Derived.Test.YthconcaoldpbnaaFld
import Derived.WalkKit
import Derived.ProofKit
import Derived.OpenShut
import Derived.ShutString
import Derived.ChangeOld
import Derived.Below
import Derived.Lib.SmallJoins
namespace Go.Proofs.Ythconcaoldpbnaa.fnField
open Go.ChangeShapes Go.WideShapes Go.ChangeAt Go.RowKit Go.Joins
open Go.ChangeMaps (open_string shut_string)
set_option linter.unusedVariables false

theorem own : ownKnob Try.prog.godebug = none := by kernel_rfl
theorem laidOut : laidOutB Try.prog = true := by kernel_rfl

set_option maxRecDepth 100000 in
set_option maxHeartbeats 4000000 in
theorem walk (a0 : Option Addr) (len0 cap0 : Nat) (a1 : Option Addr) (len1 cap1 : Nat) (w : World) (w0 : Base.Code w.heap.size w a0 len0) (w1 : Base.Code w.heap.size w a1 len1) :
    Calls Try.prog 3 #[.slice a0 len0 cap0, .slice a1 len1 cap1] w fun e w' => e = .returned (.bool true) ∧ Below w.heap.size w w' := by
  have L0 := w0.1
  have L1 := w1.1
  have l0 : (len0 : Int) ≤ 9223372036854775807 := by omega
  have l1 : (len1 : Int) ≤ 9223372036854775807 := by omega
  have W0 := Base.hide w0
  have W1 := Base.hide w1
  clear w0 w1 L0 L1
  by_cases g0 : (1048576 : Int) < (len0 : Int)
  · have e0 := Base.hide (decide_eq_true g0)
    clear g0
    go_enter Try.func3, Try.ntmps3
    go_wp2_with fail
    refine (Base.big a0 len0 cap0 true _ l0 e0.out).mono ?_; rintro e w' ⟨rfl, rfl⟩
    go_wp2_with fail
    go_ret
    exact ⟨rfl, Below.refl _ _⟩
  · have e0 := Base.hide (decide_eq_false g0)
    by_cases g1 : (1048576 : Int) < (len1 : Int)
    · have e1 := Base.hide (decide_eq_true g1)
      clear g0 g1
      go_enter Try.func3, Try.ntmps3
      go_wp2_with fail
      refine (Base.big a0 len0 cap0 false _ l0 e0.out).mono ?_; rintro e w' ⟨rfl, rfl⟩
      go_wp2_with fail
      refine (Base.big a1 len1 cap1 true _ l1 e1.out).mono ?_; rintro e w' ⟨rfl, rfl⟩
      go_wp2_with fail
      go_ret
      exact ⟨rfl, Below.refl _ _⟩
    · have e1 := Base.hide (decide_eq_false g1)
      have n0 := Base.hide (show len0 ≤ 1048576 by omega)
      have n1 := Base.hide (show len1 ≤ 1048576 by omega)
      clear g0 g1
      go_enter Try.func3, Try.ntmps3
      go_wp2_with fail
      refine (Base.big a0 len0 cap0 false _ l0 e0.out).mono ?_; rintro e w' ⟨rfl, rfl⟩
      go_wp2_with fail
      refine (Base.big a1 len1 cap1 false _ l1 e1.out).mono ?_; rintro e w' ⟨rfl, rfl⟩
      go_wp2_with fail
      refine (Base.drawPlus a0 len0 cap0 _ W0.out n0.out).mono ?_; rintro e u1 ⟨a, b, x0, x1, y0, y1, rfl, b1⟩
      have k1 := Base.hide ((W1.out.below b1).mono b1.size)
      go_wp2_with fail
      refine (Base.drawPower a1 len1 cap1 _ k1.out n1.out).mono ?_; rintro e u2 ⟨c, n, c0, c1, m0, m1, rfl, b2⟩
      have bb := b1.trans (b2.mono b1.size)
      clear b1 b2 W0 W1 k1 n0 n1 e0 e1 l0 l1
      obtain ⟨v1, Hv1, v10, v11⟩ : ∃ v : Int, Hid ((a + b) % 2147483647 = v) ∧ 0 ≤ v ∧ v < 2147483647 := ⟨_, rfl, by omega, by omega⟩
      obtain ⟨v2, Hv2, v20, v21⟩ : ∃ v : Int, Hid ((b + c) % 2147483647 = v) ∧ 0 ≤ v ∧ v < 2147483647 := ⟨_, rfl, by omega, by omega⟩
      obtain ⟨s3, Hs3, s30, s31⟩ : ∃ v : Int, Hid ((a + b + c) % 2147483647 = v) ∧ 0 ≤ v ∧ v < 2147483647 := ⟨_, rfl, by omega, by omega⟩
      obtain ⟨t1, Ht1, t10, t11⟩ : ∃ v : Int, Hid (a * b % 2147483647 = v) ∧ 0 ≤ v ∧ v < 2147483647 := ⟨_, rfl, by omega, by omega⟩
      obtain ⟨t2, Ht2, t20, t21⟩ : ∃ v : Int, Hid (b * c % 2147483647 = v) ∧ 0 ≤ v ∧ v < 2147483647 := ⟨_, rfl, by omega, by omega⟩
      obtain ⟨t3, Ht3, t30, t31⟩ : ∃ v : Int, Hid (a * b * c % 2147483647 = v) ∧ 0 ≤ v ∧ v < 2147483647 := ⟨_, rfl, by omega, by omega⟩
      obtain ⟨t4, Ht4, t40, t41⟩ : ∃ v : Int, Hid (a * c % 2147483647 = v) ∧ 0 ≤ v ∧ v < 2147483647 := ⟨_, rfl, by omega, by omega⟩
      obtain ⟨d1, Hd1, d10, d11⟩ : ∃ v : Int, Hid (a * (b + c) % 2147483647 = v) ∧ 0 ≤ v ∧ v < 2147483647 := ⟨_, rfl, by omega, by omega⟩
      obtain ⟨m, Hm, m0, m1⟩ : ∃ v : Int, Hid (a % 2147483647 = v) ∧ 0 ≤ v ∧ v < 2147483647 := ⟨_, rfl, by omega, by omega⟩
      go_wp2_with fail
      refine (Base.plusR _ _ 5 _ (by omega) (by omega) (by omega) (by omega) (by omega)).mono ?_; rintro e w' ⟨rfl, rfl⟩
      go_wp2_with fail
      refine (Base.timesR _ _ 6 _ (by omega) (by omega) (by omega) (by omega) (by omega)).mono ?_; rintro e w' ⟨rfl, rfl⟩
      go_wp2_with fail
      refine (Base.plusR _ _ v1 _ (by omega) (by omega) (by omega) (by omega) (Hv1.out)).mono ?_; rintro e w' ⟨rfl, rfl⟩
      go_wp2_with fail
      refine (Base.plusR _ _ v1 _ (by omega) (by omega) (by omega) (by omega) (by rw [Int.add_comm]; exact Hv1.out)).mono ?_; rintro e w' ⟨rfl, rfl⟩
      go_wp2_with fail
      refine (Base.plusR _ _ v1 _ (by omega) (by omega) (by omega) (by omega) (Hv1.out)).mono ?_; rintro e w' ⟨rfl, rfl⟩
      go_wp2_with fail
      refine (Base.plusR _ _ s3 _ (by omega) (by omega) (by omega) (by omega) (by have h1 := Hv1.out; have h2 := Hs3.out; omega)).mono ?_; rintro e w' ⟨rfl, rfl⟩
      go_wp2_with fail
      refine (Base.plusR _ _ v2 _ (by omega) (by omega) (by omega) (by omega) (Hv2.out)).mono ?_; rintro e w' ⟨rfl, rfl⟩
      go_wp2_with fail
      refine (Base.plusR _ _ s3 _ (by omega) (by omega) (by omega) (by omega) (by have h1 := Hv2.out; have h2 := Hs3.out; omega)).mono ?_; rintro e w' ⟨rfl, rfl⟩
      go_wp2_with fail
      refine (Base.timesR _ _ t1 _ (by omega) (by omega) (by omega) (by omega) (Ht1.out)).mono ?_; rintro e w' ⟨rfl, rfl⟩
      go_wp2_with fail
      refine (Base.timesR _ _ t1 _ (by omega) (by omega) (by omega) (by omega) (by rw [Int.mul_comm]; exact Ht1.out)).mono ?_; rintro e w' ⟨rfl, rfl⟩
      go_wp2_with fail
      refine (Base.timesR _ _ t1 _ (by omega) (by omega) (by omega) (by omega) (Ht1.out)).mono ?_; rintro e w' ⟨rfl, rfl⟩
      go_wp2_with fail
      refine (Base.timesR _ _ t3 _ (by omega) (by omega) (by omega) (by omega) (by rw [← Ht1.out, Num.mul_l]; exact Ht3.out)).mono ?_; rintro e w' ⟨rfl, rfl⟩
      go_wp2_with fail
      refine (Base.timesR _ _ t2 _ (by omega) (by omega) (by omega) (by omega) (Ht2.out)).mono ?_; rintro e w' ⟨rfl, rfl⟩
      go_wp2_with fail
      refine (Base.timesR _ _ t3 _ (by omega) (by omega) (by omega) (by omega) (by rw [← Ht2.out, Num.mul_r, ← Int.mul_assoc]; exact Ht3.out)).mono ?_; rintro e w' ⟨rfl, rfl⟩
      go_wp2_with fail
      refine (Base.plusR _ _ v2 _ (by omega) (by omega) (by omega) (by omega) (Hv2.out)).mono ?_; rintro e w' ⟨rfl, rfl⟩
      go_wp2_with fail
      refine (Base.timesR _ _ d1 _ (by omega) (by omega) (by omega) (by omega) (by rw [← Hv2.out, Num.mul_r]; exact Hd1.out)).mono ?_; rintro e w' ⟨rfl, rfl⟩
      go_wp2_with fail
      refine (Base.timesR _ _ t1 _ (by omega) (by omega) (by omega) (by omega) (Ht1.out)).mono ?_; rintro e w' ⟨rfl, rfl⟩
      go_wp2_with fail
      refine (Base.timesR _ _ t4 _ (by omega) (by omega) (by omega) (by omega) (Ht4.out)).mono ?_; rintro e w' ⟨rfl, rfl⟩
      go_wp2_with fail
      refine (Base.plusR _ _ d1 _ (by omega) (by omega) (by omega) (by omega) (by have h1 := Ht1.out; have h2 := Ht4.out; have h3 := Hd1.out; rw [Int.mul_add] at h3; omega)).mono ?_; rintro e w' ⟨rfl, rfl⟩
      go_wp2_with fail
      refine (Base.plusR _ _ v1 _ (by omega) (by omega) (by omega) (by omega) (Hv1.out)).mono ?_; rintro e w' ⟨rfl, rfl⟩
      go_wp2_with fail
      refine (Base.minusR _ _ m _ (by omega) (by omega) (by omega) (by omega) (by have h1 := Hv1.out; have h2 := Hm.out; omega)).mono ?_; rintro e w' ⟨rfl, rfl⟩
      go_wp2_with fail
      refine (Base.modR a m _ (by omega) (by omega) Hm.out).mono ?_; rintro e w' ⟨rfl, rfl⟩
      obtain ⟨y, Hy, yb0, yb1⟩ : ∃ v : Int, Hid (b % 2147483647 = v) ∧ 0 ≤ v ∧ v < 2147483647 := ⟨_, rfl, by omega, by omega⟩
      go_wp2_with fail
      refine (Base.specModR b y _ (by omega) (by omega) Hy.out).mono ?_; rintro e w' ⟨rfl, rfl⟩
      clear Hv1 Hv2 Hs3 Ht1 Ht2 Ht3 Ht4 Hd1
      clear v10 v11 v20 v21 s30 s31 t10 t11 t20 t21 t30 t31 t40 t41 d10 d11
      by_cases hy : y = 0
      · have zy : (y != 0) = false := by rw [hy]; rfl
        clear hy
        by_cases p1 : 1000 < n
        · go_wp2_with fail
          go_ret
          exact ⟨rfl, bb⟩
        · have q1 : decide (1000 < n) = false := decide_eq_false p1
          by_cases p2 : n < -1000
          · go_wp2_with fail
            go_ret
            exact ⟨rfl, bb⟩
          · have q2 : decide (n < -1000) = false := decide_eq_false p2
            obtain ⟨g, Hg, g0, g1⟩ : ∃ v : Int, Hid (c % 2147483647 = v) ∧ 0 ≤ v ∧ v < 2147483647 := ⟨_, rfl, by omega, by omega⟩
            go_wp2_with fail
            refine (Base.specModR c g _ (by omega) (by omega) Hg.out).mono ?_; rintro e w' ⟨rfl, rfl⟩
            by_cases p3 : g = 0
            · have q3 : (g == 0) = true := beq_iff_eq.2 p3
              clear p3
              go_wp2_with fail
              go_ret
              exact ⟨rfl, bb⟩
            · have q3 : (g == 0) = false := beq_eq_false_iff_ne.2 p3
              have hadd := Base.hide (Fld.pf_add3 g n (by omega) g1)
              obtain ⟨r1, Hr1, r10, r11⟩ : ∃ v : Int, Hid (Fld.pf (c % 2147483647) n = v) ∧ -9223372036854775808 ≤ v ∧ v ≤ 9223372036854775807 := ⟨_, rfl, by have := Fld.pf_bd (c % 2147483647) n; omega, by have := Fld.pf_bd (c % 2147483647) n; omega⟩
              obtain ⟨r3, Hr3, r30, r31⟩ : ∃ v : Int, Hid (Fld.pf (c % 2147483647) 3 = v) ∧ -9223372036854775808 ≤ v ∧ v ≤ 9223372036854775807 := ⟨_, rfl, by have := Fld.pf_bd (c % 2147483647) 3; omega, by have := Fld.pf_bd (c % 2147483647) 3; omega⟩
              obtain ⟨r6, Hr6⟩ : ∃ v : Int, Hid (Fld.pf (c % 2147483647) (n + 3) = v) := ⟨_, rfl⟩
              have hend : Hid (r1 * r3 % 2147483647 = r6) := by show _ = _; rw [← Hr1.out, ← Hr3.out, ← Hr6.out, Hg.out]; exact hadd.out
              clear hadd p3
              go_wp2_with fail
              refine (Base.powerR _ _ r1 _ (by omega) (by omega) (by omega) (by omega) Hr1.out).mono ?_; rintro e w' ⟨rfl, rfl⟩
              go_wp2_with fail
              refine (Base.powerR _ _ r3 _ (by omega) (by omega) (by omega) (by omega) Hr3.out).mono ?_; rintro e w' ⟨rfl, rfl⟩
              go_wp2_with fail
              refine (Base.timesR _ _ r6 _ (by omega) (by omega) (by omega) (by omega) hend.out).mono ?_; rintro e w' ⟨rfl, rfl⟩
              go_wp2_with fail
              refine (Base.powerR _ _ r6 _ (by omega) (by omega) (by omega) (by omega) Hr6.out).mono ?_; rintro e w' ⟨rfl, rfl⟩
              go_wp2_with fail
              go_ret
              exact ⟨by simp, bb⟩
      · have zy : (y != 0) = true := by rw [bne_iff_ne]; exact hy
        have hov := Base.hide (Fld.over_back a b (by rw [Hy.out]; exact hy))
        clear hy
        obtain ⟨o, Ho, o0, o1⟩ : ∃ v : Int, Hid (a % 2147483647 * Num.pw (b % 2147483647) 2147483645 % 2147483647 = v) ∧ 0 ≤ v ∧ v < 2147483647 := ⟨_, rfl, by omega, by omega⟩
        go_wp2_with fail
        refine (Base.overR _ _ o _ (by omega) (by omega) (by omega) (by omega) (Ho.out)).mono ?_; rintro e w' ⟨rfl, rfl⟩
        go_wp2_with fail
        refine (Base.timesR _ _ m _ (by omega) (by omega) (by omega) (by omega) (by rw [← Ho.out, hov.out]; exact Hm.out)).mono ?_; rintro e w' ⟨rfl, rfl⟩
        go_wp2_with fail
        refine (Base.modR a m _ (by omega) (by omega) Hm.out).mono ?_; rintro e w' ⟨rfl, rfl⟩
        clear hov Ho
        by_cases p1 : 1000 < n
        · go_wp2_with fail
          go_ret
          exact ⟨rfl, bb⟩
        · have q1 : decide (1000 < n) = false := decide_eq_false p1
          by_cases p2 : n < -1000
          · go_wp2_with fail
            go_ret
            exact ⟨rfl, bb⟩
          · have q2 : decide (n < -1000) = false := decide_eq_false p2
            obtain ⟨g, Hg, g0, g1⟩ : ∃ v : Int, Hid (c % 2147483647 = v) ∧ 0 ≤ v ∧ v < 2147483647 := ⟨_, rfl, by omega, by omega⟩
            go_wp2_with fail
            refine (Base.specModR c g _ (by omega) (by omega) Hg.out).mono ?_; rintro e w' ⟨rfl, rfl⟩
            by_cases p3 : g = 0
            · have q3 : (g == 0) = true := beq_iff_eq.2 p3
              clear p3
              go_wp2_with fail
              go_ret
              exact ⟨rfl, bb⟩
            · have q3 : (g == 0) = false := beq_eq_false_iff_ne.2 p3
              have hadd := Base.hide (Fld.pf_add3 g n (by omega) g1)
              obtain ⟨r1, Hr1, r10, r11⟩ : ∃ v : Int, Hid (Fld.pf (c % 2147483647) n = v) ∧ -9223372036854775808 ≤ v ∧ v ≤ 9223372036854775807 := ⟨_, rfl, by have := Fld.pf_bd (c % 2147483647) n; omega, by have := Fld.pf_bd (c % 2147483647) n; omega⟩
              obtain ⟨r3, Hr3, r30, r31⟩ : ∃ v : Int, Hid (Fld.pf (c % 2147483647) 3 = v) ∧ -9223372036854775808 ≤ v ∧ v ≤ 9223372036854775807 := ⟨_, rfl, by have := Fld.pf_bd (c % 2147483647) 3; omega, by have := Fld.pf_bd (c % 2147483647) 3; omega⟩
              obtain ⟨r6, Hr6⟩ : ∃ v : Int, Hid (Fld.pf (c % 2147483647) (n + 3) = v) := ⟨_, rfl⟩
              have hend : Hid (r1 * r3 % 2147483647 = r6) := by show _ = _; rw [← Hr1.out, ← Hr3.out, ← Hr6.out, Hg.out]; exact hadd.out
              clear hadd p3
              go_wp2_with fail
              refine (Base.powerR _ _ r1 _ (by omega) (by omega) (by omega) (by omega) Hr1.out).mono ?_; rintro e w' ⟨rfl, rfl⟩
              go_wp2_with fail
              refine (Base.powerR _ _ r3 _ (by omega) (by omega) (by omega) (by omega) Hr3.out).mono ?_; rintro e w' ⟨rfl, rfl⟩
              go_wp2_with fail
              refine (Base.timesR _ _ r6 _ (by omega) (by omega) (by omega) (by omega) hend.out).mono ?_; rintro e w' ⟨rfl, rfl⟩
              go_wp2_with fail
              refine (Base.powerR _ _ r6 _ (by omega) (by omega) (by omega) (by omega) Hr6.out).mono ?_; rintro e w' ⟨rfl, rfl⟩
              go_wp2_with fail
              go_ret
              exact ⟨by simp, bb⟩

set_option maxRecDepth 100000 in
theorem lifted (os : Os) (started : os.Started) (H : Type) (enc : TypeId × Value → H) :
    ReturnsInHanded {} Try.checked os 3 .any (Rows.fnFieldSpec.pre6 enc Try.prog Try.f3 Rows.fnFieldRow.domain false) (Rows.fnFieldSpec.post enc Try.prog Try.f3 false true false false) := by
  refine returnsInHanded_of_change (C := Try.checked) own started (by kernel_rfl) Try.func3
    (ChangeSpec.witness6 (enc := enc) (C := Try.checked) false ⟨#[], #[.slice none 0 0, .slice none 0 0], []⟩ 8 (by kernel_rfl) (by kernel_rfl) (by kernel_rfl) (by kernel_rfl)) ?_
  intro W base args ds gs before hval0 hW hcnd _
  have hval : ∀ (j : Nat) t v, Try.f3.params[j]? = some t → args[j]? = some v → Value.okWide Try.prog W .any base t v := hval0
  have hW' := hW
  obtain ⟨p, q, hA0, hV, rfl, hfz, hnd⟩ := hW
  have hA : DataW.TrodAll enc Try.prog W 0 (fun _ => true) true Try.f3.params.toList args.toList ds p := hA0
  rw [Try.params3] at hA hval
  obtain ⟨v0, vs0, d0, ds0, p0, q0, hargs, rfl, rfl, h0, r0⟩ := trodAll_cons hA
  obtain ⟨v1, vs1, d1, ds1, p1, q1, rfl, rfl, rfl, h1, r1⟩ := trodAll_cons r0
  obtain ⟨rfl, rfl, rfl⟩ := trodAll_nil r1
  obtain rfl : args = #[v0, v1] := by cases args; simp_all
  obtain ⟨rfl, rfl⟩ := trodVars_none hV
  have k0 := h0
  have lt0 : ∀ x ∈ p0, x.block < W.heap.size := by obtain ⟨m, hm⟩ := k0; exact DataW.trod_lt m _ _ _ hm
  obtain ⟨a0, len0, cap0, rfl⟩ := okWide_slice Try.underlying22 (hval 0 22 v0 rfl rfl)
  have w0 : Base.Code W.heap.size W a0 len0 := by
    obtain ⟨fuel, hf⟩ := h0
    rcases open_ints Try.underlying22 Try.underlying5 (by kernel_rfl) hf with ⟨hcs, _⟩ | ⟨x, l, c, zs, hcs, _, hl, hm, hz, _, hcell, hwz⟩
    · simp [Value.cells] at hcs
      obtain ⟨rfl, rfl, rfl⟩ := hcs
      exact ⟨by omega, .inl rfl⟩
    · simp [Value.cells] at hcs
      obtain ⟨rfl, rfl, rfl⟩ := hcs
      exact Base.code_of hl hm (by simpa using hz) hcell hwz
  have k1 := h1
  have lt1 : ∀ x ∈ p1, x.block < W.heap.size := by obtain ⟨m, hm⟩ := k1; exact DataW.trod_lt m _ _ _ hm
  obtain ⟨a1, len1, cap1, rfl⟩ := okWide_slice Try.underlying22 (hval 1 22 v1 rfl rfl)
  have w1 : Base.Code W.heap.size W a1 len1 := by
    obtain ⟨fuel, hf⟩ := h1
    rcases open_ints Try.underlying22 Try.underlying5 (by kernel_rfl) hf with ⟨hcs, _⟩ | ⟨x, l, c, zs, hcs, _, hl, hm, hz, _, hcell, hwz⟩
    · simp [Value.cells] at hcs
      obtain ⟨rfl, rfl, rfl⟩ := hcs
      exact ⟨by omega, .inl rfl⟩
    · simp [Value.cells] at hcs
      obtain ⟨rfl, rfl, rfl⟩ := hcs
      exact Base.code_of hl hm (by simpa using hz) hcell hwz
  clear hA0 hval0
  refine (walk a0 len0 cap0 a1 len1 cap1 W w0 w1).mono fun e W' ⟨he, bel⟩ => ?_
  subst he
  exact ⟨_, rfl, _, _, _, [], _, [], hW', trodAll_mk1 (shut_bool Try.underlying4 _), (trodAll_cons_mk (Below.trod laidOut (by kernel_rfl) (of_decide_eq_true (by kernel_rfl)) k0 bel lt0) (trodAll_cons_mk (Below.trod laidOut (by kernel_rfl) (of_decide_eq_true (by kernel_rfl)) k1 bel lt1) trodAll_mk0)), rfl, bel.frame _, fun h => by cases h⟩

theorem over : Rows.fnFieldRow.holds Try.pinned (OpenSpec.ofChange Rows.fnFieldSpec) :=
  OpenClaim.holds_of_wide 3 Try.f3 rfl rfl rfl rfl rfl rfl rfl ⟨rfl, rfl, rfl, rfl, rfl⟩ rfl rfl rfl rfl rfl (by kernel_rfl) Try.func3 (by kernel_rfl)
    (of_decide_eq_true (by kernel_rfl)) (by unfold Func.isWrapper; first | (rw [if_pos (by decide +kernel)]; kernel_rfl) | (rw [if_neg (by decide +kernel)]; exact ⟨rfl, rfl⟩))
    (fun os started H enc _ => lifted os started H enc)

theorem proved : Rows.FnFieldSaid := over
#print axioms proved
end Go.Proofs.Ythconcaoldpbnaa.fnField
