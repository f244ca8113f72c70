/-
  Proved: whatever the arguments, 'FnRates' returns true: the landed function answers as its model, and what came in reads as it did. No condition.
-/
import Derived.Test.YtbkcjgbdglnilaaRows
import Derived.Test.YtbkcjgbdglnilaaVl
import Derived.Test.YtbkcjgbdglnilaaIa
import Derived.Test.YtbkcjgbdglnilaaNea
import Derived.Test.YtbkcjgbdglnilaaIb
import Derived.Test.YtbkcjgbdglnilaaIc
import Derived.Test.YtbkcjgbdglnilaaIe
import Derived.Test.YtbkcjgbdglnilaaEb
import Derived.Test.YtbkcjgbdglnilaaEg
import Derived.Test.YtbkcjgbdglnilaaVp
import Derived.Test.YtbkcjgbdglnilaaVs
import Derived.Test.YtbkcjgbdglnilaaVq
import Derived.Test.YtbkcjgbdglnilaaVo
import Derived.Test.YtbkcjgbdglnilaaVm
import Derived.Test.YtbkcjgbdglnilaaVn
import Derived.Test.YtbkcjgbdglnilaaVc
import Derived.Test.YtbkcjgbdglnilaaEh
import Derived.Test.YtbkcjgbdglnilaaEa
import Derived.Test.YtbkcjgbdglnilaaEr
import Derived.Test.YtbkcjgbdglnilaaNum
import Derived.Test.YtbkcjgbdglnilaaBase
import Derived.Test.YtbkcjgbdglnilaaPow
import Derived.Test.YtbkcjgbdglnilaaDraw
import Derived.Test.YtbkcjgbdglnilaaNef
import Derived.Test.YtbkcjgbdglnilaaEs
import Derived.Test.YtbkcjgbdglnilaaEt
import Derived.WalkKit
import Derived.ProofKit
import Derived.OpenShut
import Derived.ShutString
import Derived.ChangeOld
import Derived.Below
import Derived.Lib.SmallJoins
import Derived.OpenVars
import Derived.ChangeVars
import Derived.Deep.RegionHeld3
namespace Go.Proofs.Ytbkcjgbdglnilaa.fnRates
open Go.ChangeShapes Go.WideShapes Go.ChangeAt Go.RowKit Go.Joins
open Go.ChangeMaps (open_string shut_string)
set_option linter.unusedVariables false
set_option linter.unusedSimpArgs false

theorem own : ownKnob Try.prog.godebug = none := by kernel_rfl
theorem laidOut : laidOutB Try.prog = true := by kernel_rfl

set_option maxRecDepth 100000 in
set_option maxHeartbeats 4000000 in
theorem walk (a0 : Option Addr) (len0 cap0 : Nat) (w : World) (w0 : Base.Code w.heap.size w a0 len0) :
    Calls Try.prog 3 #[.slice a0 len0 cap0] w fun e w' => e = .returned (.bool true) ∧ Below w.heap.size w w' := by
  have L0 := w0.1
  have l0 : (len0 : Int) ≤ 9223372036854775807 := by omega
  have HW := Base.hide w0
  clear w0 L0
  by_cases g0 : (1048576 : Int) < (len0 : Int)
  · have e0 := Base.hide (decide_eq_true g0)
    clear g0
    go_enter Try.func3, Try.ntmps3
    go_wp2_with fail
    refine (Base.big a0 len0 cap0 true _ l0 e0.out).mono ?_; rintro e w' ⟨rfl, rfl⟩
    go_wp2_with fail
    go_ret
    exact ⟨rfl, Below.refl _ _⟩
  have e0 := Base.hide (decide_eq_false g0)
  have n0 := Base.hide (show len0 ≤ 1048576 by omega)
  clear g0
  go_enter Try.func3, Try.ntmps3
  go_wp2_with fail
  refine (Base.big a0 len0 cap0 false _ l0 e0.out).mono ?_; rintro e w' ⟨rfl, hq⟩; have hq := hq.symm; subst hq
  go_wp2_with fail
  refine (Vo.drawRate a0 len0 cap0 _ HW.out n0.out).mono ?_; rintro e u1 ⟨x0, x1, x2, x3, t, rfl, b0, b1, b2, b3, bt, bb⟩
  have BW := Base.hide bb
  have Hb := Base.hide (show (Vl.bd x0 ∧ Vl.bd x1) ∧ Vl.bd x2 ∧ Vl.bd x3 from ⟨⟨b0, b1⟩, b2, b3⟩)
  have Ht := Base.hide bt
  clear bb b0 b1 b2 b3 bt e0 n0 HW l0
  have C8 := Base.hide (fun w => show Calls Try.prog 7 #[.agg #[.int .i64 8, .int .i64 0, .int .i64 4, .int .i64 4], .int .i64 1] w fun e w' => e = .returned (.int .i64 4) ∧ Below w.heap.size w w' from by have := Vo.rateI 8 0 4 4 1 w ⟨by decide, by decide⟩ ⟨by decide, by decide⟩ ⟨by decide, by decide⟩ ⟨by decide, by decide⟩ ⟨by decide, by decide⟩ (by decide) (by decide) (by decide); rw [show Vo.rtE 8 0 4 4 1 = 4 by decide] at this; exact this)
  go_wp2_with fail
  obtain ⟨U1, hU1⟩ : ∃ U1, u1.alloc (.cells #[.int .i64 x0, .int .i64 x1, .int .i64 x2, .int .i64 x3] 25) = U1 := ⟨_, rfl⟩
  rw [hU1]
  have n1 : Below u1.heap.size u1 U1 := hU1 ▸ (Below.refl _ _).alloc (Nat.le_refl _) _
  have KV := Base.hide (show Vo.Box4 U1 u1.heap.size x0 x1 x2 x3 from hU1 ▸ Vo.box4_new _ _ _ _ _ _)
  replace BW := Base.hide (BW.out.trans (n1.mono BW.out.size))
  clear n1 hU1
  obtain ⟨-, c0, c1, c2, c3⟩ := KV.out
  refine (C8.out _).mono ?_; rintro e u2 ⟨rfl, q2⟩
  replace KV := Base.hide (KV.out.below q2)
  replace BW := Base.hide (BW.out.trans (q2.mono BW.out.size))
  clear q2 c0 c1 c2 c3
  obtain ⟨-, c0, c1, c2, c3⟩ := KV.out
  clear C8
  go_wp2_with fail
  refine (Vo.specSched x0 x1 x2 x3 _ Hb.out.1.1 Hb.out.1.2 Hb.out.2.1 Hb.out.2.2).mono ?_; rintro e u3 ⟨rfl, q3⟩
  replace KV := Base.hide (KV.out.below q3)
  replace BW := Base.hide (BW.out.trans (q3.mono BW.out.size))
  clear q3 c0 c1 c2 c3
  obtain ⟨-, c0, c1, c2, c3⟩ := KV.out
  obtain ⟨g, hg⟩ : ∃ g, Vo.schOk x0 x1 x2 x3 = g := ⟨_, rfl⟩
  rw [hg]
  have HG := Base.hide hg
  clear hg
  cases g
  · clear HG Ht Hb
    go_wp2_with fail
    go_ret
    exact ⟨rfl, BW.out⟩
  by_cases t0 : t < 0
  · clear HG Ht Hb
    go_wp2_with fail
    go_ret
    exact ⟨rfl, BW.out⟩
  have t0' : decide (t < 0) = false := decide_eq_false t0
  by_cases t1 : 10000000 ≤ t
  · clear HG Ht Hb t0
    go_wp2_with fail
    go_ret
    exact ⟨rfl, BW.out⟩
  have t1' : decide (10000000 ≤ t) = false := decide_eq_false t1
  have tt : t + 1 ≤ 10000000 := by omega
  have tw : IntKind.i64.wrap (t + 1) = t + 1 := Vo.wid (by omega)
  have CA := Base.hide (fun w => Vo.rateI x0 x1 x2 x3 t w Hb.out.1.1 Hb.out.1.2 Hb.out.2.1 Hb.out.2.2 Ht.out HG.out (by omega) (by omega))
  have CB := Base.hide (fun w => Vo.rateI x0 x1 x2 x3 (t + 1) w Hb.out.1.1 Hb.out.1.2 Hb.out.2.1 Hb.out.2.2 ⟨by omega, by omega⟩ HG.out (by omega) (by omega))
  have P1 := Base.hide (Vo.rt_peak HG.out (t := t) (by omega))
  have P2 := Base.hide (fun h => Vo.rt_rise HG.out (t := t) (by omega) h)
  have P3 := Base.hide (fun h => Vo.rt_fall HG.out (t := t) (by omega) h)
  obtain ⟨A, hA⟩ : ∃ A, Vo.rtE x0 x1 x2 x3 t = A := ⟨_, rfl⟩
  rw [hA] at CA P1 P2 P3
  obtain ⟨D, hD⟩ : ∃ D, Vo.rtE x0 x1 x2 x3 (t + 1) = D := ⟨_, rfl⟩
  rw [hD] at CB P2 P3
  clear hA hD t0 t1 Ht Hb HG
  go_wp2_with fail
  refine (CA.out _).mono ?_; rintro e u4 ⟨rfl, q4⟩
  replace KV := Base.hide (KV.out.below q4)
  replace BW := Base.hide (BW.out.trans (q4.mono BW.out.size))
  clear q4 c0 c1 c2 c3
  obtain ⟨-, c0, c1, c2, c3⟩ := KV.out
  go_wp2_with fail
  refine (CB.out _).mono ?_; rintro e u5 ⟨rfl, q5⟩
  replace KV := Base.hide (KV.out.below q5)
  replace BW := Base.hide (BW.out.trans (q5.mono BW.out.size))
  clear q5 c0 c1 c2 c3
  obtain ⟨-, c0, c1, c2, c3⟩ := KV.out
  clear CA CB
  have p1 : decide (x0 < A) = false := decide_eq_false (by have := P1.out.1; omega)
  by_cases k1 : x3 ≤ t
  · have k2 : A = x1 := P1.out.2 k1
    have K2 := Base.hide k2
    subst k2
    clear P1 K2
    by_cases d1 : t + 1 < x2
    · have d2 : A ≤ D := P2.out d1
      clear P2 P3
      go_wp2_with fail
      go_ret
      exact ⟨rfl, BW.out⟩
    have d1' : decide (t + 1 < x2) = false := decide_eq_false d1
    by_cases d3 : t < x2
    · clear P2 P3 d1
      go_wp2_with fail
      go_ret
      exact ⟨rfl, BW.out⟩
    have d3' : decide (t < x2) = false := decide_eq_false d3
    have d4 : D ≤ A := P3.out (by omega)
    clear P2 P3 d1 d3
    go_wp2_with fail
    go_ret
    exact ⟨rfl, BW.out⟩
  have k1' : decide (x3 ≤ t) = false := decide_eq_false k1
  clear P1 k1
  by_cases d1 : t + 1 < x2
  · have d2 : A ≤ D := P2.out d1
    clear P2 P3
    go_wp2_with fail
    go_ret
    exact ⟨rfl, BW.out⟩
  have d1' : decide (t + 1 < x2) = false := decide_eq_false d1
  by_cases d3 : t < x2
  · clear P2 P3 d1
    go_wp2_with fail
    go_ret
    exact ⟨rfl, BW.out⟩
  have d3' : decide (t < x2) = false := decide_eq_false d3
  have d4 : D ≤ A := P3.out (by omega)
  clear P2 P3 d1 d3
  go_wp2_with fail
  go_ret
  exact ⟨rfl, BW.out⟩

set_option maxRecDepth 100000 in
theorem lifted (os : Os) (started : os.Started) (H : Type) (enc : TypeId × Value → H) :
    ReturnsInHanded {} Try.checked os 3 .any (Rows.fnRatesSpec.pre6 enc Try.prog Try.f3 Rows.fnRatesRow.domain false) (Rows.fnRatesSpec.post enc Try.prog Try.f3 false true false false) := by
  refine returnsInHanded_of_change (C := Try.checked) own started (by kernel_rfl) Try.func3
    (ChangeSpec.witness6 (enc := enc) (C := Try.checked) false ⟨#[], #[.slice none 0 0], []⟩ 8 (by kernel_rfl) (by kernel_rfl) (by kernel_rfl) (by kernel_rfl)) ?_
  intro W base args ds gs before hval0 hW hcnd _
  have hval : ∀ (j : Nat) t v, Try.f3.params[j]? = some t → args[j]? = some v → Value.okWide Try.prog W .any base t v := hval0
  have hW' := hW
  obtain ⟨p, q, hA0, hV, rfl, hfz, hnd⟩ := hW
  have hA : DataW.TrodAll enc Try.prog W 0 (fun _ => true) true Try.f3.params.toList args.toList ds p := hA0
  rw [Try.params3] at hA hval
  obtain ⟨v0, vs0, d0, ds0, p0, q0, hargs, rfl, rfl, h0, rst0⟩ := trodAll_cons hA
  obtain ⟨rfl, rfl, rfl⟩ := trodAll_nil rst0
  obtain rfl : args = #[v0] := by cases args; simp_all
  obtain ⟨rfl, rfl⟩ := trodVars_none hV
  have k0 := h0
  have lt0 : ∀ x ∈ p0, x.block < W.heap.size := by obtain ⟨m, hm⟩ := k0; exact DataW.trod_lt m _ _ _ hm
  obtain ⟨a0, len0, cap0, rfl⟩ := okWide_slice Try.underlying22 (hval 0 22 v0 rfl rfl)
  have w0 : Base.Code W.heap.size W a0 len0 := by
    obtain ⟨fuel, hf⟩ := h0
    rcases open_ints Try.underlying22 Try.underlying5 (by kernel_rfl) hf with ⟨hcs, _⟩ | ⟨x, l, c, zs, hcs, _, hl, hm, hz, _, hcell, hwz⟩
    · simp [Value.cells] at hcs
      obtain ⟨rfl, rfl, rfl⟩ := hcs
      exact ⟨by omega, .inl rfl⟩
    · simp [Value.cells] at hcs
      obtain ⟨rfl, rfl, rfl⟩ := hcs
      exact Base.code_of hl hm (by simpa using hz) hcell hwz
  clear hA0 hval0
  refine (walk a0 len0 cap0 W w0).mono fun e W' ⟨he, bel⟩ => ?_
  subst he
  exact ⟨_, rfl, _, _, _, [], _, [], hW', trodAll_mk1 (shut_bool Try.underlying4 _), (trodAll_cons_mk (Below.trod laidOut (by kernel_rfl) (of_decide_eq_true (by kernel_rfl)) k0 bel lt0) trodAll_mk0), rfl, bel.frame _, fun h => by cases h⟩

theorem over : Rows.fnRatesRow.holds Try.pinned (OpenSpec.ofChange Rows.fnRatesSpec) :=
  OpenClaim.holds_of_wide 3 Try.f3 rfl rfl rfl rfl rfl rfl rfl ⟨rfl, rfl, rfl, rfl, rfl⟩ rfl rfl rfl rfl rfl (by kernel_rfl) Try.func3 (by kernel_rfl)
    (of_decide_eq_true (by kernel_rfl)) (by unfold Func.isWrapper; first | (rw [if_pos (by decide +kernel)]; kernel_rfl) | (rw [if_neg (by decide +kernel)]; exact ⟨rfl, rfl⟩))
    (fun os started H enc _ => lifted os started H enc)

theorem proved : Rows.FnRatesSaid := over
#print axioms proved
end Go.Proofs.Ytbkcjgbdglnilaa.fnRates
