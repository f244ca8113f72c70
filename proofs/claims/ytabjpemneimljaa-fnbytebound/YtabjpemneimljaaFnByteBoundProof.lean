/-
  Proved: whatever the arguments, 'FnByteBound' returns true: the landed function answers as its model, and what came in reads as it did. No condition.
-/
import Derived.Test.YtabjpemneimljaaRows
import Derived.Test.YtabjpemneimljaaVl
import Derived.Test.YtabjpemneimljaaIa
import Derived.Test.YtabjpemneimljaaNea
import Derived.Test.YtabjpemneimljaaIb
import Derived.Test.YtabjpemneimljaaIc
import Derived.Test.YtabjpemneimljaaIe
import Derived.Test.YtabjpemneimljaaIg
import Derived.Test.YtabjpemneimljaaIh
import Derived.Test.YtabjpemneimljaaIi
import Derived.Test.YtabjpemneimljaaIj
import Derived.Test.YtabjpemneimljaaIk
import Derived.Test.YtabjpemneimljaaOf
import Derived.Test.YtabjpemneimljaaNum
import Derived.Test.YtabjpemneimljaaBase
import Derived.Test.YtabjpemneimljaaPow
import Derived.Test.YtabjpemneimljaaDraw
import Derived.Test.YtabjpemneimljaaNef
import Derived.Test.YtabjpemneimljaaVp
import Derived.Test.YtabjpemneimljaaVs
import Derived.Test.YtabjpemneimljaaVq
import Derived.Test.YtabjpemneimljaaVo
import Derived.Test.YtabjpemneimljaaVm
import Derived.Test.YtabjpemneimljaaVn
import Derived.Test.YtabjpemneimljaaVc
import Derived.Test.YtabjpemneimljaaOg
import Derived.Test.YtabjpemneimljaaOh
import Derived.WalkKit
import Derived.ProofKit
import Derived.OpenShut
import Derived.ShutString
import Derived.ChangeOld
import Derived.Below
import Derived.Lib.SmallJoins
import Derived.OpenVars
import Derived.ChangeVars
import Derived.Deep.RegionHeld3
namespace Go.Proofs.Ytabjpemneimljaa.fnByteBound
open Go.ChangeShapes Go.WideShapes Go.ChangeAt Go.RowKit Go.Joins
open Go.ChangeMaps (open_string shut_string)
set_option linter.unusedVariables false
set_option linter.unusedSimpArgs false

theorem own : ownKnob Try.prog.godebug = none := by kernel_rfl
theorem laidOut : laidOutB Try.prog = true := by kernel_rfl

set_option maxRecDepth 100000 in
set_option maxHeartbeats 4000000 in
theorem walk (a0 : Option Addr) (len0 cap0 : Nat) (w : World) (w0 : Base.Code w.heap.size w a0 len0) :
    Calls Try.prog 3 #[.slice a0 len0 cap0] w fun e w' => e = .returned (.bool true) ∧ Below w.heap.size w w' := by
  have L0 := w0.1
  have l0 : (len0 : Int) ≤ 9223372036854775807 := by omega
  have HW := Base.hide w0
  clear w0 L0
  by_cases g0 : (1048576 : Int) < (len0 : Int)
  · have e0 := Base.hide (decide_eq_true g0)
    clear g0
    go_enter Try.func3, Try.ntmps3
    go_wp2_with fail
    refine (Base.big a0 len0 cap0 true _ l0 e0.out).mono ?_; rintro e w' ⟨rfl, rfl⟩
    go_wp2_with fail
    go_ret
    exact ⟨rfl, Below.refl _ _⟩
  have e0 := Base.hide (decide_eq_false g0)
  have n0 := Base.hide (show len0 ≤ 1048576 by omega)
  clear g0
  have C6 := Base.hide (fun w => show Calls Try.prog 11 #[.agg #[.int .i64 3, .int .i64 0], .int .i64 6] w fun e w' => e = .returned (.int .i64 2) ∧ Below w.heap.size w w' from by
    obtain ⟨v, -, ev, -, hv⟩ := Vo.quantBoth 3 0 6 ⟨by decide, by decide⟩ ⟨by decide, by decide⟩ ⟨by decide, by decide⟩
    have := ev (by decide) (by decide)
    rw [show v = 2 from this.trans (by decide)] at hv
    exact hv w)
  have C2 := Base.hide (fun w => show Calls Try.prog 10 #[.agg #[.int .i64 3, .int .i64 0], .int .i64 2] w fun e w' => e = .returned (.int .i64 6) ∧ Below w.heap.size w w' from by
    obtain ⟨v, -, ev, -, hv⟩ := Vo.valueBoth 3 0 2 ⟨by decide, by decide⟩ ⟨by decide, by decide⟩ ⟨by decide, by decide⟩
    rw [if_pos (by decide)] at ev
    rw [show v = 6 from ev.trans (by decide)] at hv
    exact hv w)
  go_enter Try.func3, Try.ntmps3
  go_wp2_with fail
  refine (Base.big a0 len0 cap0 false _ l0 e0.out).mono ?_; rintro e w' ⟨rfl, hq⟩; have hq := hq.symm; subst hq
  clear e0 l0
  go_wp2_with fail
  refine (Vo.drawQuantise a0 len0 cap0 _ HW.out n0.out).mono ?_; rintro e u1 ⟨s, z, x, rfl, bsz, bx, bb⟩
  have BW := Base.hide bb
  have BS := Base.hide bsz
  have BX := Base.hide bx
  clear bb bsz bx
  obtain ⟨U1, hU1⟩ : ∃ U1, u1.alloc (.cells #[.int .i64 s, .int .i64 z] 25) = U1 := ⟨_, rfl⟩
  have n1 : Below u1.heap.size u1 U1 := hU1 ▸ (Below.refl _ _).alloc (Nat.le_refl _) _
  have KV := Base.hide (show Vo.Box2 U1 u1.heap.size s z from hU1 ▸ Vo.box2_new _ _ _ _)
  replace BW := Base.hide (BW.out.trans (n1.mono BW.out.size))
  clear n1
  go_wp2_with fail
  refine (C6.out _).mono ?_; rintro e u2 ⟨rfl, q2⟩
  replace KV := Base.hide (KV.out.below q2)
  replace BW := Base.hide (BW.out.trans (q2.mono BW.out.size))
  clear q2 C6 hU1
  go_wp2_with fail
  refine (C2.out _).mono ?_; rintro e u3 ⟨rfl, q3⟩
  replace KV := Base.hide (KV.out.below q3)
  replace BW := Base.hide (BW.out.trans (q3.mono BW.out.size))
  clear q3 C2
  obtain ⟨-, c0, c1⟩ := KV.out
  obtain ⟨q, ⟨q0, q1⟩, eq, -, hq⟩ := Vo.quantBoth s z x BS.out.1 BS.out.2 ⟨by have := BX.out; omega, by have := BX.out; omega⟩
  have CQ := Base.hide hq
  have EQ := Base.hide eq
  have Q0 := Base.hide (And.intro q0 q1)
  clear hq eq q0 q1
  go_wp2_with fail
  refine (CQ.out _).mono ?_; rintro e u4 ⟨rfl, q4⟩
  replace KV := Base.hide (KV.out.below q4)
  replace BW := Base.hide (BW.out.trans (q4.mono BW.out.size))
  clear q4 CQ c0 c1
  obtain ⟨v, vb, ev, -, hv⟩ := Vo.valueBoth s z q BS.out.1 BS.out.2 ⟨by have := Q0.out; omega, by have := Q0.out; omega⟩
  have CV := Base.hide hv
  have VB := Base.hide vb
  have EV := Base.hide ev
  clear hv vb ev
  go_upto_region 7 with fail
  go_cut [50] (fun c wx => c = .bool false ∧ Below u4.heap.size u4 wx)
  case first =>
    obtain ⟨-, c0, c1⟩ := KV.out
    have k0 := cell_regrown c0
    have k1 := cell_regrown c1
    clear c0 c1
    have CA := Base.hide (fun d os => Calls.regrown_of (d := d) (os := os) (w := u4) (Vo.absB x _ (by have := BX.out; omega) (by have := BX.out; omega)))
    obtain ⟨y, hy⟩ : ∃ y, Vo.ab1 x = y := ⟨_, rfl⟩
    rw [hy] at CA
    have HY := Base.hide hy
    clear hy
    cases g : Vo.scOk s z
    · have CS := Base.hide (fun d os => Calls.regrown_of (d := d) (os := os) (w := u4) (Vo.gScaleS s z false g _))
      clear g
      go_wp2_with fail
      refine wp_region_quiet_below (by kernel_rfl) (by kernel_rfl) ?_
      repeat (go_big_quiet_step (first | (go_at_call 12; exact CS.out _ _)))
      refine wpQuiet_nil ?_
      intro _ hw'
      obtain ⟨⟨dq, osq⟩, hw''⟩ := hw'
      subst hw''
      go_wp2_with fail
      go_meet
      exact ⟨rfl, below_regrown _ _ _⟩
    have CS := Base.hide (fun d os => Calls.regrown_of (d := d) (os := os) (w := u4) (Vo.gScaleS s z true g _))
    have G := Base.hide g
    clear g
    by_cases h1 : y ≤ 1099511627776
    case neg =>
      have h1' : decide (y ≤ 1099511627776) = false := decide_eq_false h1
      clear h1
      go_wp2_with fail
      refine wp_region_quiet_below (by kernel_rfl) (by kernel_rfl) ?_
      repeat (go_big_quiet_step (first | (go_at_call 12; exact CS.out _ _) | (go_at_call 13; exact CA.out _ _)))
      refine wpQuiet_nil ?_
      intro _ hw'
      obtain ⟨⟨dq, osq⟩, hw''⟩ := hw'
      subst hw''
      go_wp2_with fail
      go_meet
      exact ⟨rfl, below_regrown _ _ _⟩
    have h1' : decide (y ≤ 1099511627776) = true := decide_eq_true h1
    have H1 := Base.hide h1
    clear h1
    by_cases h2 : 0 < q
    case neg =>
      have h2' : decide (0 < q) = false := decide_eq_false h2
      clear h2
      go_wp2_with fail
      refine wp_region_quiet_below (by kernel_rfl) (by kernel_rfl) ?_
      repeat (go_big_quiet_step (first | (go_at_call 12; exact CS.out _ _) | (go_at_call 13; exact CA.out _ _)))
      refine wpQuiet_nil ?_
      intro _ hw'
      obtain ⟨⟨dq, osq⟩, hw''⟩ := hw'
      subst hw''
      go_wp2_with fail
      go_meet
      exact ⟨rfl, below_regrown _ _ _⟩
    have h2' : decide (0 < q) = true := decide_eq_true h2
    have H2 := Base.hide h2
    clear h2
    by_cases h3 : q < 255
    case neg =>
      have h3' : decide (q < 255) = false := decide_eq_false h3
      clear h3
      go_wp2_with fail
      refine wp_region_quiet_below (by kernel_rfl) (by kernel_rfl) ?_
      repeat (go_big_quiet_step (first | (go_at_call 12; exact CS.out _ _) | (go_at_call 13; exact CA.out _ _)))
      refine wpQuiet_nil ?_
      intro _ hw'
      obtain ⟨⟨dq, osq⟩, hw''⟩ := hw'
      subst hw''
      go_wp2_with fail
      go_meet
      exact ⟨rfl, below_regrown _ _ _⟩
    have h3' : decide (q < 255) = true := decide_eq_true h3
    have H3 := Base.hide h3
    clear h3
    obtain ⟨⟨s0, s1⟩, z0, z1⟩ := Vo.sc_of G.out
    have xr : -1099511627776 ≤ x ∧ x ≤ 1099511627776 := by
      have := HY.out
      have := H1.out
      unfold Vo.ab1 at *
      split at * <;> omega
    have e1 := EQ.out G.out xr
    have hf := Vo.half_off (s := s) (z := z) (x := x) (q := q) s0 e1 H2.out H3.out
    have ev := EV.out
    rw [if_pos ⟨G.out, by have := Q0.out; omega, by have := Q0.out; omega⟩] at ev
    rw [← ev] at hf
    have vb := VB.out
    have wx : IntKind.i64.wrap (x - v) = x - v := Vo.wid' (by omega)
    have CA2 := Base.hide (fun d os => Calls.regrown_of (d := d) (os := os) (w := u4) (Vo.absB (x - v) _ (by omega) (by omega)))
    have bt : 0 ≤ Vo.ab1 (x - v) ∧ Vo.ab1 (x - v) ≤ 562949953421312 := by unfold Vo.ab1; split <;> omega
    have CVV := Base.hide (fun d os => Calls.regrown_of (d := d) (os := os) (w := u4) (CV.out _))
    obtain ⟨t, ht⟩ : ∃ t, Vo.ab1 (x - v) = t := ⟨_, rfl⟩
    rw [ht] at hf CA2 bt
    have w2 : IntKind.i64.wrap (2 * t) = 2 * t := Vo.wid' (by omega)
    have h4 : decide (s < 2 * t) = false := decide_eq_false (by omega)
    obtain ⟨m, hm⟩ : ∃ m, x - v = m := ⟨_, rfl⟩
    rw [hm] at wx CA2
    have wx : IntKind.i64.wrap (x - v) = m := by rw [Vo.wid' (by omega)]; exact hm
    clear ht hm e1 ev hf vb bt xr s0 s1 z0 z1
    go_wp2_with fail
    refine wp_region_quiet_below (by kernel_rfl) (by kernel_rfl) ?_
    repeat (go_big_quiet_step (first | (go_at_call 12; exact CS.out _ _) | (go_at_call_of 13 (Value.int IntKind.i64 x); exact CA.out _ _) | (go_at_call_of 13 (Value.int IntKind.i64 m); exact CA2.out _ _) | (go_at_call 10; exact CVV.out _ _)))
    refine wpQuiet_nil ?_
    intro _ hw'
    obtain ⟨⟨dq, osq⟩, hw''⟩ := hw'
    subst hw''
    go_wp2_with fail
    go_meet
    exact ⟨rfl, below_regrown _ _ _⟩
  case rest =>
  obtain ⟨rfl, b5⟩ := hcut
  replace BW := Base.hide (BW.out.trans (b5.mono BW.out.size))
  clear b5 EQ EV VB CV Q0 BS BX KV
  go_wp2_with fail
  refine (Vo.drawCalibrate a0 len0 cap0 _ ((HW.out.below BW.out).mono BW.out.size) n0.out).mono ?_; rintro e u6 ⟨b, k, c, D, rfl, k8, hO, q6⟩
  replace BW := Base.hide (BW.out.trans (q6.mono BW.out.size))
  have HO := Base.hide hO.ints
  have KR := Base.hide (show (k : Int) ≤ 1048576 by omega)
  clear q6 hO HW n0 k8
  cases g : Vo.rls k D
  · have C := Base.hide ((Vo.calI k D KR.out).1 g _ b c u6 (Nat.le_refl _) HO.out)
    clear g
    go_wp2_with fail
    refine C.out.mono ?_; rintro e u7 ⟨rfl, q7⟩
    replace BW := Base.hide (BW.out.trans (q7.mono BW.out.size))
    clear q7 C
    go_wp2_with fail
    go_ret
    exact ⟨rfl, BW.out.alloc BW.out.size _⟩
  obtain ⟨s', z', v', ok, ⟨vs, v0⟩, hC, hWo⟩ := Vo.worst_step k D KR.out g
  have CC := Base.hide hC
  have CW := Base.hide hWo
  have OK := Base.hide ok
  have hvs : decide (v' ≤ s') = true := decide_eq_true vs
  clear hC hWo ok vs v0 g
  go_wp2_with fail
  refine (CC.out _ b c _ (Nat.le_refl _) HO.out).mono ?_; rintro e u7 ⟨rfl, q7⟩
  replace BW := Base.hide (BW.out.trans (q7.mono BW.out.size))
  have H7 := Base.hide ((HO.out.below q7).mono q7.size)
  clear q7 CC HO
  obtain ⟨U8, hU8⟩ : ∃ U8, u7.alloc (.cells #[.int .i64 s', .int .i64 z'] 25) = U8 := ⟨_, rfl⟩
  have n8 : Below u7.heap.size u7 U8 := hU8 ▸ (Below.refl _ _).alloc (Nat.le_refl _) _
  obtain ⟨-, c0, c1⟩ := (show Vo.Box2 U8 u7.heap.size s' z' from hU8 ▸ Vo.box2_new _ _ _ _)
  replace BW := Base.hide (BW.out.trans (n8.mono BW.out.size))
  replace H7 := Base.hide ((H7.out.below n8).mono n8.size)
  have k0 := cell_regrown c0
  have k1 := cell_regrown c1
  clear n8
  have CS := Base.hide (fun d os => Calls.regrown_of (d := d) (os := os) (w := U8) (Vo.gScaleI s' z' true (by have := Vo.sc_of OK.out; exact ⟨by omega, by omega⟩) (by have := Vo.sc_of OK.out; exact ⟨by omega, by omega⟩) OK.out _))
  have CWW := Base.hide (fun d os => Calls.regrown_of (d := d) (os := os) (w := U8) (CW.out U8.heap.size b c _ (below_regrown U8 d os).size (H7.out.below (below_regrown U8 d os))))
  go_wp2_with fail
  clear hU8 c0 c1
  refine wp_region_quiet_below (by kernel_rfl) (by kernel_rfl) ?_
  repeat (go_big_quiet_step (first | (go_at_call 16; exact CS.out _ _) | (go_at_call 17; exact CWW.out _ _)))
  refine wpQuiet_nil ?_
  intro _ hw'
  obtain ⟨⟨dq, osq⟩, hw''⟩ := hw'
  subst hw''
  go_wp2_with fail
  go_ret
  exact ⟨rfl, BW.out.trans ((below_regrown _ _ _).mono BW.out.size)⟩

set_option maxRecDepth 100000 in
theorem lifted (os : Os) (started : os.Started) (H : Type) (enc : TypeId × Value → H) :
    ReturnsInHanded {} Try.checked os 3 .any (Rows.fnByteBoundSpec.pre6 enc Try.prog Try.f3 Rows.fnByteBoundRow.domain false) (Rows.fnByteBoundSpec.post enc Try.prog Try.f3 false true false false) := by
  refine returnsInHanded_of_change (C := Try.checked) own started (by kernel_rfl) Try.func3
    (ChangeSpec.witness6 (enc := enc) (C := Try.checked) false ⟨#[], #[.slice none 0 0], []⟩ 8 (by kernel_rfl) (by kernel_rfl) (by kernel_rfl) (by kernel_rfl)) ?_
  intro W base args ds gs before hval0 hW hcnd _
  have hval : ∀ (j : Nat) t v, Try.f3.params[j]? = some t → args[j]? = some v → Value.okWide Try.prog W .any base t v := hval0
  have hW' := hW
  obtain ⟨p, q, hA0, hV, rfl, hfz, hnd⟩ := hW
  have hA : DataW.TrodAll enc Try.prog W 0 (fun _ => true) true Try.f3.params.toList args.toList ds p := hA0
  rw [Try.params3] at hA hval
  obtain ⟨v0, vs0, d0, ds0, p0, q0, hargs, rfl, rfl, h0, rst0⟩ := trodAll_cons hA
  obtain ⟨rfl, rfl, rfl⟩ := trodAll_nil rst0
  obtain rfl : args = #[v0] := by cases args; simp_all
  obtain ⟨rfl, rfl⟩ := trodVars_none hV
  have k0 := h0
  have lt0 : ∀ x ∈ p0, x.block < W.heap.size := by obtain ⟨m, hm⟩ := k0; exact DataW.trod_lt m _ _ _ hm
  obtain ⟨a0, len0, cap0, rfl⟩ := okWide_slice Try.underlying22 (hval 0 22 v0 rfl rfl)
  have w0 : Base.Code W.heap.size W a0 len0 := by
    obtain ⟨fuel, hf⟩ := h0
    rcases open_ints Try.underlying22 Try.underlying5 (by kernel_rfl) hf with ⟨hcs, _⟩ | ⟨x, l, c, zs, hcs, _, hl, hm, hz, _, hcell, hwz⟩
    · simp [Value.cells] at hcs
      obtain ⟨rfl, rfl, rfl⟩ := hcs
      exact ⟨by omega, .inl rfl⟩
    · simp [Value.cells] at hcs
      obtain ⟨rfl, rfl, rfl⟩ := hcs
      exact Base.code_of hl hm (by simpa using hz) hcell hwz
  clear hA0 hval0
  refine (walk a0 len0 cap0 W w0).mono fun e W' ⟨he, bel⟩ => ?_
  subst he
  exact ⟨_, rfl, _, _, _, [], _, [], hW', trodAll_mk1 (shut_bool Try.underlying4 _), (trodAll_cons_mk (Below.trod laidOut (by kernel_rfl) (of_decide_eq_true (by kernel_rfl)) k0 bel lt0) trodAll_mk0), rfl, bel.frame _, fun h => by cases h⟩

theorem over : Rows.fnByteBoundRow.holds Try.pinned (OpenSpec.ofChange Rows.fnByteBoundSpec) :=
  OpenClaim.holds_of_wide 3 Try.f3 rfl rfl rfl rfl rfl rfl rfl ⟨rfl, rfl, rfl, rfl, rfl⟩ rfl rfl rfl rfl rfl (by kernel_rfl) Try.func3 (by kernel_rfl)
    (of_decide_eq_true (by kernel_rfl)) (by unfold Func.isWrapper; first | (rw [if_pos (by decide +kernel)]; kernel_rfl) | (rw [if_neg (by decide +kernel)]; exact ⟨rfl, rfl⟩))
    (fun os started H enc _ => lifted os started H enc)

theorem proved : Rows.FnByteBoundSaid := over
#print axioms proved
end Go.Proofs.Ytabjpemneimljaa.fnByteBound
