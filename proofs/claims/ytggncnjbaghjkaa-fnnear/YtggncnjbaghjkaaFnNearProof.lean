/-
  Proved: whatever the arguments, 'FnNear' returns true: the landed function answers as its model, and what came in reads as it did. No condition.
-/
import Derived.Test.YtggncnjbaghjkaaRows
import Derived.Test.YtggncnjbaghjkaaNum
import Derived.Test.YtggncnjbaghjkaaBase
import Derived.Test.YtggncnjbaghjkaaPow
import Derived.Test.YtggncnjbaghjkaaDraw
import Derived.Test.YtggncnjbaghjkaaNea
import Derived.Test.YtggncnjbaghjkaaNef
import Derived.WalkKit
import Derived.ProofKit
import Derived.OpenShut
import Derived.ShutString
import Derived.ChangeOld
import Derived.Below
import Derived.Lib.SmallJoins
import Derived.OpenVars
import Derived.ChangeVars
import Derived.Deep.RegionHeld3
namespace Go.Proofs.Ytggncnjbaghjkaa.fnNear
open Go.ChangeShapes Go.WideShapes Go.ChangeAt Go.RowKit Go.Joins
open Go.ChangeMaps (open_string shut_string)
set_option linter.unusedVariables false
set_option linter.unusedSimpArgs false

theorem own : ownKnob Try.prog.godebug = none := by kernel_rfl
theorem laidOut : laidOutB Try.prog = true := by kernel_rfl

set_option maxRecDepth 100000 in
set_option maxHeartbeats 4000000 in
theorem walk (a0 : Option Addr) (len0 cap0 : Nat) (w : World) (w0 : Base.Code w.heap.size w a0 len0) :
    Calls Try.prog 3 #[.slice a0 len0 cap0] w fun e w' => e = .returned (.bool true) ∧ Below w.heap.size w w' := by
  have L0 := w0.1
  have l0 : (len0 : Int) ≤ 9223372036854775807 := by omega
  have W0 := Base.hide w0
  clear w0 L0
  by_cases g0 : (1048576 : Int) < (len0 : Int)
  · have e0 := Base.hide (decide_eq_true g0)
    clear g0
    go_enter Try.func3, Try.ntmps3
    go_wp2_with fail
    refine (Base.big a0 len0 cap0 true _ l0 e0.out).mono ?_; rintro e w' ⟨rfl, rfl⟩
    go_wp2_with fail
    go_ret
    exact ⟨rfl, Below.refl _ _⟩
  · have e0 := Base.hide (decide_eq_false g0)
    have n0 := Base.hide (show len0 ≤ 1048576 by omega)
    have mk := Nef.mask16
    clear g0
    go_enter Try.func3, Try.ntmps3
    go_wp2_with fail
    refine (Base.big a0 len0 cap0 false _ l0 e0.out).mono ?_; rintro e w' ⟨rfl, rfl⟩
    go_wp2_with fail
    refine (Nef.drawNear a0 len0 cap0 _ W0.out n0.out).mono ?_; rintro e u1 ⟨n, d, x0, x1, y0, y1, rfl, b1⟩
    have k1 := Base.hide ((W0.out.below b1).mono b1.size)
    clear n0 e0 W0
    go_wp2_with fail
    refine (Nef.nearF 7 2 _ (by decide) (by decide) (by decide) (by decide)).mono ?_; rintro e u2 ⟨rfl, b2⟩
    have h4 : Nef.nr 7 2 = 4 := by decide
    rw [h4]
    clear h4
    have bb := b1.trans (b2.mono b1.size)
    have k2 := Base.hide ((k1.out.below b2).mono b2.size)
    clear k1 b1 b2
    by_cases q1 : d < 1
    · clear mk
      go_wp2_with fail
      go_ret
      exact ⟨rfl, bb⟩
    · have f1 : decide (d < 1) = false := decide_eq_false q1
      by_cases q2 : 1073741824 < d
      · clear mk q1
        go_wp2_with fail
        go_ret
        exact ⟨rfl, bb⟩
      · have f2 : decide (1073741824 < d) = false := decide_eq_false q2
        by_cases q3 : 1152921504606846976 < n
        · clear mk q1 q2
          go_wp2_with fail
          go_ret
          exact ⟨rfl, bb⟩
        · have f3 : decide (1152921504606846976 < n) = false := decide_eq_false q3
          by_cases q4 : n < -1152921504606846976
          · clear mk q1 q2 q3
            go_wp2_with fail
            go_ret
            exact ⟨rfl, bb⟩
          · have f4 : decide (n < -1152921504606846976) = false := decide_eq_false q4
            obtain ⟨v0, v1, v2, v3⟩ := Nef.nr_bd n d (by omega) (by omega) (by omega) (by omega)
            obtain ⟨o0, o1⟩ := Nef.nr_off n d (by omega)
            have NF := Base.hide (fun w => Nef.nearF n d w (by omega) (by omega) (by omega) (by omega))
            generalize Nef.nr n d = q at *
            obtain ⟨z, hz⟩ : ∃ z : Int, q * d = z := ⟨_, rfl⟩
            rw [hz] at v2 v3 o0 o1
            clear q1 q2 q3 q4
            go_wp2_with fail
            refine (NF.out _).mono ?_; rintro e u3 ⟨rfl, b3⟩
            have bb3 := bb.trans (b3.mono bb.size)
            have k3 := Base.hide ((k2.out.below b3).mono b3.size)
            clear bb b3 k2 NF
            go_wp2_with fail
            refine (Nef.absF (n - z) _ (by omega) (by omega)).mono ?_; rintro e u4 ⟨y, hy, rfl, rfl⟩
            obtain ⟨hy1, hy2⟩ := hy
            have t0 : 2 * y ≤ d := by omega
            have t1 : 0 ≤ 2 * y := by omega
            have t2 : decide (d < 2 * y) = false := decide_eq_false (by omega)
            clear hy1 hy2 o0 o1
            go_wp2_with fail
            refine (Nef.atByte a0 len0 cap0 0 _ _ k3.out (by decide)).mono ?_; rintro e w' ⟨c, c0, c1, rfl, rfl⟩
            obtain ⟨k, hk⟩ : ∃ k : Nat, c % 20 = (k : Int) := ⟨(c % 20).toNat, by omega⟩
            have hk' : c.tmod 20 = (k : Int) := by rw [Int.tmod_eq_emod_of_nonneg c0]; exact hk
            have hkl : k ≤ 19 := by omega
            have kl : (k : Int) ≤ 19 := by omega
            have SF := Base.hide (fun w => Nef.shiftF (n % 65536) k w (by omega) (by omega) hkl)
            have sm0 : 0 ≤ n % 65536 := by omega
            have sm1 : n % 65536 < 65536 := by omega
            obtain ⟨p1, p2⟩ := Nef.pow_i k hkl
            have s2 : 0 ≤ n % 65536 * 2 ^ k := Int.mul_nonneg sm0 (by omega)
            have s3 : n % 65536 * 2 ^ k ≤ 65536 * 524288 := Int.mul_le_mul (by omega) p2 (by omega) (by omega)
            have s4 : IntKind.i64.wrap (n % 65536 * 2 ^ k) = n % 65536 * 2 ^ k := by rw [IntKind.wrap_i64]; omega
            have s5 : wrap64 (n % 65536 * 2 ^ k) = n % 65536 * 2 ^ k := by simp only [wrap64]; omega
            have km : min k 64 = k := by omega
            have ku : IntKind.u64.wrap (k : Int) = (k : Int) := by simp [IntKind.wrap, IntKind.bits, IntKind.signed]; omega
            clear p1 p2 s2 s3 hk
            go_wp2_with fail
            refine (SF.out _).mono ?_; rintro e u5 ⟨rfl, b5⟩
            go_wp2_with fail
            go_ret
            exact ⟨by simp, bb3.trans (b5.mono bb3.size)⟩

set_option maxRecDepth 100000 in
theorem lifted (os : Os) (started : os.Started) (H : Type) (enc : TypeId × Value → H) :
    ReturnsInHanded {} Try.checked os 3 .any (Rows.fnNearSpec.pre6 enc Try.prog Try.f3 Rows.fnNearRow.domain false) (Rows.fnNearSpec.post enc Try.prog Try.f3 false true false false) := by
  refine returnsInHanded_of_change (C := Try.checked) own started (by kernel_rfl) Try.func3
    (ChangeSpec.witness6 (enc := enc) (C := Try.checked) false ⟨#[], #[.slice none 0 0], []⟩ 8 (by kernel_rfl) (by kernel_rfl) (by kernel_rfl) (by kernel_rfl)) ?_
  intro W base args ds gs before hval0 hW hcnd _
  have hval : ∀ (j : Nat) t v, Try.f3.params[j]? = some t → args[j]? = some v → Value.okWide Try.prog W .any base t v := hval0
  have hW' := hW
  obtain ⟨p, q, hA0, hV, rfl, hfz, hnd⟩ := hW
  have hA : DataW.TrodAll enc Try.prog W 0 (fun _ => true) true Try.f3.params.toList args.toList ds p := hA0
  rw [Try.params3] at hA hval
  obtain ⟨v0, vs0, d0, ds0, p0, q0, hargs, rfl, rfl, h0, rst0⟩ := trodAll_cons hA
  obtain ⟨rfl, rfl, rfl⟩ := trodAll_nil rst0
  obtain rfl : args = #[v0] := by cases args; simp_all
  obtain ⟨rfl, rfl⟩ := trodVars_none hV
  have k0 := h0
  have lt0 : ∀ x ∈ p0, x.block < W.heap.size := by obtain ⟨m, hm⟩ := k0; exact DataW.trod_lt m _ _ _ hm
  obtain ⟨a0, len0, cap0, rfl⟩ := okWide_slice Try.underlying22 (hval 0 22 v0 rfl rfl)
  have w0 : Base.Code W.heap.size W a0 len0 := by
    obtain ⟨fuel, hf⟩ := h0
    rcases open_ints Try.underlying22 Try.underlying5 (by kernel_rfl) hf with ⟨hcs, _⟩ | ⟨x, l, c, zs, hcs, _, hl, hm, hz, _, hcell, hwz⟩
    · simp [Value.cells] at hcs
      obtain ⟨rfl, rfl, rfl⟩ := hcs
      exact ⟨by omega, .inl rfl⟩
    · simp [Value.cells] at hcs
      obtain ⟨rfl, rfl, rfl⟩ := hcs
      exact Base.code_of hl hm (by simpa using hz) hcell hwz
  clear hA0 hval0
  refine (walk a0 len0 cap0 W w0).mono fun e W' ⟨he, bel⟩ => ?_
  subst he
  exact ⟨_, rfl, _, _, _, [], _, [], hW', trodAll_mk1 (shut_bool Try.underlying4 _), (trodAll_cons_mk (Below.trod laidOut (by kernel_rfl) (of_decide_eq_true (by kernel_rfl)) k0 bel lt0) trodAll_mk0), rfl, bel.frame _, fun h => by cases h⟩

theorem over : Rows.fnNearRow.holds Try.pinned (OpenSpec.ofChange Rows.fnNearSpec) :=
  OpenClaim.holds_of_wide 3 Try.f3 rfl rfl rfl rfl rfl rfl rfl ⟨rfl, rfl, rfl, rfl, rfl⟩ rfl rfl rfl rfl rfl (by kernel_rfl) Try.func3 (by kernel_rfl)
    (of_decide_eq_true (by kernel_rfl)) (by unfold Func.isWrapper; first | (rw [if_pos (by decide +kernel)]; kernel_rfl) | (rw [if_neg (by decide +kernel)]; exact ⟨rfl, rfl⟩))
    (fun os started H enc _ => lifted os started H enc)

theorem proved : Rows.FnNearSaid := over
#print axioms proved
end Go.Proofs.Ytggncnjbaghjkaa.fnNear
