/-
  Proved: whatever the arguments, 'FnExactWorst' returns true: the landed function answers as its model, and what came in reads as it did. No condition.
-/
import Derived.Test.YtepbchkljamacaaRows
import Derived.Test.YtepbchkljamacaaVl
import Derived.Test.YtepbchkljamacaaNea
import Derived.Test.YtepbchkljamacaaIa
import Derived.Test.YtepbchkljamacaaIb
import Derived.Test.YtepbchkljamacaaIc
import Derived.Test.YtepbchkljamacaaIe
import Derived.Test.YtepbchkljamacaaIg
import Derived.Test.YtepbchkljamacaaIj
import Derived.Test.YtepbchkljamacaaIk
import Derived.WalkKit
import Derived.ProofKit
import Derived.OpenShut
import Derived.ShutString
import Derived.ChangeOld
import Derived.Below
import Derived.Lib.SmallJoins
import Derived.OpenVars
import Derived.ChangeVars
import Derived.Deep.RegionHeld3
namespace Go.Proofs.Ytepbchkljamacaa.fnExactWorst
open Go.ChangeShapes Go.WideShapes Go.ChangeAt Go.RowKit Go.Joins
open Go.ChangeMaps (open_string shut_string)
set_option linter.unusedVariables false

theorem own : ownKnob Try.prog.godebug = none := by kernel_rfl
theorem laidOut : laidOutB Try.prog = true := by kernel_rfl

theorem walk (x0 z0 : Int) (wx0 : (Lit.int .i64 x0).wf = true) (wz0 : (Lit.int .i64 z0).wf = true) (a1 : Option Addr) (r1 cap1 : Nat) (w : World) (w1 : Vl.Arg w a1 r1) :
    Calls Try.prog 7 #[.agg #[.int .i64 x0, .int .i64 z0], .slice a1 r1 cap1] w fun e w' => e = .returned (.bool true) ∧ Below w.heap.size w w' := by
  obtain ⟨hr, D, h0⟩ := w1
  have H := Vl.hide h0
  clear h0
  by_cases h20 : 1048576 < (r1 : Int)
  · go_enter Try.func7, Try.ntmps7
    go_wp2_with fail
    go_ret
    exact ⟨rfl, (Below.refl _ _).alloc (Nat.le_refl _) _⟩
  · have h20' : decide (1048576 < (r1 : Int)) = false := by rw [decide_eq_false_iff_not]; exact h20
    have hl : (r1 : Int) ≤ 1048576 := by omega
    obtain ⟨v, hs, hi⟩ := Vo.worBoth x0 z0 r1 D (bounds_i64 wx0) (bounds_i64 wz0) hl
    have HS := Vl.hide hs
    have HI := Vl.hide hi
    clear h20 hs hi wx0 wz0
    obtain ⟨WA, hWA⟩ : ∃ WA, w.alloc (.cells #[.int .i64 x0, .int .i64 z0] 23) = WA := ⟨_, rfl⟩
    have BL := Vl.hide (show Below w.heap.size w WA from hWA ▸ (Below.refl _ _).alloc (Nat.le_refl _) _)
    have KA := Vl.hide (show Vo.Box2 WA w.heap.size x0 z0 from hWA ▸ Vo.box2_new _ _ _ _)
    obtain ⟨-, cA0, cA1⟩ := KA.out
    go_enter Try.func7, Try.ntmps7
    go_wp2_with fail
    refine (Vo.toScale x0 z0 _).mono ?_; rintro e u1 ⟨rfl, q1⟩
    replace KA := Vl.hide (KA.out.below q1)
    replace BL := Vl.hide (BL.out.trans (q1.mono BL.out.size))
    clear q1 cA0 cA1
    go_wp2_with fail
    refine (Vl.toIntS w.heap.size a1 r1 cap1 D _ (H.out.below BL.out) BL.out.size hl).mono ?_; rintro e u2 ⟨rfl, p2, s2, q2⟩
    replace KA := Vl.hide (KA.out.below q2)
    replace BL := Vl.hide (BL.out.trans (q2.mono BL.out.size))
    have P2 := Vl.hide (p2.ints (B := u2.heap.size) s2)
    clear q2 p2 s2
    go_wp2_with fail
    refine (HS.out u2.heap.size _ _ _ (Nat.le_refl _) P2.out).mono ?_; rintro e u3 ⟨rfl, q3⟩
    replace KA := Vl.hide (KA.out.below q3)
    replace BL := Vl.hide (BL.out.trans (q3.mono BL.out.size))
    clear q3 P2
    go_wp2_with fail
    refine (Vl.toIntS w.heap.size a1 r1 cap1 D _ (H.out.below BL.out) BL.out.size hl).mono ?_; rintro e u4 ⟨rfl, p4, s4, q4⟩
    replace KA := Vl.hide (KA.out.below q4)
    replace BL := Vl.hide (BL.out.trans (q4.mono BL.out.size))
    have P4 := Vl.hide p4
    have S4 := Vl.hide s4
    clear q4 p4 s4
    obtain ⟨-, cA0, cA1⟩ := KA.out
    go_wp2_with fail
    refine (Vo.toScale x0 z0 _).mono ?_; rintro e u5 ⟨rfl, q5⟩
    replace P4 := Vl.hide (P4.out.below q5 S4.out)
    replace S4 := Vl.hide (Nat.lt_of_lt_of_le S4.out q5.size)
    replace BL := Vl.hide (BL.out.trans (q5.mono BL.out.size))
    clear q5 cA0 cA1 KA
    go_wp2_with fail
    refine (HI.out u5.heap.size _ _ _ (Nat.le_refl _) (P4.out.ints S4.out)).mono ?_; rintro e u6 ⟨rfl, q6⟩
    replace P4 := Vl.hide (P4.out.below q6 S4.out)
    replace S4 := Vl.hide (Nat.lt_of_lt_of_le S4.out q6.size)
    replace BL := Vl.hide (BL.out.trans (q6.mono BL.out.size))
    clear q6
    go_wp2_with fail
    refine (Vl.toIntS w.heap.size a1 r1 cap1 D _ (H.out.below BL.out) BL.out.size hl).mono ?_; rintro e u7 ⟨rfl, p7, s7, q7⟩
    replace P4 := Vl.hide (P4.out.below q7 S4.out)
    replace S4 := Vl.hide (Nat.lt_of_lt_of_le S4.out q7.size)
    replace BL := Vl.hide (BL.out.trans (q7.mono BL.out.size))
    have P7 := Vl.hide (p7.ints (B := u7.heap.size) s7)
    clear q7 p7 s7
    go_wp2_with fail
    refine (Vl.eqIntS u7.heap.size _ _ r1 r1 r1 D D _ (P4.out.ints S4.out) P7.out (fun _ _ => rfl) hl).mono ?_; rintro e u8 ⟨rfl, q8⟩
    go_wp2_with fail
    go_ret
    exact ⟨rfl, BL.out.trans (q8.mono BL.out.size)⟩

set_option maxRecDepth 100000 in
theorem lifted (os : Os) (started : os.Started) (H : Type) (enc : TypeId × Value → H) :
    ReturnsInHanded {} Try.checked os 7 .any (Rows.fnExactWorstSpec.pre6 enc Try.prog Try.f7 Rows.fnExactWorstRow.domain false) (Rows.fnExactWorstSpec.post enc Try.prog Try.f7 false true false false) := by
  refine returnsInHanded_of_change (C := Try.checked) own started (by kernel_rfl) Try.func7
    (ChangeSpec.witness6 (enc := enc) (C := Try.checked) false ⟨#[], #[.agg #[.int .i64 0, .int .i64 0], .slice none 0 0], []⟩ 8 (by kernel_rfl) (by kernel_rfl) (by kernel_rfl) (by kernel_rfl)) ?_
  intro W base args ds gs before hval0 hW hcnd _
  have hval : ∀ (j : Nat) t v, Try.f7.params[j]? = some t → args[j]? = some v → Value.okWide Try.prog W .any base t v := hval0
  have hW' := hW
  obtain ⟨p, q, hA0, hV, rfl, hfz, hnd⟩ := hW
  have hA : DataW.TrodAll enc Try.prog W 0 (fun _ => true) true Try.f7.params.toList args.toList ds p := hA0
  rw [Try.params7] at hA hval
  obtain ⟨v0, vs0, d0, ds0, p0, q0, hargs, rfl, rfl, h0, rst0⟩ := trodAll_cons hA
  obtain ⟨v1, vs1, d1, ds1, p1, q1, rfl, rfl, rfl, h1, rst1⟩ := trodAll_cons rst0
  obtain ⟨rfl, rfl, rfl⟩ := trodAll_nil rst1
  obtain rfl : args = #[v0, v1] := by cases args; simp_all
  obtain ⟨rfl, rfl⟩ := trodVars_none hV
  have k0 := h0
  have lt0 : ∀ x ∈ p0, x.block < W.heap.size := by obtain ⟨m, hm⟩ := k0; exact DataW.trod_lt m _ _ _ hm
  obtain ⟨c00, c01, u00, u01, m0, rfl, _, _, hy00, hy01⟩ := open_agg2 Try.underlying23 (by kernel_rfl) (by kernel_rfl) (hval 0 23 v0 rfl rfl) h0
  obtain ⟨x0, e00, _, wx0⟩ := DataW.trod_int Try.underlying3 hy00
  obtain ⟨z0, e01, _, wz0⟩ := DataW.trod_int Try.underlying3 hy01
  simp at e00 e01
  subst e00 e01
  have k1 := h1
  have lt1 : ∀ x ∈ p1, x.block < W.heap.size := by obtain ⟨m, hm⟩ := k1; exact DataW.trod_lt m _ _ _ hm
  obtain ⟨a1, r1, cap1, rfl⟩ := okWide_slice Try.underlying30 (hval 1 30 v1 rfl rfl)
  have w1 : Vl.Arg W a1 r1 := Vl.arg_at h1
  clear hA0 hval0
  refine (walk x0 z0 wx0 wz0 a1 r1 cap1 W w1).mono fun e W' ⟨he, bel⟩ => ?_
  subst he
  exact ⟨_, rfl, _, _, _, [], _, [], hW', trodAll_mk1 (shut_bool Try.underlying4 _), (trodAll_cons_mk (Below.trod laidOut (by kernel_rfl) (of_decide_eq_true (by kernel_rfl)) k0 bel lt0) (trodAll_cons_mk (Below.trod laidOut (by kernel_rfl) (of_decide_eq_true (by kernel_rfl)) k1 bel lt1) trodAll_mk0)), rfl, bel.frame _, fun h => by cases h⟩

theorem over : Rows.fnExactWorstRow.holds Try.pinned (OpenSpec.ofChange Rows.fnExactWorstSpec) :=
  OpenClaim.holds_of_wide 7 Try.f7 rfl rfl rfl rfl rfl rfl rfl ⟨rfl, rfl, rfl, rfl, rfl⟩ rfl rfl rfl rfl rfl (by kernel_rfl) Try.func7 (by kernel_rfl)
    (of_decide_eq_true (by kernel_rfl)) (by unfold Func.isWrapper; first | (rw [if_pos (by decide +kernel)]; kernel_rfl) | (rw [if_neg (by decide +kernel)]; exact ⟨rfl, rfl⟩))
    (fun os started H enc _ => lifted os started H enc)

theorem proved : Rows.FnExactWorstSaid := over
#print axioms proved
end Go.Proofs.Ytepbchkljamacaa.fnExactWorst
