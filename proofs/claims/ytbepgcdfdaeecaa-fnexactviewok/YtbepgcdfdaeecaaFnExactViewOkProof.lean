/-
  Proved: whatever the arguments, 'FnExactViewOk' returns true: the landed function answers as its model, and what came in reads as it did. No condition.
-/
import Derived.Test.YtbepgcdfdaeecaaRows
import Derived.Test.YtbepgcdfdaeecaaVl
import Derived.Test.YtbepgcdfdaeecaaVp
import Derived.Test.YtbepgcdfdaeecaaVs
import Derived.Test.YtbepgcdfdaeecaaVq
import Derived.Test.YtbepgcdfdaeecaaVo
import Derived.Test.YtbepgcdfdaeecaaVm
import Derived.Test.YtbepgcdfdaeecaaVn
import Derived.Test.YtbepgcdfdaeecaaVt
import Derived.Test.YtbepgcdfdaeecaaVv
import Derived.WalkKit
import Derived.ProofKit
import Derived.OpenShut
import Derived.ShutString
import Derived.ChangeOld
import Derived.Below
import Derived.Lib.SmallJoins
import Derived.OpenVars
import Derived.ChangeVars
import Derived.Deep.RegionHeld3
namespace Go.Proofs.Ytbepgcdfdaeecaa.fnExactViewOk
open Go.ChangeShapes Go.WideShapes Go.ChangeAt Go.RowKit Go.Joins
open Go.ChangeMaps (open_string shut_string)
set_option linter.unusedVariables false

theorem own : ownKnob Try.prog.godebug = none := by kernel_rfl
theorem laidOut : laidOutB Try.prog = true := by kernel_rfl

theorem walk (a0 : Option Addr) (r0 cap0 : Nat) (b0 : Option Addr) (s0 dap0 : Nat) (o0 n0 : Int) (wo0 : (Lit.int .i64 o0).wf = true) (wn0 : (Lit.int .i64 n0).wf = true) (w : World) (w0 : Vl.Arg w a0 r0) (y0 : Vl.Arg w b0 s0) :
    Calls Try.prog 4 #[.agg #[.slice a0 r0 cap0, .slice b0 s0 dap0, .int .i64 o0, .int .i64 n0]] w fun e w' => e = .returned (.bool true) ∧ Below w.heap.size w w' := by
  obtain ⟨hr, D, h0⟩ := w0
  obtain ⟨hs, S, h1⟩ := y0
  have H := Vl.hide h0
  have H' := Vl.hide h1
  clear h0 h1
  have A0 := Vl.hide (show Below w.heap.size w (w.alloc (.cells #[.slice a0 r0 cap0, .slice b0 s0 dap0, .int .i64 o0, .int .i64 n0] 27)) from (Below.refl _ _).alloc (Nat.le_refl _) _)
  have N0 := Vl.hide (Vo.box_new w (.slice a0 r0 cap0) (.slice b0 s0 dap0) (.int .i64 o0) (.int .i64 n0) 27)
  go_enter Try.func4, Try.ntmps4
  go_wp2_with fail
  refine (Vo.szView a0 b0 r0 s0 cap0 dap0 o0 n0 _ hr hs).mono ?_; rintro e w1 ⟨x, rfl, hx, b1⟩
  have B1 := Vl.hide (A0.out.trans (b1.mono (by simp)))
  have z1 : w.heap.size < w1.heap.size := by have := b1.size; simp at this; omega
  have N1 := Vl.hide (N0.out.below b1 (by simp))
  obtain ⟨x0, x1, x2, x3⟩ := N1.out
  clear b1
  by_cases hx0 : x < 0
  · clear hx
    go_wp2_with fail
    go_ret
    exact ⟨rfl, B1.out⟩
  have hx0' : decide (x < 0) = false := by rw [decide_eq_false_iff_not]; exact hx0
  obtain ⟨l1, l2⟩ := hx (by omega)
  clear hx0 hx hr hs
  go_wp2_with fail
  refine (Vo.toView w.heap.size a0 b0 r0 s0 cap0 dap0 D S o0 n0 _ (H.out.below B1.out) (H'.out.below B1.out) B1.out.size l1 l2).mono ?_; rintro e w2 ⟨g1, g2, rfl, q2, b2⟩
  have Q2 := Vl.hide q2
  have B2 := Vl.hide (B1.out.trans (b2.mono B1.out.size))
  have z2 : w.heap.size < w2.heap.size := Nat.lt_of_lt_of_le z1 b2.size
  have N2 := Vl.hide (N1.out.below b2 z1)
  clear x0 x1 x2 x3
  obtain ⟨x0, x1, x2, x3⟩ := N2.out
  clear q2 b2
  go_wp2_with fail
  refine (Vo.specViewOk w2.heap.size _ _ r0 s0 _ _ D S o0 n0 _ (Nat.le_refl _) Q2.out.d.ints Q2.out.t.ints l1 l2).mono ?_; rintro e w3 ⟨rfl, b3⟩
  have B3 := Vl.hide (B2.out.trans (b3.mono B2.out.size))
  have z3 : w.heap.size < w3.heap.size := Nat.lt_of_lt_of_le z2 b3.size
  have N3 := Vl.hide (N2.out.below b3 z2)
  clear x0 x1 x2 x3
  obtain ⟨x0, x1, x2, x3⟩ := N3.out
  clear b3
  go_wp2_with fail
  refine (Vo.toView w.heap.size a0 b0 r0 s0 cap0 dap0 D S o0 n0 _ (H.out.below B3.out) (H'.out.below B3.out) B3.out.size l1 l2).mono ?_; rintro e w4 ⟨g3, g4, rfl, q4, b4⟩
  have Q4 := Vl.hide q4
  have B4 := Vl.hide (B3.out.trans (b4.mono B3.out.size))
  have z4 : w.heap.size < w4.heap.size := Nat.lt_of_lt_of_le z3 b4.size
  have N4 := Vl.hide (N3.out.below b4 z3)
  clear x0 x1 x2 x3
  obtain ⟨x0, x1, x2, x3⟩ := N4.out
  clear q4 b4
  have A4 := Vl.hide (show Below w4.heap.size w4 (w4.alloc (.cells #[.slice (some ⟨g3, 0, none⟩) r0 r0, .slice (some ⟨g4, 0, none⟩) s0 s0, .int .i64 o0, .int .i64 n0] 30)) from (Below.refl _ _).alloc (Nat.le_refl _) _)
  have M4 := Vl.hide (Vo.box_new w4 (.slice (some ⟨g3, 0, none⟩) r0 r0) (.slice (some ⟨g4, 0, none⟩) s0 s0) (.int .i64 o0) (.int .i64 n0) 30)
  have Q4' := Vl.hide (Q4.out.below A4.out)
  go_wp2_with fail
  refine (Vo.viewOk _ _ _ r0 s0 _ _ D S o0 n0 _ (Nat.le_refl _) Q4'.out.d.ints Q4'.out.t.ints l1 l2).mono ?_; rintro e w5 ⟨rfl, b5⟩
  have Q5 := Vl.hide (Q4'.out.below b5)
  have C5 := Vl.hide (A4.out.trans (b5.mono A4.out.size))
  have B5 := Vl.hide (B4.out.trans (C5.out.mono B4.out.size))
  have z5 : w.heap.size < w5.heap.size := Nat.lt_of_lt_of_le z4 C5.out.size
  have N5 := Vl.hide (N4.out.below C5.out z4)
  have M5 := Vl.hide (M4.out.below b5 (by simp))
  clear x0 x1 x2 x3 b5
  obtain ⟨x0, x1, x2, x3⟩ := N5.out
  obtain ⟨u0, u1, u2, u3⟩ := M5.out
  have HT := Vl.hide (fun (W : World) (hW : Below w5.heap.size w5 W) => Vo.toView w.heap.size a0 b0 r0 s0 cap0 dap0 D S o0 n0 W (H.out.below (B5.out.trans (hW.mono B5.out.size))) (H'.out.below (B5.out.trans (hW.mono B5.out.size))) (Nat.le_trans B5.out.size hW.size) l1 l2)
  have HE := Vl.hide (fun (W : World) (hW : Below w5.heap.size w5 W) (g5 g6 : Nat) (B : Nat) (q : Vo.VOwn B W (some ⟨g5, 0, none⟩) (some ⟨g6, 0, none⟩) r0 s0 D S) => Vo.eqView W.heap.size (some ⟨g3, 0, none⟩) (some ⟨g4, 0, none⟩) (some ⟨g5, 0, none⟩) (some ⟨g6, 0, none⟩) r0 s0 r0 s0 r0 s0 D S D S o0 n0 W (Nat.le_refl _) (Q5.out.below hW).d.ints (Q5.out.below hW).t.ints q.d.ints q.t.ints (fun _ _ => rfl) (fun _ _ => rfl) l1 l2)
  go_wp2_with fail
  go_region_held3 (fun w' => w'.cell? ⟨w4.heap.size, 0, none⟩ = some (.slice (some ⟨g3, 0, none⟩) r0 r0) ∧ w'.cell? ⟨w4.heap.size, 1, none⟩ = some (.slice (some ⟨g4, 0, none⟩) s0 s0) ∧ w'.cell? ⟨w4.heap.size, 2, none⟩ = some (.int .i64 o0) ∧ w'.cell? ⟨w4.heap.size, 3, none⟩ = some (.int .i64 n0) ∧
      w'.cell? ⟨w.heap.size, 0, none⟩ = some (.slice a0 r0 cap0) ∧ w'.cell? ⟨w.heap.size, 1, none⟩ = some (.slice b0 s0 dap0) ∧ w'.cell? ⟨w.heap.size, 2, none⟩ = some (.int .i64 o0) ∧ w'.cell? ⟨w.heap.size, 3, none⟩ = some (.int .i64 n0))
    ((try dsimp only) <;> (repeat' apply And.intro) <;> (repeat (first | with_reducible assumption | with_reducible apply Vo.drew_old | (with_reducible apply Vo.below_old; (focus (with_reducible assumption))))))
    (first
      | (go_at_call 15
         refine (HT.out _ (by exact (Below.refl _ _).drew)).mono ?_
         rintro e w6 ⟨g5, g6, rfl, q6, b6⟩)
      | (go_at_call 17
         refine (HE.out _ (by exact (Below.refl _ w5).drew.trans b6) g5 g6 _ q6).mono ?_
         rintro e w7 ⟨rfl, b7⟩))
  go_wp2_with fail
  go_ret
  exact ⟨rfl, (B5.out.drew.trans (b6.mono B5.out.size)).trans (b7.mono (Nat.le_trans B5.out.size b6.size))⟩

set_option maxRecDepth 100000 in
theorem lifted (os : Os) (started : os.Started) (H : Type) (enc : TypeId × Value → H) :
    ReturnsInHanded {} Try.checked os 4 .any (Rows.fnExactViewOkSpec.pre6 enc Try.prog Try.f4 Rows.fnExactViewOkRow.domain false) (Rows.fnExactViewOkSpec.post enc Try.prog Try.f4 false true false false) := by
  refine returnsInHanded_of_change (C := Try.checked) own started (by kernel_rfl) Try.func4
    (ChangeSpec.witness6 (enc := enc) (C := Try.checked) false ⟨#[], #[.agg #[.slice none 0 0, .slice none 0 0, .int .i64 0, .int .i64 0]], []⟩ 8 (by kernel_rfl) (by kernel_rfl) (by kernel_rfl) (by kernel_rfl)) ?_
  intro W base args ds gs before hval0 hW hcnd _
  have hval : ∀ (j : Nat) t v, Try.f4.params[j]? = some t → args[j]? = some v → Value.okWide Try.prog W .any base t v := hval0
  have hW' := hW
  obtain ⟨p, q, hA0, hV, rfl, hfz, hnd⟩ := hW
  have hA : DataW.TrodAll enc Try.prog W 0 (fun _ => true) true Try.f4.params.toList args.toList ds p := hA0
  rw [Try.params4] at hA hval
  obtain ⟨v0, vs0, d0, ds0, p0, q0, hargs, rfl, rfl, h0, r0⟩ := trodAll_cons hA
  obtain ⟨rfl, rfl, rfl⟩ := trodAll_nil r0
  obtain rfl : args = #[v0] := by cases args; simp_all
  obtain ⟨rfl, rfl⟩ := trodVars_none hV
  have k0 := h0
  have lt0 : ∀ x ∈ p0, x.block < W.heap.size := by obtain ⟨m, hm⟩ := k0; exact DataW.trod_lt m _ _ _ hm
  obtain ⟨c00, c01, c02, c03, u00, u01, u02, u03, m0, rfl, _, _, hy00, hy01, hy02, hy03⟩ := open_agg4 Try.underlying27 (by kernel_rfl) (by kernel_rfl) (hval 0 27 v0 rfl rfl) h0
  obtain ⟨a0, r0, cap0, rfl, w0⟩ := Vl.arg_of hy00
  obtain ⟨b0, s0, dap0, rfl, y0⟩ := Vl.arg_of hy01
  obtain ⟨o0, e02, _, wo0⟩ := DataW.trod_int Try.underlying3 hy02
  obtain ⟨n0, e03, _, wn0⟩ := DataW.trod_int Try.underlying3 hy03
  simp at e02 e03
  subst e02 e03
  clear hA0 hval0
  refine (walk a0 r0 cap0 b0 s0 dap0 o0 n0 wo0 wn0 W w0 y0).mono fun e W' ⟨he, bel⟩ => ?_
  subst he
  exact ⟨_, rfl, _, _, _, [], _, [], hW', trodAll_mk1 (shut_bool Try.underlying4 _), (trodAll_cons_mk (Below.trod laidOut (by kernel_rfl) (of_decide_eq_true (by kernel_rfl)) k0 bel lt0) trodAll_mk0), rfl, bel.frame _, fun h => by cases h⟩

theorem over : Rows.fnExactViewOkRow.holds Try.pinned (OpenSpec.ofChange Rows.fnExactViewOkSpec) :=
  OpenClaim.holds_of_wide 4 Try.f4 rfl rfl rfl rfl rfl rfl rfl ⟨rfl, rfl, rfl, rfl, rfl⟩ rfl rfl rfl rfl rfl (by kernel_rfl) Try.func4 (by kernel_rfl)
    (of_decide_eq_true (by kernel_rfl)) (by unfold Func.isWrapper; first | (rw [if_pos (by decide +kernel)]; kernel_rfl) | (rw [if_neg (by decide +kernel)]; exact ⟨rfl, rfl⟩))
    (fun os started H enc _ => lifted os started H enc)

theorem proved : Rows.FnExactViewOkSaid := over
#print axioms proved
end Go.Proofs.Ytbepgcdfdaeecaa.fnExactViewOk
