/-
  Proved: whatever the arguments, 'FnExactOfFrac' returns true: the landed function answers as its model, and what came in reads as it did. No condition.
-/
import Derived.Test.YthconcaoldpbnanRows
import Derived.Test.YthconcaoldpbnanNum
import Derived.Test.YthconcaoldpbnanBase
import Derived.Test.YthconcaoldpbnanPow
import Derived.Test.YthconcaoldpbnanFrac
import Derived.Test.YthconcaoldpbnanOfFrac
import Derived.WalkKit
import Derived.ProofKit
import Derived.OpenShut
import Derived.ShutString
import Derived.ChangeOld
import Derived.Below
import Derived.Lib.SmallJoins
namespace Go.Proofs.Ythconcaoldpbnan.fnExactOfFrac
open Go.ChangeShapes Go.WideShapes Go.ChangeAt Go.RowKit Go.Joins
open Go.ChangeMaps (open_string shut_string)
set_option linter.unusedVariables false

theorem own : ownKnob Try.prog.godebug = none := by kernel_rfl
theorem laidOut : laidOutB Try.prog = true := by kernel_rfl

theorem walk (x0 y0 : Int) (wx0 : (Lit.int .i64 x0).wf = true) (wy0 : (Lit.int .i64 y0).wf = true) (w : World) :
    Calls Try.prog 3 #[.agg #[.int .i64 x0, .int .i64 y0]] w fun e w' => e = .returned (.bool true) ∧ Below w.heap.size w w' := by
  cases ho : Base.okB x0 y0
  · go_enter Try.func3, Try.ntmps3
    go_wp2_with fail
    refine (Base.toFrac _ _ _).mono ?_; rintro e w1 ⟨rfl, b1⟩
    go_wp2_with fail
    refine (Base.specOfFracNo _ _ _ ho).mono ?_; rintro e w2 ⟨rfl, b2⟩
    have s1 := b1.size
    have s2 := b2.size
    simp at s1
    have k0 : w2.cell? ⟨w.heap.size, 0, none⟩ = some (.int .i64 x0) := by
      rw [b2.cell (p := ⟨w.heap.size, 0, none⟩) (by simp; omega), b1.cell (p := ⟨w.heap.size, 0, none⟩) (by simp)]; simp [go_sem]
    have k1 : w2.cell? ⟨w.heap.size, 1, none⟩ = some (.int .i64 y0) := by
      rw [b2.cell (p := ⟨w.heap.size, 1, none⟩) (by simp; omega), b1.cell (p := ⟨w.heap.size, 1, none⟩) (by simp)]; simp [go_sem]
    go_wp2_with fail
    refine (Base.toFrac _ _ _).mono ?_; rintro e w3 ⟨rfl, b3⟩
    clear k0 k1
    go_wp2_with fail
    refine (Base.implOfFracNo _ _ _ ho).mono ?_; rintro e w4 ⟨rfl, b4⟩
    have s3 := b3.size
    go_wp2_with fail
    go_ret
    exact ⟨rfl, (((((Below.refl _ _).alloc (Nat.le_refl _) _).trans (b1.mono (by simp))).trans (b2.mono (by omega))).trans (b3.mono (by omega))).trans (b4.mono (by omega))⟩
  · go_enter Try.func3, Try.ntmps3
    go_wp2_with fail
    refine (Base.toFrac _ _ _).mono ?_; rintro e w1 ⟨rfl, b1⟩
    go_wp2_with fail
    refine (Base.specOfFracYes _ _ _ ho).mono ?_; rintro e w2 ⟨rfl, b2⟩
    have s1 := b1.size
    have s2 := b2.size
    simp at s1
    have k0 : w2.cell? ⟨w.heap.size, 0, none⟩ = some (.int .i64 x0) := by
      rw [b2.cell (p := ⟨w.heap.size, 0, none⟩) (by simp; omega), b1.cell (p := ⟨w.heap.size, 0, none⟩) (by simp)]; simp [go_sem]
    have k1 : w2.cell? ⟨w.heap.size, 1, none⟩ = some (.int .i64 y0) := by
      rw [b2.cell (p := ⟨w.heap.size, 1, none⟩) (by simp; omega), b1.cell (p := ⟨w.heap.size, 1, none⟩) (by simp)]; simp [go_sem]
    go_wp2_with fail
    refine (Base.toFrac _ _ _).mono ?_; rintro e w3 ⟨rfl, b3⟩
    clear k0 k1
    go_wp2_with fail
    refine (Base.implOfFracYes _ _ _ ho).mono ?_; rintro e w4 ⟨rfl, b4⟩
    have s3 := b3.size
    go_wp2_with fail
    go_ret
    exact ⟨rfl, (((((Below.refl _ _).alloc (Nat.le_refl _) _).trans (b1.mono (by simp))).trans (b2.mono (by omega))).trans (b3.mono (by omega))).trans (b4.mono (by omega))⟩

set_option maxRecDepth 100000 in
theorem lifted (os : Os) (started : os.Started) (H : Type) (enc : TypeId × Value → H) :
    ReturnsInHanded {} Try.checked os 3 .any (Rows.fnExactOfFracSpec.pre6 enc Try.prog Try.f3 Rows.fnExactOfFracRow.domain false) (Rows.fnExactOfFracSpec.post enc Try.prog Try.f3 false true false false) := by
  refine returnsInHanded_of_change (C := Try.checked) own started (by kernel_rfl) Try.func3
    (ChangeSpec.witness6 (enc := enc) (C := Try.checked) false ⟨#[], #[.agg #[.int .i64 0, .int .i64 0]], []⟩ 8 (by kernel_rfl) (by kernel_rfl) (by kernel_rfl) (by kernel_rfl)) ?_
  intro W base args ds gs before hval0 hW hcnd _
  have hval : ∀ (j : Nat) t v, Try.f3.params[j]? = some t → args[j]? = some v → Value.okWide Try.prog W .any base t v := hval0
  have hW' := hW
  obtain ⟨p, q, hA0, hV, rfl, hfz, hnd⟩ := hW
  have hA : DataW.TrodAll enc Try.prog W 0 (fun _ => true) true Try.f3.params.toList args.toList ds p := hA0
  rw [Try.params3] at hA hval
  obtain ⟨v0, vs0, d0, ds0, p0, q0, hargs, rfl, rfl, h0, r0⟩ := trodAll_cons hA
  obtain ⟨rfl, rfl, rfl⟩ := trodAll_nil r0
  obtain rfl : args = #[v0] := by cases args; simp_all
  obtain ⟨rfl, rfl⟩ := trodVars_none hV
  have k0 := h0
  have lt0 : ∀ x ∈ p0, x.block < W.heap.size := by obtain ⟨m, hm⟩ := k0; exact DataW.trod_lt m _ _ _ hm
  obtain ⟨c0, c1, y0, y1, m, rfl, _, _, hy0, hy1⟩ := open_agg2 Try.underlying23 (by kernel_rfl) (by kernel_rfl) (hval 0 23 v0 rfl rfl) h0
  obtain ⟨x0, e0, _, wx0⟩ := DataW.trod_int Try.underlying3 hy0
  obtain ⟨y0, e1, _, wy0⟩ := DataW.trod_int Try.underlying3 hy1
  simp at e0 e1
  subst e0 e1
  clear hA0 hval0
  refine (walk x0 y0 wx0 wy0 W).mono fun e W' ⟨he, bel⟩ => ?_
  subst he
  exact ⟨_, rfl, _, _, _, [], _, [], hW', trodAll_mk1 (shut_bool Try.underlying4 _), (trodAll_cons_mk (Below.trod laidOut (by kernel_rfl) (of_decide_eq_true (by kernel_rfl)) k0 bel lt0) trodAll_mk0), rfl, bel.frame _, fun h => by cases h⟩

theorem over : Rows.fnExactOfFracRow.holds Try.pinned (OpenSpec.ofChange Rows.fnExactOfFracSpec) :=
  OpenClaim.holds_of_wide 3 Try.f3 rfl rfl rfl rfl rfl rfl rfl ⟨rfl, rfl, rfl, rfl, rfl⟩ rfl rfl rfl rfl rfl (by kernel_rfl) Try.func3 (by kernel_rfl)
    (of_decide_eq_true (by kernel_rfl)) (by unfold Func.isWrapper; first | (rw [if_pos (by decide +kernel)]; kernel_rfl) | (rw [if_neg (by decide +kernel)]; exact ⟨rfl, rfl⟩))
    (fun os started H enc _ => lifted os started H enc)

theorem proved : Rows.FnExactOfFracSaid := over
#print axioms proved
end Go.Proofs.Ythconcaoldpbnan.fnExactOfFrac
