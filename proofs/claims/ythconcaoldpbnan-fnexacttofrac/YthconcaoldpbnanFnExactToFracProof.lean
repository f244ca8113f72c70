/-
  Proved: whatever the arguments, 'FnExactToFrac' returns true: the landed function answers as its model, and what came in reads as it did. No condition.
-/
import Derived.Test.YthconcaoldpbnanRows
import Derived.Test.YthconcaoldpbnanNum
import Derived.Test.YthconcaoldpbnanBase
import Derived.Test.YthconcaoldpbnanFrac
import Derived.Test.YthconcaoldpbnanRec
import Derived.Test.YthconcaoldpbnanToFrac
import Derived.WalkKit
import Derived.ProofKit
import Derived.OpenShut
import Derived.ShutString
import Derived.ChangeOld
import Derived.Below
import Derived.Lib.SmallJoins
namespace Go.Proofs.Ythconcaoldpbnan.fnExactToFrac
open Go.ChangeShapes Go.WideShapes Go.ChangeAt Go.RowKit Go.Joins
open Go.ChangeMaps (open_string shut_string)
set_option linter.unusedVariables false

theorem own : ownKnob Try.prog.godebug = none := by kernel_rfl
theorem laidOut : laidOutB Try.prog = true := by kernel_rfl

theorem walk (a0 : Int) (w0 : (Lit.int .i64 a0).wf = true) (w : World) :
    Calls Try.prog 4 #[.int .i64 a0] w fun e w' => e = .returned (.bool true) ∧ Below w.heap.size w w' := by
  obtain ⟨l0, h0⟩ := bounds_i64 w0
  clear w0
  go_enter Try.func4, Try.ntmps4
  go_wp2_with fail
  refine (Base.specToFrac _ _ l0 h0).mono ?_; rintro e w1 ⟨n, d, b, rfl, r1, b1⟩
  have s1 := b1.size
  go_wp2_with fail
  refine (Base.implToFrac _ _ l0 h0).mono ?_; rintro e w2 ⟨n', d', b', rfl, r2, b2⟩
  obtain ⟨rfl, rfl, rfl⟩ := Rec.Ans_one r1 r2
  have s2 := b2.size
  simp at s2
  have k0 : w2.cell? ⟨w1.heap.size, 0, none⟩ = some (.int .i64 n) := by
    rw [b2.cell (p := ⟨w1.heap.size, 0, none⟩) (by simp)]; simp [go_sem]
  have k1 : w2.cell? ⟨w1.heap.size, 1, none⟩ = some (.int .i64 d) := by
    rw [b2.cell (p := ⟨w1.heap.size, 1, none⟩) (by simp)]; simp [go_sem]
  have q0 : (w2.alloc (.cells #[.int .i64 n, .int .i64 d] 25)).cell? ⟨w1.heap.size, 0, none⟩ = some (.int .i64 n) := by
    rw [((Below.refl w2.heap.size w2).alloc (Nat.le_refl _) _).cell (p := ⟨w1.heap.size, 0, none⟩) s2]; exact k0
  have q1 : (w2.alloc (.cells #[.int .i64 n, .int .i64 d] 25)).cell? ⟨w1.heap.size, 1, none⟩ = some (.int .i64 d) := by
    rw [((Below.refl w2.heap.size w2).alloc (Nat.le_refl _) _).cell (p := ⟨w1.heap.size, 1, none⟩) s2]; exact k1
  clear r1 r2 k0 k1
  go_wp2_with fail
  refine (Base.eqFrac _ _ _).mono ?_; rintro e w3 ⟨rfl, b3⟩
  clear q0 q1
  go_wp2_with fail
  go_ret
  exact ⟨rfl, (((b1.alloc (by omega) _).trans (b2.mono (by simp; omega))).alloc (by omega) _).trans (b3.mono (by simp; omega))⟩

set_option maxRecDepth 100000 in
theorem lifted (os : Os) (started : os.Started) (H : Type) (enc : TypeId × Value → H) :
    ReturnsInHanded {} Try.checked os 4 .any (Rows.fnExactToFracSpec.pre6 enc Try.prog Try.f4 Rows.fnExactToFracRow.domain false) (Rows.fnExactToFracSpec.post enc Try.prog Try.f4 false true false false) := by
  refine returnsInHanded_of_change (C := Try.checked) own started (by kernel_rfl) Try.func4
    (ChangeSpec.witness6 (enc := enc) (C := Try.checked) false ⟨#[], #[.int .i64 0], []⟩ 8 (by kernel_rfl) (by kernel_rfl) (by kernel_rfl) (by kernel_rfl)) ?_
  intro W base args ds gs before hval0 hW hcnd _
  have hval : ∀ (j : Nat) t v, Try.f4.params[j]? = some t → args[j]? = some v → Value.okWide Try.prog W .any base t v := hval0
  have hW' := hW
  obtain ⟨p, q, hA0, hV, rfl, hfz, hnd⟩ := hW
  have hA : DataW.TrodAll enc Try.prog W 0 (fun _ => true) true Try.f4.params.toList args.toList ds p := hA0
  rw [Try.params4] at hA hval
  obtain ⟨v0, vs0, d0, ds0, p0, q0, hargs, rfl, rfl, h0, r0⟩ := trodAll_cons hA
  obtain ⟨rfl, rfl, rfl⟩ := trodAll_nil r0
  obtain rfl : args = #[v0] := by cases args; simp_all
  obtain ⟨rfl, rfl⟩ := trodVars_none hV
  have k0 := h0
  have lt0 : ∀ x ∈ p0, x.block < W.heap.size := by obtain ⟨m, hm⟩ := k0; exact DataW.trod_lt m _ _ _ hm
  obtain ⟨a0, rfl, e0, _, w0⟩ := open_int Try.underlying3 (hval 0 3 v0 rfl rfl) h0
  clear hA0 hval0
  refine (walk a0 w0 W).mono fun e W' ⟨he, bel⟩ => ?_
  subst he
  exact ⟨_, rfl, _, _, _, [], _, [], hW', trodAll_mk1 (shut_bool Try.underlying4 _), (trodAll_cons_mk (Below.trod laidOut (by kernel_rfl) (of_decide_eq_true (by kernel_rfl)) k0 bel lt0) trodAll_mk0), rfl, bel.frame _, fun h => by cases h⟩

theorem over : Rows.fnExactToFracRow.holds Try.pinned (OpenSpec.ofChange Rows.fnExactToFracSpec) :=
  OpenClaim.holds_of_wide 4 Try.f4 rfl rfl rfl rfl rfl rfl rfl ⟨rfl, rfl, rfl, rfl, rfl⟩ rfl rfl rfl rfl rfl (by kernel_rfl) Try.func4 (by kernel_rfl)
    (of_decide_eq_true (by kernel_rfl)) (by unfold Func.isWrapper; first | (rw [if_pos (by decide +kernel)]; kernel_rfl) | (rw [if_neg (by decide +kernel)]; exact ⟨rfl, rfl⟩))
    (fun os started H enc _ => lifted os started H enc)

theorem proved : Rows.FnExactToFracSaid := over
#print axioms proved
end Go.Proofs.Ythconcaoldpbnan.fnExactToFrac
