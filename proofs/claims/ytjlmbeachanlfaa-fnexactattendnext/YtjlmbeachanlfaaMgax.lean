/- Lemmas for the proof of the law. -/
import Derived.Test.YtjlmbeachanlfaaMgak
import Derived.Test.YtjlmbeachanlfaaMgaj
import Derived.Test.YtjlmbeachanlfaaMgae
import Derived.OrdersIn
/- Whole on the model's side. -/
namespace Go.Proofs.Ytjlmbeachanlfaa
namespace Vo
open Go.ChangeShapes Go.WideShapes Go.ChangeAt Go.RowKit Go.Joins
open Vl Vp Vr
set_option linter.unusedVariables false
set_option linter.unusedSimpArgs false

/-- a call of one argument at a step of a region that draws its order, by its contract -/
theorem step_call {P : Program} {ops : Array Oper} {o : Oper} {a : Act} {w : World} {K : Act → World → Prop} {Q : Exit → Act → World → Prop} {E : Prop} (hgd : o.guard = none) (f : FuncId) (x : Operand) (t : TypeId)
    (ho : o.op = .call { callee := .value (.func f), args := #[x], argTypes := #[t] }) (eg : ∀ args w, (callFunc f args).run P w = .ok (.enter f args) w) (v : Value) (hx : a.eval x = v) (R : Value → World → Prop)
    (hc : Calls P f #[v] w fun e w' => ∃ u, e = .returned u ∧ R u w') (h : ∀ u w', R u w' → K (a.put o.dst u) w') : if Region.wanted o (yielded ops a.tmps) = true then Oper.wp P o a w K Q else E := by
  have hw : Region.wanted o (yielded ops a.tmps) = true := by simp [Region.wanted, hgd]
  rw [if_pos hw]
  have he : (execOp a.eval o).run P w = .ok (.enter f #[v]) w := by
    unfold execOp
    have hx2 : (#[x] : Array Operand).map a.eval = #[v] := by simp [hx]
    simp [ho, resolve, invoke, go_sem, hx, hx2, eg, Act.eval]
  unfold Oper.wp
  rw [he, Oper.upon_enter]
  refine hc.mono ?_
  rintro e w' ⟨u, rfl, hr⟩
  exact h u w' hr
end Vo
end Go.Proofs.Ytjlmbeachanlfaa

/- A region that draws its order, inside a round; slices.Backward. -/
namespace Go.Proofs.Ytjlmbeachanlfaa
namespace Vo
open Go.ChangeShapes Go.WideShapes Go.ChangeAt Go.RowKit Go.Joins
open Vl Vp Vr
set_option linter.unusedVariables false
attribute [local go_sem] Oper.semAt_some

section
variable {F : Fence} {n : Nat} {P : Program} {ops : Array Oper} {Q : Exit → Act → World → Prop} {md : Region.Mode}
/-- no deferring among them -/
def noDefer (ops : Array Oper) : Bool := ops.toList.all fun o => match o.op with | .defer _ => false | _ => true
theorem noDefer_spec (h : noDefer ops = true) {j : Nat} {o : Oper} (hj : ops[j]? = some o) : ∀ c, o.op ≠ .defer c := by
  intro c e
  unfold noDefer at h
  have hm : o ∈ ops.toList := by
    rw [← Array.getElem?_toList] at hj
    exact List.mem_of_getElem? hj
  have := List.all_eq_true.1 h o hm
  rw [e] at this
  simp at this
/-- an operation inside a round: as outside -/
theorem wpOp_round (l : Nat) (hro : F.round = none) (hd : noDefer ops = true) {i : Nat} {K : Act → World → Prop} {a : Act} {w : World} (h : wpOpIn F n P ops Q i K a w) : wpOpIn (F.inRound l) n P ops Q i K a w := by
  unfold wpOpIn at *
  cases q : ops[i]? with
  | none => simpa [q] using h
  | some o =>
    simp only [q] at h ⊢
    by_cases hw : Region.wanted o (yielded ops a.tmps) = true
    · rw [if_pos hw] at h ⊢
      unfold Oper.wpIn at *
      refine ⟨h.1, ?_⟩
      have h2 := h.2
      rw [hro, Oper.semAt_none] at h2
      rw [Oper.semAt_eq _ _ _ (noDefer_spec hd q)]
      generalize (execOp a.eval o).run P w = r at *
      cases r with
      | ok x w' => cases x <;> exact h2
      | halt x w' => cases x <;> exact h2
    · rw [if_neg hw] at h ⊢
      exact h
theorem wpAny_round (l : Nat) (hro : F.round = none) (hd : noDefer ops = true) : ∀ (fuel : Nat) (listed : Array Bool) (a : Act) (w : World), wpAnyIn F n P md ops Q fuel listed a w → wpAnyIn (F.inRound l) n P md ops Q fuel listed a w
  | 0, _, _, _, h => h
  | fuel + 1, listed, a, w, h => ⟨h.1, fun i hi => wpOp_round l hro hd (wpOpIn_mono (fun a w => wpAny_round l hro hd fuel _ a w) (h.2 i hi))⟩
theorem region_round {l : Nat} {id : Nat} {a : Act} {w : World} (hm : P.follows .mixedOrders = true) (hro : F.round = none) (hd : noDefer ops = true)
    (h : wpAnyIn F n P .any ops Q ops.size (Array.replicate ops.size false) a w.drew) : (Code.region id ops true).wpIn (F.inRound l) n P Q a w :=
  wpIn_region_any hm (wpAny_round l hro hd _ _ _ _ h)
/-- a call at such a step -/
theorem stepIn_call {o : Oper} {a : Act} {w : World} {K : Act → World → Prop} {E : Prop} (hgd : o.guard = none) (f : FuncId) (xs : Array Operand) (ts : Array TypeId)
    (ho : o.op = .call { callee := .value (.func f), args := xs, argTypes := ts }) (eg : ∀ args w, (callFunc f args).run P w = .ok (.enter f args) w) (vs : Array Value) (hx : xs.map a.eval = vs) (R : Value → World → Prop)
    (hc : Calls P f vs w fun e w' => ∃ u, e = .returned u ∧ R u w') (h : ∀ u w', R u w' → K (a.put o.dst u) w') : if Region.wanted o (yielded ops a.tmps) = true then o.wpIn Fence.wide n P a w K Q else E := by
  have hw : Region.wanted o (yielded ops a.tmps) = true := by simp [Region.wanted, hgd]
  rw [if_pos hw]
  have he : (execOp a.eval o).run P w = .ok (.enter f vs) w := by
    unfold execOp
    simp [ho, resolve, invoke, go_sem, hx, eg, Act.eval]
  unfold Oper.wpIn
  refine ⟨fun _ _ => trivial, ?_⟩
  rw [show Fence.wide.round = none from rfl, Oper.semAt_none, he, Oper.uponIn_enter]
  refine ⟨(fun h => by cases h), callsIn_wide.2 (hc.mono ?_)⟩
  rintro e w' ⟨u, rfl, hr⟩
  exact h u w' hr
end
end Vo
end Go.Proofs.Ytjlmbeachanlfaa
