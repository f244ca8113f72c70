/- Lemmas for the proof of the law. -/
import Derived.Test.YtflbhlepmjiejaaVl
import Derived.RangeFuncIn
import Derived.RangeFuncRecord
import Derived.RangeFuncSeq
import Derived.RangeFuncLeaves
import Derived.RangeFuncCalls
import Derived.ControlIn
import Derived.Test.YtflbhlepmjiejaaVo
import Derived.Test.YtflbhlepmjiejaaMra
import Derived.Test.YtflbhlepmjiejaaVn
import Derived.Deep.LoopGhost
import Derived.Deep.RegionHeld3
import Derived.RangeFuncBound
import Derived.OwnWalkIn
import Derived.TacticsInMore
import Derived.LoopNIn
import Derived.LoopIn
import Derived.Shelf.Abstract
import Derived.Test.YtflbhlepmjiejaaVc
import Derived.Deep.RegionLaw
/- A range over a function whose rounds are numbered: the k-th one is handed 'encs k'. What the body may write is a list of blocks of the caller's; the iterator may write what it laid itself. -/
namespace Go.Proofs.Ytflbhlepmjiejaa
namespace Vr
open Go.RowKit
open Vl
set_option linter.unusedVariables false

variable {P : Program}

/-- the blocks that a round may turn: the caller's own ones, and the loop's two -/
def Turn (own : Nat → Prop) (z : Nat) : Nat → Prop := fun k => own k ∨ k = z ∨ k = z + 1
/-- an iterator of N rounds -/
def SeqN (P : Program) (gf : Nat) (lb : Array Value) (encs : Nat → Array Value) (N : Nat) (own : Nat → Prop) (w : World) : Prop :=
  ∀ (J Jx : Nat → World → Prop) (W : World), Below w.heap.size w W → W.heap.size = w.heap.size + 2 →
    (∀ k A B, J k A → Below (w.heap.size + 2) A B → J k B) → (∀ k A B, Jx k A → Below (w.heap.size + 2) A B → Jx k B) →
    (∀ k A, J k A → k < N → YieldAt Fence.wide 0 P (w.heap.size + 1) (encs k) A fun e A' => (e = .returned (.bool true) ∧ J (k + 1) A' ∧ Kept (Turn own w.heap.size) A A') ∨ (e = .returned (.bool false) ∧ Jx k A' ∧ Kept (Turn own w.heap.size) A A')) →
    J 0 W →
    Calls P gf (#[.func (.yield (w.heap.size + 1)) #[] #[]] ++ lb) W fun e W' => (∃ v, e = .returned v) ∧ (J N W' ∨ ∃ k, k < N ∧ Jx k W')
/-- how a round may be left: off its end, or by a return -/
def rpost (own : Nat → Prop) (I Ix : Nat → World → Prop) (k : Nat) (W : World) : Exit → Act → World → Prop
  | .normal, _, W' => Kept own W W' ∧ I (k + 1) W'
  | .ret, _, W' => Kept own W W' ∧ Ix k W'
  | _, _, _ => False
/-- the loop's record -/
def lrec (fn : FuncId) (tmps : Array Value) (ps : Array Tmp) (assign body : Code) (z : Nat) (st : LoopState) (pe : Option Code) : Loop :=
  { state := st, pending := pe, fn := fn, tmps := tmps, params := ps, assign := assign, body := body, defers := z }

theorem kept_put (w : World) (r : Nat) (o : Obj) : Kept (· = r) w (w.putObj r o) := ⟨rfl, rfl, rfl, by simp, fun k _ hn => World.putObj_heap_other hn⟩
theorem below_put {B : Nat} (w : World) (r : Nat) (o : Obj) (h : B ≤ r) : Below B w (w.putObj r o) := ⟨rfl, rfl, rfl, by simp, fun k hk => World.putObj_heap_other (by omega)⟩
theorem new_heap (w : World) (o : Obj) : (w.alloc o).heap[w.heap.size]? = some o := by
  show (w.heap.push o)[w.heap.size]? = some o
  simp

theorem range_nat {g : Operand} {ps : Array Tmp} {assign body : Code} {Q : Exit → Act → World → Prop} {a : Act} {w : World} {gf : Nat} {lb : Array Value}
    (hg : a.eval g = .func (.func gf) #[] lb) (eg : ∀ args w, (callFunc gf args).run P w = .ok (.enter gf args) w)
    (encs : Nat → Array Value) (N : Nat) (own : Nat → Prop) (hown : ∀ k, own k → k < w.heap.size) (hps : ∀ k, (encs k).size = ps.size)
    (hit : SeqN P gf lb encs N own w) (I Ix : Nat → World → Prop) (hI : ∀ k A B, I k A → Below w.heap.size A B → I k B) (hIx : ∀ k A B, Ix k A → Below w.heap.size A B → Ix k B) (h0 : I 0 w)
    (a₁ : Nat → Act)
    (hassign : ∀ (l k : Nat) (W : World) (K : Act → World → Prop), K (a₁ k) W → assign.wpIn (Fence.wide.inRound l) 0 P (Exit.then K (fun _ _ _ => False)) { tmps := (ps.zip (encs k)).foldl (fun t (p, v) => t.setIfInBounds p v) a.tmps, defers := [] } W)
    (hbody : ∀ (l k : Nat) (W : World), I k W → k < N → w.heap.size + 2 ≤ W.heap.size → body.wpIn (Fence.wide.inRound l) 0 P (rpost own I Ix k W) (a₁ k) W)
    (hdone : ∀ W : World, I N W → W.heap[w.heap.size]? = some (.deferred (some [])) → Q .normal { a with defers := { target := .collected w.heap.size, args := #[] } :: a.defers } W)
    (hstop : ∀ (k : Nat) (W : World), k < N → Ix k W → W.heap[w.heap.size]? = some (.deferred (some [])) → Code.ret.wp P Q { a with defers := { target := .collected w.heap.size, args := #[] } :: a.defers } W) :
    (Code.rangeFunc g ps assign body).wp P Q a w := by
  refine (wpIn_wide (n := 0)).1 (wpIn_rangeFunc ?_)
  intro fn _
  generalize hz : w.heap.size = z at *
  obtain ⟨rec, hrec⟩ : ∃ rec : LoopState → Option Code → Loop, rec = lrec fn a.tmps ps assign body z := ⟨_, rfl⟩
  obtain ⟨W1, hW1⟩ : ∃ W1, (w.alloc (.deferred (some []))).alloc (.loop (rec .ready none)) = W1 := ⟨_, rfl⟩
  have hs1 : W1.heap.size = z + 2 := by rw [← hW1]; simp [hz]
  have hL1 : W1.heap[z + 1]? = some (.loop (rec .ready none)) := by
    have := new_heap (w.alloc (.deferred (some []))) (.loop (rec .ready none))
    rw [World.size_alloc, hz] at this; rw [← hW1]; exact this
  have hK1 : W1.heap[z]? = some (.deferred (some [])) := by
    have := new_heap w (.deferred (some []))
    rw [hz] at this
    rw [← hW1, Below.heap_alloc _ _ _ (by simp [hz])]; exact this
  have hb1 : Below z w W1 := by
    rw [← hW1]; exact ((Below.refl z w).alloc (by omega) _).alloc (by simp; omega) _
  refine ⟨z + 1, [{ target := .collected z, args := #[] }], W1, { target := .fn (.func gf) lb, args := #[.func (.yield (z + 1)) #[] #[]] }, W1, gf, #[.func (.yield (z + 1)) #[] #[]] ++ lb, W1, ?_, ?_, fun _ _ => trivial, ?_, (fun h => by cases h), callsIn_wide.2 ?_⟩
  · rw [← hW1, hrec, ← hz]; exact run_enterLoop_outer _ _ _ _ _
  · simp only [resolve, hg]
    simp [go_sem]
  · simp [invoke, go_sem, eg]
  · have hit' := hit (fun k A => I k A ∧ A.heap[z + 1]? = some (.loop (rec .ready none)) ∧ A.heap[z]? = some (.deferred (some [])))
      (fun k A => Ix k A ∧ A.heap[z + 1]? = some (.loop (rec .done (some .ret))) ∧ A.heap[z]? = some (.deferred (some []))) W1
    rw [hz] at hit'
    refine (hit' hb1 hs1 (fun k A B h hb => ⟨hI k A B h.1 (hb.mono (by omega)), (hb.block (z + 1) (by omega)).trans h.2.1, (hb.block z (by omega)).trans h.2.2⟩)
      (fun k A B h hb => ⟨hIx k A B h.1 (hb.mono (by omega)), (hb.block (z + 1) (by omega)).trans h.2.1, (hb.block z (by omega)).trans h.2.2⟩) ?_ ⟨hI 0 w W1 h0 hb1, hL1, hK1⟩).mono ?_
    · rintro k A ⟨hi, hl, hk⟩ hkN
      have hlt : z + 1 < A.heap.size := (Array.getElem?_eq_some_iff.1 hl).1
      have hy := run_yield (P := P) (args := encs k) hl (by rw [hrec]; exact hps k)
      rw [hrec] at hy
      refine ⟨fn, _, assign, body, hy, roundIn_of_wpIn trivial (hassign _ k A _ ⟨_, run_beginRound hl (by rw [hrec]; rfl), ?_⟩)⟩
      have hA1 : ∀ o, (A.putObj (z + 1) o).heap[z + 1]? = some o := fun o => World.putObj_heap_same hlt
      refine wpIn_mono (hbody _ k _ (hI k A _ hi (below_put A _ _ (by omega))) hkN (by simp; omega)) ?_
      rintro e a3 W3 hp
      have step : ∀ (jump : Option Code), Kept own (A.putObj (z + 1) (.loop { rec .ready none with state := .busy })) W3 →
          (Instr.endRound (z + 1) jump).run P W3 = .ok (.bool jump.isNone) (W3.putObj (z + 1) (.loop (rec (if jump.isNone then .ready else .done) jump))) ∧
          (W3.putObj (z + 1) (.loop (rec (if jump.isNone then .ready else .done) jump))).heap[z + 1]? = some (.loop (rec (if jump.isNone then .ready else .done) jump)) ∧
          (W3.putObj (z + 1) (.loop (rec (if jump.isNone then .ready else .done) jump))).heap[z]? = some (.deferred (some [])) ∧
          Kept (Turn own z) A (W3.putObj (z + 1) (.loop (rec (if jump.isNone then .ready else .done) jump))) := fun jump hk3 => by
        have hn1 : ¬ own (z + 1) := fun h => by have := hown _ h; omega
        have hn0 : ¬ own z := fun h => by have := hown _ h; omega
        have hl3 := (hk3.block (z + 1) (by simp; omega) hn1).trans (hA1 _)
        have hk0 : W3.heap[z]? = some (.deferred (some [])) := (hk3.block z (by simp; omega) hn0).trans ((World.putObj_heap_other (by omega)).trans hk)
        have hr := run_endRound (P := P) jump hl3
        refine ⟨?_, World.putObj_heap_same (Array.getElem?_eq_some_iff.1 hl3).1, (World.putObj_heap_other (by omega)).trans hk0, ?_⟩
        · rw [hrec] at hr ⊢; exact hr
        · exact (((kept_put A (z + 1) _).mono (fun _ _ e => .inr (.inr e))).trans (hk3.mono (fun _ _ e => .inl e))).trans ((kept_put W3 (z + 1) _).mono (fun _ _ e => .inr (.inr e)))
      cases e with
      | normal =>
        obtain ⟨hk3, hi3⟩ := hp
        obtain ⟨q1, q2, q3, q4⟩ := step none hk3
        exact ⟨_, _, q1, .inl ⟨rfl, ⟨hI _ _ _ hi3 (below_put W3 _ _ (by omega)), q2, q3⟩, q4⟩⟩
      | ret =>
        obtain ⟨hk3, hi3⟩ := hp
        obtain ⟨q1, q2, q3, q4⟩ := step (some .ret) hk3
        exact ⟨_, _, q1, .inr ⟨rfl, ⟨hIx _ _ _ hi3 (below_put W3 _ _ (by omega)), q2, q3⟩, q4⟩⟩
      | exit id => exact hp.elim
      | goto t => exact hp.elim
      | panic ch => exact hp.elim
      | outgrown => exact hp.elim
    · rintro e W2 ⟨⟨v, rfl⟩, (⟨hi, hl, hk⟩ | ⟨k, hkN, hi, hl, hk⟩)⟩
      · refine ⟨none, _, by have := run_endLoop (P := P) hl (by rw [hrec]; simp [lrec]); rw [hrec] at this; exact this, hdone _ (hI _ _ _ hi (below_put W2 _ _ (by omega))) ((World.putObj_heap_other (by omega)).trans hk)⟩
      · refine ⟨some .ret, _, by have := run_endLoop (P := P) hl (by rw [hrec]; simp [lrec]); rw [hrec] at this; exact this, (wpIn_wide (n := 0)).2 (hstop k _ hkN (hIx _ _ _ hi (below_put W2 _ _ (by omega))) ((World.putObj_heap_other (by omega)).trans hk))⟩

/-- a function that holds such a loop: its contract out of its body -/
theorem calls_marks {f : FuncId} {fn : Func} {c : Code} {args : Array Value} {w : World} {R : Ending → World → Prop} (hf : P.funcs[f]? = some fn) (hb : fn.body = some c)
    (h : c.wp P (bodyPostM Fence.wide 0 P fn R) { tmps := args ++ Array.replicate (fn.ntmps - args.size) undef, defers := [] } w) : Calls P f args w R :=
  (callsIn_wide (n := 0)).1 (callsIn_of_wp_marks hf hb trivial (wpIn_wide.2 h))
/-- its end behind no loop -/
theorem end0 {fn : Func} {R : Ending → World → Prop} {a : Act} {W : World} {v : Value} (ha : a.defers = []) (hv : (results fn a.tmps).run P W = .ok v W) (hR : R (.returned v) W) : bodyPostM Fence.wide 0 P fn R .ret a W := by
  show LeavesInM Fence.wide 0 P fn a.tmps R a.defers .returning W
  rw [ha]
  exact ⟨v, hv, hR⟩
/-- behind one loop -/
theorem end1 {fn : Func} {R : Ending → World → Prop} {a : Act} {W : World} {v : Value} {D : Nat} (ha : a.defers = [{ target := .collected D, args := #[] }]) (hD : W.heap[D]? = some (.deferred (some [])))
    (hv : (results fn a.tmps).run P (W.putObj D (.deferred none)) = .ok v (W.putObj D (.deferred none))) (hR : R (.returned v) (W.putObj D (.deferred none))) : bodyPostM Fence.wide 0 P fn R .ret a W := by
  show LeavesInM Fence.wide 0 P fn a.tmps R a.defers .returning W
  rw [ha]
  exact ⟨by simp, .inl ⟨D, _, rfl, run_takeDeferred hD, v, hv, hR⟩⟩
/-- behind two -/
theorem end2 {fn : Func} {R : Ending → World → Prop} {a : Act} {W : World} {v : Value} {D E : Nat} (ha : a.defers = [{ target := .collected D, args := #[] }, { target := .collected E, args := #[] }]) (hD : W.heap[D]? = some (.deferred (some []))) (hE : W.heap[E]? = some (.deferred (some []))) (hne : E ≠ D)
    (hv : (results fn a.tmps).run P ((W.putObj D (.deferred none)).putObj E (.deferred none)) = .ok v ((W.putObj D (.deferred none)).putObj E (.deferred none))) (hR : R (.returned v) ((W.putObj D (.deferred none)).putObj E (.deferred none))) : bodyPostM Fence.wide 0 P fn R .ret a W := by
  show LeavesInM Fence.wide 0 P fn a.tmps R a.defers .returning W
  rw [ha]
  exact ⟨by simp, .inl ⟨D, _, rfl, run_takeDeferred hD, by simp, .inl ⟨E, _, rfl, run_takeDeferred ((World.putObj_heap_other hne).trans hE), v, hv, hR⟩⟩⟩
end Vr
end Go.Proofs.Ytflbhlepmjiejaa

/- The iterator over a view's places (eachPlace): an odometer. -/
namespace Go.Proofs.Ytflbhlepmjiejaa
namespace Vo
open Go.ChangeShapes Go.WideShapes Go.ChangeAt Go.RowKit Go.Joins
open Vl Vp Vr
set_option linter.unusedVariables false

theorem carry {d k : Int} (hd : 1 ≤ d) (h : k % d = d - 1) : (k + 1) % d = 0 ∧ (k + 1) / d = k / d + 1 := by
  have e : k + 1 = 0 + d * (k / d + 1) := by
    have := Int.mul_ediv_add_emod k d
    rw [Int.mul_add]; omega
  constructor
  · rw [e, Int.add_mul_emod_self_left]; rfl
  · rw [e, Int.add_mul_ediv_left _ _ (by omega)]; simp
theorem nocarry {d k : Int} (hd : 1 ≤ d) (h : k % d ≠ d - 1) : (k + 1) % d = k % d + 1 ∧ (k + 1) / d = k / d := by
  have h1 := Int.emod_nonneg k (show d ≠ 0 by omega)
  have h2 := Int.emod_lt_of_pos k (show 0 < d by omega)
  have e : k + 1 = (k % d + 1) + d * (k / d) := by
    have := Int.mul_ediv_add_emod k d
    omega
  constructor
  · have : (k % d + 1 + d * (k / d)) % d = k % d + 1 := by rw [Int.add_mul_emod_self_left, Int.emod_eq_of_lt (by omega) (by omega)]
    rwa [← e] at this
  · rw [e, Int.add_mul_ediv_left _ _ (by omega), Int.ediv_eq_zero_of_lt (by omega) (by omega)]
    omega
/-- the odometer between two rounds: the last axes are back at 0, m are left, whose index is the q-th -/
def Odo (D S : Nat → Int) (r : Nat) (k : Int) (m : Nat) (q : Int) : Prop :=
  m ≤ r ∧ 0 ≤ q ∧ q < pr D m ∧ (∀ j, j < r → dg D r (k + 1) j = if j < m then dg D m (q + 1) j else 0) ∧ rel D S r (k + 1) = rel D S m (q + 1) ∧ ∃ Q : Int, 1 ≤ Q ∧ k + 1 = (q + 1) * Q ∧ pr D r = pr D m * Q
theorem Odo.start {D S : Nat → Int} {r : Nat} {k : Int} (k0 : 0 ≤ k) (k1 : k < pr D r) : Odo D S r k r k :=
  ⟨Nat.le_refl _, k0, k1, fun j hj => by rw [if_pos hj], rfl, 1, by omega, by omega, by omega⟩
theorem Odo.step {D S : Nat → Int} {r : Nat} {k q : Int} {m : Nat} (h : Odo D S r k (m + 1) q) (hd : 1 ≤ D m) (hq : q % D m = D m - 1) : Odo D S r k m (q / D m) := by
  obtain ⟨hm, q0, q1, h1, h2, Q, hQ, e1, e2⟩ := h
  obtain ⟨c1, c2⟩ := carry hd hq
  have e3 : q + 1 = (q / D m + 1) * D m := by
    have := Int.mul_ediv_add_emod q (D m)
    rw [Int.add_mul, Int.one_mul, Int.mul_comm (q / D m)]; omega
  refine ⟨by omega, Int.ediv_nonneg q0 (by omega), ?_, fun j hj => ?_, ?_, D m * Q, ?_, ?_, ?_⟩
  · have hp : q < pr D m * D m := q1
    exact Int.ediv_lt_of_lt_mul (by omega) hp
  · rw [h1 j hj]
    simp only [dg, c1, c2]
    by_cases e : j = m
    · subst e; simp
    · by_cases l : j < m
      · rw [if_pos (by omega), if_neg e, if_pos l]
      · rw [if_neg (by omega), if_neg l]
  · rw [h2]; simp only [rel, c1, c2]; omega
  · have := Int.mul_le_mul hd hQ (by omega) (by omega); omega
  · rw [e1, e3, Int.mul_assoc]
  · rw [e2]; simp only [pr]; rw [Int.mul_assoc]
/-- all axes were at their last int: the last round was the last one -/
theorem Odo.last {D S : Nat → Int} {r : Nat} {k q : Int} (h : Odo D S r k 0 q) : k + 1 = pr D r := by
  obtain ⟨_, q0, q1, _, _, Q, hQ, e1, e2⟩ := h
  simp only [pr] at q1 e2
  obtain rfl : q = 0 := by omega
  rw [e1, e2]; omega
/-- an axis is not: there is a next round -/
theorem Odo.next {D S : Nat → Int} {r : Nat} {k q : Int} {m : Nat} (h : Odo D S r k (m + 1) q) (hd : 1 ≤ D m) (hq : q % D m ≠ D m - 1) :
    k + 1 < pr D r ∧ (∀ j, j < r → dg D r (k + 1) j = if j < m then dg D m (q / D m) j else if j = m then q % D m + 1 else 0) ∧ rel D S r (k + 1) = (q % D m + 1) * S m + rel D S m (q / D m) := by
  obtain ⟨hm, q0, q1, h1, h2, Q, hQ, e1, e2⟩ := h
  obtain ⟨c1, c2⟩ := nocarry hd hq
  refine ⟨?_, fun j hj => ?_, ?_⟩
  · have z0 := Int.emod_nonneg q (show D m ≠ 0 by omega)
    have z1 := Int.emod_lt_of_pos q (show 0 < D m by omega)
    have hp : q < pr D m * D m := q1
    have hl : q / D m < pr D m := Int.ediv_lt_of_lt_mul (by omega) hp
    have e3 := Int.mul_ediv_add_emod q (D m)
    have e4 : q + 1 < pr D m * D m := by
      have := Int.mul_le_mul_of_nonneg_right (show q / D m + 1 ≤ pr D m by omega) (show 0 ≤ D m by omega)
      rw [Int.add_mul, Int.one_mul, Int.mul_comm (q / D m)] at this
      omega
    rw [e1, e2]
    show (q + 1) * Q < pr D m * D m * Q
    exact Int.mul_lt_mul_of_pos_right e4 (by omega)
  · rw [h1 j hj]
    simp only [dg, c1, c2]
    by_cases e : j = m
    · subst e; simp
    · by_cases l : j < m
      · rw [if_pos (by omega), if_neg e, if_pos l]
      · rw [if_neg (by omega), if_neg l, if_neg e]
  · rw [h2]; simp only [rel, c1, c2]
theorem rel_zero (D S : Nat → Int) (r : Nat) : rel D S r 0 = 0 := by
  induction r with
  | zero => rfl
  | succ r ih => simp [rel, ih]
theorem dg_zero (D : Nat → Int) (r j : Nat) : dg D r 0 j = 0 := by
  induction r with
  | zero => rfl
  | succ r ih => simp [dg, ih]
/-- how many places there are -/
def cnt (r s : Nat) (D S : Nat → Int) (o n : Int) : Nat := if vok r s D S o n = true then (szR D r).toNat else 0
end Vo
end Go.Proofs.Ytflbhlepmjiejaa

/- eachPlace's walk. -/
namespace Go.Proofs.Ytflbhlepmjiejaa
namespace Vo
open Go.ChangeShapes Go.WideShapes Go.ChangeAt Go.RowKit Go.Joins
open Vl Vp Vr
set_option linter.unusedVariables false
attribute [local go_sem] Oper.semAt_some

end Vo
end Go.Proofs.Ytflbhlepmjiejaa

/- ViewOk, the model's side; Place on both sides. -/
namespace Go.Proofs.Ytflbhlepmjiejaa
namespace Vo
open Go.ChangeShapes Go.WideShapes Go.ChangeAt Go.RowKit Go.Joins
open Vl Vp
set_option linter.unusedVariables false

end Vo
end Go.Proofs.Ytflbhlepmjiejaa

/- Places that are there twice, places that meet: plain, and Twice on the model's side. -/
namespace Go.Proofs.Ytflbhlepmjiejaa
namespace Vo
open Go.ChangeShapes Go.WideShapes Go.ChangeAt Go.RowKit Go.Joins
open Vl Vp
set_option linter.unusedVariables false

def memB (f : Nat → Int) : Nat → Int → Bool | 0, _ => false | n + 1, x => memB f n x || (f n == x)
def dupB (f : Nat → Int) : Nat → Bool | 0 => false | n + 1 => dupB f n || memB f n (f n)
/-- is one of the first n of g among the first m of f? -/
def metB (f : Nat → Int) (m : Nat) (g : Nat → Int) : Nat → Bool | 0 => false | n + 1 => metB f m g n || memB f m (g n)
theorem dupB_mono {f : Nat → Int} {n m : Nat} (h : dupB f n = true) (hm : n ≤ m) : dupB f m = true := by
  induction m with
  | zero => obtain rfl : n = 0 := by omega
            exact h
  | succ m ih =>
    by_cases e : n = m + 1
    · rw [← e]; exact h
    · simp only [dupB]; rw [ih (by omega)]; rfl
theorem metB_mono {f g : Nat → Int} {k n m : Nat} (h : metB f k g n = true) (hm : n ≤ m) : metB f k g m = true := by
  induction m with
  | zero => obtain rfl : n = 0 := by omega
            exact h
  | succ m ih =>
    by_cases e : n = m + 1
    · rw [← e]; exact h
    · simp only [metB]; rw [ih (by omega)]; rfl
/-- a row of flags of one's own -/
def Bw (w : World) (g n : Nat) (f : Nat → Bool) : Prop := ∀ t, t < n → w.cell? ⟨g, t, none⟩ = some (.bool (f t)) ∧ w.frozen? ⟨g, t, none⟩ = false
theorem Bw.below {B : Nat} {w w' : World} {g n : Nat} {f : Nat → Bool} (h : Bw w g n f) (hb : Below B w w') (hg : g < B) : Bw w' g n f := fun t ht =>
  ⟨(hb.cell (p := ⟨g, t, none⟩) hg).trans (h t ht).1, (hb.frozen (p := ⟨g, t, none⟩) hg).trans (h t ht).2⟩
theorem Bw.same {w : World} {g n : Nat} {f f' : Nat → Bool} (h : Bw w g n f) (e : ∀ t, t < n → f' t = f t) : Bw w g n f' := fun t ht => by rw [e t ht]; exact h t ht
theorem Bw.set {w : World} {g n : Nat} {f : Nat → Bool} (h : Bw w g n f) (j : Nat) : Bw (w.setCell ⟨g, j, none⟩ (.bool true)) g n (fun t => f t || (j == t)) := by
  intro t ht
  rw [World.frozen?_setCell]
  by_cases c : t = j
  · subst c
    rw [World.cell?_setCell_same _ _ _ (h t ht).1]
    refine ⟨by simp, (h t ht).2⟩
  · rw [World.cell?_setCell_other _ _ _ _ (by intro e; cases e; exact c rfl)]
    dsimp only
    rw [show (j == t) = false by rw [beq_eq_false_iff_ne]; omega, Bool.or_false]
    exact h t ht
theorem bw_new (w : World) (n : Nat) (ty : TypeId) : Bw (w.alloc (.cells (madeCells #[.bool false] n) ty)) w.heap.size n (fun _ => false) := by
  intro t ht
  refine ⟨?_, ?_⟩
  · rw [World.cell?_alloc_at _ _ _ _ rfl]
    simp [madeCells, ht, Nat.mod_one]
  · simp [go_sem]
theorem memB_step (f : Nat → Int) (k j : Nat) (hj : f k = j) (t : Nat) : memB f (k + 1) t = (memB f k t || (j == t)) := by
  simp only [memB]; rw [hj]; congr 1
  rw [Bool.eq_iff_iff]; simp; omega
/-- the k-th place, as a number of the list -/
def plcN (D S : Nat → Int) (r : Nat) (o : Int) : Nat → Int := fun k => o + rel D S r k

def cntS (r s : Nat) (D S : Nat → Int) (o n : Int) : Nat := if vok r s D S o n = true then (szR D r).toNat else 0
theorem cntS_no {r s : Nat} {D S : Nat → Int} {o n : Int} (h : vok r s D S o n = false) : cntS r s D S o n = 0 := by unfold cntS; rw [h]; simp
theorem cntS_yes {r s : Nat} {D S : Nat → Int} {o n : Int} (h : vok r s D S o n = true) : ((cntS r s D S o n : Nat) : Int) = szR D r := by unfold cntS; rw [if_pos h]; have := (szR_rng D r).1; omega
end Vo
end Go.Proofs.Ytflbhlepmjiejaa

/- Twice and Meet, the program's side: ranges over the places. -/
namespace Go.Proofs.Ytflbhlepmjiejaa
namespace Vo
open Go.ChangeShapes Go.WideShapes Go.ChangeAt Go.RowKit Go.Joins
open Vl Vp Vr
set_option linter.unusedVariables false
attribute [local go_sem] Oper.semAt_some

theorem cnt_pos {r s : Nat} {D S : Nat → Int} {o n : Int} {k : Nat} (h : k < cnt r s D S o n) : VOk r s D S o n := by
  unfold cnt at h
  by_cases c : vok r s D S o n = true
  · exact vok_iff.1 c
  · rw [if_neg c] at h; omega
/-- a world by what is known of it -/
theorem abs_wp {P : Program} {c : Code} {Q : Exit → Act → World → Prop} {a : Act} {w0 : World} (F : World → Prop) (h0 : F w0) (h : ∀ W, F W → c.wp P Q a W) : c.wp P Q a w0 := h w0 h0
theorem below_cell {B : Nat} {A W : World} {p : Addr} {v : Value} (hb : Below B A W) (hp : p.block < B) (h : A.cell? p = some v) : W.cell? p = some v := (hb.cell hp).trans h
theorem below_mark {B : Nat} {A W : World} {p : Addr} {v : Bool} (hb : Below B A W) (hp : p.block < B) (h : A.frozen? p = v) : W.frozen? p = v := (hb.frozen hp).trans h
theorem put_cell {W : World} {D : Nat} {o : Obj} {p : Addr} {v : Value} (h : p.block ≠ D) (hc : W.cell? p = some v) : (W.putObj D o).cell? p = some v := (World.cell?_of_block (w := W) (World.putObj_heap_other h)).trans hc
theorem set_obj {W : World} {p : Addr} {u : Value} {D : Nat} {o : Option Obj} (h : D ≠ p.block) (hD : W.heap[D]? = o) : (W.setCell p u).heap[D]? = o := (Below.heap_setCell W p u D h).trans hD
theorem set_other {W : World} {p q : Addr} {u v : Value} (h : q.block ≠ p.block) (hc : W.cell? q = some v) : (W.setCell p u).cell? q = some v := (World.cell?_of_block (w := W) (Below.heap_setCell W p u q.block h)).trans hc
end Vo
end Go.Proofs.Ytflbhlepmjiejaa

/- Places on both sides. -/
namespace Go.Proofs.Ytflbhlepmjiejaa
namespace Vo
open Go.ChangeShapes Go.WideShapes Go.ChangeAt Go.RowKit Go.Joins
open Vl Vp Vr
set_option linter.unusedVariables false
attribute [local go_sem] Oper.semAt_some

/-- a list that is answered -/
def Lists (B : Nat) (r : Nat) (D : Nat → Int) (w : World) (e : Ending) (w' : World) : Prop := ∃ a c, e = .returned (.slice a r c) ∧ OwnL B w' a r D ∧ Below w.heap.size w w'
theorem lists_no {B r : Nat} {D : Nat → Int} {w w' : World} {a : Option Addr} {c : Nat} (h : r = 0) (hb : Below w.heap.size w w') : Lists B r D w (.returned (.slice a 0 c)) w' := by
  subst h; exact ⟨a, c, rfl, .inl rfl, hb⟩
theorem kept_grown {w w' : World} {g : Nat} (h : w.grownBy w' (some g)) : Kept (· = g) w w' := ⟨h.os, h.tape, h.output, h.size, fun k hk hn => h.block k hk (by intro e; injection e with e; exact hn e)⟩
theorem grown_set (w : World) (p : Addr) (u : Value) : w.grownBy (w.setCell p u) (some p.block) := ⟨rfl, rfl, rfl, by simp [World.setCell], fun k _ hn => Below.heap_setCell _ _ _ _ (by intro e; exact hn (by rw [e]))⟩
theorem plcN_bd {r s : Nat} {D S : Nat → Int} {o n : Int} (h : VOk r s D S o n) (k : Nat) : bd (plcN D S r o k) := by
  have := h.place k
  have := h.2.2.2.1
  unfold bd plcN; omega
end Vo
end Go.Proofs.Ytflbhlepmjiejaa

/- Views that are answered. -/
namespace Go.Proofs.Ytflbhlepmjiejaa
namespace Vo
open Go.ChangeShapes Go.WideShapes Go.ChangeAt Go.RowKit Go.Joins
open Vl Vp Vr
set_option linter.unusedVariables false

/-- a view, plain -/
structure PV where
  r : Nat
  s : Nat
  D : Nat → Int
  S : Nat → Int
  o : Int
  n : Int
def PV.zero : PV := ⟨0, 0, fun _ => 0, fun _ => 0, 0, 0⟩
def PV.ok (v : PV) : Bool := vok v.r v.s v.D v.S v.o v.n
def PV.orZero (v : PV) : PV := if v.ok = true then v else PV.zero
/-- a view that is answered: of one's own, from B on -/
def ViewR (B : Nat) (v : PV) (w : World) (e : Ending) (w' : World) : Prop :=
  ∃ a b c d, e = .returned (.agg #[.slice a v.r c, .slice b v.s d, .int .i64 v.o, .int .i64 v.n]) ∧ VOwn B w' a b v.r v.s v.D v.S ∧ Below w.heap.size w w'
theorem viewR_zero {B : Nat} {w w' : World} (hb : Below w.heap.size w w') : ViewR B PV.zero w (.returned (.agg #[.slice none 0 0, .slice none 0 0, .int .i64 0, .int .i64 0])) w' :=
  ⟨none, none, 0, 0, rfl, ⟨.inl rfl, .inl rfl, fun k h => absurd rfl h.1⟩, hb⟩
/-- what a turn of a view is, where T is what comes -/
def turnedV (r s : Nat) (D S : Nat → Int) (o n : Int) (T : PV) : PV := if vok r s D S o n = true then T.orZero else PV.zero
/-- the blocks of two lists of one's own -/
def OB (va vb : Value) : Nat → Prop := fun k => va.ownBlock = some k ∨ vb.ownBlock = some k
/-- what a turn answers: it may write into the two lists that it was handed -/
def TurnR (B : Nat) (v : PV) (va vb : Value) (W : World) (e : Ending) (W' : World) : Prop :=
  ∃ a b c d, e = .returned (.agg #[.slice a v.r c, .slice b v.s d, .int .i64 v.o, .int .i64 v.n]) ∧ VOwn B W' a b v.r v.s v.D v.S ∧ Kept (OB va vb) W W'
theorem turnR_zero {B : Nat} {va vb : Value} {w w' : World} (hb : Kept (OB va vb) w w') : TurnR B PV.zero va vb w (.returned (.agg #[.slice none 0 0, .slice none 0 0, .int .i64 0, .int .i64 0])) w' :=
  ⟨none, none, 0, 0, rfl, ⟨.inl rfl, .inl rfl, fun k h => absurd rfl h.1⟩, hb⟩
theorem box_cells {w : World} {p : Nat} {v0 v1 v2 v3 : Value} (h : Box w p v0 v1 v2 v3) (i : Nat) (hi : i < 4) : ∃ v, w.cell? ⟨p, i, none⟩ = some v := by
  obtain ⟨a, b, c, d⟩ := h
  have : i = 0 ∨ i = 1 ∨ i = 2 ∨ i = 3 := by omega
  rcases this with rfl | rfl | rfl | rfl
  · exact ⟨_, a⟩
  · exact ⟨_, b⟩
  · exact ⟨_, c⟩
  · exact ⟨_, d⟩
/-- the marks of a variable -/
def Free (w : World) (p : Nat) : Prop := ∀ i, w.frozen? ⟨p, i, none⟩ = false
theorem Free.below {B : Nat} {w w' : World} {p : Nat} (h : Free w p) (hb : Below B w w') (hp : p < B) : Free w' p := fun i => (hb.frozen (p := ⟨p, i, none⟩) hp).trans (h i)
theorem Free.kept {T : Nat → Prop} {w w' : World} {p : Nat} (h : Free w p) (hk : Kept T w w') (hp : p < w.heap.size) (hn : ¬ T p) : Free w' p := fun i => (World.frozen?_of_block (w := w) (a := ⟨p, i, none⟩) (hk.block p hp hn)).trans (h i)
theorem Free.set {w : World} {p : Nat} (h : Free w p) (q : Addr) (u : Value) : Free (w.setCell q u) p := fun i => by rw [World.frozen?_setCell]; exact h i
theorem free_new (w : World) (cs : Array Value) (t : TypeId) : Free (w.alloc (.cells cs t)) w.heap.size := fun i => by simp [go_sem]

theorem box_set01 {w : World} {p : Nat} {v0 v1 v2 v3 : Value} (h : Box w p v0 v1 v2 v3) (u0 u1 : Value) : Box ((w.setCell ⟨p, 0, none⟩ u0).setCell ⟨p, 1, none⟩ u1) p u0 u1 v2 v3 := by
  obtain ⟨a, b, c, d⟩ := h
  refine ⟨?_, ?_, ?_, ?_⟩
  · rw [World.cell?_setCell_other _ _ _ _ (by intro e; cases e), World.cell?_setCell_same _ _ _ a]
  · exact World.cell?_setCell_same _ _ _ ((World.cell?_setCell_other _ _ _ _ (by intro e; cases e)).trans b)
  · rw [World.cell?_setCell_other _ _ _ _ (by intro e; cases e), World.cell?_setCell_other _ _ _ _ (by intro e; cases e)]; exact c
  · rw [World.cell?_setCell_other _ _ _ _ (by intro e; cases e), World.cell?_setCell_other _ _ _ _ (by intro e; cases e)]; exact d
theorem box_set1 {w : World} {p : Nat} {v0 v1 v2 v3 : Value} (h : Box w p v0 v1 v2 v3) (u1 : Value) : Box (w.setCell ⟨p, 1, none⟩ u1) p v0 u1 v2 v3 := by
  obtain ⟨a, b, c, d⟩ := h
  refine ⟨?_, World.cell?_setCell_same _ _ _ b, ?_, ?_⟩
  · rw [World.cell?_setCell_other _ _ _ _ (by intro e; cases e)]; exact a
  · rw [World.cell?_setCell_other _ _ _ _ (by intro e; cases e)]; exact c
  · rw [World.cell?_setCell_other _ _ _ _ (by intro e; cases e)]; exact d
theorem box_sets4 {w : World} {p : Nat} {v0 v1 v2 v3 : Value} (h : Box w p v0 v1 v2 v3) (u0 u1 u2 u3 : Value) : Box ((((w.setCell ⟨p, 0, none⟩ u0).setCell ⟨p, 1, none⟩ u1).setCell ⟨p, 2, none⟩ u2).setCell ⟨p, 3, none⟩ u3) p u0 u1 u2 u3 := by
  obtain ⟨a, b, c, d⟩ := h
  unfold Box
  refine ⟨?_, ?_, ?_, ?_⟩ <;> simp [go_sem, a, b, c, d]
theorem Box.set {w : World} {p : Nat} {v0 v1 v2 v3 : Value} (h : Box w p v0 v1 v2 v3) (q : Addr) (u : Value) (hn : p ≠ q.block) : Box (w.setCell q u) p v0 v1 v2 v3 := by
  obtain ⟨a, b, c, d⟩ := h
  exact ⟨set_other hn a, set_other hn b, set_other hn c, set_other hn d⟩
theorem RowV.mono {B B' : Nat} {w : World} {v : Value} {r : Nat} {D : Nat → Int} (h : RowV B w v r D) (hB : B' ≤ B) : RowV B' w v r D := by
  obtain ⟨⟨h1, h2⟩, hb⟩ := h
  refine ⟨⟨h1, ?_⟩, hb⟩
  rcases h2 with h2 | ⟨g, cap, cur, e, hg, rest⟩
  · exact .inl h2
  · exact .inr ⟨g, cap, cur, e, by omega, rest⟩
theorem RowV.below {B : Nat} {w w' : World} {v : Value} {r : Nat} {D : Nat → Int} (h : RowV B w v r D) (hb : Below w.heap.size w w') : RowV B w' v r D := ⟨own_below h.1 hb, h.2⟩
theorem RowV.kept {T : Nat → Prop} {B : Nat} {w w' : World} {v : Value} {r : Nat} {D : Nat → Int} (h : RowV B w v r D) (hk : Kept T w w') (hn : ∀ k, v.ownBlock = some k → ¬ T k) : RowV B w' v r D := by
  obtain ⟨⟨h1, h2⟩, hb⟩ := h
  refine ⟨⟨h1, ?_⟩, hb⟩
  rcases h2 with h2 | ⟨g, cap, cur, e, hg, hh, rest⟩
  · exact .inl h2
  · refine .inr ⟨g, cap, cur, e, hg, ?_, rest⟩
    rw [hk.block g (Array.getElem?_eq_some_iff.1 hh).1 (hn g (by rw [e]; rfl))]; exact hh
theorem RowV.lt {B : Nat} {w : World} {v : Value} {r : Nat} {D : Nat → Int} (h : RowV B w v r D) {k : Nat} (hk : v.ownBlock = some k) : B ≤ k ∧ k < w.heap.size := h.1.lt k hk
theorem Kept.then {S T : Nat → Prop} {a b c : World} (h : Kept S a b) (k : Kept T b c) (ht : ∀ i, T i → a.heap.size ≤ i ∨ S i) : Kept S a c :=
  ⟨k.os.trans h.os, k.tape.trans h.tape, k.output.trans h.output, Nat.le_trans h.size k.size, fun i hi hn => (k.block i (Nat.lt_of_lt_of_le hi h.size) (fun q => by rcases ht i q with q | q; omega; exact hn q)).trans (h.block i hi hn)⟩
theorem kept_sets4 (w : World) (p : Nat) (u0 u1 u2 u3 : Value) : Kept (· = p) w ((((w.setCell ⟨p, 0, none⟩ u0).setCell ⟨p, 1, none⟩ u1).setCell ⟨p, 2, none⟩ u2).setCell ⟨p, 3, none⟩ u3) :=
  (((Kept.setCell w ⟨p, 0, none⟩ u0).trans (Kept.setCell _ ⟨p, 1, none⟩ u1)).trans (Kept.setCell _ ⟨p, 2, none⟩ u2)).trans (Kept.setCell _ ⟨p, 3, none⟩ u3)
end Vo
end Go.Proofs.Ytflbhlepmjiejaa

/- Whole views: plain; Whole on the model's side. -/
namespace Go.Proofs.Ytflbhlepmjiejaa
namespace Vo
open Go.ChangeShapes Go.WideShapes Go.ChangeAt Go.RowKit Go.Joins
open Vl Vp Vr
set_option linter.unusedVariables false
set_option linter.unusedSimpArgs false

/-- the product of the last k lengths -/
def bh (D : Nat → Int) (r : Nat) : Nat → Int | 0 => 1 | k + 1 => bh D r k * D (r - 1 - k)
theorem pr_front (E : Nat → Int) (m : Nat) : pr E (m + 1) = E 0 * pr (fun t => E (t + 1)) m := by
  induction m with
  | zero => simp [pr]
  | succ m ih =>
    have e : pr E (m + 1 + 1) = pr E (m + 1) * E (m + 1) := rfl
    rw [e, ih]
    simp only [pr]
    rw [Int.mul_assoc]
theorem bh_seg (D : Nat → Int) (r m : Nat) (hm : m ≤ r) : bh D r m = pr (fun t => D (r - m + t)) m := by
  induction m with
  | zero => rfl
  | succ m ih =>
    simp only [bh]
    rw [ih (by omega), pr_front, Int.mul_comm]
    congr 1
    · congr 1; omega
    · exact pr_same (fun j hj => by congr 1; omega)
theorem pr_add (D : Nat → Int) (a b : Nat) : pr D (a + b) = pr D a * pr (fun t => D (a + t)) b := by
  induction b with
  | zero => simp [pr]
  | succ b ih =>
    have e : pr D (a + (b + 1)) = pr D (a + b) * D (a + b) := rfl
    rw [e, ih]; simp only [pr]; rw [Int.mul_assoc]
theorem bh_le {D : Nat → Int} {r : Nat} (h : ∀ j, j < r → 1 ≤ D j) (m : Nat) (hm : m ≤ r) : 1 ≤ bh D r m ∧ bh D r m ≤ pr D r := by
  rw [bh_seg D r m hm]
  have p1 := pr_pos (D := D) (r := r - m) (fun j hj => h j (by omega))
  have p2 := pr_pos (D := fun t => D (r - m + t)) (r := m) (fun j hj => h _ (by omega))
  have e := pr_add D (r - m) m
  rw [show r - m + m = r by omega] at e
  refine ⟨p2, ?_⟩
  rw [e]
  have := Int.mul_le_mul_of_nonneg_right p1 (show 0 ≤ pr (fun t => D (r - m + t)) m by omega)
  omega
/-- the size of the lengths behind an axis -/
theorem tail_size {D : Nat → Int} {r i : Nat} (hi : i < r) (h : dok r D = true) : szR (fun t => D (i + 1 + t)) (r - (i + 1)) = bh D r (r - 1 - i) := by
  have hd : ∀ j, j < r → 1 ≤ D j := fun j hj => (dok_len h hj).1
  have hp : pr D r ≤ 4096 := by
    have := (dok_iff.1 h).2
    rcases szR_cases D r with q | ⟨_, q, _, q4⟩
    · omega
    · omega
  have hb := bh_le hd (r - 1 - i) (by omega)
  have e := bh_seg D r (r - 1 - i) (by omega)
  rw [show r - (r - 1 - i) = i + 1 by omega] at e
  rw [show r - (i + 1) = r - 1 - i by omega]
  -- where all are lengths and the product fits, szR is the product
  have key : ∀ (E : Nat → Int) (m : Nat), (∀ j, j < m → 1 ≤ E j) → pr E m ≤ 4096 → szR E m = pr E m := by
    intro E m
    induction m with
    | zero => intro _ _; rfl
    | succ m ih =>
      intro h1 h2
      have a1 := pr_pos (D := E) (r := m) (fun j hj => h1 j (by omega))
      have a2 := h1 m (by omega)
      have a3 : pr E m ≤ pr E m * E m := by
        have := Int.mul_le_mul_of_nonneg_left a2 (show 0 ≤ pr E m by omega)
        omega
      have a4 : pr E (m + 1) = pr E m * E m := rfl
      have i1 := ih (fun j hj => h1 j (by omega)) (by omega)
      rw [szR_next (by omega) a2 (by rw [i1]; omega), i1]; rfl
  rw [key _ _ (fun j hj => hd _ (by omega)) (by omega), e]
def stW (D : Nat → Int) (r : Nat) : Nat → Int := fun j => if D j = 1 then 0 else bh D r (r - 1 - j)
/-- the whole view of these lengths -/
def wholeV (r : Nat) (D : Nat → Int) : PV := if dok r D = true then ⟨r, r, D, stW D r, 0, szR D r⟩ else PV.zero
theorem wholeV_no {r : Nat} {D : Nat → Int} (h : dok r D = false) : wholeV r D = PV.zero := by unfold wholeV; rw [h]; simp
theorem wholeV_yes {r : Nat} {D : Nat → Int} (h : dok r D = true) : wholeV r D = ⟨r, r, D, stW D r, 0, szR D r⟩ := by unfold wholeV; rw [if_pos h]
theorem l3Ints (B : Nat) (ad : Addr) (r cap : Nat) (D : Nat → Int) (w : World) (h : Ints B w (some ad) r D) (hB : B ≤ w.heap.size) (hr : (r : Int) ≤ 1048576) :
    Calls Try.prog 31 #[.slice (some ad) r cap] w fun e w' => ∃ v, e = .returned v ∧ RowV w.heap.size w' v r D ∧ Below w.heap.size w w' := by
  obtain ⟨i0, hi0, hz0, hz1, hz2⟩ := info_parts infoInt
  have hbd : ∀ j, j < r → bd (D j) := fun j hj => h.bd j hj
  have H := hide h
  have HB := hide hbd
  clear h hbd
  have hown0 : (w.alloc (.cells #[] 3)).ownsRow w.heap.size 3 1 (.slice (some ⟨w.heap.size, 0, none⟩) 0 0) 0 [] :=
    ⟨rfl, .inr ⟨w.heap.size, 0, #[], rfl, Nat.le_refl _, heap_alloc_new w _, Nat.le_refl _, by simp [maxLen], rfl, rfl⟩⟩
  have B0 := hide (show Below w.heap.size w (w.alloc (.cells #[] 3)) from (Below.refl _ _).alloc (Nat.le_refl _) _)
  have hnews := hide (ints_of (H.out.below (B0.out.mono hB)) rfl)
  go_enter Try.func31, Try.ntmps31
  go_wp2_with (at_builtin; refine wpList_append_own _ rfl _ _ 28 rfl w.heap.size 3 i0 (.int .i64 0) 1 8 Try.underlying28 hi0 hz0 hz1 hz2 rfl (by decide) _ _ _ rfl hown0 ad r cap (ints r D) rfl (by rw [ints_len]; omega) hnews.out (ints_one r D) (by unfold maxLen; omega) (by omega) (by simp) ?_; intro v' w1 hown1 hgrow1 _)
  go_ret
  rw [List.nil_append, Nat.zero_add] at hown1
  exact ⟨v', rfl, ⟨hown1, HB.out⟩, B0.out.grown hgrow1 (by simp) (by rintro k ⟨⟩; exact Nat.le_refl _)⟩
end Vo
end Go.Proofs.Ytflbhlepmjiejaa
