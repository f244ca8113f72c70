/- Lemmas for the proof of the law. -/
import Derived.Test.YtejfodkobfdelaaMgaa
import Derived.RangeFuncIn
import Derived.RangeFuncRecord
import Derived.RangeFuncSeq
import Derived.RangeFuncLeaves
import Derived.RangeFuncCalls
import Derived.ControlIn
import Derived.Test.YtejfodkobfdelaaMgac
import Derived.Test.YtejfodkobfdelaaMgae
import Derived.Test.YtejfodkobfdelaaMgad
import Derived.Deep.LoopGhost
import Derived.Deep.RegionHeld3
import Derived.RangeFuncBound
import Derived.OwnWalkIn
import Derived.TacticsInMore
import Derived.LoopNIn
import Derived.LoopIn
/- A range over a function whose rounds are numbered: the k-th one is handed 'encs k'. What the body may write is a list of blocks of the caller's; the iterator may write what it laid itself. -/
namespace Go.Proofs.Ytejfodkobfdelaa
namespace Vr
open Go.RowKit
open Vl
set_option linter.unusedVariables false

variable {P : Program}

/-- the blocks that a round may turn: the caller's own ones, and the loop's two -/
def Turn (own : Nat → Prop) (z : Nat) : Nat → Prop := fun k => own k ∨ k = z ∨ k = z + 1
/-- an iterator of N rounds -/
def SeqN (P : Program) (gf : Nat) (lb : Array Value) (encs : Nat → Array Value) (N : Nat) (own : Nat → Prop) (w : World) : Prop :=
  ∀ (J Jx : Nat → World → Prop) (W : World), Below w.heap.size w W → W.heap.size = w.heap.size + 2 →
    (∀ k A B, J k A → Below (w.heap.size + 2) A B → J k B) → (∀ k A B, Jx k A → Below (w.heap.size + 2) A B → Jx k B) →
    (∀ k A, J k A → k < N → YieldAt Fence.wide 0 P (w.heap.size + 1) (encs k) A fun e A' => (e = .returned (.bool true) ∧ J (k + 1) A' ∧ Kept (Turn own w.heap.size) A A') ∨ (e = .returned (.bool false) ∧ Jx k A' ∧ Kept (Turn own w.heap.size) A A')) →
    J 0 W →
    Calls P gf (#[.func (.yield (w.heap.size + 1)) #[] #[]] ++ lb) W fun e W' => (∃ v, e = .returned v) ∧ (J N W' ∨ ∃ k, k < N ∧ Jx k W')
/-- how a round may be left: off its end, or by a return -/
def rpost (own : Nat → Prop) (I Ix : Nat → World → Prop) (k : Nat) (W : World) : Exit → Act → World → Prop
  | .normal, _, W' => Kept own W W' ∧ I (k + 1) W'
  | .ret, _, W' => Kept own W W' ∧ Ix k W'
  | _, _, _ => False
/-- the loop's record -/
def lrec (fn : FuncId) (tmps : Array Value) (ps : Array Tmp) (assign body : Code) (z : Nat) (st : LoopState) (pe : Option Code) : Loop :=
  { state := st, pending := pe, fn := fn, tmps := tmps, params := ps, assign := assign, body := body, defers := z }

theorem kept_put (w : World) (r : Nat) (o : Obj) : Kept (· = r) w (w.putObj r o) := ⟨rfl, rfl, rfl, by simp, fun k _ hn => World.putObj_heap_other hn⟩
theorem below_put {B : Nat} (w : World) (r : Nat) (o : Obj) (h : B ≤ r) : Below B w (w.putObj r o) := ⟨rfl, rfl, rfl, by simp, fun k hk => World.putObj_heap_other (by omega)⟩
theorem new_heap (w : World) (o : Obj) : (w.alloc o).heap[w.heap.size]? = some o := by
  show (w.heap.push o)[w.heap.size]? = some o
  simp

theorem range_nat {g : Operand} {ps : Array Tmp} {assign body : Code} {Q : Exit → Act → World → Prop} {a : Act} {w : World} {gf : Nat} {lb : Array Value}
    (hg : a.eval g = .func (.func gf) #[] lb) (eg : ∀ args w, (callFunc gf args).run P w = .ok (.enter gf args) w)
    (encs : Nat → Array Value) (N : Nat) (own : Nat → Prop) (hown : ∀ k, own k → k < w.heap.size) (hps : ∀ k, (encs k).size = ps.size)
    (hit : SeqN P gf lb encs N own w) (I Ix : Nat → World → Prop) (hI : ∀ k A B, I k A → Below w.heap.size A B → I k B) (hIx : ∀ k A B, Ix k A → Below w.heap.size A B → Ix k B) (h0 : I 0 w)
    (a₁ : Nat → Act)
    (hassign : ∀ (l k : Nat) (W : World) (K : Act → World → Prop), K (a₁ k) W → assign.wpIn (Fence.wide.inRound l) 0 P (Exit.then K (fun _ _ _ => False)) { tmps := (ps.zip (encs k)).foldl (fun t (p, v) => t.setIfInBounds p v) a.tmps, defers := [] } W)
    (hbody : ∀ (l k : Nat) (W : World), I k W → k < N → w.heap.size + 2 ≤ W.heap.size → body.wpIn (Fence.wide.inRound l) 0 P (rpost own I Ix k W) (a₁ k) W)
    (hdone : ∀ W : World, I N W → W.heap[w.heap.size]? = some (.deferred (some [])) → Q .normal { a with defers := { target := .collected w.heap.size, args := #[] } :: a.defers } W)
    (hstop : ∀ (k : Nat) (W : World), k < N → Ix k W → W.heap[w.heap.size]? = some (.deferred (some [])) → Code.ret.wp P Q { a with defers := { target := .collected w.heap.size, args := #[] } :: a.defers } W) :
    (Code.rangeFunc g ps assign body).wp P Q a w := by
  refine (wpIn_wide (n := 0)).1 (wpIn_rangeFunc ?_)
  intro fn _
  generalize hz : w.heap.size = z at *
  obtain ⟨rec, hrec⟩ : ∃ rec : LoopState → Option Code → Loop, rec = lrec fn a.tmps ps assign body z := ⟨_, rfl⟩
  obtain ⟨W1, hW1⟩ : ∃ W1, (w.alloc (.deferred (some []))).alloc (.loop (rec .ready none)) = W1 := ⟨_, rfl⟩
  have hs1 : W1.heap.size = z + 2 := by rw [← hW1]; simp [hz]
  have hL1 : W1.heap[z + 1]? = some (.loop (rec .ready none)) := by
    have := new_heap (w.alloc (.deferred (some []))) (.loop (rec .ready none))
    rw [World.size_alloc, hz] at this; rw [← hW1]; exact this
  have hK1 : W1.heap[z]? = some (.deferred (some [])) := by
    have := new_heap w (.deferred (some []))
    rw [hz] at this
    rw [← hW1, Below.heap_alloc _ _ _ (by simp [hz])]; exact this
  have hb1 : Below z w W1 := by
    rw [← hW1]; exact ((Below.refl z w).alloc (by omega) _).alloc (by simp; omega) _
  refine ⟨z + 1, [{ target := .collected z, args := #[] }], W1, { target := .fn (.func gf) lb, args := #[.func (.yield (z + 1)) #[] #[]] }, W1, gf, #[.func (.yield (z + 1)) #[] #[]] ++ lb, W1, ?_, ?_, fun _ _ => trivial, ?_, (fun h => by cases h), callsIn_wide.2 ?_⟩
  · rw [← hW1, hrec, ← hz]; exact run_enterLoop_outer _ _ _ _ _
  · simp only [resolve, hg]
    simp [go_sem]
  · simp [invoke, go_sem, eg]
  · have hit' := hit (fun k A => I k A ∧ A.heap[z + 1]? = some (.loop (rec .ready none)) ∧ A.heap[z]? = some (.deferred (some [])))
      (fun k A => Ix k A ∧ A.heap[z + 1]? = some (.loop (rec .done (some .ret))) ∧ A.heap[z]? = some (.deferred (some []))) W1
    rw [hz] at hit'
    refine (hit' hb1 hs1 (fun k A B h hb => ⟨hI k A B h.1 (hb.mono (by omega)), (hb.block (z + 1) (by omega)).trans h.2.1, (hb.block z (by omega)).trans h.2.2⟩)
      (fun k A B h hb => ⟨hIx k A B h.1 (hb.mono (by omega)), (hb.block (z + 1) (by omega)).trans h.2.1, (hb.block z (by omega)).trans h.2.2⟩) ?_ ⟨hI 0 w W1 h0 hb1, hL1, hK1⟩).mono ?_
    · rintro k A ⟨hi, hl, hk⟩ hkN
      have hlt : z + 1 < A.heap.size := (Array.getElem?_eq_some_iff.1 hl).1
      have hy := run_yield (P := P) (args := encs k) hl (by rw [hrec]; exact hps k)
      rw [hrec] at hy
      refine ⟨fn, _, assign, body, hy, roundIn_of_wpIn trivial (hassign _ k A _ ⟨_, run_beginRound hl (by rw [hrec]; rfl), ?_⟩)⟩
      have hA1 : ∀ o, (A.putObj (z + 1) o).heap[z + 1]? = some o := fun o => World.putObj_heap_same hlt
      refine wpIn_mono (hbody _ k _ (hI k A _ hi (below_put A _ _ (by omega))) hkN (by simp; omega)) ?_
      rintro e a3 W3 hp
      have step : ∀ (jump : Option Code), Kept own (A.putObj (z + 1) (.loop { rec .ready none with state := .busy })) W3 →
          (Instr.endRound (z + 1) jump).run P W3 = .ok (.bool jump.isNone) (W3.putObj (z + 1) (.loop (rec (if jump.isNone then .ready else .done) jump))) ∧
          (W3.putObj (z + 1) (.loop (rec (if jump.isNone then .ready else .done) jump))).heap[z + 1]? = some (.loop (rec (if jump.isNone then .ready else .done) jump)) ∧
          (W3.putObj (z + 1) (.loop (rec (if jump.isNone then .ready else .done) jump))).heap[z]? = some (.deferred (some [])) ∧
          Kept (Turn own z) A (W3.putObj (z + 1) (.loop (rec (if jump.isNone then .ready else .done) jump))) := fun jump hk3 => by
        have hn1 : ¬ own (z + 1) := fun h => by have := hown _ h; omega
        have hn0 : ¬ own z := fun h => by have := hown _ h; omega
        have hl3 := (hk3.block (z + 1) (by simp; omega) hn1).trans (hA1 _)
        have hk0 : W3.heap[z]? = some (.deferred (some [])) := (hk3.block z (by simp; omega) hn0).trans ((World.putObj_heap_other (by omega)).trans hk)
        have hr := run_endRound (P := P) jump hl3
        refine ⟨?_, World.putObj_heap_same (Array.getElem?_eq_some_iff.1 hl3).1, (World.putObj_heap_other (by omega)).trans hk0, ?_⟩
        · rw [hrec] at hr ⊢; exact hr
        · exact (((kept_put A (z + 1) _).mono (fun _ _ e => .inr (.inr e))).trans (hk3.mono (fun _ _ e => .inl e))).trans ((kept_put W3 (z + 1) _).mono (fun _ _ e => .inr (.inr e)))
      cases e with
      | normal =>
        obtain ⟨hk3, hi3⟩ := hp
        obtain ⟨q1, q2, q3, q4⟩ := step none hk3
        exact ⟨_, _, q1, .inl ⟨rfl, ⟨hI _ _ _ hi3 (below_put W3 _ _ (by omega)), q2, q3⟩, q4⟩⟩
      | ret =>
        obtain ⟨hk3, hi3⟩ := hp
        obtain ⟨q1, q2, q3, q4⟩ := step (some .ret) hk3
        exact ⟨_, _, q1, .inr ⟨rfl, ⟨hIx _ _ _ hi3 (below_put W3 _ _ (by omega)), q2, q3⟩, q4⟩⟩
      | exit id => exact hp.elim
      | goto t => exact hp.elim
      | panic ch => exact hp.elim
      | outgrown => exact hp.elim
    · rintro e W2 ⟨⟨v, rfl⟩, (⟨hi, hl, hk⟩ | ⟨k, hkN, hi, hl, hk⟩)⟩
      · refine ⟨none, _, by have := run_endLoop (P := P) hl (by rw [hrec]; simp [lrec]); rw [hrec] at this; exact this, hdone _ (hI _ _ _ hi (below_put W2 _ _ (by omega))) ((World.putObj_heap_other (by omega)).trans hk)⟩
      · refine ⟨some .ret, _, by have := run_endLoop (P := P) hl (by rw [hrec]; simp [lrec]); rw [hrec] at this; exact this, (wpIn_wide (n := 0)).2 (hstop k _ hkN (hIx _ _ _ hi (below_put W2 _ _ (by omega))) ((World.putObj_heap_other (by omega)).trans hk))⟩

/-- a function that holds such a loop: its contract out of its body -/
theorem calls_marks {f : FuncId} {fn : Func} {c : Code} {args : Array Value} {w : World} {R : Ending → World → Prop} (hf : P.funcs[f]? = some fn) (hb : fn.body = some c)
    (h : c.wp P (bodyPostM Fence.wide 0 P fn R) { tmps := args ++ Array.replicate (fn.ntmps - args.size) undef, defers := [] } w) : Calls P f args w R :=
  (callsIn_wide (n := 0)).1 (callsIn_of_wp_marks hf hb trivial (wpIn_wide.2 h))
/-- its end behind no loop -/
theorem end0 {fn : Func} {R : Ending → World → Prop} {a : Act} {W : World} {v : Value} (ha : a.defers = []) (hv : (results fn a.tmps).run P W = .ok v W) (hR : R (.returned v) W) : bodyPostM Fence.wide 0 P fn R .ret a W := by
  show LeavesInM Fence.wide 0 P fn a.tmps R a.defers .returning W
  rw [ha]
  exact ⟨v, hv, hR⟩
/-- behind one loop -/
theorem end1 {fn : Func} {R : Ending → World → Prop} {a : Act} {W : World} {v : Value} {D : Nat} (ha : a.defers = [{ target := .collected D, args := #[] }]) (hD : W.heap[D]? = some (.deferred (some [])))
    (hv : (results fn a.tmps).run P (W.putObj D (.deferred none)) = .ok v (W.putObj D (.deferred none))) (hR : R (.returned v) (W.putObj D (.deferred none))) : bodyPostM Fence.wide 0 P fn R .ret a W := by
  show LeavesInM Fence.wide 0 P fn a.tmps R a.defers .returning W
  rw [ha]
  exact ⟨by simp, .inl ⟨D, _, rfl, run_takeDeferred hD, v, hv, hR⟩⟩
/-- behind two -/
theorem end2 {fn : Func} {R : Ending → World → Prop} {a : Act} {W : World} {v : Value} {D E : Nat} (ha : a.defers = [{ target := .collected D, args := #[] }, { target := .collected E, args := #[] }]) (hD : W.heap[D]? = some (.deferred (some []))) (hE : W.heap[E]? = some (.deferred (some []))) (hne : E ≠ D)
    (hv : (results fn a.tmps).run P ((W.putObj D (.deferred none)).putObj E (.deferred none)) = .ok v ((W.putObj D (.deferred none)).putObj E (.deferred none))) (hR : R (.returned v) ((W.putObj D (.deferred none)).putObj E (.deferred none))) : bodyPostM Fence.wide 0 P fn R .ret a W := by
  show LeavesInM Fence.wide 0 P fn a.tmps R a.defers .returning W
  rw [ha]
  exact ⟨by simp, .inl ⟨D, _, rfl, run_takeDeferred hD, by simp, .inl ⟨E, _, rfl, run_takeDeferred ((World.putObj_heap_other hne).trans hE), v, hv, hR⟩⟩⟩
end Vr
end Go.Proofs.Ytejfodkobfdelaa

/- The iterator over a view's places (eachPlace): an odometer. -/
namespace Go.Proofs.Ytejfodkobfdelaa
namespace Vo
open Go.ChangeShapes Go.WideShapes Go.ChangeAt Go.RowKit Go.Joins
open Vl Vp Vr
set_option linter.unusedVariables false

theorem carry {d k : Int} (hd : 1 ≤ d) (h : k % d = d - 1) : (k + 1) % d = 0 ∧ (k + 1) / d = k / d + 1 := by
  have e : k + 1 = 0 + d * (k / d + 1) := by
    have := Int.mul_ediv_add_emod k d
    rw [Int.mul_add]; omega
  constructor
  · rw [e, Int.add_mul_emod_self_left]; rfl
  · rw [e, Int.add_mul_ediv_left _ _ (by omega)]; simp
theorem nocarry {d k : Int} (hd : 1 ≤ d) (h : k % d ≠ d - 1) : (k + 1) % d = k % d + 1 ∧ (k + 1) / d = k / d := by
  have h1 := Int.emod_nonneg k (show d ≠ 0 by omega)
  have h2 := Int.emod_lt_of_pos k (show 0 < d by omega)
  have e : k + 1 = (k % d + 1) + d * (k / d) := by
    have := Int.mul_ediv_add_emod k d
    omega
  constructor
  · have : (k % d + 1 + d * (k / d)) % d = k % d + 1 := by rw [Int.add_mul_emod_self_left, Int.emod_eq_of_lt (by omega) (by omega)]
    rwa [← e] at this
  · rw [e, Int.add_mul_ediv_left _ _ (by omega), Int.ediv_eq_zero_of_lt (by omega) (by omega)]
    omega
/-- the odometer between two rounds: the last axes are back at 0, m are left, whose index is the q-th -/
def Odo (D S : Nat → Int) (r : Nat) (k : Int) (m : Nat) (q : Int) : Prop :=
  m ≤ r ∧ 0 ≤ q ∧ q < pr D m ∧ (∀ j, j < r → dg D r (k + 1) j = if j < m then dg D m (q + 1) j else 0) ∧ rel D S r (k + 1) = rel D S m (q + 1) ∧ ∃ Q : Int, 1 ≤ Q ∧ k + 1 = (q + 1) * Q ∧ pr D r = pr D m * Q
theorem Odo.start {D S : Nat → Int} {r : Nat} {k : Int} (k0 : 0 ≤ k) (k1 : k < pr D r) : Odo D S r k r k :=
  ⟨Nat.le_refl _, k0, k1, fun j hj => by rw [if_pos hj], rfl, 1, by omega, by omega, by omega⟩
theorem Odo.step {D S : Nat → Int} {r : Nat} {k q : Int} {m : Nat} (h : Odo D S r k (m + 1) q) (hd : 1 ≤ D m) (hq : q % D m = D m - 1) : Odo D S r k m (q / D m) := by
  obtain ⟨hm, q0, q1, h1, h2, Q, hQ, e1, e2⟩ := h
  obtain ⟨c1, c2⟩ := carry hd hq
  have e3 : q + 1 = (q / D m + 1) * D m := by
    have := Int.mul_ediv_add_emod q (D m)
    rw [Int.add_mul, Int.one_mul, Int.mul_comm (q / D m)]; omega
  refine ⟨by omega, Int.ediv_nonneg q0 (by omega), ?_, fun j hj => ?_, ?_, D m * Q, ?_, ?_, ?_⟩
  · have hp : q < pr D m * D m := q1
    exact Int.ediv_lt_of_lt_mul (by omega) hp
  · rw [h1 j hj]
    simp only [dg, c1, c2]
    by_cases e : j = m
    · subst e; simp
    · by_cases l : j < m
      · rw [if_pos (by omega), if_neg e, if_pos l]
      · rw [if_neg (by omega), if_neg l]
  · rw [h2]; simp only [rel, c1, c2]; omega
  · have := Int.mul_le_mul hd hQ (by omega) (by omega); omega
  · rw [e1, e3, Int.mul_assoc]
  · rw [e2]; simp only [pr]; rw [Int.mul_assoc]
/-- all axes were at their last int: the last round was the last one -/
theorem Odo.last {D S : Nat → Int} {r : Nat} {k q : Int} (h : Odo D S r k 0 q) : k + 1 = pr D r := by
  obtain ⟨_, q0, q1, _, _, Q, hQ, e1, e2⟩ := h
  simp only [pr] at q1 e2
  obtain rfl : q = 0 := by omega
  rw [e1, e2]; omega
/-- an axis is not: there is a next round -/
theorem Odo.next {D S : Nat → Int} {r : Nat} {k q : Int} {m : Nat} (h : Odo D S r k (m + 1) q) (hd : 1 ≤ D m) (hq : q % D m ≠ D m - 1) :
    k + 1 < pr D r ∧ (∀ j, j < r → dg D r (k + 1) j = if j < m then dg D m (q / D m) j else if j = m then q % D m + 1 else 0) ∧ rel D S r (k + 1) = (q % D m + 1) * S m + rel D S m (q / D m) := by
  obtain ⟨hm, q0, q1, h1, h2, Q, hQ, e1, e2⟩ := h
  obtain ⟨c1, c2⟩ := nocarry hd hq
  refine ⟨?_, fun j hj => ?_, ?_⟩
  · have z0 := Int.emod_nonneg q (show D m ≠ 0 by omega)
    have z1 := Int.emod_lt_of_pos q (show 0 < D m by omega)
    have hp : q < pr D m * D m := q1
    have hl : q / D m < pr D m := Int.ediv_lt_of_lt_mul (by omega) hp
    have e3 := Int.mul_ediv_add_emod q (D m)
    have e4 : q + 1 < pr D m * D m := by
      have := Int.mul_le_mul_of_nonneg_right (show q / D m + 1 ≤ pr D m by omega) (show 0 ≤ D m by omega)
      rw [Int.add_mul, Int.one_mul, Int.mul_comm (q / D m)] at this
      omega
    rw [e1, e2]
    show (q + 1) * Q < pr D m * D m * Q
    exact Int.mul_lt_mul_of_pos_right e4 (by omega)
  · rw [h1 j hj]
    simp only [dg, c1, c2]
    by_cases e : j = m
    · subst e; simp
    · by_cases l : j < m
      · rw [if_pos (by omega), if_neg e, if_pos l]
      · rw [if_neg (by omega), if_neg l, if_neg e]
  · rw [h2]; simp only [rel, c1, c2]
theorem rel_zero (D S : Nat → Int) (r : Nat) : rel D S r 0 = 0 := by
  induction r with
  | zero => rfl
  | succ r ih => simp [rel, ih]
theorem dg_zero (D : Nat → Int) (r j : Nat) : dg D r 0 j = 0 := by
  induction r with
  | zero => rfl
  | succ r ih => simp [dg, ih]
/-- how many places there are -/
def cnt (r s : Nat) (D S : Nat → Int) (o n : Int) : Nat := if vok r s D S o n = true then (szR D r).toNat else 0
end Vo
end Go.Proofs.Ytejfodkobfdelaa
