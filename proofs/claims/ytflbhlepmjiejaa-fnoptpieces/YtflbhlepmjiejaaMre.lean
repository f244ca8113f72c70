/- Lemmas for the proof of the law. -/
import Derived.Test.YtflbhlepmjiejaaMra
import Derived.Test.YtflbhlepmjiejaaEf
import Derived.Test.YtflbhlepmjiejaaVl
import Derived.Test.YtflbhlepmjiejaaOm
import Derived.Test.YtflbhlepmjiejaaRhc
import Derived.Test.YtflbhlepmjiejaaVn
import Derived.Test.YtflbhlepmjiejaaAr
import Derived.Test.YtflbhlepmjiejaaQf
/- A rule's state in a law: measured, copied, compared (written by tools/gen15d.py). -/
namespace Go.Proofs.Ytflbhlepmjiejaa
namespace Vo
open Go.ChangeShapes Go.WideShapes Go.ChangeAt Go.RowKit Go.Joins Go.Sort
open Vl
set_option linter.unusedVariables false
set_option linter.unusedSimpArgs false
end Vo
end Go.Proofs.Ytflbhlepmjiejaa

/- States are marked, held. -/
namespace Go.Proofs.Ytflbhlepmjiejaa
namespace Vo
open Go.ChangeShapes Go.WideShapes Go.ChangeAt Go.RowKit Go.Joins Go.Sort
open Vl
set_option linter.unusedVariables false
end Vo
end Go.Proofs.Ytflbhlepmjiejaa

/- StepOpt: one form of the answer, whether yes or no. -/
namespace Go.Proofs.Ytflbhlepmjiejaa
namespace Vo
open Go.ChangeShapes Go.WideShapes Go.ChangeAt Go.RowKit Go.Joins Go.Sort
open Vl
set_option linter.unusedVariables false
/-- a state of m parameters that is one's own is handed back, and b -/
def StepU (m : Nat) (N : St) (b : Bool) (w : World) (e : Ending) (w' : World) : Prop :=
  ∃ (p f q : Option Addr) (c d g : Nat), e = .returned (.tuple #[.agg #[.slice p m c, .slice f m d, .slice q m g, .int .i64 N.c, .int .i64 N.f, .int .i64 N.g], .bool b]) ∧ (OwnL w.heap.size w' p m N.P ∧ OwnL w.heap.size w' f m N.F ∧ OwnL w.heap.size w' q m N.S) ∧ ((∀ k k', Blk p m k → Blk f m k' → k < k') ∧ (∀ k k', Blk f m k → Blk q m k' → k < k')) ∧ Below w.heap.size w w'
theorem StepR.uni {n : Nat} {no : Prop} {S : St} {w w' : World} {e : Ending} (h : StepR n no S w e w') (m : Nat) (N : St) (b : Bool) (h1 : no → m = 0 ∧ b = false ∧ N.c = 0 ∧ N.f = 0 ∧ N.g = 0) (h2 : ¬ no → m = n ∧ b = true ∧ N = S) : StepU m N b w e w' := by
  rcases h with ⟨q, e1, b1⟩ | ⟨q, p, f, r, c, d, g, e1, o, ⟨k1, k2⟩, b1⟩
  · obtain ⟨rfl, rfl, c1, c2, c3⟩ := h1 q
    refine ⟨none, none, none, 0, 0, 0, ?_, ⟨.inl rfl, .inl rfl, .inl rfl⟩, ⟨fun k k' h => absurd rfl h.1, fun k k' h => absurd rfl h.1⟩, b1⟩
    rw [c1, c2, c3]
    exact e1
  · obtain ⟨rfl, rfl, rfl⟩ := h2 q
    exact ⟨p, f, r, c, d, g, e1, o, ⟨bhd_lt k1, bhd_lt k2⟩, b1⟩
end Vo
end Go.Proofs.Ytflbhlepmjiejaa

/- An argument that is a rule's state. -/
namespace Go.Proofs.Ytflbhlepmjiejaa
namespace Vo
open Go.ChangeShapes Go.WideShapes Go.ChangeAt Go.RowKit Go.Joins Go.Sort
open Vl
set_option linter.unusedVariables false
end Vo
end Go.Proofs.Ytflbhlepmjiejaa

/- For the law on StepOpt: its operations. -/
namespace Go.Proofs.Ytflbhlepmjiejaa
namespace Vo
open Go.ChangeShapes Go.WideShapes Go.ChangeAt Go.RowKit Go.Joins Go.Sort
open Vl
set_option linter.unusedVariables false
section
variable {o : Oper} {A : Act} {w : World} {x : Operand} {b : Nat}
theorem runLoadOI {v0 v1 v2 v3 v4 v5 : Value} (ho : o.op = .load 30 x) (hx : A.eval x = .pointer (some ⟨b, 0, none⟩)) (h : BoxV6 w b v0 v1 v2 v3 v4 v5) : (execOp A.eval o).run Try.prog w = .ok (.value (.agg #[v0, v1, v2, v3, v4, v5])) w := by
  obtain ⟨-, c0, c1, c2, c3, c4, c5⟩ := h
  unfold execOp
  rw [ho]
  simp only [hx]
  go_simp
theorem runExt0 {u v : Value} (ho : o.op = .extract x 0) (hx : A.eval x = .tuple #[u, v]) : (execOp A.eval o).run Try.prog w = .ok (.value u) w := by
  unfold execOp
  rw [ho]
  simp only [hx]
  go_simp
theorem runExt1 {u v : Value} (ho : o.op = .extract x 1) (hx : A.eval x = .tuple #[u, v]) : (execOp A.eval o).run Try.prog w = .ok (.value v) w := by
  unfold execOp
  rw [ho]
  simp only [hx]
  go_simp
end
end Vo
end Go.Proofs.Ytflbhlepmjiejaa

/- As Qf, where operations of the head may be guarded: one that is cut off leaves nothing in its slot. -/
namespace Go.Proofs.Ytflbhlepmjiejaa
namespace Qg
open Go.RowKit Qf
set_option linter.unusedVariables false
variable {P : Program}
theorem yielded_eval (ops : Array Oper) (a : Act) (j : Nat) : yielded ops a.tmps j = match (ops[j]?).bind (·.dst) with
    | some d => (match a.eval (.tmp d) with | .bool b => some b | _ => none)
    | none => none := by
  unfold yielded
  cases (ops[j]?).bind (·.dst) with
  | none => rfl
  | some d =>
    simp only [Option.bind_some, Act.eval, Array.getD_eq_getD_getElem?]
    cases a.tmps[d]? with
    | none => rfl
    | some x => cases x <;> rfl
/-- one operation, guarded or not -/
def landsG (P : Program) (ops : Array Oper) (o : Oper) (A : Act) (w : World) (K : Value → World → Prop) : Prop :=
  if Region.wanted o (yielded ops A.tmps) = true then lands P o A w K else K undef w
theorem landsG_free {ops : Array Oper} {o : Oper} {A : Act} {w : World} {K : Value → World → Prop} (hg : o.guard = none) (h : lands P o A w K) : landsG P ops o A w K := by
  unfold landsG Region.wanted
  rw [hg, if_pos rfl]
  exact h
/-- what is asked of the region's text -/
def factB (ops : Array Oper) (n : Nat) : Bool :=
  (List.range n).all (fun i => match ops[i]? with
    | some oi => oi.after.all (fun e => !Region.binds .any e || decide (e.on < i)) && (List.range n).all (fun k => match ops[k]? with
      | some ok => (match ok.dst with
        | some d => (!(oi.looksAt ops).contains d || Region.waitsFor .any ops i k) && (i == k || oi.dst != some d)
        | none => true)
      | none => false)
    | none => false) && Region.seqB .any ops (ops.size - n) n (Array.replicate n true ++ Array.replicate (ops.size - n) false) && (Region.noSelect ops && decide (n < ops.size) && Region.sinkB .any ops n && Region.chainB .any ops n)
structure FactS (ops : Array Oper) (n : Nat) : Prop where
  at' : ∀ i, i < n → ∃ oi, ops[i]? = some oi ∧ (∀ e ∈ oi.after, Region.binds .any e = true → e.on < i) ∧
    ∀ k ok d, k < n → ops[k]? = some ok → ok.dst = some d → (d ∈ oi.looksAt ops → Region.waitsFor .any ops i k = true) ∧ (i ≠ k → oi.dst ≠ some d)
  text : Region.noSelect ops = true ∧ n < ops.size ∧ Region.sinkB .any ops n = true ∧ Region.chainB .any ops n = true
  seq : Region.seqB .any ops (ops.size - n) n (Array.replicate n true ++ Array.replicate (ops.size - n) false) = true
theorem factS {ops : Array Oper} {n : Nat} (h : factB ops n = true) : FactS ops n := by
  unfold factB at h
  rw [Bool.and_eq_true, Bool.and_eq_true] at h
  obtain ⟨⟨h, hq⟩, ht⟩ := h
  simp only [Bool.and_eq_true, decide_eq_true_eq] at ht
  refine ⟨fun i hi => ?_, ⟨ht.1.1.1, ht.1.1.2, ht.1.2, ht.2⟩, hq⟩
  have h1 := List.all_eq_true.1 h i (List.mem_range.2 hi)
  cases ho : ops[i]? with
  | none => rw [ho] at h1; cases h1
  | some oi =>
    rw [ho] at h1
    simp only [Bool.and_eq_true] at h1
    refine ⟨oi, rfl, fun e he hb => ?_, fun k ok d hk hok hd => ?_⟩
    · have := Array.all_eq_true'.1 h1.1 e he
      rw [hb] at this
      simpa using this
    · have h2 := List.all_eq_true.1 h1.2 k (List.mem_range.2 hk)
      simp only [hok, hd, Bool.and_eq_true] at h2
      refine ⟨fun hm => ?_, fun hne => ?_⟩
      · have := h2.1
        rw [List.contains_iff_mem.2 hm] at this
        simpa using this
      · have := h2.2
        rw [show (i == k) = false from beq_eq_false_iff_ne.2 hne] at this
        simpa using this
theorem facts {id : Nat} {Q : Exit → Act → World → Prop} {a : Act} {w : World} {l : List Oper} (n : Nat) (hm : P.follows .mixedOrders = true) (hfb : factB l.toArray n = true)
    (F : Nat → Value → World → Prop) (hF : ∀ i v w1 w2, F i v w1 → Below w1.heap.size w1 w2 → F i v w2)
    (hS : ∀ i o, i < n → l[i]? = some o → ∀ s w1, Below w.heap.size w w1 → (∀ k, Region.waitsFor .any l.toArray i k = true → F k (s k) w1) → landsG P l.toArray o (lay all1 s (l.take n) 0 a) w1 (fun v w2 => Below w1.heap.size w1 w2 ∧ F i v w2))
    (hQ : ∀ s w1, Below w.heap.size w w1 → (∀ k, k < n → F k (s k) w1) → wpList P l.toArray Q (l.drop n) (lay all1 s (l.take n) 0 a) w1) : (Code.region id l.toArray true).wp P Q a w := by
  have fs := factS hfb
  obtain ⟨hsel, hn, hs, hc⟩ := fs.text
  have hn' : n < l.length := by simpa using hn
  have hdl : (l.drop n).length = l.toArray.size - n := by simp
  have tk : ∀ i, i < n → (l.take n)[i]? = l[i]? := fun i hi => by rw [List.getElem?_take, if_pos hi]
  have hdist : ∀ (x y : Nat) (ox oy : Oper), (l.take n)[x]? = some ox → (l.take n)[y]? = some oy → x ≠ y → ∀ t, ox.dst = some t → oy.dst ≠ some t := by
    intro x y ox oy hx hy hne t ht
    have hx' : x < n := by have := (List.getElem?_eq_some_iff.1 hx).1; simp at this; omega
    have hy' : y < n := by have := (List.getElem?_eq_some_iff.1 hy).1; simp at this; omega
    obtain ⟨o2, e2, _, h2⟩ := fs.at' y hy'
    rw [tk y hy'] at hy
    rw [tk x hx'] at hx
    have : o2 = oy := by have e3 : l.toArray[y]? = some oy := by simpa using hy
                         rw [e2] at e3; exact Option.some.inj e3
    subst this
    exact (h2 x ox t hx' (by simpa using hx) ht).2 (Ne.symm hne)
  have key : ∀ (f : Nat) (li : Array Bool) (s : Nat → Value) (w1 : World), HeadInv .any l.toArray n li → ((List.range n).filter (fun i => !li.getD i false)).length = f → Below w.heap.size w w1 →
      (∀ k, li.getD k false = true → F k (s k) w1) → wpAny P .any l.toArray Q (f + (l.toArray.size - n)) li (lay (fun j => li.getD j false) s (l.take n) 0 a) w1 := by
    intro f
    induction f with
    | zero =>
      intro li s w1 inv hf hb hfa
      have hli : ∀ k, k < n → li.getD k false = true := fun k hk => by
        have := List.filter_eq_nil_iff.1 (List.length_eq_zero_iff.1 hf) k (List.mem_range.2 hk)
        simpa using this
      have el : li = Array.replicate n true ++ Array.replicate (l.toArray.size - n) false := by
        apply Array.ext
        · rw [inv.size]; simp; omega
        · intro k h1 h2
          by_cases hk : k < n
          · have := hli k hk
            rw [Array.getElem_append_left (by simpa using hk)]
            simp [h1] at this
            simp [this]
          · have hk2 : k < l.toArray.size := by rw [← inv.size]; exact h1
            have := inv.tail k (by omega) hk2
            rw [Array.getElem_append_right (by simp; omega)]
            simp [h1] at this
            simp [this]
      rw [Nat.zero_add, ← hdl]
      have e1 : lay (fun j => li.getD j false) s (l.take n) 0 a = lay all1 s (l.take n) 0 a := by
        have : ∀ (l' : List Oper) (k : Nat) (a' : Act), k + l'.length ≤ n → lay (fun j => li.getD j false) s l' k a' = lay all1 s l' k a' := by
          intro l'
          induction l' with
          | nil => intro k a' _; rfl
          | cons o l' ih =>
            intro k a' hk
            simp only [List.length_cons] at hk
            unfold lay
            rw [hli k (by omega), ih (k + 1) _ (by omega)]
            rfl
        exact this _ _ _ (by simp; omega)
      rw [e1]
      refine wpAny_of_seq (l.drop n) n li _ w1 (fun j => by simp [List.getElem?_drop]) ?_ (hQ s w1 hb (fun k hk => hfa k (hli k hk)))
      rw [hdl, el]; exact fs.seq
    | succ f ih =>
      intro li s w1 inv hf hb hfa
      have hex : ∃ i, i < n ∧ li.getD i false = false := by
        have hne : (List.range n).filter (fun i => !li.getD i false) ≠ [] := fun e => by rw [e] at hf; simp at hf
        obtain ⟨x, hx⟩ := List.exists_mem_of_ne_nil _ hne
        obtain ⟨h1, h2⟩ := List.mem_filter.1 hx
        exact ⟨x, List.mem_range.1 h1, by simpa using h2⟩
      obtain ⟨i0, hi0, hu0⟩ := hex
      have sz : ∀ i, i < n → i < li.size := fun i hi => by rw [inv.size]; simp; omega
      have hall : ∀ j ∈ Region.ready .any l.toArray li, j < n := fun j hj => Nat.lt_of_not_le fun h => absurd hj (tail_waits hs hc hn inv _ i0 rfl hi0 (getD_in (sz i0 hi0) hu0) j h)
      have hsome : Region.ready .any l.toArray li ≠ [] := by
        have : ∀ d i, i ≤ d → i < n → li.getD i false = false → ∃ j, j ∈ Region.ready .any l.toArray li := by
          intro d
          induction d with
          | zero =>
            intro i hi hin hu
            obtain rfl : i = 0 := by omega
            obtain ⟨oi, ho, hbf, _⟩ := fs.at' 0 hin
            exact ⟨0, mem_ready.2 ⟨getD_in (sz 0 hin) hu, oi, ho, fun e he hbd => absurd (hbf e he hbd) (by omega)⟩⟩
          | succ d ihd =>
            intro i hi hin hu
            obtain ⟨oi, ho, hbf, _⟩ := fs.at' i hin
            by_cases hz : ∃ e ∈ oi.after, Region.binds .any e = true ∧ li.getD e.on false = false
            · obtain ⟨e, he, hbd, hue⟩ := hz
              have := hbf e he hbd
              exact ihd e.on (by omega) (by omega) hue
            · refine ⟨i, mem_ready.2 ⟨getD_in (sz i hin) hu, oi, ho, fun e he hbd => ?_⟩⟩
              cases hx : li.getD e.on false with
              | true => rfl
              | false => exact absurd ⟨e, he, hbd, hx⟩ hz
        obtain ⟨j, hj⟩ := this i0 i0 (Nat.le_refl _) hi0 hu0
        exact List.ne_nil_of_mem hj
      rw [show f + 1 + (l.toArray.size - n) = f + (l.toArray.size - n) + 1 by omega]
      refine ⟨fun e => absurd e hsome, fun i hi => ?_⟩
      have hin := hall i hi
      obtain ⟨hun, o, ho, hdep⟩ := mem_ready.1 hi
      obtain ⟨o2, ho2, hbf, hrd⟩ := fs.at' i hin
      obtain rfl : o2 = o := by rw [ho] at ho2; exact (Option.some.inj ho2).symm
      have hlo : l[i]? = some o2 := by simpa using ho
      have hstep := hS i o2 hin hlo s w1 hb (fun k hk => by
        obtain ⟨oj, hoj, e, he, hbd, hon⟩ := Region.waitsFor_spec hk
        obtain rfl : oj = o2 := by rw [ho] at hoj; exact (Option.some.inj hoj).symm
        exact hfa k (by rw [← hon]; exact hdep e he hbd))
      have hexec : execOp (lay (fun j => li.getD j false) s (l.take n) 0 a).eval o2 = execOp (lay all1 s (l.take n) 0 a).eval o2 := by
        refine execOp_congr o2 (fun cs b => Region.noSelect_spec hsel i o2 cs b ho) (fun x hx => lay_eval _ _ _ _ rfl rfl (fun j oj hj d hd hxd => ?_))
        have hj' : j < n := by have := (List.getElem?_eq_some_iff.1 hj).1; simp at this; omega
        rw [tk j hj'] at hj
        have hlook : d ∈ o2.looksAt l.toArray := by
          subst hxd
          exact List.mem_append_left _ (List.mem_filterMap.2 ⟨.tmp d, by simpa using hx, rfl⟩)
        have hw := (hrd j oj d hj' (by simpa using hj) hd).1 hlook
        obtain ⟨oj2, hoj2, e, he, hbd, hon⟩ := Region.waitsFor_spec hw
        obtain rfl : oj2 = o2 := by rw [ho] at hoj2; exact (Option.some.inj hoj2).symm
        rw [Nat.zero_add, ← hon]
        exact hdep e he hbd
      have hnext : ∀ v w2, Below w1.heap.size w1 w2 ∧ F i v w2 → wpAny P .any l.toArray Q (f + (l.toArray.size - n)) (li.setIfInBounds i true) ((lay (fun j => li.getD j false) s (l.take n) 0 a).put o2.dst v) w2 := by
        intro v w2 ⟨hb2, hfi⟩
        rw [lay_more (getD_both hun) (l.take n) 0 a (Nat.zero_le _) (by rw [Nat.sub_zero, tk i hin]; exact hlo) hdist]
        have e2 : upd (fun j => li.getD j false) i true = fun j => (li.setIfInBounds i true).getD j false := funext fun k => (getD_upd (sz i hin)).symm
        rw [e2]
        refine ih _ _ w2 (inv.set hi hin) ?_ (hb.trans (hb2.mono hb.size)) (fun k hk => ?_)
        · have e3 : (List.range n).filter (fun j => !(li.setIfInBounds i true).getD j false) = ((List.range n).filter (fun j => !li.getD j false)).erase i := by
            have nd : ((List.range n).filter (fun j => !li.getD j false)).Nodup := List.Pairwise.filter _ List.nodup_range
            rw [nd.erase_eq_filter, List.filter_filter]
            refine List.filter_congr (fun j hj => ?_)
            rw [getD_upd (sz i hin)]
            unfold upd
            by_cases e : j = i
            · subst e; simp
            · simp [e]
          rw [e3, List.length_erase_of_mem (List.mem_filter.2 ⟨List.mem_range.2 hin, by rw [getD_both hun]; rfl⟩), hf]
          rfl
        · rw [getD_upd (sz i hin)] at hk
          unfold upd at hk ⊢
          by_cases e : k = i
          · subst e; simpa using hfi
          · rw [if_neg e] at hk ⊢
            exact hF k _ w1 w2 (hfa k hk) hb2
      have hwant : Region.wanted o2 (yielded l.toArray (lay (fun j => li.getD j false) s (l.take n) 0 a).tmps) = Region.wanted o2 (yielded l.toArray (lay all1 s (l.take n) 0 a).tmps) := by
        unfold Region.wanted
        cases hgd : o2.guard with
        | none => rfl
        | some g =>
          obtain ⟨g, b⟩ := g
          dsimp only
          rw [yielded_eval, yielded_eval]
          cases hd : (l.toArray[g]?).bind (·.dst) with
          | none => rfl
          | some d =>
            dsimp only
            have hlook : d ∈ o2.looksAt l.toArray := by
              unfold Oper.looksAt
              refine List.mem_append_right _ ?_
              rw [hgd]
              dsimp only
              rw [hd]
              simp
            have := lay_eval (li := fun j => li.getD j false) (s := s) (x := .tmp d) (l.take n) 0 a a rfl rfl (fun j oj hj d' hd' hxd => by
              injection hxd with hxd
              subst hxd
              have hj' : j < n := by have := (List.getElem?_eq_some_iff.1 hj).1; simp at this; omega
              rw [tk j hj'] at hj
              have hw := (hrd j oj d hj' (by simpa using hj) hd').1 hlook
              obtain ⟨oj2, hoj2, e, he, hbd, hon⟩ := Region.waitsFor_spec hw
              obtain rfl : oj2 = o2 := by rw [ho] at hoj2; exact (Option.some.inj hoj2).symm
              rw [Nat.zero_add, ← hon]
              exact hdep e he hbd)
            rw [this]
      unfold wpOp
      rw [ho]
      dsimp only
      unfold landsG at hstep
      rw [← hwant] at hstep
      by_cases hwd : Region.wanted o2 (yielded l.toArray (lay (fun j => li.getD j false) s (l.take n) 0 a).tmps) = true
      case neg =>
        rw [if_neg hwd] at hstep
        rw [if_neg hwd]
        exact hnext undef w1 hstep
      rw [if_pos hwd] at hstep
      rw [if_pos hwd]
      refine .inl ?_
      unfold Oper.wp
      unfold lands at hstep
      rw [hexec]
      generalize (execOp (lay all1 s (l.take n) 0 a).eval o2).run P w1 = r at hstep
      cases r with
      | ok nx w' =>
        cases nx <;> simp only at hstep <;> simp only [Oper.upon]
        case value v => exact hnext v w' hstep
        case skip => exact hnext undef w' hstep
        case enter f' args =>
          exact hstep.mono (fun e w'' ⟨v, he, hk⟩ => by subst he; exact hnext v w'' hk)
      | halt x w' => cases x <;> simp only at hstep
  refine wp_region_any hm ?_
  have inv0 : HeadInv .any l.toArray n (Array.replicate l.toArray.size false) := ⟨by simp, fun j oj _ hl => (by rw [getD_replicate_false] at hl; cases hl), fun t _ ht => getD_in (by simpa using ht) (getD_replicate_false _ _)⟩
  have := key n (Array.replicate l.toArray.size false) (fun _ => undef) { w with drawn := w.drawn + 1 } inv0 (by
    rw [List.filter_eq_self.2 (fun x _ => by rw [getD_replicate_false]; rfl)]; simp) (Below.refl w.heap.size w).drew (fun k hk => by rw [getD_replicate_false] at hk; cases hk)
  have e0 : lay (fun j => (Array.replicate l.toArray.size false).getD j false) (fun _ => undef) (l.take n) 0 a = a := by
    have : ∀ (l' : List Oper) (k : Nat) (a' : Act), lay (fun j => (Array.replicate l.toArray.size false).getD j false) (fun _ => undef) l' k a' = a' := by
      intro l'
      induction l' with
      | nil => intro k a'; rfl
      | cons o l' ih => intro k a'; unfold lay; rw [getD_replicate_false, if_neg (by simp)]; exact ih _ _
    exact this _ _ _
  rw [e0, show n + (l.toArray.size - n) = l.toArray.size by omega] at this
  exact this
/-- the same, each operation in a frame of which only what it needs is known -/
theorem facts2 {id : Nat} {Q : Exit → Act → World → Prop} {a : Act} {w : World} {l : List Oper} (n : Nat) (hm : P.follows .mixedOrders = true) (hfb : factB l.toArray n = true)
    (F : Nat → Value → World → Prop) (hF : ∀ i v w1 w2, F i v w1 → Below w1.heap.size w1 w2 → F i v w2)
    (hS : ∀ i o, i < n → l[i]? = some o → ∀ (s : Nat → Value) (A : Act) (w1 : World), Below w.heap.size w w1 → (∀ k, Region.waitsFor .any l.toArray i k = true → F k (s k) w1) →
      (∀ k ok t, k < n → l[k]? = some ok → ok.dst = some t → t < a.tmps.size → A.eval (.tmp t) = s k) → (∀ t, (l.take n).all (fun ok => ok.dst != some t) = true → A.eval (.tmp t) = a.eval (.tmp t)) →
      landsG P l.toArray o A w1 (fun v w2 => Below w1.heap.size w1 w2 ∧ F i v w2))
    (hQ : ∀ s w1, Below w.heap.size w w1 → (∀ k, k < n → F k (s k) w1) → wpList P l.toArray Q (l.drop n) (lay all1 s (l.take n) 0 a) w1) : (Code.region id l.toArray true).wp P Q a w := by
  have fs := factS hfb
  have tk : ∀ i, i < n → (l.take n)[i]? = l[i]? := fun i hi => by rw [List.getElem?_take, if_pos hi]
  have hdist : ∀ (x y : Nat) (ox oy : Oper), (l.take n)[x]? = some ox → (l.take n)[y]? = some oy → x ≠ y → ∀ t, ox.dst = some t → oy.dst ≠ some t := by
    intro x y ox oy hx hy hne t ht
    have hx' : x < n := by have := (List.getElem?_eq_some_iff.1 hx).1; simp at this; omega
    have hy' : y < n := by have := (List.getElem?_eq_some_iff.1 hy).1; simp at this; omega
    obtain ⟨o2, e2, _, h2⟩ := fs.at' y hy'
    rw [tk y hy'] at hy
    rw [tk x hx'] at hx
    have e3 : l.toArray[y]? = some oy := by simpa using hy
    obtain rfl : o2 = oy := by rw [e2] at e3; exact Option.some.inj e3
    exact (h2 x ox t hx' (by simpa using hx) ht).2 (Ne.symm hne)
  refine facts n hm hfb F hF (fun i o hi ho s w1 hb hk => hS i o hi ho s _ w1 hb hk (fun k ok t hk' hok ht hz => ?_) (fun t ht => lay_old _ _ _ (fun ok hok => by simpa using List.all_eq_true.1 ht ok hok))) hQ
  have := lay_at (s := s) (l.take n) 0 a k ok (by rw [tk k hk']; exact hok) ht hdist hz
  rwa [Nat.zero_add] at this
end Qg
end Go.Proofs.Ytflbhlepmjiejaa

/- As Qg, where what stays from operation to operation is told by a relation of one's own. -/
namespace Go.Proofs.Ytflbhlepmjiejaa
namespace Qh
open Go.RowKit Qf Qg
set_option linter.unusedVariables false
variable {P : Program}
theorem facts {id : Nat} {Q : Exit → Act → World → Prop} {a : Act} {w : World} {l : List Oper} (R : World → World → Prop) (hT : ∀ a b c, R a b → R b c → R a c) (n : Nat) (h0 : R w { w with drawn := w.drawn + 1 }) (hm : P.follows .mixedOrders = true) (hfb : Qg.factB l.toArray n = true)
    (F : Nat → Value → World → Prop) (hF : ∀ i v w1 w2, F i v w1 → R w1 w2 → F i v w2)
    (hS : ∀ i o, i < n → l[i]? = some o → ∀ s w1, R w w1 → (∀ k, Region.waitsFor .any l.toArray i k = true → F k (s k) w1) → landsG P l.toArray o (lay all1 s (l.take n) 0 a) w1 (fun v w2 => R w1 w2 ∧ F i v w2))
    (hQ : ∀ s w1, R w w1 → (∀ k, k < n → F k (s k) w1) → wpList P l.toArray Q (l.drop n) (lay all1 s (l.take n) 0 a) w1) : (Code.region id l.toArray true).wp P Q a w := by
  have fs := Qg.factS hfb
  obtain ⟨hsel, hn, hs, hc⟩ := fs.text
  have hn' : n < l.length := by simpa using hn
  have hdl : (l.drop n).length = l.toArray.size - n := by simp
  have tk : ∀ i, i < n → (l.take n)[i]? = l[i]? := fun i hi => by rw [List.getElem?_take, if_pos hi]
  have hdist : ∀ (x y : Nat) (ox oy : Oper), (l.take n)[x]? = some ox → (l.take n)[y]? = some oy → x ≠ y → ∀ t, ox.dst = some t → oy.dst ≠ some t := by
    intro x y ox oy hx hy hne t ht
    have hx' : x < n := by have := (List.getElem?_eq_some_iff.1 hx).1; simp at this; omega
    have hy' : y < n := by have := (List.getElem?_eq_some_iff.1 hy).1; simp at this; omega
    obtain ⟨o2, e2, _, h2⟩ := fs.at' y hy'
    rw [tk y hy'] at hy
    rw [tk x hx'] at hx
    have : o2 = oy := by have e3 : l.toArray[y]? = some oy := by simpa using hy
                         rw [e2] at e3; exact Option.some.inj e3
    subst this
    exact (h2 x ox t hx' (by simpa using hx) ht).2 (Ne.symm hne)
  have key : ∀ (f : Nat) (li : Array Bool) (s : Nat → Value) (w1 : World), HeadInv .any l.toArray n li → ((List.range n).filter (fun i => !li.getD i false)).length = f → R w w1 →
      (∀ k, li.getD k false = true → F k (s k) w1) → wpAny P .any l.toArray Q (f + (l.toArray.size - n)) li (lay (fun j => li.getD j false) s (l.take n) 0 a) w1 := by
    intro f
    induction f with
    | zero =>
      intro li s w1 inv hf hb hfa
      have hli : ∀ k, k < n → li.getD k false = true := fun k hk => by
        have := List.filter_eq_nil_iff.1 (List.length_eq_zero_iff.1 hf) k (List.mem_range.2 hk)
        simpa using this
      have el : li = Array.replicate n true ++ Array.replicate (l.toArray.size - n) false := by
        apply Array.ext
        · rw [inv.size]; simp; omega
        · intro k h1 h2
          by_cases hk : k < n
          · have := hli k hk
            rw [Array.getElem_append_left (by simpa using hk)]
            simp [h1] at this
            simp [this]
          · have hk2 : k < l.toArray.size := by rw [← inv.size]; exact h1
            have := inv.tail k (by omega) hk2
            rw [Array.getElem_append_right (by simp; omega)]
            simp [h1] at this
            simp [this]
      rw [Nat.zero_add, ← hdl]
      have e1 : lay (fun j => li.getD j false) s (l.take n) 0 a = lay all1 s (l.take n) 0 a := by
        have : ∀ (l' : List Oper) (k : Nat) (a' : Act), k + l'.length ≤ n → lay (fun j => li.getD j false) s l' k a' = lay all1 s l' k a' := by
          intro l'
          induction l' with
          | nil => intro k a' _; rfl
          | cons o l' ih =>
            intro k a' hk
            simp only [List.length_cons] at hk
            unfold lay
            rw [hli k (by omega), ih (k + 1) _ (by omega)]
            rfl
        exact this _ _ _ (by simp; omega)
      rw [e1]
      refine wpAny_of_seq (l.drop n) n li _ w1 (fun j => by simp [List.getElem?_drop]) ?_ (hQ s w1 hb (fun k hk => hfa k (hli k hk)))
      rw [hdl, el]; exact fs.seq
    | succ f ih =>
      intro li s w1 inv hf hb hfa
      have hex : ∃ i, i < n ∧ li.getD i false = false := by
        have hne : (List.range n).filter (fun i => !li.getD i false) ≠ [] := fun e => by rw [e] at hf; simp at hf
        obtain ⟨x, hx⟩ := List.exists_mem_of_ne_nil _ hne
        obtain ⟨h1, h2⟩ := List.mem_filter.1 hx
        exact ⟨x, List.mem_range.1 h1, by simpa using h2⟩
      obtain ⟨i0, hi0, hu0⟩ := hex
      have sz : ∀ i, i < n → i < li.size := fun i hi => by rw [inv.size]; simp; omega
      have hall : ∀ j ∈ Region.ready .any l.toArray li, j < n := fun j hj => Nat.lt_of_not_le fun h => absurd hj (tail_waits hs hc hn inv _ i0 rfl hi0 (getD_in (sz i0 hi0) hu0) j h)
      have hsome : Region.ready .any l.toArray li ≠ [] := by
        have : ∀ d i, i ≤ d → i < n → li.getD i false = false → ∃ j, j ∈ Region.ready .any l.toArray li := by
          intro d
          induction d with
          | zero =>
            intro i hi hin hu
            obtain rfl : i = 0 := by omega
            obtain ⟨oi, ho, hbf, _⟩ := fs.at' 0 hin
            exact ⟨0, mem_ready.2 ⟨getD_in (sz 0 hin) hu, oi, ho, fun e he hbd => absurd (hbf e he hbd) (by omega)⟩⟩
          | succ d ihd =>
            intro i hi hin hu
            obtain ⟨oi, ho, hbf, _⟩ := fs.at' i hin
            by_cases hz : ∃ e ∈ oi.after, Region.binds .any e = true ∧ li.getD e.on false = false
            · obtain ⟨e, he, hbd, hue⟩ := hz
              have := hbf e he hbd
              exact ihd e.on (by omega) (by omega) hue
            · refine ⟨i, mem_ready.2 ⟨getD_in (sz i hin) hu, oi, ho, fun e he hbd => ?_⟩⟩
              cases hx : li.getD e.on false with
              | true => rfl
              | false => exact absurd ⟨e, he, hbd, hx⟩ hz
        obtain ⟨j, hj⟩ := this i0 i0 (Nat.le_refl _) hi0 hu0
        exact List.ne_nil_of_mem hj
      rw [show f + 1 + (l.toArray.size - n) = f + (l.toArray.size - n) + 1 by omega]
      refine ⟨fun e => absurd e hsome, fun i hi => ?_⟩
      have hin := hall i hi
      obtain ⟨hun, o, ho, hdep⟩ := mem_ready.1 hi
      obtain ⟨o2, ho2, hbf, hrd⟩ := fs.at' i hin
      obtain rfl : o2 = o := by rw [ho] at ho2; exact (Option.some.inj ho2).symm
      have hlo : l[i]? = some o2 := by simpa using ho
      have hstep := hS i o2 hin hlo s w1 hb (fun k hk => by
        obtain ⟨oj, hoj, e, he, hbd, hon⟩ := Region.waitsFor_spec hk
        obtain rfl : oj = o2 := by rw [ho] at hoj; exact (Option.some.inj hoj).symm
        exact hfa k (by rw [← hon]; exact hdep e he hbd))
      have hexec : execOp (lay (fun j => li.getD j false) s (l.take n) 0 a).eval o2 = execOp (lay all1 s (l.take n) 0 a).eval o2 := by
        refine execOp_congr o2 (fun cs b => Region.noSelect_spec hsel i o2 cs b ho) (fun x hx => lay_eval _ _ _ _ rfl rfl (fun j oj hj d hd hxd => ?_))
        have hj' : j < n := by have := (List.getElem?_eq_some_iff.1 hj).1; simp at this; omega
        rw [tk j hj'] at hj
        have hlook : d ∈ o2.looksAt l.toArray := by
          subst hxd
          exact List.mem_append_left _ (List.mem_filterMap.2 ⟨.tmp d, by simpa using hx, rfl⟩)
        have hw := (hrd j oj d hj' (by simpa using hj) hd).1 hlook
        obtain ⟨oj2, hoj2, e, he, hbd, hon⟩ := Region.waitsFor_spec hw
        obtain rfl : oj2 = o2 := by rw [ho] at hoj2; exact (Option.some.inj hoj2).symm
        rw [Nat.zero_add, ← hon]
        exact hdep e he hbd
      have hnext : ∀ v w2, R w1 w2 ∧ F i v w2 → wpAny P .any l.toArray Q (f + (l.toArray.size - n)) (li.setIfInBounds i true) ((lay (fun j => li.getD j false) s (l.take n) 0 a).put o2.dst v) w2 := by
        intro v w2 ⟨hb2, hfi⟩
        rw [lay_more (getD_both hun) (l.take n) 0 a (Nat.zero_le _) (by rw [Nat.sub_zero, tk i hin]; exact hlo) hdist]
        have e2 : upd (fun j => li.getD j false) i true = fun j => (li.setIfInBounds i true).getD j false := funext fun k => (getD_upd (sz i hin)).symm
        rw [e2]
        refine ih _ _ w2 (inv.set hi hin) ?_ (hT _ _ _ hb hb2) (fun k hk => ?_)
        · have e3 : (List.range n).filter (fun j => !(li.setIfInBounds i true).getD j false) = ((List.range n).filter (fun j => !li.getD j false)).erase i := by
            have nd : ((List.range n).filter (fun j => !li.getD j false)).Nodup := List.Pairwise.filter _ List.nodup_range
            rw [nd.erase_eq_filter, List.filter_filter]
            refine List.filter_congr (fun j hj => ?_)
            rw [getD_upd (sz i hin)]
            unfold upd
            by_cases e : j = i
            · subst e; simp
            · simp [e]
          rw [e3, List.length_erase_of_mem (List.mem_filter.2 ⟨List.mem_range.2 hin, by rw [getD_both hun]; rfl⟩), hf]
          rfl
        · rw [getD_upd (sz i hin)] at hk
          unfold upd at hk ⊢
          by_cases e : k = i
          · subst e; simpa using hfi
          · rw [if_neg e] at hk ⊢
            exact hF k _ w1 w2 (hfa k hk) hb2
      have hwant : Region.wanted o2 (yielded l.toArray (lay (fun j => li.getD j false) s (l.take n) 0 a).tmps) = Region.wanted o2 (yielded l.toArray (lay all1 s (l.take n) 0 a).tmps) := by
        unfold Region.wanted
        cases hgd : o2.guard with
        | none => rfl
        | some g =>
          obtain ⟨g, b⟩ := g
          dsimp only
          rw [yielded_eval, yielded_eval]
          cases hd : (l.toArray[g]?).bind (·.dst) with
          | none => rfl
          | some d =>
            dsimp only
            have hlook : d ∈ o2.looksAt l.toArray := by
              unfold Oper.looksAt
              refine List.mem_append_right _ ?_
              rw [hgd]
              dsimp only
              rw [hd]
              simp
            have := lay_eval (li := fun j => li.getD j false) (s := s) (x := .tmp d) (l.take n) 0 a a rfl rfl (fun j oj hj d' hd' hxd => by
              injection hxd with hxd
              subst hxd
              have hj' : j < n := by have := (List.getElem?_eq_some_iff.1 hj).1; simp at this; omega
              rw [tk j hj'] at hj
              have hw := (hrd j oj d hj' (by simpa using hj) hd').1 hlook
              obtain ⟨oj2, hoj2, e, he, hbd, hon⟩ := Region.waitsFor_spec hw
              obtain rfl : oj2 = o2 := by rw [ho] at hoj2; exact (Option.some.inj hoj2).symm
              rw [Nat.zero_add, ← hon]
              exact hdep e he hbd)
            rw [this]
      unfold wpOp
      rw [ho]
      dsimp only
      unfold landsG at hstep
      rw [← hwant] at hstep
      by_cases hwd : Region.wanted o2 (yielded l.toArray (lay (fun j => li.getD j false) s (l.take n) 0 a).tmps) = true
      case neg =>
        rw [if_neg hwd] at hstep
        rw [if_neg hwd]
        exact hnext undef w1 hstep
      rw [if_pos hwd] at hstep
      rw [if_pos hwd]
      refine .inl ?_
      unfold Oper.wp
      unfold lands at hstep
      rw [hexec]
      generalize (execOp (lay all1 s (l.take n) 0 a).eval o2).run P w1 = r at hstep
      cases r with
      | ok nx w' =>
        cases nx <;> simp only at hstep <;> simp only [Oper.upon]
        case value v => exact hnext v w' hstep
        case skip => exact hnext undef w' hstep
        case enter f' args =>
          exact hstep.mono (fun e w'' ⟨v, he, hk⟩ => by subst he; exact hnext v w'' hk)
      | halt x w' => cases x <;> simp only at hstep
  refine wp_region_any hm ?_
  have inv0 : HeadInv .any l.toArray n (Array.replicate l.toArray.size false) := ⟨by simp, fun j oj _ hl => (by rw [getD_replicate_false] at hl; cases hl), fun t _ ht => getD_in (by simpa using ht) (getD_replicate_false _ _)⟩
  have := key n (Array.replicate l.toArray.size false) (fun _ => undef) { w with drawn := w.drawn + 1 } inv0 (by
    rw [List.filter_eq_self.2 (fun x _ => by rw [getD_replicate_false]; rfl)]; simp) h0 (fun k hk => by rw [getD_replicate_false] at hk; cases hk)
  have e0 : lay (fun j => (Array.replicate l.toArray.size false).getD j false) (fun _ => undef) (l.take n) 0 a = a := by
    have : ∀ (l' : List Oper) (k : Nat) (a' : Act), lay (fun j => (Array.replicate l.toArray.size false).getD j false) (fun _ => undef) l' k a' = a' := by
      intro l'
      induction l' with
      | nil => intro k a'; rfl
      | cons o l' ih => intro k a'; unfold lay; rw [getD_replicate_false, if_neg (by simp)]; exact ih _ _
    exact this _ _ _
  rw [e0, show n + (l.toArray.size - n) = l.toArray.size by omega] at this
  exact this
/-- the same, each operation in a frame of which only what it needs is known -/
theorem facts2 {id : Nat} {Q : Exit → Act → World → Prop} {a : Act} {w : World} {l : List Oper} (R : World → World → Prop) (hT : ∀ a b c, R a b → R b c → R a c) (n : Nat) (h0 : R w { w with drawn := w.drawn + 1 }) (hm : P.follows .mixedOrders = true) (hfb : Qg.factB l.toArray n = true)
    (F : Nat → Value → World → Prop) (hF : ∀ i v w1 w2, F i v w1 → R w1 w2 → F i v w2)
    (hS : ∀ i o, i < n → l[i]? = some o → ∀ (s : Nat → Value) (A : Act) (w1 : World), R w w1 → (∀ k, Region.waitsFor .any l.toArray i k = true → F k (s k) w1) →
      (∀ k ok t, k < n → l[k]? = some ok → ok.dst = some t → t < a.tmps.size → A.eval (.tmp t) = s k) → (∀ t, (l.take n).all (fun ok => ok.dst != some t) = true → A.eval (.tmp t) = a.eval (.tmp t)) →
      landsG P l.toArray o A w1 (fun v w2 => R w1 w2 ∧ F i v w2))
    (hQ : ∀ s w1, R w w1 → (∀ k, k < n → F k (s k) w1) → wpList P l.toArray Q (l.drop n) (lay all1 s (l.take n) 0 a) w1) : (Code.region id l.toArray true).wp P Q a w := by
  have fs := Qg.factS hfb
  have tk : ∀ i, i < n → (l.take n)[i]? = l[i]? := fun i hi => by rw [List.getElem?_take, if_pos hi]
  have hdist : ∀ (x y : Nat) (ox oy : Oper), (l.take n)[x]? = some ox → (l.take n)[y]? = some oy → x ≠ y → ∀ t, ox.dst = some t → oy.dst ≠ some t := by
    intro x y ox oy hx hy hne t ht
    have hx' : x < n := by have := (List.getElem?_eq_some_iff.1 hx).1; simp at this; omega
    have hy' : y < n := by have := (List.getElem?_eq_some_iff.1 hy).1; simp at this; omega
    obtain ⟨o2, e2, _, h2⟩ := fs.at' y hy'
    rw [tk y hy'] at hy
    rw [tk x hx'] at hx
    have e3 : l.toArray[y]? = some oy := by simpa using hy
    obtain rfl : o2 = oy := by rw [e2] at e3; exact Option.some.inj e3
    exact (h2 x ox t hx' (by simpa using hx) ht).2 (Ne.symm hne)
  refine Qh.facts R hT n h0 hm hfb F hF (fun i o hi ho s w1 hb hk => hS i o hi ho s _ w1 hb hk (fun k ok t hk' hok ht hz => ?_) (fun t ht => lay_old _ _ _ (fun ok hok => by simpa using List.all_eq_true.1 ht ok hok))) hQ
  have := lay_at (s := s) (l.take n) 0 a k ok (by rw [tk k hk']; exact hok) ht hdist hz
  rwa [Nat.zero_add] at this
end Qh
end Go.Proofs.Ytflbhlepmjiejaa

/- As Qh and Qj: a fact may speak of the operations that were waited for, and each operation has a relation of its own, under which the others' facts stay. -/
namespace Go.Proofs.Ytflbhlepmjiejaa
namespace Qk
open Go.RowKit Qf Qg Qh
set_option linter.unusedVariables false
variable {P : Program}
theorem factsG {id : Nat} {Q : Exit → Act → World → Prop} {a : Act} {w : World} {l : List Oper} (R : World → World → Prop) (hT : ∀ a b c, R a b → R b c → R a c) (n : Nat) (h0 : R w { w with drawn := w.drawn + 1 }) (hm : P.follows .mixedOrders = true) (hfb : Qg.factB l.toArray n = true)
    (G : Nat → World → World → Prop) (F : Nat → (Nat → Value) → World → Prop) (hL : ∀ i s s' w1, (∀ j, (j = i ∨ Region.waitsFor .any l.toArray i j = true) → s j = s' j) → F i s w1 → F i s' w1) (hF : ∀ i k s w1 w2, i ≠ k → k < n → F i s w1 → R w1 w2 → G k w1 w2 → F i s w2)
    (hS : ∀ i o, i < n → l[i]? = some o → ∀ s w1, R w w1 → (∀ k, Region.waitsFor .any l.toArray i k = true → F k s w1) → landsG P l.toArray o (lay all1 s (l.take n) 0 a) w1 (fun v w2 => R w1 w2 ∧ G i w1 w2 ∧ F i (upd s i v) w2))
    (hQ : ∀ s w1, R w w1 → (∀ k, k < n → F k s w1) → wpList P l.toArray Q (l.drop n) (lay all1 s (l.take n) 0 a) w1) : (Code.region id l.toArray true).wp P Q a w := by
  have fs := Qg.factS hfb
  obtain ⟨hsel, hn, hs, hc⟩ := fs.text
  have hn' : n < l.length := by simpa using hn
  have hdl : (l.drop n).length = l.toArray.size - n := by simp
  have tk : ∀ i, i < n → (l.take n)[i]? = l[i]? := fun i hi => by rw [List.getElem?_take, if_pos hi]
  have hdist : ∀ (x y : Nat) (ox oy : Oper), (l.take n)[x]? = some ox → (l.take n)[y]? = some oy → x ≠ y → ∀ t, ox.dst = some t → oy.dst ≠ some t := by
    intro x y ox oy hx hy hne t ht
    have hx' : x < n := by have := (List.getElem?_eq_some_iff.1 hx).1; simp at this; omega
    have hy' : y < n := by have := (List.getElem?_eq_some_iff.1 hy).1; simp at this; omega
    obtain ⟨o2, e2, _, h2⟩ := fs.at' y hy'
    rw [tk y hy'] at hy
    rw [tk x hx'] at hx
    have : o2 = oy := by have e3 : l.toArray[y]? = some oy := by simpa using hy
                         rw [e2] at e3; exact Option.some.inj e3
    subst this
    exact (h2 x ox t hx' (by simpa using hx) ht).2 (Ne.symm hne)
  have key : ∀ (f : Nat) (li : Array Bool) (s : Nat → Value) (w1 : World), HeadInv .any l.toArray n li → ((List.range n).filter (fun i => !li.getD i false)).length = f → R w w1 →
      (∀ k, li.getD k false = true → F k s w1) → wpAny P .any l.toArray Q (f + (l.toArray.size - n)) li (lay (fun j => li.getD j false) s (l.take n) 0 a) w1 := by
    intro f
    induction f with
    | zero =>
      intro li s w1 inv hf hb hfa
      have hli : ∀ k, k < n → li.getD k false = true := fun k hk => by
        have := List.filter_eq_nil_iff.1 (List.length_eq_zero_iff.1 hf) k (List.mem_range.2 hk)
        simpa using this
      have el : li = Array.replicate n true ++ Array.replicate (l.toArray.size - n) false := by
        apply Array.ext
        · rw [inv.size]; simp; omega
        · intro k h1 h2
          by_cases hk : k < n
          · have := hli k hk
            rw [Array.getElem_append_left (by simpa using hk)]
            simp [h1] at this
            simp [this]
          · have hk2 : k < l.toArray.size := by rw [← inv.size]; exact h1
            have := inv.tail k (by omega) hk2
            rw [Array.getElem_append_right (by simp; omega)]
            simp [h1] at this
            simp [this]
      rw [Nat.zero_add, ← hdl]
      have e1 : lay (fun j => li.getD j false) s (l.take n) 0 a = lay all1 s (l.take n) 0 a := by
        have : ∀ (l' : List Oper) (k : Nat) (a' : Act), k + l'.length ≤ n → lay (fun j => li.getD j false) s l' k a' = lay all1 s l' k a' := by
          intro l'
          induction l' with
          | nil => intro k a' _; rfl
          | cons o l' ih =>
            intro k a' hk
            simp only [List.length_cons] at hk
            unfold lay
            rw [hli k (by omega), ih (k + 1) _ (by omega)]
            rfl
        exact this _ _ _ (by simp; omega)
      rw [e1]
      refine wpAny_of_seq (l.drop n) n li _ w1 (fun j => by simp [List.getElem?_drop]) ?_ (hQ s w1 hb (fun k hk => hfa k (hli k hk)))
      rw [hdl, el]; exact fs.seq
    | succ f ih =>
      intro li s w1 inv hf hb hfa
      have hex : ∃ i, i < n ∧ li.getD i false = false := by
        have hne : (List.range n).filter (fun i => !li.getD i false) ≠ [] := fun e => by rw [e] at hf; simp at hf
        obtain ⟨x, hx⟩ := List.exists_mem_of_ne_nil _ hne
        obtain ⟨h1, h2⟩ := List.mem_filter.1 hx
        exact ⟨x, List.mem_range.1 h1, by simpa using h2⟩
      obtain ⟨i0, hi0, hu0⟩ := hex
      have sz : ∀ i, i < n → i < li.size := fun i hi => by rw [inv.size]; simp; omega
      have hall : ∀ j ∈ Region.ready .any l.toArray li, j < n := fun j hj => Nat.lt_of_not_le fun h => absurd hj (tail_waits hs hc hn inv _ i0 rfl hi0 (getD_in (sz i0 hi0) hu0) j h)
      have hsome : Region.ready .any l.toArray li ≠ [] := by
        have : ∀ d i, i ≤ d → i < n → li.getD i false = false → ∃ j, j ∈ Region.ready .any l.toArray li := by
          intro d
          induction d with
          | zero =>
            intro i hi hin hu
            obtain rfl : i = 0 := by omega
            obtain ⟨oi, ho, hbf, _⟩ := fs.at' 0 hin
            exact ⟨0, mem_ready.2 ⟨getD_in (sz 0 hin) hu, oi, ho, fun e he hbd => absurd (hbf e he hbd) (by omega)⟩⟩
          | succ d ihd =>
            intro i hi hin hu
            obtain ⟨oi, ho, hbf, _⟩ := fs.at' i hin
            by_cases hz : ∃ e ∈ oi.after, Region.binds .any e = true ∧ li.getD e.on false = false
            · obtain ⟨e, he, hbd, hue⟩ := hz
              have := hbf e he hbd
              exact ihd e.on (by omega) (by omega) hue
            · refine ⟨i, mem_ready.2 ⟨getD_in (sz i hin) hu, oi, ho, fun e he hbd => ?_⟩⟩
              cases hx : li.getD e.on false with
              | true => rfl
              | false => exact absurd ⟨e, he, hbd, hx⟩ hz
        obtain ⟨j, hj⟩ := this i0 i0 (Nat.le_refl _) hi0 hu0
        exact List.ne_nil_of_mem hj
      rw [show f + 1 + (l.toArray.size - n) = f + (l.toArray.size - n) + 1 by omega]
      refine ⟨fun e => absurd e hsome, fun i hi => ?_⟩
      have hin := hall i hi
      obtain ⟨hun, o, ho, hdep⟩ := mem_ready.1 hi
      obtain ⟨o2, ho2, hbf, hrd⟩ := fs.at' i hin
      obtain rfl : o2 = o := by rw [ho] at ho2; exact (Option.some.inj ho2).symm
      have hlo : l[i]? = some o2 := by simpa using ho
      have hstep := hS i o2 hin hlo s w1 hb (fun k hk => by
        obtain ⟨oj, hoj, e, he, hbd, hon⟩ := Region.waitsFor_spec hk
        obtain rfl : oj = o2 := by rw [ho] at hoj; exact (Option.some.inj hoj).symm
        exact hfa k (by rw [← hon]; exact hdep e he hbd))
      have hexec : execOp (lay (fun j => li.getD j false) s (l.take n) 0 a).eval o2 = execOp (lay all1 s (l.take n) 0 a).eval o2 := by
        refine execOp_congr o2 (fun cs b => Region.noSelect_spec hsel i o2 cs b ho) (fun x hx => lay_eval _ _ _ _ rfl rfl (fun j oj hj d hd hxd => ?_))
        have hj' : j < n := by have := (List.getElem?_eq_some_iff.1 hj).1; simp at this; omega
        rw [tk j hj'] at hj
        have hlook : d ∈ o2.looksAt l.toArray := by
          subst hxd
          exact List.mem_append_left _ (List.mem_filterMap.2 ⟨.tmp d, by simpa using hx, rfl⟩)
        have hw := (hrd j oj d hj' (by simpa using hj) hd).1 hlook
        obtain ⟨oj2, hoj2, e, he, hbd, hon⟩ := Region.waitsFor_spec hw
        obtain rfl : oj2 = o2 := by rw [ho] at hoj2; exact (Option.some.inj hoj2).symm
        rw [Nat.zero_add, ← hon]
        exact hdep e he hbd
      have hnext : ∀ v w2, R w1 w2 ∧ G i w1 w2 ∧ F i (upd s i v) w2 → wpAny P .any l.toArray Q (f + (l.toArray.size - n)) (li.setIfInBounds i true) ((lay (fun j => li.getD j false) s (l.take n) 0 a).put o2.dst v) w2 := by
        intro v w2 ⟨hb2, hg2, hfi⟩
        rw [lay_more (getD_both hun) (l.take n) 0 a (Nat.zero_le _) (by rw [Nat.sub_zero, tk i hin]; exact hlo) hdist]
        have e2 : upd (fun j => li.getD j false) i true = fun j => (li.setIfInBounds i true).getD j false := funext fun k => (getD_upd (sz i hin)).symm
        rw [e2]
        refine ih _ _ w2 (inv.set hi hin) ?_ (hT _ _ _ hb hb2) (fun k hk => ?_)
        · have e3 : (List.range n).filter (fun j => !(li.setIfInBounds i true).getD j false) = ((List.range n).filter (fun j => !li.getD j false)).erase i := by
            have nd : ((List.range n).filter (fun j => !li.getD j false)).Nodup := List.Pairwise.filter _ List.nodup_range
            rw [nd.erase_eq_filter, List.filter_filter]
            refine List.filter_congr (fun j hj => ?_)
            rw [getD_upd (sz i hin)]
            unfold upd
            by_cases e : j = i
            · subst e; simp
            · simp [e]
          rw [e3, List.length_erase_of_mem (List.mem_filter.2 ⟨List.mem_range.2 hin, by rw [getD_both hun]; rfl⟩), hf]
          rfl
        · rw [getD_upd (sz i hin)] at hk
          by_cases e : k = i
          · subst e; exact hfi
          · unfold upd at hk
            rw [if_neg e] at hk
            refine hF k i _ w1 w2 e hin (hL k s _ w1 (fun j hj => ?_) (hfa k hk)) hb2 hg2
            have hji : j ≠ i := by
              rcases hj with rfl | hw
              · exact e
              · rintro rfl
                obtain ⟨ok, hok, e', he', hbd, hon⟩ := Region.waitsFor_spec hw
                have := inv.closed k ok hok hk e' he' hbd
                rw [hon, getD_both hun] at this
                cases this
            unfold upd
            rw [if_neg hji]
      have hwant : Region.wanted o2 (yielded l.toArray (lay (fun j => li.getD j false) s (l.take n) 0 a).tmps) = Region.wanted o2 (yielded l.toArray (lay all1 s (l.take n) 0 a).tmps) := by
        unfold Region.wanted
        cases hgd : o2.guard with
        | none => rfl
        | some g =>
          obtain ⟨g, b⟩ := g
          dsimp only
          rw [yielded_eval, yielded_eval]
          cases hd : (l.toArray[g]?).bind (·.dst) with
          | none => rfl
          | some d =>
            dsimp only
            have hlook : d ∈ o2.looksAt l.toArray := by
              unfold Oper.looksAt
              refine List.mem_append_right _ ?_
              rw [hgd]
              dsimp only
              rw [hd]
              simp
            have := lay_eval (li := fun j => li.getD j false) (s := s) (x := .tmp d) (l.take n) 0 a a rfl rfl (fun j oj hj d' hd' hxd => by
              injection hxd with hxd
              subst hxd
              have hj' : j < n := by have := (List.getElem?_eq_some_iff.1 hj).1; simp at this; omega
              rw [tk j hj'] at hj
              have hw := (hrd j oj d hj' (by simpa using hj) hd').1 hlook
              obtain ⟨oj2, hoj2, e, he, hbd, hon⟩ := Region.waitsFor_spec hw
              obtain rfl : oj2 = o2 := by rw [ho] at hoj2; exact (Option.some.inj hoj2).symm
              rw [Nat.zero_add, ← hon]
              exact hdep e he hbd)
            rw [this]
      unfold wpOp
      rw [ho]
      dsimp only
      unfold landsG at hstep
      rw [← hwant] at hstep
      by_cases hwd : Region.wanted o2 (yielded l.toArray (lay (fun j => li.getD j false) s (l.take n) 0 a).tmps) = true
      case neg =>
        rw [if_neg hwd] at hstep
        rw [if_neg hwd]
        exact hnext undef w1 hstep
      rw [if_pos hwd] at hstep
      rw [if_pos hwd]
      refine .inl ?_
      unfold Oper.wp
      unfold lands at hstep
      rw [hexec]
      generalize (execOp (lay all1 s (l.take n) 0 a).eval o2).run P w1 = r at hstep
      cases r with
      | ok nx w' =>
        cases nx <;> simp only at hstep <;> simp only [Oper.upon]
        case value v => exact hnext v w' hstep
        case skip => exact hnext undef w' hstep
        case enter f' args =>
          exact hstep.mono (fun e w'' ⟨v, he, hk⟩ => by subst he; exact hnext v w'' hk)
      | halt x w' => cases x <;> simp only at hstep
  refine wp_region_any hm ?_
  have inv0 : HeadInv .any l.toArray n (Array.replicate l.toArray.size false) := ⟨by simp, fun j oj _ hl => (by rw [getD_replicate_false] at hl; cases hl), fun t _ ht => getD_in (by simpa using ht) (getD_replicate_false _ _)⟩
  have := key n (Array.replicate l.toArray.size false) (fun _ => undef) { w with drawn := w.drawn + 1 } inv0 (by
    rw [List.filter_eq_self.2 (fun x _ => by rw [getD_replicate_false]; rfl)]; simp) h0 (fun k hk => by rw [getD_replicate_false] at hk; cases hk)
  have e0 : lay (fun j => (Array.replicate l.toArray.size false).getD j false) (fun _ => undef) (l.take n) 0 a = a := by
    have : ∀ (l' : List Oper) (k : Nat) (a' : Act), lay (fun j => (Array.replicate l.toArray.size false).getD j false) (fun _ => undef) l' k a' = a' := by
      intro l'
      induction l' with
      | nil => intro k a'; rfl
      | cons o l' ih => intro k a'; unfold lay; rw [getD_replicate_false, if_neg (by simp)]; exact ih _ _
    exact this _ _ _
  rw [e0, show n + (l.toArray.size - n) = l.toArray.size by omega] at this
  exact this
/-- the same, each operation in a frame of which only what it needs is known -/
theorem factsG2 {id : Nat} {Q : Exit → Act → World → Prop} {a : Act} {w : World} {l : List Oper} (R : World → World → Prop) (hT : ∀ a b c, R a b → R b c → R a c) (n : Nat) (h0 : R w { w with drawn := w.drawn + 1 }) (hm : P.follows .mixedOrders = true) (hfb : Qg.factB l.toArray n = true)
    (G : Nat → World → World → Prop) (F : Nat → (Nat → Value) → World → Prop) (hL : ∀ i s s' w1, (∀ j, (j = i ∨ Region.waitsFor .any l.toArray i j = true) → s j = s' j) → F i s w1 → F i s' w1) (hF : ∀ i k s w1 w2, i ≠ k → k < n → F i s w1 → R w1 w2 → G k w1 w2 → F i s w2)
    (hS : ∀ i o, i < n → l[i]? = some o → ∀ (s : Nat → Value) (A : Act) (w1 : World), R w w1 → (∀ k, Region.waitsFor .any l.toArray i k = true → F k s w1) →
      (∀ k ok t, k < n → l[k]? = some ok → ok.dst = some t → t < a.tmps.size → A.eval (.tmp t) = s k) → (∀ t, (l.take n).all (fun ok => ok.dst != some t) = true → A.eval (.tmp t) = a.eval (.tmp t)) →
      landsG P l.toArray o A w1 (fun v w2 => R w1 w2 ∧ G i w1 w2 ∧ F i (upd s i v) w2))
    (hQ : ∀ s w1, R w w1 → (∀ k, k < n → F k s w1) → wpList P l.toArray Q (l.drop n) (lay all1 s (l.take n) 0 a) w1) : (Code.region id l.toArray true).wp P Q a w := by
  have fs := Qg.factS hfb
  have tk : ∀ i, i < n → (l.take n)[i]? = l[i]? := fun i hi => by rw [List.getElem?_take, if_pos hi]
  have hdist : ∀ (x y : Nat) (ox oy : Oper), (l.take n)[x]? = some ox → (l.take n)[y]? = some oy → x ≠ y → ∀ t, ox.dst = some t → oy.dst ≠ some t := by
    intro x y ox oy hx hy hne t ht
    have hx' : x < n := by have := (List.getElem?_eq_some_iff.1 hx).1; simp at this; omega
    have hy' : y < n := by have := (List.getElem?_eq_some_iff.1 hy).1; simp at this; omega
    obtain ⟨o2, e2, _, h2⟩ := fs.at' y hy'
    rw [tk y hy'] at hy
    rw [tk x hx'] at hx
    have e3 : l.toArray[y]? = some oy := by simpa using hy
    obtain rfl : o2 = oy := by rw [e2] at e3; exact Option.some.inj e3
    exact (h2 x ox t hx' (by simpa using hx) ht).2 (Ne.symm hne)
  refine factsG R hT n h0 hm hfb G F hL hF (fun i o hi ho s w1 hb hk => hS i o hi ho s _ w1 hb hk (fun k ok t hk' hok ht hz => ?_) (fun t ht => lay_old _ _ _ (fun ok hok => by simpa using List.all_eq_true.1 ht ok hok))) hQ
  have := lay_at (s := s) (l.take n) 0 a k ok (by rw [tk k hk']; exact hok) ht hdist hz
  rwa [Nat.zero_add] at this
end Qk
end Go.Proofs.Ytflbhlepmjiejaa

/- For the law on StepOpt: a store into a variable of six cells as an operation of a region whose order is open. -/
namespace Go.Proofs.Ytflbhlepmjiejaa
namespace Qf
open Go.RowKit
theorem lands_skip {P : Program} {o : Oper} {A : Act} {w : World} {K : Value → World → Prop} (w' : World) (he : (execOp A.eval o).run P w = .ok .skip w') (hk : K undef w') : lands P o A w K := by
  unfold lands; rw [he]; exact hk
end Qf
namespace Vo
open Go.ChangeShapes Go.WideShapes Go.ChangeAt Go.RowKit Go.Joins Go.Sort
open Vl
set_option linter.unusedVariables false
/-- of a state in a variable: its first cell is a list -/
def Ls (V : Nat → Value) : Prop := ∃ a n c, V 0 = .slice a n c
/-- some variable of six cells was written, all else lies as it lay -/
def Sto (w w' : World) : Prop := ∃ v V V', C6 w v V ∧ Ls V ∧ Kept (· = v) w w' ∧ C6 w' v V' ∧ Ls V'
theorem rw_ne {w : World} {g r v : Nat} {D : Nat → Int} {V : Nat → Value} (h : Rw w g r D) (c : C6 w v V) (l : Ls V) (hr : r ≠ 0) : g ≠ v := by
  rintro rfl
  obtain ⟨a, n, k, e⟩ := l
  have h1 := (h 0 (by omega)).1
  have h2 := c.c 0 (by omega)
  rw [e, h1] at h2
  cases h2
theorem own_na {B v n : Nat} {w : World} {p : Option Addr} {D : Nat → Int} {V : Nat → Value} (h : OwnL B w p n D) (c : C6 w v V) (l : Ls V) : ∀ k, Blk p n k → k ≠ v := by
  rintro k ⟨hn, ad, e1, e2⟩
  rcases h with h | ⟨g, hp, _, hr⟩
  · exact absurd h hn
  · rw [hp] at e1
    cases e1
    have e2 : g = k := e2
    subst e2
    exact rw_ne hr c l hn
theorem rw_sto {w w' : World} {g r : Nat} {D : Nat → Int} (h : Rw w g r D) (s : Sto w w') : Rw w' g r D := by
  obtain ⟨v, V, V', c, l, k, _⟩ := s
  by_cases hr : r = 0
  · subst hr; exact fun t ht => absurd ht (by omega)
  · exact h.kept k (rw_ne h c l hr)
theorem own_sto {B n : Nat} {w w' : World} {p : Option Addr} {D : Nat → Int} (h : OwnL B w p n D) (s : Sto w w') : OwnL B w' p n D := by
  obtain ⟨v, V, V', c, l, k, _⟩ := s
  exact h.kept k (own_na h c l)
theorem six_sto {w w' : World} {g : Nat} {V : Nat → Value} (h : C6 w g V) (l : Ls V) (s : Sto w w') : ∃ V', C6 w' g V' ∧ Ls V' := by
  obtain ⟨v, U, U', c, lu, k, c', lu'⟩ := s
  by_cases e : g = v
  · subst e; exact ⟨U', c', lu'⟩
  · exact ⟨V, h.kept k e, l⟩
theorem Sto.size {w w' : World} (s : Sto w w') : w.heap.size ≤ w'.heap.size := by
  obtain ⟨v, V, V', c, l, k, _⟩ := s
  exact k.size
theorem ls_OV (aP aF aS : Option Addr) (n cP cF cS : Nat) (cnt fac good : Int) : Ls (OV aP aF aS n cP cF cS cnt fac good) := ⟨aP, n, cP, rfl⟩
/-- what operation k does: the n-th writes a variable, the others write nothing that was there -/
def GG (n k : Nat) (w w' : World) : Prop := (k ≠ n → Below w.heap.size w w') ∧ (k = n → Sto w w')
theorem GG.rw {n k g r : Nat} {w w' : World} {D : Nat → Int} (h : GG n k w w') (q : Rw w g r D) (z : g < w.heap.size) : Rw w' g r D := by
  by_cases e : k = n
  · exact rw_sto q (h.2 e)
  · exact q.below (h.1 e) z
theorem GG.own {n k B r : Nat} {w w' : World} {p : Option Addr} {D : Nat → Int} (h : GG n k w w') (q : OwnL B w p r D) : OwnL B w' p r D := by
  by_cases e : k = n
  · exact own_sto q (h.2 e)
  · exact q.below (h.1 e)
theorem GG.six {n k g : Nat} {w w' : World} {V : Nat → Value} (h : GG n k w w') (c : C6 w g V) (l : Ls V) : ∃ V', C6 w' g V' ∧ Ls V' := by
  by_cases e : k = n
  · exact six_sto c l (h.2 e)
  · exact ⟨V, c.kept (Kept.of_below (S := fun _ => False) (h.1 e)) id, l⟩
theorem GG.six0 {n k g : Nat} {w w' : World} {V : Nat → Value} (h : GG n k w w') (e : n ≠ k) (c : C6 w g V) : C6 w' g V := c.kept (Kept.of_below (S := fun _ => False) (h.1 (Ne.symm e))) id
theorem gp {B n i : Nat} {w1 w2 : World} {Fp : Prop} (hi : i ≠ n) (hB : B ≤ w1.heap.size) (b : Below w1.heap.size w1 w2) (f : Fp) : Below B w1 w2 ∧ GG n i w1 w2 ∧ Fp := ⟨b.mono hB, ⟨fun _ => b, fun e => absurd e hi⟩, f⟩
theorem gs {B n : Nat} {w1 w2 : World} {Fp : Prop} (b : Below B w1 w2) (s : Sto w1 w2) (f : Fp) : Below B w1 w2 ∧ GG n n w1 w2 ∧ Fp := ⟨b, ⟨fun h => absurd rfl h, fun _ => s⟩, f⟩
/-- an answer in a variable: lists of one's own from block B on -/
structure Ans (B gg : Nat) (p f q : Option Addr) (m c d g : Nat) (A E C : Nat → Int) (n1 n2 n3 : Int) (Y : World) : Prop where
  k : C6 Y gg (OV p f q m c d g n1 n2 n3)
  hB : B ≤ gg
  P : OwnL B Y p m A
  F : OwnL B Y f m E
  S : OwnL B Y q m C
  pf : ∀ k k', Blk p m k → Blk f m k' → k < k'
  fs : ∀ k k', Blk f m k → Blk q m k' → k < k'
section
variable {B gg : Nat} {p f q : Option Addr} {m c d g : Nat} {A E C : Nat → Int} {n1 n2 n3 : Int} {Y Y' : World}
theorem Ans.below (h : Ans B gg p f q m c d g A E C n1 n2 n3 Y) (b : Below Y.heap.size Y Y') : Ans B gg p f q m c d g A E C n1 n2 n3 Y' :=
  ⟨h.k.kept (Kept.of_below (S := fun _ => False) b) id, h.hB, h.P.below b, h.F.below b, h.S.below b, h.pf, h.fs⟩
theorem Ans.kept {S : Nat → Prop} (h : Ans B gg p f q m c d g A E C n1 n2 n3 Y) (k : Kept S Y Y') (hs : ∀ b, S b → b < B) : Ans B gg p f q m c d g A E C n1 n2 n3 Y' :=
  ⟨h.k.kept k (fun e => by have := hs _ e; have := h.hB; omega), h.hB, h.P.kept k (fun b hb e => by have := hs _ e; have := (h.P.blk hb).1; omega), h.F.kept k (fun b hb e => by have := hs _ e; have := (h.F.blk hb).1; omega), h.S.kept k (fun b hb e => by have := hs _ e; have := (h.S.blk hb).1; omega), h.pf, h.fs⟩
end
/-- what came in, and what the model answered: it lies below block B -/
structure Pre (w : World) (B pa pb gw : Nat) (x0 x1 x2 x3 x4 x5 x6 x7 x8 x9 xa : Int) (v0 v1 v2 v3 v4 v5 : Value) (p f q : Option Addr) (m c d g : Nat) (A E C : Nat → Int) (n1 n2 n3 : Int) (Y : World) : Prop where
  bw : Below w.heap.size w Y
  z : w.heap.size ≤ B ∧ pa < B ∧ pb < B ∧ gw < B ∧ B ≤ Y.heap.size
  ka : Box11 Y pa x0 x1 x2 x3 x4 x5 x6 x7 x8 x9 xa
  kb : BoxV6 Y pb v0 v1 v2 v3 v4 v5
  kw : BoxV6 Y gw (.slice p m c) (.slice f m d) (.slice q m g) (.int .i64 n1) (.int .i64 n2) (.int .i64 n3)
  P : Ints B Y p m A
  F : Ints B Y f m E
  S : Ints B Y q m C
theorem box11_at {B p : Nat} {w w' : World} {x0 x1 x2 x3 x4 x5 x6 x7 x8 x9 xa : Int} (h : Box11 w p x0 x1 x2 x3 x4 x5 x6 x7 x8 x9 xa) (b : Below B w w') (hp : p < B) : Box11 w' p x0 x1 x2 x3 x4 x5 x6 x7 x8 x9 xa := by
  obtain ⟨hz, h0, h1, h2, h3, h4, h5, h6, h7, h8, h9, h10⟩ := h
  refine ⟨Nat.lt_of_lt_of_le hz b.size, ?_, ?_, ?_, ?_, ?_, ?_, ?_, ?_, ?_, ?_, ?_⟩ <;> rw [b.cell hp] <;> assumption
theorem boxV6_at {B p : Nat} {w w' : World} {v0 v1 v2 v3 v4 v5 : Value} (h : BoxV6 w p v0 v1 v2 v3 v4 v5) (b : Below B w w') (hp : p < B) : BoxV6 w' p v0 v1 v2 v3 v4 v5 := by
  obtain ⟨hz, h0, h1, h2, h3, h4, h5⟩ := h
  refine ⟨Nat.lt_of_lt_of_le hz b.size, ?_, ?_, ?_, ?_, ?_, ?_⟩ <;> rw [b.cell hp] <;> assumption
theorem Pre.below {w : World} {B pa pb gw : Nat} {x0 x1 x2 x3 x4 x5 x6 x7 x8 x9 xa : Int} {v0 v1 v2 v3 v4 v5 : Value} {p f q : Option Addr} {m c d g : Nat} {A E C : Nat → Int} {n1 n2 n3 : Int} {Y Y' : World} (h : Pre w B pa pb gw x0 x1 x2 x3 x4 x5 x6 x7 x8 x9 xa v0 v1 v2 v3 v4 v5 p f q m c d g A E C n1 n2 n3 Y) (b : Below B Y Y') :
    Pre w B pa pb gw x0 x1 x2 x3 x4 x5 x6 x7 x8 x9 xa v0 v1 v2 v3 v4 v5 p f q m c d g A E C n1 n2 n3 Y' := by
  obtain ⟨bw, ⟨z1, z2, z3, z4, z5⟩, ka, kb, kw, hP, hF, hS⟩ := h
  exact ⟨bw.trans (b.mono z1), ⟨z1, z2, z3, z4, Nat.le_trans z5 b.size⟩, box11_at ka b z2, boxV6_at kb b z3, boxV6_at kw b z4, hP.below b, hF.below b, hS.below b⟩
theorem Ans.box {B gg : Nat} {p f q : Option Addr} {m c d g : Nat} {A E C : Nat → Int} {n1 n2 n3 : Int} {Y : World} (h : Ans B gg p f q m c d g A E C n1 n2 n3 Y) : BoxV6 Y gg (.slice p m c) (.slice f m d) (.slice q m g) (.int .i64 n1) (.int .i64 n2) (.int .i64 n3) :=
  ⟨h.k.z, h.k.c 0 (by omega), h.k.c 1 (by omega), h.k.c 2 (by omega), h.k.c 3 (by omega), h.k.c 4 (by omega), h.k.c 5 (by omega)⟩
/-- what the program is handed: a state in a variable, its three rows and one more, between blocks B and C -/
structure Mid (B C v1 g1 g2 g3 gx r q s t : Nat) (n f o : Int) (P Q S D : Nat → Int) (Y : World) : Prop where
  k : BoxV6 Y v1 (.slice (some ⟨g1, 0, none⟩) r r) (.slice (some ⟨g2, 0, none⟩) q q) (.slice (some ⟨g3, 0, none⟩) s s) (.int .i64 n) (.int .i64 f) (.int .i64 o)
  z : B ≤ g1 ∧ g1 < g2 ∧ g2 < g3 ∧ g3 < v1 ∧ v1 < gx ∧ gx < C ∧ C ≤ Y.heap.size
  P : Rw Y g1 r P
  Q : Rw Y g2 q Q
  S : Rw Y g3 s S
  X : Rw Y gx t D
theorem Mid.below {B C v1 g1 g2 g3 gx r q s t : Nat} {n f o : Int} {P Q S D : Nat → Int} {Y Y' : World} (h : Mid B C v1 g1 g2 g3 gx r q s t n f o P Q S D Y) (b : Below C Y Y') : Mid B C v1 g1 g2 g3 gx r q s t n f o P Q S D Y' := by
  obtain ⟨k, z, hP, hQ, hS, hX⟩ := h
  exact ⟨boxV6_at k b (by omega), by have := b.size; omega, hP.below b (by omega), hQ.below b (by omega), hS.below b (by omega), hX.below b (by omega)⟩
section
variable {o : Oper} {A : Act} {w : World} {x y : Operand} {b : Nat}
theorem runStoreO {V : Nat → Value} {p f q : Option Addr} {m c d g : Nat} {n fc gd : Int} (ho : o.op = .store 30 x y) (hx : A.eval x = .pointer (some ⟨b, 0, none⟩)) (hy : A.eval y = .agg #[.slice p m c, .slice f m d, .slice q m g, .int .i64 n, .int .i64 fc, .int .i64 gd]) (h : C6 w b V) :
    ∃ w', (execOp A.eval o).run Try.prog w = .ok .skip w' ∧ C6 w' b (OV p f q m c d g n fc gd) ∧ Kept (· = b) w w' := by
  have c0 := h.c 0 (by omega)
  have c1 := h.c 1 (by omega)
  have c2 := h.c 2 (by omega)
  have c3 := h.c 3 (by omega)
  have c4 := h.c 4 (by omega)
  have c5 := h.c 5 (by omega)
  have f0 := h.f 0
  have f1 := h.f 1
  have f2 := h.f 2
  have f3 := h.f 3
  have f4 := h.f 4
  have f5 := h.f 5
  refine ⟨(((((w.setCell ⟨b, 0, none⟩ (.slice p m c)).setCell ⟨b, 1, none⟩ (.slice f m d)).setCell ⟨b, 2, none⟩ (.slice q m g)).setCell ⟨b, 3, none⟩ (.int .i64 n)).setCell ⟨b, 4, none⟩ (.int .i64 fc)).setCell ⟨b, 5, none⟩ (.int .i64 gd), ?_, ?_, ?_⟩
  · unfold execOp
    rw [ho]
    simp only [hx, hy]
    go_simp
  · refine (((((((h.set 0 _ (by omega)).set 1 _ (by omega)).set 2 _ (by omega)).set 3 _ (by omega)).set 4 _ (by omega)).set 5 _ (by omega))).same (fun i hi => ?_)
    rcases (by omega : i = 0 ∨ i = 1 ∨ i = 2 ∨ i = 3 ∨ i = 4 ∨ i = 5) with rfl | rfl | rfl | rfl | rfl | rfl <;> rfl
  · exact ((((((Kept.setCell w ⟨b, 0, none⟩ _).trans (Kept.setCell _ ⟨b, 1, none⟩ _)).trans (Kept.setCell _ ⟨b, 2, none⟩ _)).trans (Kept.setCell _ ⟨b, 3, none⟩ _)).trans (Kept.setCell _ ⟨b, 4, none⟩ _)).trans (Kept.setCell _ ⟨b, 5, none⟩ _))
end
end Vo
end Go.Proofs.Ytflbhlepmjiejaa

/- The operations of a region whose order is open: one invariant of which were done, what they gave, and the world. -/
namespace Go.Proofs.Ytflbhlepmjiejaa
namespace Qm
open Go.RowKit Qf Qg Qh
set_option linter.unusedVariables false
variable {P : Program}
theorem lands_mono {o : Oper} {A : Act} {w : World} {K K' : Value → World → Prop} (h : lands P o A w K) (hk : ∀ v w', K v w' → K' v w') : lands P o A w K' := by
  unfold lands at h ⊢
  generalize (execOp A.eval o).run P w = r at h ⊢
  cases r with
  | ok nx w' =>
    cases nx <;> simp only at h ⊢
    case value v => exact hk v w' h
    case skip => exact hk undef w' h
    case enter f args => exact h.mono (fun e w'' ⟨v, he, q⟩ => ⟨v, he, hk v w'' q⟩)
  | halt x w' => cases x <;> simp only at h
theorem landsG_mono {ops : Array Oper} {o : Oper} {A : Act} {w : World} {K K' : Value → World → Prop} (h : landsG P ops o A w K) (hk : ∀ v w', K v w' → K' v w') : landsG P ops o A w K' := by
  unfold landsG at h ⊢
  split
  · rename_i c; rw [if_pos c] at h; exact lands_mono h hk
  · rename_i c; rw [if_neg c] at h; exact hk _ _ h
theorem invJ {id : Nat} {Q : Exit → Act → World → Prop} {a : Act} {w : World} {l : List Oper} (n : Nat) (J : (Nat → Bool) → (Nat → Value) → World → Prop) (h0 : J (fun _ => false) (fun _ => undef) { w with drawn := w.drawn + 1 }) (hm : P.follows .mixedOrders = true) (hfb : Qg.factB l.toArray n = true)
    (hS : ∀ i o, i < n → l[i]? = some o → ∀ (d : Nat → Bool) s w1, d i = false → (∀ k, Region.waitsFor .any l.toArray i k = true → d k = true) → J d s w1 → landsG P l.toArray o (lay all1 s (l.take n) 0 a) w1 (fun v w2 => J (upd d i true) (upd s i v) w2))
    (hQ : ∀ s w1, J (fun k => decide (k < n)) s w1 → wpList P l.toArray Q (l.drop n) (lay all1 s (l.take n) 0 a) w1) : (Code.region id l.toArray true).wp P Q a w := by
  have fs := Qg.factS hfb
  obtain ⟨hsel, hn, hs, hc⟩ := fs.text
  have hn' : n < l.length := by simpa using hn
  have hdl : (l.drop n).length = l.toArray.size - n := by simp
  have tk : ∀ i, i < n → (l.take n)[i]? = l[i]? := fun i hi => by rw [List.getElem?_take, if_pos hi]
  have hdist : ∀ (x y : Nat) (ox oy : Oper), (l.take n)[x]? = some ox → (l.take n)[y]? = some oy → x ≠ y → ∀ t, ox.dst = some t → oy.dst ≠ some t := by
    intro x y ox oy hx hy hne t ht
    have hx' : x < n := by have := (List.getElem?_eq_some_iff.1 hx).1; simp at this; omega
    have hy' : y < n := by have := (List.getElem?_eq_some_iff.1 hy).1; simp at this; omega
    obtain ⟨o2, e2, _, h2⟩ := fs.at' y hy'
    rw [tk y hy'] at hy
    rw [tk x hx'] at hx
    have : o2 = oy := by have e3 : l.toArray[y]? = some oy := by simpa using hy
                         rw [e2] at e3; exact Option.some.inj e3
    subst this
    exact (h2 x ox t hx' (by simpa using hx) ht).2 (Ne.symm hne)
  have key : ∀ (f : Nat) (li : Array Bool) (s : Nat → Value) (w1 : World), HeadInv .any l.toArray n li → ((List.range n).filter (fun i => !li.getD i false)).length = f → J (fun j => li.getD j false) s w1 → wpAny P .any l.toArray Q (f + (l.toArray.size - n)) li (lay (fun j => li.getD j false) s (l.take n) 0 a) w1 := by
    intro f
    induction f with
    | zero =>
      intro li s w1 inv hf hj
      have hli : ∀ k, k < n → li.getD k false = true := fun k hk => by
        have := List.filter_eq_nil_iff.1 (List.length_eq_zero_iff.1 hf) k (List.mem_range.2 hk)
        simpa using this
      have el : li = Array.replicate n true ++ Array.replicate (l.toArray.size - n) false := by
        apply Array.ext
        · rw [inv.size]; simp; omega
        · intro k h1 h2
          by_cases hk : k < n
          · have := hli k hk
            rw [Array.getElem_append_left (by simpa using hk)]
            simp [h1] at this
            simp [this]
          · have hk2 : k < l.toArray.size := by rw [← inv.size]; exact h1
            have := inv.tail k (by omega) hk2
            rw [Array.getElem_append_right (by simp; omega)]
            simp [h1] at this
            simp [this]
      have hde : (fun j => li.getD j false) = fun k => decide (k < n) := by
        funext k
        by_cases hk : k < n
        · rw [hli k hk, decide_eq_true hk]
        · rw [decide_eq_false hk]
          by_cases h2 : k < l.toArray.size
          · exact getD_both (inv.tail k (by omega) h2)
          · rw [Array.getD_eq_getD_getElem?, Array.getElem?_eq_none (by rw [inv.size]; omega)]
            rfl
      rw [Nat.zero_add, ← hdl]
      have e1 : lay (fun j => li.getD j false) s (l.take n) 0 a = lay all1 s (l.take n) 0 a := by
        have : ∀ (l' : List Oper) (k : Nat) (a' : Act), k + l'.length ≤ n → lay (fun j => li.getD j false) s l' k a' = lay all1 s l' k a' := by
          intro l'
          induction l' with
          | nil => intro k a' _; rfl
          | cons o l' ih =>
            intro k a' hk
            simp only [List.length_cons] at hk
            unfold lay
            rw [hli k (by omega), ih (k + 1) _ (by omega)]
            rfl
        exact this _ _ _ (by simp; omega)
      rw [e1]
      refine wpAny_of_seq (l.drop n) n li _ w1 (fun j => by simp [List.getElem?_drop]) ?_ (hQ s w1 (hde ▸ hj))
      rw [hdl, el]; exact fs.seq
    | succ f ih =>
      intro li s w1 inv hf hj
      have hex : ∃ i, i < n ∧ li.getD i false = false := by
        have hne : (List.range n).filter (fun i => !li.getD i false) ≠ [] := fun e => by rw [e] at hf; simp at hf
        obtain ⟨x, hx⟩ := List.exists_mem_of_ne_nil _ hne
        obtain ⟨h1, h2⟩ := List.mem_filter.1 hx
        exact ⟨x, List.mem_range.1 h1, by simpa using h2⟩
      obtain ⟨i0, hi0, hu0⟩ := hex
      have sz : ∀ i, i < n → i < li.size := fun i hi => by rw [inv.size]; simp; omega
      have hall : ∀ j ∈ Region.ready .any l.toArray li, j < n := fun j hj => Nat.lt_of_not_le fun h => absurd hj (tail_waits hs hc hn inv _ i0 rfl hi0 (getD_in (sz i0 hi0) hu0) j h)
      have hsome : Region.ready .any l.toArray li ≠ [] := by
        have : ∀ d i, i ≤ d → i < n → li.getD i false = false → ∃ j, j ∈ Region.ready .any l.toArray li := by
          intro d
          induction d with
          | zero =>
            intro i hi hin hu
            obtain rfl : i = 0 := by omega
            obtain ⟨oi, ho, hbf, _⟩ := fs.at' 0 hin
            exact ⟨0, mem_ready.2 ⟨getD_in (sz 0 hin) hu, oi, ho, fun e he hbd => absurd (hbf e he hbd) (by omega)⟩⟩
          | succ d ihd =>
            intro i hi hin hu
            obtain ⟨oi, ho, hbf, _⟩ := fs.at' i hin
            by_cases hz : ∃ e ∈ oi.after, Region.binds .any e = true ∧ li.getD e.on false = false
            · obtain ⟨e, he, hbd, hue⟩ := hz
              have := hbf e he hbd
              exact ihd e.on (by omega) (by omega) hue
            · refine ⟨i, mem_ready.2 ⟨getD_in (sz i hin) hu, oi, ho, fun e he hbd => ?_⟩⟩
              cases hx : li.getD e.on false with
              | true => rfl
              | false => exact absurd ⟨e, he, hbd, hx⟩ hz
        obtain ⟨j, hj⟩ := this i0 i0 (Nat.le_refl _) hi0 hu0
        exact List.ne_nil_of_mem hj
      rw [show f + 1 + (l.toArray.size - n) = f + (l.toArray.size - n) + 1 by omega]
      refine ⟨fun e => absurd e hsome, fun i hi => ?_⟩
      have hin := hall i hi
      obtain ⟨hun, o, ho, hdep⟩ := mem_ready.1 hi
      obtain ⟨o2, ho2, hbf, hrd⟩ := fs.at' i hin
      obtain rfl : o2 = o := by rw [ho] at ho2; exact (Option.some.inj ho2).symm
      have hlo : l[i]? = some o2 := by simpa using ho
      have hstep := hS i o2 hin hlo (fun j => li.getD j false) s w1 (getD_both hun) (fun k hk => by
        obtain ⟨oj, hoj, e, he, hbd, hon⟩ := Region.waitsFor_spec hk
        obtain rfl : oj = o2 := by rw [ho] at hoj; exact (Option.some.inj hoj).symm
        show li.getD k false = true
        rw [← hon]; exact hdep e he hbd) hj
      have hexec : execOp (lay (fun j => li.getD j false) s (l.take n) 0 a).eval o2 = execOp (lay all1 s (l.take n) 0 a).eval o2 := by
        refine execOp_congr o2 (fun cs b => Region.noSelect_spec hsel i o2 cs b ho) (fun x hx => lay_eval _ _ _ _ rfl rfl (fun j oj hj d hd hxd => ?_))
        have hj' : j < n := by have := (List.getElem?_eq_some_iff.1 hj).1; simp at this; omega
        rw [tk j hj'] at hj
        have hlook : d ∈ o2.looksAt l.toArray := by
          subst hxd
          exact List.mem_append_left _ (List.mem_filterMap.2 ⟨.tmp d, by simpa using hx, rfl⟩)
        have hw := (hrd j oj d hj' (by simpa using hj) hd).1 hlook
        obtain ⟨oj2, hoj2, e, he, hbd, hon⟩ := Region.waitsFor_spec hw
        obtain rfl : oj2 = o2 := by rw [ho] at hoj2; exact (Option.some.inj hoj2).symm
        rw [Nat.zero_add, ← hon]
        exact hdep e he hbd
      have hnext : ∀ v w2, J (upd (fun j => li.getD j false) i true) (upd s i v) w2 → wpAny P .any l.toArray Q (f + (l.toArray.size - n)) (li.setIfInBounds i true) ((lay (fun j => li.getD j false) s (l.take n) 0 a).put o2.dst v) w2 := by
        intro v w2 hj2
        rw [lay_more (getD_both hun) (l.take n) 0 a (Nat.zero_le _) (by rw [Nat.sub_zero, tk i hin]; exact hlo) hdist]
        have e2 : upd (fun j => li.getD j false) i true = fun j => (li.setIfInBounds i true).getD j false := funext fun k => (getD_upd (sz i hin)).symm
        rw [e2]
        refine ih _ _ w2 (inv.set hi hin) ?_ (e2 ▸ hj2)
        · have e3 : (List.range n).filter (fun j => !(li.setIfInBounds i true).getD j false) = ((List.range n).filter (fun j => !li.getD j false)).erase i := by
            have nd : ((List.range n).filter (fun j => !li.getD j false)).Nodup := List.Pairwise.filter _ List.nodup_range
            rw [nd.erase_eq_filter, List.filter_filter]
            refine List.filter_congr (fun j hj => ?_)
            rw [getD_upd (sz i hin)]
            unfold upd
            by_cases e : j = i
            · subst e; simp
            · simp [e]
          rw [e3, List.length_erase_of_mem (List.mem_filter.2 ⟨List.mem_range.2 hin, by rw [getD_both hun]; rfl⟩), hf]
          rfl
      have hwant : Region.wanted o2 (yielded l.toArray (lay (fun j => li.getD j false) s (l.take n) 0 a).tmps) = Region.wanted o2 (yielded l.toArray (lay all1 s (l.take n) 0 a).tmps) := by
        unfold Region.wanted
        cases hgd : o2.guard with
        | none => rfl
        | some g =>
          obtain ⟨g, b⟩ := g
          dsimp only
          rw [yielded_eval, yielded_eval]
          cases hd : (l.toArray[g]?).bind (·.dst) with
          | none => rfl
          | some d =>
            dsimp only
            have hlook : d ∈ o2.looksAt l.toArray := by
              unfold Oper.looksAt
              refine List.mem_append_right _ ?_
              rw [hgd]
              dsimp only
              rw [hd]
              simp
            have := lay_eval (li := fun j => li.getD j false) (s := s) (x := .tmp d) (l.take n) 0 a a rfl rfl (fun j oj hj d' hd' hxd => by
              injection hxd with hxd
              subst hxd
              have hj' : j < n := by have := (List.getElem?_eq_some_iff.1 hj).1; simp at this; omega
              rw [tk j hj'] at hj
              have hw := (hrd j oj d hj' (by simpa using hj) hd').1 hlook
              obtain ⟨oj2, hoj2, e, he, hbd, hon⟩ := Region.waitsFor_spec hw
              obtain rfl : oj2 = o2 := by rw [ho] at hoj2; exact (Option.some.inj hoj2).symm
              rw [Nat.zero_add, ← hon]
              exact hdep e he hbd)
            rw [this]
      unfold wpOp
      rw [ho]
      dsimp only
      unfold landsG at hstep
      rw [← hwant] at hstep
      by_cases hwd : Region.wanted o2 (yielded l.toArray (lay (fun j => li.getD j false) s (l.take n) 0 a).tmps) = true
      case neg =>
        rw [if_neg hwd] at hstep
        rw [if_neg hwd]
        exact hnext undef w1 hstep
      rw [if_pos hwd] at hstep
      rw [if_pos hwd]
      refine .inl ?_
      unfold Oper.wp
      unfold lands at hstep
      rw [hexec]
      generalize (execOp (lay all1 s (l.take n) 0 a).eval o2).run P w1 = r at hstep
      cases r with
      | ok nx w' =>
        cases nx <;> simp only at hstep <;> simp only [Oper.upon]
        case value v => exact hnext v w' hstep
        case skip => exact hnext undef w' hstep
        case enter f' args =>
          exact hstep.mono (fun e w'' ⟨v, he, hk⟩ => by subst he; exact hnext v w'' hk)
      | halt x w' => cases x <;> simp only at hstep
  refine wp_region_any hm ?_
  have inv0 : HeadInv .any l.toArray n (Array.replicate l.toArray.size false) := ⟨by simp, fun j oj _ hl => (by rw [getD_replicate_false] at hl; cases hl), fun t _ ht => getD_in (by simpa using ht) (getD_replicate_false _ _)⟩
  have := key n (Array.replicate l.toArray.size false) (fun _ => undef) { w with drawn := w.drawn + 1 } inv0 (by
    rw [List.filter_eq_self.2 (fun x _ => by rw [getD_replicate_false]; rfl)]; simp) ((funext fun j => (getD_replicate_false _ j).symm : (fun _ => false) = fun j => (Array.replicate l.toArray.size false).getD j false) ▸ h0)
  have e0 : lay (fun j => (Array.replicate l.toArray.size false).getD j false) (fun _ => undef) (l.take n) 0 a = a := by
    have : ∀ (l' : List Oper) (k : Nat) (a' : Act), lay (fun j => (Array.replicate l.toArray.size false).getD j false) (fun _ => undef) l' k a' = a' := by
      intro l'
      induction l' with
      | nil => intro k a'; rfl
      | cons o l' ih => intro k a'; unfold lay; rw [getD_replicate_false, if_neg (by simp)]; exact ih _ _
    exact this _ _ _
  rw [e0, show n + (l.toArray.size - n) = l.toArray.size by omega] at this
  exact this
/-- the same, each operation in a frame of which only what it needs is known -/
theorem invJ2 {id : Nat} {Q : Exit → Act → World → Prop} {a : Act} {w : World} {l : List Oper} (n : Nat) (J : (Nat → Bool) → (Nat → Value) → World → Prop) (h0 : J (fun _ => false) (fun _ => undef) { w with drawn := w.drawn + 1 }) (hm : P.follows .mixedOrders = true) (hfb : Qg.factB l.toArray n = true)
    (hS : ∀ i o, i < n → l[i]? = some o → ∀ (d : Nat → Bool) (s : Nat → Value) (A : Act) (w1 : World), d i = false → (∀ k, Region.waitsFor .any l.toArray i k = true → d k = true) → J d s w1 →
      (∀ k ok t, k < n → l[k]? = some ok → ok.dst = some t → t < a.tmps.size → A.eval (.tmp t) = s k) → (∀ t, (l.take n).all (fun ok => ok.dst != some t) = true → A.eval (.tmp t) = a.eval (.tmp t)) →
      landsG P l.toArray o A w1 (fun v w2 => J (upd d i true) (upd s i v) w2))
    (hQ : ∀ s w1, J (fun k => decide (k < n)) s w1 → wpList P l.toArray Q (l.drop n) (lay all1 s (l.take n) 0 a) w1) : (Code.region id l.toArray true).wp P Q a w := by
  have fs := Qg.factS hfb
  have tk : ∀ i, i < n → (l.take n)[i]? = l[i]? := fun i hi => by rw [List.getElem?_take, if_pos hi]
  have hdist : ∀ (x y : Nat) (ox oy : Oper), (l.take n)[x]? = some ox → (l.take n)[y]? = some oy → x ≠ y → ∀ t, ox.dst = some t → oy.dst ≠ some t := by
    intro x y ox oy hx hy hne t ht
    have hx' : x < n := by have := (List.getElem?_eq_some_iff.1 hx).1; simp at this; omega
    have hy' : y < n := by have := (List.getElem?_eq_some_iff.1 hy).1; simp at this; omega
    obtain ⟨o2, e2, _, h2⟩ := fs.at' y hy'
    rw [tk y hy'] at hy
    rw [tk x hx'] at hx
    have e3 : l.toArray[y]? = some oy := by simpa using hy
    obtain rfl : o2 = oy := by rw [e2] at e3; exact Option.some.inj e3
    exact (h2 x ox t hx' (by simpa using hx) ht).2 (Ne.symm hne)
  refine invJ n J h0 hm hfb (fun i o hi ho d s w1 hd hk hj => hS i o hi ho d s _ w1 hd hk hj (fun k ok t hk' hok ht hz => ?_) (fun t ht => lay_old _ _ _ (fun ok hok => by simpa using List.all_eq_true.1 ht ok hok))) hQ
  have := lay_at (s := s) (l.take n) 0 a k ok (by rw [tk k hk']; exact hok) ht hdist hz
  rwa [Nat.zero_add] at this
/-- the same by facts: operation iq (an append) ends what 'Old' tells; the others turn the world by R1, it by R2 -/
theorem factsO {id : Nat} {Q : Exit → Act → World → Prop} {a : Act} {w : World} {l : List Oper} (n iq : Nat) (Base Old : World → Prop) (Fc : Nat → Value → World → Prop) (R1 R2 : World → World → Prop) (hm : P.follows .mixedOrders = true) (hfb : Qg.factB l.toArray n = true)
    (hb0 : Base { w with drawn := w.drawn + 1 }) (ho0 : Old { w with drawn := w.drawn + 1 }) (hO : ∀ w1 w2, Old w1 → R1 w1 w2 → Old w2) (hF1 : ∀ t v w1 w2, Fc t v w1 → R1 w1 w2 → Fc t v w2) (hF2 : ∀ t v w1 w2, t ≠ iq → Fc t v w1 → R2 w1 w2 → Fc t v w2)
    (hS : ∀ i o, i < n → l[i]? = some o → ∀ (s : Nat → Value) (A : Act) (w1 : World), Base w1 → (i = iq → Old w1) → (∀ k, Region.waitsFor .any l.toArray i k = true → Fc k (s k) w1) →
      (∀ k ok t, k < n → l[k]? = some ok → ok.dst = some t → t < a.tmps.size → A.eval (.tmp t) = s k) → (∀ t, (l.take n).all (fun ok => ok.dst != some t) = true → A.eval (.tmp t) = a.eval (.tmp t)) →
      landsG P l.toArray o A w1 (fun v w2 => Base w2 ∧ (i ≠ iq → R1 w1 w2) ∧ (i = iq → R2 w1 w2) ∧ Fc i v w2))
    (hQ : ∀ s w1, Base w1 → (∀ k, k < n → Fc k (s k) w1) → wpList P l.toArray Q (l.drop n) (lay all1 s (l.take n) 0 a) w1) : (Code.region id l.toArray true).wp P Q a w := by
  refine invJ2 n (fun d s X => Base X ∧ (∀ t, d t = true → Fc t (s t) X) ∧ (d iq = false → Old X)) ⟨hb0, (fun t h => Bool.noConfusion h), fun _ => ho0⟩ hm hfb (fun i o hi ho d s A w1 hd hk ⟨j1, j2, j3⟩ hA hA' => ?_) (fun s w1 ⟨j1, j2, j3⟩ => hQ s w1 j1 (fun k hk => j2 k (decide_eq_true hk)))
  refine landsG_mono (hS i o hi ho s A w1 j1 (fun e => j3 (e ▸ hd)) (fun k h => j2 k (hk k h)) hA hA') (fun v w2 ⟨b2, r1, r2, f⟩ => ⟨b2, fun t ht => ?_, fun ht => ?_⟩)
  · by_cases e : t = i
    · subst e; simpa [upd] using f
    · have ht' : d t = true := by simpa [upd, e] using ht
      have hs : upd s i v t = s t := by simp [upd, e]
      rw [hs]
      by_cases e2 : i = iq
      · exact hF2 t _ w1 w2 (fun q => e (q.trans e2.symm)) (j2 t ht') (r2 e2)
      · exact hF1 t _ w1 w2 (j2 t ht') (r1 e2)
  · by_cases e2 : i = iq
    · subst e2; simp [upd] at ht
    · have e3 : ¬ iq = i := fun q => e2 q.symm
      have : d iq = false := by simpa [upd, e3] using ht
      exact hO w1 w2 (j3 this) (r1 e2)
end Qm
end Go.Proofs.Ytflbhlepmjiejaa
