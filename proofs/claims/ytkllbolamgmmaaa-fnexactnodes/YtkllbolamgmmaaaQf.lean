/- A region that draws its order: a head whose operations may lay memory, each with a fact of its own that later blocks leave alone; a tail whose order is forced. One obligation an operation, whatever the order. -/
import Derived.StillTail
import Derived.Below
import Derived.Test.YtkllbolamgmmaaaProg
namespace Go.Proofs.Ytkllbolamgmmaaa
namespace Qf
open Go.RowKit
set_option linter.unusedVariables false
variable {P : Program}
/-- the values of the operations that have come up, in their slots -/
def lay (li : Nat → Bool) (s : Nat → Value) : List Oper → Nat → Act → Act
  | [], _, a => a
  | o :: l, k, a => lay li s l (k + 1) (if li k = true then a.put o.dst (s k) else a)
def all1 : Nat → Bool := fun _ => true
def upd {α : Type} (s : Nat → α) (i : Nat) (v : α) : Nat → α := fun k => if k = i then v else s k
/-- one operation, whatever it leaves in its slot -/
def lands (P : Program) (o : Oper) (a : Act) (w : World) (K : Value → World → Prop) : Prop :=
  match (execOp a.eval o).run P w with
  | .ok (.value v) w' => K v w'
  | .ok .skip w' => K undef w'
  | .ok (.enter f args) w' => Calls P f args w' (fun e w'' => ∃ v, e = .returned v ∧ K v w'')
  | _ => False
theorem lay_same {li li' : Nat → Bool} {s s' : Nat → Value} : ∀ (l : List Oper) (k : Nat) (a : Act), (∀ j, k ≤ j → li j = li' j ∧ s j = s' j) → lay li s l k a = lay li' s' l k a
  | [], _, _, _ => rfl
  | o :: l, k, a, h => by
    unfold lay
    rw [(h k (Nat.le_refl _)).1, (h k (Nat.le_refl _)).2]
    exact lay_same l (k + 1) _ (fun j hj => h j (by omega))
theorem lay_put {li : Nat → Bool} {s : Nat → Value} {d : Option Tmp} {v : Value} : ∀ (l : List Oper) (k : Nat) (a : Act), (∀ o ∈ l, ∀ t, o.dst = some t → d ≠ some t) → (lay li s l k a).put d v = lay li s l k (a.put d v)
  | [], _, _, _ => rfl
  | o :: l, k, a, h => by
    unfold lay
    rw [lay_put l (k + 1) _ (fun o' h' => h o' (List.mem_cons_of_mem _ h'))]
    congr 1
    split
    · exact Act.put_comm a _ _ (h o (List.mem_cons_self ..))
    · rfl
theorem lay_more {li : Nat → Bool} {s : Nat → Value} {i : Nat} {oi : Oper} {v : Value} (hu : li i = false) : ∀ (l : List Oper) (k : Nat) (a : Act), k ≤ i → l[i - k]? = some oi →
    (∀ (x y : Nat) (ox oy : Oper), l[x]? = some ox → l[y]? = some oy → x ≠ y → ∀ t, ox.dst = some t → oy.dst ≠ some t) →
    (lay li s l k a).put oi.dst v = lay (upd li i true) (upd s i v) l k a
  | [], k, a, hk, h, _ => by simp at h
  | o :: l, k, a, hk, h, hd => by
    by_cases e : k = i
    · subst e
      obtain rfl : o = oi := by simpa using h
      have e1 : upd li k true k = true := by simp [upd]
      have e2 : upd s k v k = v := by simp [upd]
      unfold lay
      rw [hu, if_neg (by simp), e1, if_pos rfl, e2, lay_put l (k + 1) a (fun o' h' t ht => by
        obtain ⟨j, hj⟩ := List.getElem?_of_mem h'
        intro hx
        exact hd (j + 1) 0 o' o (by simpa using hj) (by simp) (by omega) t ht hx)]
      exact lay_same l (k + 1) _ (fun j hj => ⟨by simp [upd, show j ≠ k by omega], by simp [upd, show j ≠ k by omega]⟩)
    · have e1 : upd li i true k = li k := by simp [upd, e]
      have e2 : upd s i v k = s k := by simp [upd, e]
      unfold lay
      rw [e1, e2]
      have hk' : i - k = (i - (k + 1)) + 1 := by omega
      rw [hk'] at h
      exact lay_more hu l (k + 1) _ (by omega) (by simpa using h) (fun x y ox oy hx hy hn => hd (x + 1) (y + 1) ox oy (by simpa using hx) (by simpa using hy) (by omega))
theorem eval_at (a : Act) (d : Tmp) (v : Value) : (a.put (some d) v).eval (.tmp d) = if d < a.tmps.size then v else undef := by
  simp only [Act.eval, Act.put, Array.getD_eq_getD_getElem?, Array.getElem?_setIfInBounds]
  by_cases h : d < a.tmps.size
  · simp [h]
  · simp [h]
theorem eval_ne (a : Act) (d : Tmp) (v : Value) (x : Operand) (e : x ≠ .tmp d) : (a.put (some d) v).eval x = a.eval x :=
  Act.eval_put (fun d' hd hx => by injection hd with hd; subst hd; exact e hx)
theorem put_size (a : Act) (d : Option Tmp) (v : Value) : (a.put d v).tmps.size = a.tmps.size := by cases d <;> simp [Act.put]
theorem lay_eval {li : Nat → Bool} {s : Nat → Value} {x : Operand} : ∀ (l : List Oper) (k : Nat) (a a' : Act), a.eval x = a'.eval x → a.tmps.size = a'.tmps.size →
    (∀ (j : Nat) (o : Oper), l[j]? = some o → ∀ d, o.dst = some d → x = .tmp d → li (k + j) = true) → (lay li s l k a).eval x = (lay all1 s l k a').eval x
  | [], _, _, _, h, _, _ => h
  | o :: l, k, a, a', h, hz, hl => by
    unfold lay
    have e1 : all1 k = true := rfl
    rw [e1, if_pos rfl]
    refine lay_eval l (k + 1) _ _ ?_ ?_ (fun j o' hj d hd hx => by have := hl (j + 1) o' (by simpa using hj) d hd hx; rwa [show k + (j + 1) = k + 1 + j by omega] at this)
    · cases hd : o.dst with
      | none => split <;> exact h
      | some d =>
        by_cases e : x = .tmp d
        · have := hl 0 o (by simp) d hd e
          rw [Nat.add_zero] at this
          subst e
          rw [if_pos this, eval_at, eval_at, hz]
        · rw [eval_ne _ _ _ _ e]
          split
          · rw [eval_ne _ _ _ _ e]; exact h
          · exact h
    · split
      · rw [put_size, put_size]; exact hz
      · rw [put_size]; exact hz
/-- what is asked of the region's text -/
def factB (ops : Array Oper) (n : Nat) : Bool :=
  (List.range n).all (fun i => match ops[i]? with
    | some oi => oi.guard.isNone && oi.after.all (fun e => !Region.binds .any e || decide (e.on < i)) && (List.range n).all (fun k => match ops[k]? with
      | some ok => (match ok.dst with
        | some d => (!(oi.looksAt ops).contains d || Region.waitsFor .any ops i k) && (i == k || oi.dst != some d)
        | none => true)
      | none => false)
    | none => false) && Region.seqB .any ops (ops.size - n) n (Array.replicate n true ++ Array.replicate (ops.size - n) false)
structure FactS (ops : Array Oper) (n : Nat) : Prop where
  at' : ∀ i, i < n → ∃ oi, ops[i]? = some oi ∧ oi.guard = none ∧ (∀ e ∈ oi.after, Region.binds .any e = true → e.on < i) ∧
    ∀ k ok d, k < n → ops[k]? = some ok → ok.dst = some d → (d ∈ oi.looksAt ops → Region.waitsFor .any ops i k = true) ∧ (i ≠ k → oi.dst ≠ some d)
  seq : Region.seqB .any ops (ops.size - n) n (Array.replicate n true ++ Array.replicate (ops.size - n) false) = true
theorem factS {ops : Array Oper} {n : Nat} (h : factB ops n = true) : FactS ops n := by
  unfold factB at h
  rw [Bool.and_eq_true] at h
  refine ⟨fun i hi => ?_, h.2⟩
  have h1 := List.all_eq_true.1 h.1 i (List.mem_range.2 hi)
  cases ho : ops[i]? with
  | none => rw [ho] at h1; cases h1
  | some oi =>
    rw [ho] at h1
    simp only [Bool.and_eq_true] at h1
    refine ⟨oi, rfl, by simpa using h1.1.1, fun e he hb => ?_, fun k ok d hk hok hd => ?_⟩
    · have := Array.all_eq_true'.1 h1.1.2 e he
      rw [hb] at this
      simpa using this
    · have h2 := List.all_eq_true.1 h1.2 k (List.mem_range.2 hk)
      simp only [hok, hd, Bool.and_eq_true] at h2
      refine ⟨fun hm => ?_, fun hne => ?_⟩
      · have := h2.1
        rw [List.contains_iff_mem.2 hm] at this
        simpa using this
      · have := h2.2
        rw [show (i == k) = false from beq_eq_false_iff_ne.2 hne] at this
        simpa using this
theorem getD_upd {li : Array Bool} {i k : Nat} (hi : i < li.size) : (li.setIfInBounds i true).getD k false = upd (fun j => li.getD j false) i true k := by
  unfold upd
  by_cases e : k = i
  · subst e; simp [hi]
  · rw [if_neg e, getD_set_ne false (Ne.symm e)]
theorem facts {id : Nat} {Q : Exit → Act → World → Prop} {a : Act} {w : World} {l : List Oper} (n : Nat) (hm : P.follows .mixedOrders = true) (hB : Region.lexTailB .any l.toArray n = true) (hfb : factB l.toArray n = true)
    (F : Nat → Value → World → Prop) (hF : ∀ i v w1 w2, F i v w1 → Below w1.heap.size w1 w2 → F i v w2)
    (hS : ∀ i o, i < n → l[i]? = some o → ∀ s w1, Below w.heap.size w w1 → (∀ k, Region.waitsFor .any l.toArray i k = true → F k (s k) w1) → lands P o (lay all1 s (l.take n) 0 a) w1 (fun v w2 => Below w1.heap.size w1 w2 ∧ F i v w2))
    (hQ : ∀ s w1, Below w.heap.size w w1 → (∀ k, k < n → F k (s k) w1) → wpList P l.toArray Q (l.drop n) (lay all1 s (l.take n) 0 a) w1) : (Code.region id l.toArray true).wp P Q a w := by
  simp only [Region.lexTailB, Bool.and_eq_true, decide_eq_true_eq] at hB
  obtain ⟨⟨⟨⟨hsel, hn⟩, hs⟩, hc⟩, hlex⟩ := hB
  have fs := factS hfb
  have hn' : n < l.length := by simpa using hn
  have hdl : (l.drop n).length = l.toArray.size - n := by simp
  have tk : ∀ i, i < n → (l.take n)[i]? = l[i]? := fun i hi => by rw [List.getElem?_take, if_pos hi]
  have hdist : ∀ (x y : Nat) (ox oy : Oper), (l.take n)[x]? = some ox → (l.take n)[y]? = some oy → x ≠ y → ∀ t, ox.dst = some t → oy.dst ≠ some t := by
    intro x y ox oy hx hy hne t ht
    have hx' : x < n := by have := (List.getElem?_eq_some_iff.1 hx).1; simp at this; omega
    have hy' : y < n := by have := (List.getElem?_eq_some_iff.1 hy).1; simp at this; omega
    obtain ⟨o2, e2, _, _, h2⟩ := fs.at' y hy'
    rw [tk y hy'] at hy
    rw [tk x hx'] at hx
    have : o2 = oy := by have e3 : l.toArray[y]? = some oy := by simpa using hy
                         rw [e2] at e3; exact Option.some.inj e3
    subst this
    exact (h2 x ox t hx' (by simpa using hx) ht).2 (Ne.symm hne)
  have key : ∀ (f : Nat) (li : Array Bool) (s : Nat → Value) (w1 : World), HeadInv .any l.toArray n li → ((List.range n).filter (fun i => !li.getD i false)).length = f → Below w.heap.size w w1 →
      (∀ k, li.getD k false = true → F k (s k) w1) → wpAny P .any l.toArray Q (f + (l.toArray.size - n)) li (lay (fun j => li.getD j false) s (l.take n) 0 a) w1 := by
    intro f
    induction f with
    | zero =>
      intro li s w1 inv hf hb hfa
      have hli : ∀ k, k < n → li.getD k false = true := fun k hk => by
        have := List.filter_eq_nil_iff.1 (List.length_eq_zero_iff.1 hf) k (List.mem_range.2 hk)
        simpa using this
      have el : li = Array.replicate n true ++ Array.replicate (l.toArray.size - n) false := by
        apply Array.ext
        · rw [inv.size]; simp; omega
        · intro k h1 h2
          by_cases hk : k < n
          · have := hli k hk
            rw [Array.getElem_append_left (by simpa using hk)]
            simp [h1] at this
            simp [this]
          · have hk2 : k < l.toArray.size := by rw [← inv.size]; exact h1
            have := inv.tail k (by omega) hk2
            rw [Array.getElem_append_right (by simp; omega)]
            simp [h1] at this
            simp [this]
      rw [Nat.zero_add, ← hdl]
      have e1 : lay (fun j => li.getD j false) s (l.take n) 0 a = lay all1 s (l.take n) 0 a := by
        have : ∀ (l' : List Oper) (k : Nat) (a' : Act), k + l'.length ≤ n → lay (fun j => li.getD j false) s l' k a' = lay all1 s l' k a' := by
          intro l'
          induction l' with
          | nil => intro k a' _; rfl
          | cons o l' ih =>
            intro k a' hk
            simp only [List.length_cons] at hk
            unfold lay
            rw [hli k (by omega), ih (k + 1) _ (by omega)]
            rfl
        exact this _ _ _ (by simp; omega)
      rw [e1]
      refine wpAny_of_seq (l.drop n) n li _ w1 (fun j => by simp [List.getElem?_drop]) ?_ (hQ s w1 hb (fun k hk => hfa k (hli k hk)))
      rw [hdl, el]; exact fs.seq
    | succ f ih =>
      intro li s w1 inv hf hb hfa
      have hex : ∃ i, i < n ∧ li.getD i false = false := by
        have hne : (List.range n).filter (fun i => !li.getD i false) ≠ [] := fun e => by rw [e] at hf; simp at hf
        obtain ⟨x, hx⟩ := List.exists_mem_of_ne_nil _ hne
        obtain ⟨h1, h2⟩ := List.mem_filter.1 hx
        exact ⟨x, List.mem_range.1 h1, by simpa using h2⟩
      obtain ⟨i0, hi0, hu0⟩ := hex
      have sz : ∀ i, i < n → i < li.size := fun i hi => by rw [inv.size]; simp; omega
      have hall : ∀ j ∈ Region.ready .any l.toArray li, j < n := fun j hj => Nat.lt_of_not_le fun h => absurd hj (tail_waits hs hc hn inv _ i0 rfl hi0 (getD_in (sz i0 hi0) hu0) j h)
      have hsome : Region.ready .any l.toArray li ≠ [] := by
        have : ∀ d i, i ≤ d → i < n → li.getD i false = false → ∃ j, j ∈ Region.ready .any l.toArray li := by
          intro d
          induction d with
          | zero =>
            intro i hi hin hu
            obtain rfl : i = 0 := by omega
            obtain ⟨oi, ho, _, hbf, _⟩ := fs.at' 0 hin
            exact ⟨0, mem_ready.2 ⟨getD_in (sz 0 hin) hu, oi, ho, fun e he hbd => absurd (hbf e he hbd) (by omega)⟩⟩
          | succ d ihd =>
            intro i hi hin hu
            obtain ⟨oi, ho, _, hbf, _⟩ := fs.at' i hin
            by_cases hz : ∃ e ∈ oi.after, Region.binds .any e = true ∧ li.getD e.on false = false
            · obtain ⟨e, he, hbd, hue⟩ := hz
              have := hbf e he hbd
              exact ihd e.on (by omega) (by omega) hue
            · refine ⟨i, mem_ready.2 ⟨getD_in (sz i hin) hu, oi, ho, fun e he hbd => ?_⟩⟩
              cases hx : li.getD e.on false with
              | true => rfl
              | false => exact absurd ⟨e, he, hbd, hx⟩ hz
        obtain ⟨j, hj⟩ := this i0 i0 (Nat.le_refl _) hi0 hu0
        exact List.ne_nil_of_mem hj
      rw [show f + 1 + (l.toArray.size - n) = f + (l.toArray.size - n) + 1 by omega]
      refine ⟨fun e => absurd e hsome, fun i hi => ?_⟩
      have hin := hall i hi
      obtain ⟨hun, o, ho, hdep⟩ := mem_ready.1 hi
      obtain ⟨o2, ho2, hg, hbf, hrd⟩ := fs.at' i hin
      obtain rfl : o2 = o := by rw [ho] at ho2; exact (Option.some.inj ho2).symm
      have hlo : l[i]? = some o2 := by simpa using ho
      have hstep := hS i o2 hin hlo s w1 hb (fun k hk => by
        obtain ⟨oj, hoj, e, he, hbd, hon⟩ := Region.waitsFor_spec hk
        obtain rfl : oj = o2 := by rw [ho] at hoj; exact (Option.some.inj hoj).symm
        exact hfa k (by rw [← hon]; exact hdep e he hbd))
      have hexec : execOp (lay (fun j => li.getD j false) s (l.take n) 0 a).eval o2 = execOp (lay all1 s (l.take n) 0 a).eval o2 := by
        refine execOp_congr o2 (fun cs b => Region.noSelect_spec hsel i o2 cs b ho) (fun x hx => lay_eval _ _ _ _ rfl rfl (fun j oj hj d hd hxd => ?_))
        have hj' : j < n := by have := (List.getElem?_eq_some_iff.1 hj).1; simp at this; omega
        rw [tk j hj'] at hj
        have hlook : d ∈ o2.looksAt l.toArray := by
          subst hxd
          exact List.mem_append_left _ (List.mem_filterMap.2 ⟨.tmp d, by simpa using hx, rfl⟩)
        have hw := (hrd j oj d hj' (by simpa using hj) hd).1 hlook
        obtain ⟨oj2, hoj2, e, he, hbd, hon⟩ := Region.waitsFor_spec hw
        obtain rfl : oj2 = o2 := by rw [ho] at hoj2; exact (Option.some.inj hoj2).symm
        rw [Nat.zero_add, ← hon]
        exact hdep e he hbd
      have hnext : ∀ v w2, Below w1.heap.size w1 w2 ∧ F i v w2 → wpAny P .any l.toArray Q (f + (l.toArray.size - n)) (li.setIfInBounds i true) ((lay (fun j => li.getD j false) s (l.take n) 0 a).put o2.dst v) w2 := by
        intro v w2 ⟨hb2, hfi⟩
        rw [lay_more (getD_both hun) (l.take n) 0 a (Nat.zero_le _) (by rw [Nat.sub_zero, tk i hin]; exact hlo) hdist]
        have e2 : upd (fun j => li.getD j false) i true = fun j => (li.setIfInBounds i true).getD j false := funext fun k => (getD_upd (sz i hin)).symm
        rw [e2]
        refine ih _ _ w2 (inv.set hi hin) ?_ (hb.trans (hb2.mono hb.size)) (fun k hk => ?_)
        · have e3 : (List.range n).filter (fun j => !(li.setIfInBounds i true).getD j false) = ((List.range n).filter (fun j => !li.getD j false)).erase i := by
            have nd : ((List.range n).filter (fun j => !li.getD j false)).Nodup := List.Pairwise.filter _ List.nodup_range
            rw [nd.erase_eq_filter, List.filter_filter]
            refine List.filter_congr (fun j hj => ?_)
            rw [getD_upd (sz i hin)]
            unfold upd
            by_cases e : j = i
            · subst e; simp
            · simp [e]
          rw [e3, List.length_erase_of_mem (List.mem_filter.2 ⟨List.mem_range.2 hin, by rw [getD_both hun]; rfl⟩), hf]
          rfl
        · rw [getD_upd (sz i hin)] at hk
          unfold upd at hk ⊢
          by_cases e : k = i
          · subst e; simpa using hfi
          · rw [if_neg e] at hk ⊢
            exact hF k _ w1 w2 (hfa k hk) hb2
      unfold wpOp
      rw [ho]
      dsimp only
      rw [if_pos (by unfold Region.wanted; rw [hg])]
      refine .inl ?_
      unfold Oper.wp
      unfold lands at hstep
      rw [hexec]
      generalize (execOp (lay all1 s (l.take n) 0 a).eval o2).run P w1 = r at hstep
      cases r with
      | ok nx w' =>
        cases nx <;> simp only at hstep <;> simp only [Oper.upon]
        case value v => exact hnext v w' hstep
        case skip => exact hnext undef w' hstep
        case enter f' args =>
          exact hstep.mono (fun e w'' ⟨v, he, hk⟩ => by subst he; exact hnext v w'' hk)
      | halt x w' => cases x <;> simp only at hstep
  refine wp_region_any hm ?_
  have inv0 : HeadInv .any l.toArray n (Array.replicate l.toArray.size false) := ⟨by simp, fun j oj _ hl => (by rw [getD_replicate_false] at hl; cases hl), fun t _ ht => getD_in (by simpa using ht) (getD_replicate_false _ _)⟩
  have := key n (Array.replicate l.toArray.size false) (fun _ => undef) { w with drawn := w.drawn + 1 } inv0 (by
    rw [List.filter_eq_self.2 (fun x _ => by rw [getD_replicate_false]; rfl)]; simp) (Below.refl w.heap.size w).drew (fun k hk => by rw [getD_replicate_false] at hk; cases hk)
  have e0 : lay (fun j => (Array.replicate l.toArray.size false).getD j false) (fun _ => undef) (l.take n) 0 a = a := by
    have : ∀ (l' : List Oper) (k : Nat) (a' : Act), lay (fun j => (Array.replicate l.toArray.size false).getD j false) (fun _ => undef) l' k a' = a' := by
      intro l'
      induction l' with
      | nil => intro k a'; rfl
      | cons o l' ih => intro k a'; unfold lay; rw [getD_replicate_false, if_neg (by simp)]; exact ih _ _
    exact this _ _ _
  rw [e0, show n + (l.toArray.size - n) = l.toArray.size by omega] at this
  exact this
theorem lay_old {li : Nat → Bool} {s : Nat → Value} {t : Tmp} : ∀ (l : List Oper) (k : Nat) (a : Act), (∀ o ∈ l, o.dst ≠ some t) → (lay li s l k a).eval (.tmp t) = a.eval (.tmp t)
  | [], _, _, _ => rfl
  | o :: l, k, a, h => by
    unfold lay
    rw [lay_old l (k + 1) _ (fun o' h' => h o' (List.mem_cons_of_mem _ h'))]
    split
    · exact Act.eval_put (fun d hd hx => by injection hx with hx; subst hx; exact h o (List.mem_cons_self ..) hd)
    · rfl
theorem lay_size {li : Nat → Bool} {s : Nat → Value} : ∀ (l : List Oper) (k : Nat) (a : Act), (lay li s l k a).tmps.size = a.tmps.size
  | [], _, _ => rfl
  | o :: l, k, a => by
    unfold lay
    rw [lay_size l (k + 1) _]
    split
    · exact put_size _ _ _
    · rfl
theorem lay_at {s : Nat → Value} {t : Tmp} : ∀ (l : List Oper) (k : Nat) (a : Act) (i : Nat) (oi : Oper), l[i]? = some oi → oi.dst = some t → (∀ (x y : Nat) (ox oy : Oper), l[x]? = some ox → l[y]? = some oy → x ≠ y → ∀ t, ox.dst = some t → oy.dst ≠ some t) → t < a.tmps.size → (lay all1 s l k a).eval (.tmp t) = s (k + i)
  | [], _, _, i, oi, h, _, _, _ => by simp at h
  | o :: l, k, a, 0, oi, h, ht, hd, hz => by
    obtain rfl : o = oi := by simpa using h
    unfold lay
    rw [show all1 k = true from rfl, if_pos rfl, lay_old l (k + 1) _ (fun o' h' hx => by
      obtain ⟨j, hj⟩ := List.getElem?_of_mem h'
      exact hd 0 (j + 1) o o' (by simp) (by simpa using hj) (by omega) t ht hx), ht, eval_at, if_pos hz, Nat.add_zero]
  | o :: l, k, a, i + 1, oi, h, ht, hd, hz => by
    unfold lay
    rw [lay_at l (k + 1) _ i oi (by simpa using h) ht (fun x y ox oy hx hy hn => hd (x + 1) (y + 1) ox oy (by simpa using hx) (by simpa using hy) (by omega)) (by split <;> (try rw [put_size]) <;> exact hz)]
    congr 1; omega
/-- the same, each operation in a frame of which only what it needs is known -/
theorem facts2 {id : Nat} {Q : Exit → Act → World → Prop} {a : Act} {w : World} {l : List Oper} (n : Nat) (hm : P.follows .mixedOrders = true) (hB : Region.lexTailB .any l.toArray n = true) (hfb : factB l.toArray n = true)
    (F : Nat → Value → World → Prop) (hF : ∀ i v w1 w2, F i v w1 → Below w1.heap.size w1 w2 → F i v w2)
    (hS : ∀ i o, i < n → l[i]? = some o → ∀ (s : Nat → Value) (A : Act) (w1 : World), Below w.heap.size w w1 → (∀ k, Region.waitsFor .any l.toArray i k = true → F k (s k) w1) →
      (∀ k ok t, k < n → l[k]? = some ok → ok.dst = some t → t < a.tmps.size → A.eval (.tmp t) = s k) → (∀ t, (l.take n).all (fun ok => ok.dst != some t) = true → A.eval (.tmp t) = a.eval (.tmp t)) →
      lands P o A w1 (fun v w2 => Below w1.heap.size w1 w2 ∧ F i v w2))
    (hQ : ∀ s w1, Below w.heap.size w w1 → (∀ k, k < n → F k (s k) w1) → wpList P l.toArray Q (l.drop n) (lay all1 s (l.take n) 0 a) w1) : (Code.region id l.toArray true).wp P Q a w := by
  have fs := factS hfb
  have tk : ∀ i, i < n → (l.take n)[i]? = l[i]? := fun i hi => by rw [List.getElem?_take, if_pos hi]
  have hdist : ∀ (x y : Nat) (ox oy : Oper), (l.take n)[x]? = some ox → (l.take n)[y]? = some oy → x ≠ y → ∀ t, ox.dst = some t → oy.dst ≠ some t := by
    intro x y ox oy hx hy hne t ht
    have hx' : x < n := by have := (List.getElem?_eq_some_iff.1 hx).1; simp at this; omega
    have hy' : y < n := by have := (List.getElem?_eq_some_iff.1 hy).1; simp at this; omega
    obtain ⟨o2, e2, _, _, h2⟩ := fs.at' y hy'
    rw [tk y hy'] at hy
    rw [tk x hx'] at hx
    have e3 : l.toArray[y]? = some oy := by simpa using hy
    obtain rfl : o2 = oy := by rw [e2] at e3; exact Option.some.inj e3
    exact (h2 x ox t hx' (by simpa using hx) ht).2 (Ne.symm hne)
  refine facts n hm hB hfb F hF (fun i o hi ho s w1 hb hk => hS i o hi ho s _ w1 hb hk (fun k ok t hk' hok ht hz => ?_) (fun t ht => lay_old _ _ _ (fun ok hok => by simpa using List.all_eq_true.1 ht ok hok))) hQ
  have := lay_at (s := s) (l.take n) 0 a k ok (by rw [tk k hk']; exact hok) ht hdist hz
  rwa [Nat.zero_add] at this
section
variable {o : Oper} {A : Act} {w : World} {K : Value → World → Prop}
theorem lands_move (x : Operand) (ho : o.op = .move x) (v : Value) (hx : A.eval x = v) (hk : K v w) : lands P o A w K := by
  have he : (execOp A.eval o).run P w = .ok (.value v) w := by unfold execOp; rw [ho, ← hx]; rfl
  unfold lands; rw [he]; exact hk
theorem lands_val (u : Value) (w' : World) (he : (execOp A.eval o).run P w = .ok (.value u) w') (hk : K u w') : lands P o A w K := by
  unfold lands; rw [he]; exact hk
theorem lands_call (f : FuncId) (xs : Array Operand) (ts : Array TypeId) (ho : o.op = .call { callee := .value (.func f), args := xs, argTypes := ts }) (eg : ∀ args w, (callFunc f args).run P w = .ok (.enter f args) w) (vs : Array Value) (hx : xs.map A.eval = vs)
    (hc : Calls P f vs w fun e w' => ∃ u, e = .returned u ∧ K u w') : lands P o A w K := by
  have he : (execOp A.eval o).run P w = .ok (.enter f vs) w := by
    unfold execOp
    simp [ho, resolve, invoke, go_sem, hx, eg, Act.eval]
  unfold lands; rw [he]; exact hc
end
end Qf
end Go.Proofs.Ytkllbolamgmmaaa
