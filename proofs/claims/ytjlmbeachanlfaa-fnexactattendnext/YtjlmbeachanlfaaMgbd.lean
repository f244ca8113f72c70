/- Lemmas for the proof of the law. -/
import Derived.StillTail
import Derived.Lib.QuietBelow
import Derived.Test.YtjlmbeachanlfaaProg
import Derived.Test.YtjlmbeachanlfaaMgbc
import Derived.Test.YtjlmbeachanlfaaMgas
/- A region that draws its order: a head whose operations only read (calls may lay memory), a tail whose order is forced: one walk serves every order. -/
namespace Go.Proofs.Ytjlmbeachanlfaa
namespace Qt
set_option linter.unusedVariables false
variable {P : Program} {ops : Array Oper} {md : Region.Mode} {C : World → Prop}
/-- f operations of the head are left, whatever order is drawn -/
def heads (P : Program) (md : Region.Mode) (ops : Array Oper) (C : World → Prop) (n : Nat) (L : Array Bool → Act → Prop) : Nat → Array Bool → Act → Prop
  | 0, li, a => L li a
  | f + 1, li, a => Region.ready md ops li ≠ [] ∧ ∀ i ∈ Region.ready md ops li, i < n ∧ qOp P ops C i (heads P md ops C n L f (li.setIfInBounds i true)) a
theorem heads_any {n g : Nat} {L : Array Bool → Act → Prop} {Q : Exit → Act → World → Prop} (hL : ∀ li a w, C w → L li a → wpAny P md ops Q g li a w) (f : Nat) :
    ∀ (li : Array Bool) (a : Act) (w : World), C w → heads P md ops C n L f li a → wpAny P md ops Q (f + g) li a w := by
  induction f with
  | zero => intro li a w hw h; rw [Nat.zero_add]; exact hL _ _ _ hw h
  | succ f ih =>
    intro li a w hw h
    rw [Nat.add_right_comm]
    exact ⟨fun e => absurd e h.1, fun i hi => wpOp_of_qOp hw (fun a' w' hw' h' => ih _ a' w' hw' h') (h.2 i hi).2⟩
theorem heads_first {n i : Nat} {oi : Oper} {v : Value} {L : Array Bool → Act → Prop} (hi : ops[i]? = some oi) (hsel : ∀ (j : Nat) (o : Oper) cs b, ops[j]? = some o → o.op ≠ .select cs b)
    (hs : Region.sinkB md ops n = true) (hc : Region.chainB md ops n = true) (hn : n < ops.size) (hin : i < n) (hdone : ∀ li a, L li a → ∀ j ∈ Region.ready md ops li, n ≤ j) (f : Nat) :
    ∀ (li : Array Bool) (a : Act), HeadInv md ops n li →
      (∀ j oj, ops[j]? = some oj → j ≠ i → li.getD j true = false → (∀ e ∈ oj.after, Region.binds md e = true → e.on ≠ i) → oi.apart ops oj = true) →
      i ∈ Region.ready md ops li → YieldsIn P ops C oi v a → heads P md ops C n L f (li.setIfInBounds i true) (a.put oi.dst v) → heads P md ops C n L (f + 1) li a := by
  induction f with
  | zero =>
    intro li a inv hfree hr hy H
    refine ⟨List.ne_nil_of_mem hr, fun j hj => ?_⟩
    have hjn : j < n := Nat.lt_of_not_le fun h => absurd hj (tail_waits hs hc hn inv _ i rfl hin (mem_ready.1 hr).1 j h)
    refine ⟨hjn, ?_⟩
    by_cases hji : j = i
    · subst hji; exact hy.qOp hi H
    · exact absurd (hdone _ _ H j (ready_mono hj hji)) (by omega)
  | succ f ih =>
    intro li a inv hfree hr hy H
    refine ⟨List.ne_nil_of_mem hr, fun j hj => ?_⟩
    have hun := (mem_ready.1 hr).1
    have hjn : j < n := Nat.lt_of_not_le fun h => absurd hj (tail_waits hs hc hn inv _ i rfl hin hun j h)
    refine ⟨hjn, ?_⟩
    by_cases hji : j = i
    · subst hji; exact hy.qOp hi H
    · have h1 := (H.2 j (ready_mono hj hji)).2
      obtain ⟨hjun, oj, hoj, hall⟩ := mem_ready.1 hj
      have hnot : ∀ e ∈ oj.after, Region.binds md e = true → e.on ≠ i := fun e he hb heq => by
        have h3 := hall e he hb
        rw [heq, getD_both hun] at h3
        cases h3
      have h2 := qOp_put hoj (hfree j oj hoj hji hjun hnot) (fun cs b => hsel i oi cs b hi) (fun cs b => hsel j oj cs b hoj) hy h1
      refine qOp_mono (fun a' h3 => ih (li.setIfInBounds j true) a' (inv.set hj hjn) (fun k ok hk hki hu hno => hfree k ok hk hki ?_ hno) (ready_mono hr (Ne.symm hji)) h3.1 ?_) h2
      · by_cases hjk : j = k
        · subst hjk; exact hjun
        · rwa [getD_set_ne true hjk] at hu
      · rw [Array.setIfInBounds_comm _ _ hji]
        exact h3.2
theorem heads_lex {n g : Nat} {Lq : Act → Prop} (hsel : Region.noSelect ops = true) (hs : Region.sinkB md ops n = true) (hc : Region.chainB md ops n = true) (hn : n < ops.size) :
    ∀ (l : List Oper) (k : Nat) (li : Array Bool) (a : Act), (∀ j, j < l.length → l[j]? = ops[k + j]?) → k + l.length = n → HeadInv md ops n li →
    Region.lexHead md ops g l.length k li = true → wpQuiet P ops C Lq l a → heads P md ops C n (fun li' a' => Region.seqB md ops g n li' = true ∧ Lq a') l.length li a
  | [], k, li, a, _, hk, _, hB, h => by
    obtain rfl : k = n := by simpa using hk
    exact ⟨by simpa [Region.lexHead] using hB, h⟩
  | o :: l, k, li, a, hl, hk, inv, hB, h => by
    have h0 : ops[k]? = some o := by simpa using (hl 0 (by simp)).symm
    simp only [List.length_cons, Region.lexHead, Bool.and_eq_true] at hB
    have hkn : k < n := by simp only [List.length_cons] at hk; omega
    have hr' : k ∈ Region.ready md ops li := by simpa using hB.1.1
    obtain ⟨v, hy, hK⟩ := yieldsIn_of_qOp (C := C) (P := P) (K := wpQuiet P ops C Lq l) h0 (by unfold qOp; simp only [h0]; exact h)
    refine heads_first h0 (Region.noSelect_spec hsel) hs hc hn hkn (fun li' a' hL => seqB_ready hL.1) l.length li a inv (Region.free_spec h0 hB.1.2) hr' hy ?_
    exact heads_lex hsel hs hc hn l (k + 1) _ _ (fun j hj => by have := hl (j + 1) (by simp; omega); simpa [Nat.add_assoc, Nat.add_comm 1 j] using this) (by simp only [List.length_cons] at hk; omega) (inv.set hr' hkn) hB.2 hK
theorem region_tail {id : Nat} {Q : Exit → Act → World → Prop} {a : Act} {w : World} {l : List Oper} (n : Nat) (hm : P.follows .mixedOrders = true) (hB : Region.lexTailB .any l.toArray n = true) (hC : C { w with drawn := w.drawn + 1 })
    (h : wpQuiet P l.toArray C (fun a' => ∀ w', C w' → wpList P l.toArray Q (l.drop n) a' w') (l.take n) a) : (Code.region id l.toArray true).wp P Q a w := by
  simp only [Region.lexTailB, Bool.and_eq_true, decide_eq_true_eq] at hB
  obtain ⟨⟨⟨⟨hsel, hn⟩, hs⟩, hc⟩, hlex⟩ := hB
  have htl : (l.take n).length = n := by simp at hn; simp; omega
  have hdl : (l.drop n).length = l.toArray.size - n := by simp
  have H := heads_lex (md := .any) (g := l.toArray.size - n) hsel hs hc hn (l.take n) 0 (Array.replicate l.toArray.size false) a (fun j hj => by
    have hj' : j < n := by rw [htl] at hj; exact hj
    simp [hj']) (by simpa using htl) ⟨by simp, fun j oj _ hl => (by rw [getD_replicate_false] at hl; cases hl), fun t _ ht => getD_in (by simpa using ht) (getD_replicate_false _ _)⟩ (by rw [htl]; exact hlex) h
  refine wp_region_any hm ?_
  have := heads_any (Q := Q) (g := l.toArray.size - n) (fun li a' w' hw' hL => by
    have := wpAny_of_seq (md := .any) (Q' := Q) (l.drop n) n li a' w' (fun j => by simp [List.getElem?_drop]) (by rw [hdl]; exact hL.1) (hL.2 w' hw')
    rwa [hdl] at this) _ _ _ _ hC H
  rwa [htl, show n + (l.toArray.size - n) = l.toArray.size by omega] at this
/-- the head only reads, its callees too -/
theorem region_tail_lit {id : Nat} {Q : Exit → Act → World → Prop} {a : Act} {w : World} {l : List Oper} (n : Nat) (hm : P.follows .mixedOrders = true) (hB : Region.lexTailB .any l.toArray n = true)
    (h : wpQuiet P l.toArray (fun w' => ∃ q, w' = w.drewN q) (fun a' => ∀ w', (∃ q, w' = w.drewN q) → wpList P l.toArray Q (l.drop n) a' w') (l.take n) a) : (Code.region id l.toArray true).wp P Q a w :=
  region_tail (C := fun w' => ∃ q, w' = w.drewN q) n hm hB ⟨1, rfl⟩ h
/-- the head only reads, its callees may lay memory -/
theorem region_tail_below {id : Nat} {Q : Exit → Act → World → Prop} {a : Act} {w : World} {l : List Oper} (n : Nat) (hm : P.follows .mixedOrders = true) (hB : Region.lexTailB .any l.toArray n = true)
    (h : wpQuiet P l.toArray (fun w' => ∃ p : Regrown, w' = Sort.grow (redrawn w p.d) p.os) (fun a' => ∀ w', (∃ p : Regrown, w' = Sort.grow (redrawn w p.d) p.os) → wpList P l.toArray Q (l.drop n) a' w') (l.take n) a) : (Code.region id l.toArray true).wp P Q a w :=
  region_tail (C := fun w' => ∃ p : Regrown, w' = Sort.grow (redrawn w p.d) p.os) n hm hB ⟨⟨w.drawn + 1, #[]⟩, by rw [Sort.grow_empty]; rfl⟩ h
end Qt
end Go.Proofs.Ytjlmbeachanlfaa

/- Attention of the model. -/
namespace Go.Proofs.Ytjlmbeachanlfaa
namespace Vo
open Go.ChangeShapes Go.WideShapes Go.ChangeAt Go.RowKit Go.Joins Go.Sort
open Vl Vp Vr
set_option linter.unusedVariables false
set_option linter.unusedSimpArgs false
theorem specRowE (B b2 o2 : Nat) (a : Option Addr) (s cap dap i c u : Nat) (D S : Nat → Int) (w : World) (hB : B ≤ w.heap.size) (h : Ints B w a 2 D) (hD : D 1 = (c : Int)) (hs : (s : Int) ≤ 1048576) (hd : s ≤ dap) (c1 : 1 ≤ c) (hu : i * c = u) (hi : u + c ≤ s) :
    Calls Try.prog 41 #[.agg #[.slice a 2 cap, .slice (some ⟨b2, o2, none⟩) s dap], .int .i64 (i : Int)] w fun e w' => e = .returned (.slice (some ⟨b2, o2 + u, none⟩) c (dap - u)) ∧ Below w.heap.size w w' := by
  rcases h with q | ⟨b1, o1, rfl, g1, hc⟩
  · omega
  obtain ⟨k1, _⟩ := hc 1 (by decide)
  rw [hD] at k1
  obtain ⟨W0, hW0⟩ : ∃ W0, w.alloc (.cells #[.slice (some ⟨b1, o1, none⟩) 2 cap, .slice (some ⟨b2, o2, none⟩) s dap] 43) = W0 := ⟨_, rfl⟩
  have bl : Below w.heap.size w W0 := by rw [← hW0]; exact (Below.refl _ _).alloc (Nat.le_refl _) _
  have n0 : Bx W0 w.heap.size (.slice (some ⟨b1, o1, none⟩) 2 cap) (.slice (some ⟨b2, o2, none⟩) s dap) := by rw [← hW0]; exact bx_new _ _ _ _
  have k1' : W0.cell? ⟨b1, o1 + 1, none⟩ = some (.int .i64 (c : Int)) := (bl.cell (p := ⟨b1, o1 + 1, none⟩) (by show b1 < w.heap.size; omega)).trans k1
  have e1 : (i : Int) * (c : Int) = (u : Int) := by rw [← hu, Int.natCast_mul]
  have e2 : (u : Int) + (c : Int) = ((u + c : Nat) : Int) := by omega
  have iI : (i : Int) ≤ 1048576 := by
    have : i * 1 ≤ i * c := Nat.mul_le_mul_left _ c1
    omega
  have w1 : IntKind.i64.wrap (u : Int) = u := by rw [IntKind.wrap_i64]; omega
  have w2 : IntKind.i64.wrap ((u + c : Nat) : Int) = ((u + c : Nat) : Int) := by rw [IntKind.wrap_i64]; omega
  have sl := fun W => slMid b2 o2 s dap u c (by omega) (by omega) W
  have BL := hide bl
  obtain ⟨x0, x1⟩ := n0
  clear hc bl k1 hi hu
  generalize hv : ((u + c : Nat) : Int) = v at *
  go_enter Try.func41, Try.ntmps41
  go_wp2_with fail
  go_ret
  exact ⟨rfl, BL.out⟩
/-- rows that are done, the row under way, noughts -/
def rowM (S : Nat → Int) (i e : Nat) (C : Nat → Int) (p : Nat) : Int := if p < i * e then S p else if p < i * e + e then C (p - i * e) else 0
theorem rowM_same {S C C' : Nat → Int} {i e : Nat} (h : ∀ t, t < e → C t = C' t) (p : Nat) : rowM S i e C p = rowM S i e C' p := by
  unfold rowM
  split
  · rfl
  · split
    · exact h _ (by omega)
    · rfl
theorem rowM_set {S C : Nat → Int} {i e j : Nat} {x : Int} (hj : j < e) (p : Nat) : (if p = i * e + j then x else rowM S i e C p) = rowM S i e (fun t => if t = j then x else C t) p := by
  unfold rowM
  by_cases c : p = i * e + j
  · subst c
    rw [if_pos rfl, if_neg (by omega), if_pos (by omega)]
    show x = if _ then _ else _
    rw [if_pos (by omega)]
  · rw [if_neg c]
    split
    · rfl
    · split
      · show _ = if _ then _ else _
        rw [if_neg (by omega)]
      · rfl
theorem rowM_at {S C : Nat → Int} {i e j : Nat} (hj : j < e) : rowM S i e C (i * e + j) = C j := by
  unfold rowM
  rw [if_neg (by omega), if_pos (by omega), Nat.add_sub_cancel_left]
theorem rowM_next {S C : Nat → Int} {i e : Nat} (h : ∀ t, t < e → S (i * e + t) = C t) (p : Nat) : rowM S (i + 1) e (fun _ => 0) p = rowM S i e C p := by
  unfold rowM
  have e1 : (i + 1) * e = i * e + e := by rw [Nat.add_mul, Nat.one_mul]
  rw [e1]
  by_cases c : p < i * e
  · rw [if_pos (by omega), if_pos c]
  · rw [if_neg c]
    by_cases c2 : p < i * e + e
    · rw [if_pos c2, if_pos c2, ← h _ (by omega)]; congr 1; omega
    · rw [if_neg c2, if_neg c2]; split <;> rfl
theorem rowM_zero (S : Nat → Int) (e p : Nat) : rowM S 0 e (fun _ => 0) p = 0 := by
  unfold rowM
  rw [if_neg (by omega)]; split <;> rfl
theorem rowM_end {S C : Nat → Int} {n e p : Nat} (h : p < n * e) : rowM S n e C p = S p := by
  unfold rowM
  rw [if_pos h]
/-- attention of the model, under way: its variables -/
structure A3 (B : Nat) (q k v : TV) (w wx : World) : Prop where
  bq : Bx wx w.heap.size (.slice q.a q.r q.cap) (.slice q.b q.s q.dap)
  bk : Bx wx (w.heap.size + 1) (.slice k.a k.r k.cap) (.slice k.b k.s k.dap)
  bv : Bx wx (w.heap.size + 1 + 1) (.slice v.a v.r v.cap) (.slice v.b v.s v.dap)
  z : Bx wx (w.heap.size + 1 + 1 + 1) (.slice none 0 0) (.slice none 0 0)
  fr : Free wx (w.heap.size + 1 + 1 + 1)
  bb : Below w.heap.size w wx
  sz : w.heap.size + 1 + 1 + 1 < wx.heap.size
  rq : q.read B wx
  rk : k.read B wx
  rv : v.read B wx
theorem A3.below {B : Nat} {q k v : TV} {w wx wy : World} (hB : B ≤ w.heap.size) (h : A3 B q k v w wx) (hb : Below wx.heap.size wx wy) : A3 B q k v w wy := by
  have s := h.sz
  exact ⟨h.bq.below hb (by omega), h.bk.below hb (by omega), h.bv.below hb (by omega), h.z.below hb (by omega), h.fr.below hb (by omega), h.bb.trans (hb.mono h.bb.size), Nat.lt_of_lt_of_le s hb.size, h.rq.below (hb.mono (by omega)), h.rk.below (hb.mono (by omega)), h.rv.below (hb.mono (by omega))⟩
theorem TV.read.kept {T : Nat → Prop} {B : Nat} {w w' : World} {t : TV} (h : t.read B w) (hB : B ≤ w.heap.size) (hk : Kept T w w') (hs : ∀ b, b < B → ¬ T b) : t.read B w' := ⟨h.1.kept hB hk hs, h.2.kept hB hk hs⟩
theorem A3.kept {B g : Nat} {q k v : TV} {w wx wy : World} (hB : B ≤ w.heap.size) (h : A3 B q k v w wx) (hk : Kept (· = g) wx wy) (hg : w.heap.size + 1 + 1 + 1 < g) : A3 B q k v w wy := by
  have s := h.sz
  have r : ∀ b, b < B → ¬ (b = g) := fun b hb => by omega
  exact ⟨h.bq.kept hk (by omega) (by show ¬ (_ = g); omega), h.bk.kept hk (by omega) (by show ¬ (_ = g); omega), h.bv.kept hk (by omega) (by show ¬ (_ = g); omega), h.z.kept hk (by omega) (by show ¬ (_ = g); omega), h.fr.kept hk (by omega) (by show ¬ (_ = g); omega),
    h.bb.trans (hk.below h.bb.size (fun j e => by have e : j = g := e; omega)), Nat.lt_of_lt_of_le s hk.size, h.rq.kept (by omega) hk r, h.rk.kept (by omega) hk r, h.rv.kept (by omega) hk r⟩
theorem a3_new (B : Nat) (q k v : TV) (w : World) (hB : B ≤ w.heap.size) (hq : q.read B w) (hk : k.read B w) (hv : v.read B w) :
    A3 B q k v w ((((w.alloc (.cells #[.slice q.a q.r q.cap, .slice q.b q.s q.dap] 43)).alloc (.cells #[.slice k.a k.r k.cap, .slice k.b k.s k.dap] 43)).alloc (.cells #[.slice v.a v.r v.cap, .slice v.b v.s v.dap] 43)).alloc (.cells #[.slice none 0 0, .slice none 0 0] 43)) := by
  have bl := ((((Below.refl w.heap.size w).alloc (Nat.le_refl _) (.cells #[.slice q.a q.r q.cap, .slice q.b q.s q.dap] 43)).alloc (by simp) (.cells #[.slice k.a k.r k.cap, .slice k.b k.s k.dap] 43)).alloc (by simp; omega) (.cells #[.slice v.a v.r v.cap, .slice v.b v.s v.dap] 43)).alloc (by simp; omega) (.cells #[.slice none 0 0, .slice none 0 0] 43)
  exact ⟨⟨by simp [go_sem], by simp [go_sem]⟩, ⟨by simp [go_sem], by simp [go_sem]⟩, ⟨by simp [go_sem], by simp [go_sem]⟩, ⟨by simp [go_sem], by simp [go_sem]⟩, fun i => by simp [go_sem], bl, by simp, hq.below (bl.mono hB), hk.below (bl.mono hB), hv.below (bl.mono hB)⟩
set_option maxRecDepth 100000 in
set_option maxHeartbeats 4000000 in
/-- where the three do not go together -/
theorem specAttendNoL (B : Nat) (q k v : TV) (win : Int) (w : World) (hB : B ≤ w.heap.size) (hq : q.read B w) (hk : k.read B w) (hv : v.read B w) (lq : (q.r : Int) ≤ 1048576 ∧ (q.s : Int) ≤ 33554432) (lk : (k.r : Int) ≤ 1048576 ∧ (k.s : Int) ≤ 33554432) (lv : (v.r : Int) ≤ 1048576 ∧ (v.s : Int) ≤ 33554432)
    (hw : bd win) (hno : ¬ (AttOk q k v ∧ 0 ≤ win ∧ win ≤ 4096)) :
    Calls Try.prog 20 #[.agg #[.slice q.a q.r q.cap, .slice q.b q.s q.dap], .agg #[.slice k.a k.r k.cap, .slice k.b k.s k.dap], .agg #[.slice v.a v.r v.cap, .slice v.b v.s v.dap], .int .i64 win] w fun e w' => TensR w.heap.size (attP q k v win) w e w' := by
  have A0 := hide (a3_new B q k v w hB hq hk hv)
  have NO := hide (fun (w2 : World) (hb : Below w.heap.size w w2) => show TensR w.heap.size (attP q k v win) w (.returned (.agg #[.slice none 0 0, .slice none 0 0])) w2 by rw [attP_no hno]; exact tensR_zero hb)
  have HNO := hide hno
  obtain ⟨W0, hW0⟩ : ∃ W0, (((w.alloc (.cells #[.slice q.a q.r q.cap, .slice q.b q.s q.dap] 43)).alloc (.cells #[.slice k.a k.r k.cap, .slice k.b k.s k.dap] 43)).alloc (.cells #[.slice v.a v.r v.cap, .slice v.b v.s v.dap] 43)).alloc (.cells #[.slice none 0 0, .slice none 0 0] 43) = W0 := ⟨_, rfl⟩
  rw [hW0] at A0
  obtain ⟨x0, x1⟩ := A0.out.bq
  have C1 := hide (specTensorOkL B q.a q.b q.r q.s q.cap q.dap q.D q.S W0 (by have := A0.out.sz; omega) A0.out.rq.1 A0.out.rq.2 lq.1 lq.2)
  clear hno hq hk hv
  go_enter Try.func20, Try.ntmps20
  go_wp2_with fail
  refine C1.out.mono ?_
  clear hW0 C1 x0 x1
  rintro e w1 ⟨rfl, b1⟩
  have A1 := hide (A0.out.below hB b1)
  clear A0 b1
  cases tq : tok q.r q.s q.D q.S with
  | false =>
    obtain ⟨y0, y1⟩ := A1.out.z
    have gg := A1.out.fr
    unfold Free at gg
    go_wp2_with fail
    exact bodyPost_ret (v := .agg #[.slice none 0 0, .slice none 0 0]) (by simp [results, Try.results20, go_sem, y0, y1]) rfl (NO.out _ (by
      repeat (refine Below.setCell ?_ (by simp; omega) _)
      exact A1.out.bb))
  | true =>
  obtain ⟨x0, x1⟩ := A1.out.bk
  have C1 := hide (specTensorOkL B k.a k.b k.r k.s k.cap k.dap k.D k.S w1 (by have := A1.out.sz; omega) A1.out.rk.1 A1.out.rk.2 lk.1 lk.2)
  go_wp2_with fail
  refine C1.out.mono ?_
  clear C1 x0 x1
  rintro e w2 ⟨rfl, b1⟩
  have A2 := hide (A1.out.below hB b1)
  clear A1 b1
  cases tk : tok k.r k.s k.D k.S with
  | false =>
    obtain ⟨y0, y1⟩ := A2.out.z
    have gg := A2.out.fr
    unfold Free at gg
    go_wp2_with fail
    exact bodyPost_ret (v := .agg #[.slice none 0 0, .slice none 0 0]) (by simp [results, Try.results20, go_sem, y0, y1]) rfl (NO.out _ (by
      repeat (refine Below.setCell ?_ (by simp; omega) _)
      exact A2.out.bb))
  | true =>
  obtain ⟨x0, x1⟩ := A2.out.bv
  have C1 := hide (specTensorOkL B v.a v.b v.r v.s v.cap v.dap v.D v.S w2 (by have := A2.out.sz; omega) A2.out.rv.1 A2.out.rv.2 lv.1 lv.2)
  go_wp2_with fail
  refine C1.out.mono ?_
  clear C1 x0 x1
  rintro e w3 ⟨rfl, b1⟩
  have A3' := hide (A2.out.below hB b1)
  clear A2 b1
  obtain ⟨y0, y1⟩ := A3'.out.z
  have gg := A3'.out.fr
  unfold Free at gg
  obtain ⟨p0, p1⟩ := A3'.out.bq
  obtain ⟨p2, p3⟩ := A3'.out.bk
  obtain ⟨p4, p5⟩ := A3'.out.bv
  cases tv : tok v.r v.s v.D v.S with
  | false =>
    go_wp2_with fail
    exact bodyPost_ret (v := .agg #[.slice none 0 0, .slice none 0 0]) (by simp [results, Try.results20, go_sem, y0, y1]) rfl (NO.out _ (by
      repeat (refine Below.setCell ?_ (by simp; omega) _)
      exact A3'.out.bb))
  | true =>
  by_cases q2 : q.r = 2
  rotate_left
  · have q2' : ((q.r : Int) != 2) = true := bne_iff_ne.2 (by omega)
    clear q2
    go_wp2_with fail
    exact bodyPost_ret (v := .agg #[.slice none 0 0, .slice none 0 0]) (by simp [results, Try.results20, go_sem, y0, y1]) rfl (NO.out _ (by
      repeat (refine Below.setCell ?_ (by simp; omega) _)
      exact A3'.out.bb))
  by_cases k2 : k.r = 2
  rotate_left
  · have q2' : ((q.r : Int) != 2) = false := by rw [q2]; rfl
    have k2' : ((k.r : Int) != 2) = true := bne_iff_ne.2 (by omega)
    clear q2 k2
    go_wp2_with fail
    exact bodyPost_ret (v := .agg #[.slice none 0 0, .slice none 0 0]) (by simp [results, Try.results20, go_sem, y0, y1]) rfl (NO.out _ (by
      repeat (refine Below.setCell ?_ (by simp; omega) _)
      exact A3'.out.bb))
  by_cases v2 : v.r = 2
  rotate_left
  · have q2' : ((q.r : Int) != 2) = false := by rw [q2]; rfl
    have k2' : ((k.r : Int) != 2) = false := by rw [k2]; rfl
    have v2' : ((v.r : Int) != 2) = true := bne_iff_ne.2 (by omega)
    clear q2 k2 v2
    go_wp2_with fail
    exact bodyPost_ret (v := .agg #[.slice none 0 0, .slice none 0 0]) (by simp [results, Try.results20, go_sem, y0, y1]) rfl (NO.out _ (by
      repeat (refine Below.setCell ?_ (by simp; omega) _)
      exact A3'.out.bb))
  have q2' : ((q.r : Int) != 2) = false := by rw [q2]; rfl
  have k2' : ((k.r : Int) != 2) = false := by rw [k2]; rfl
  have v2' : ((v.r : Int) != 2) = false := by rw [v2]; rfl
  obtain ⟨n, c, a1, a2, a3, a4, a5, a6⟩ := two_len (show tok 2 q.s q.D q.S = true by rw [← q2]; exact tq)
  obtain ⟨m, c', b1, b2, b3, b4, b5, b6⟩ := two_len (show tok 2 k.s k.D k.S = true by rw [← k2]; exact tk)
  obtain ⟨m', e, d1, d2, d3, d4, d5, d6⟩ := two_len (show tok 2 v.s v.D v.S = true by rw [← v2]; exact tv)
  have BAD := hide (show c = c' → m' = m → n ≤ m → (0 ≤ win ∧ win ≤ 4096) → ¬ ((n : Int) * m * (c' + e) ≤ 65536) from fun h1 h2 h3 h4 h5 => HNO.out ⟨⟨⟨tq, q2⟩, ⟨tk, k2⟩, ⟨tv, v2⟩, by rw [a2, b2, h1], by rw [b1, d1, h2], by rw [a1, b1]; omega, by rw [a1, b1, b2, d2]; exact h5⟩, h4⟩)
  have iq := A3'.out.rq.1
  have ik := A3'.out.rk.1
  have iv := A3'.out.rv.1
  rcases iq with h0 | ⟨bq, oq, eq, gq, hcq⟩
  · omega
  rcases ik with h0 | ⟨bk, ok', ek, gk, hck⟩
  · omega
  rcases iv with h0 | ⟨bv, ov, ev, gv, hcv⟩
  · omega
  have cq0 := (hcq 0 (by omega)).1
  have cq1 := (hcq 1 (by omega)).1
  have ck0 := (hck 0 (by omega)).1
  have ck1 := (hck 1 (by omega)).1
  have cv0 := (hcv 0 (by omega)).1
  have cv1 := (hcv 1 (by omega)).1
  rw [a1, Nat.add_zero] at cq0
  rw [a2] at cq1
  rw [b1, Nat.add_zero] at ck0
  rw [b2] at ck1
  rw [d1, Nat.add_zero] at cv0
  rw [d2] at cv1
  rw [eq, q2] at p0
  rw [ek, k2] at p2
  rw [ev, v2] at p4
  have nI : (n : Int) ≤ 4096 := by
    have : n * 1 ≤ n * c := Nat.mul_le_mul_left _ a4
    omega
  have mI : (m : Int) ≤ 4096 := by
    have : m * 1 ≤ m * c' := Nat.mul_le_mul_left _ b4
    omega
  have cI : (c' : Int) ≤ 4096 := by
    have : 1 * c' ≤ m * c' := Nat.mul_le_mul_right _ b3
    omega
  have eI : (e : Int) ≤ 4096 := by
    have : 1 * e ≤ m' * e := Nat.mul_le_mul_right _ d3
    omega
  have nm : n * m ≤ 4096 * 4096 := Nat.mul_le_mul (by omega) (by omega)
  have nmc : n * m * (c' + e) ≤ 4096 * 4096 * 8192 := Nat.mul_le_mul nm (by omega)
  obtain ⟨x, hx⟩ : ∃ x : Nat, n * m = x := ⟨_, rfl⟩
  obtain ⟨y, hy⟩ : ∃ y : Nat, x * (c' + e) = y := ⟨_, rfl⟩
  rw [hx] at nm nmc
  rw [hy] at nmc
  have ex : (n : Int) * m = x := by rw [← hx, Int.natCast_mul]
  have es : (c' : Int) + e = ((c' + e : Nat) : Int) := by omega
  have ey : (x : Int) * ((c' : Int) + e) = y := by rw [es, ← hy, Int.natCast_mul]
  rw [ex, ey] at BAD
  have wx : IntKind.i64.wrap (x : Int) = x := by rw [IntKind.wrap_i64]; omega
  have ws : IntKind.i64.wrap ((c' : Int) + e) = (c' : Int) + e := by rw [IntKind.wrap_i64]; omega
  have wy : IntKind.i64.wrap (y : Int) = y := by rw [IntKind.wrap_i64]; omega
  have k00 := cell_regrown p0
  have k01 := cell_regrown p2
  have k02 := cell_regrown p4
  have k1 := cell_regrown cq1
  have k3 := cell_regrown ck1
  have k4 := cell_regrown cv0
  have CI := hide (fun (z : Bool) (hz : decide (0 ≤ win ∧ win ≤ 4096) = z) (d : Nat) (os : Array Obj) => show Calls Try.prog 18 #[.int .i64 win, .int .i64 0, .int .i64 4096] (Sort.grow (redrawn w3 d) os) (fun e w'' => e = .returned (.bool z) ∧ ∃ p : Regrown, w'' = Sort.grow (redrawn w3 p.d) p.os) from Calls.regrown_of (by
    have := l5In win 0 4096 (Sort.grow (redrawn w3 d) os)
    rw [hz] at this
    exact this.mono (fun e w' ⟨h1, h2⟩ => ⟨h1, by rw [h2]; exact Below.refl _ _⟩)))
  have HY := hide hy
  clear hcq hck hcv hx hy nmc nm es a1 a2 b1 b2 d1 d2
  have FIN := hide (fun (z : Nat) (os : Array Obj) => A3'.out.below hB (below_regrown w3 z os))
  by_cases e1 : c = c'
  rotate_left
  · have e1' : ((c : Int) != (c' : Int)) = true := bne_iff_ne.2 (by omega)
    clear e1
    go_wp2_with fail
    refine wp_region_quiet_below (by kernel_rfl) (by kernel_rfl) ?_
    repeat (go_big_quiet_step (first | (go_at_call 18; exact CI.out _ rfl _ _)))
    refine wpQuiet_nil ?_
    intro _ hw'
    obtain ⟨⟨dq, osq⟩, hw''⟩ := hw'
    subst hw''
    have AF := hide (FIN.out dq osq)
    obtain ⟨y0, y1⟩ := AF.out.z
    have gg := AF.out.fr
    unfold Free at gg
    go_wp2_with fail
    exact bodyPost_ret (v := .agg #[.slice none 0 0, .slice none 0 0]) (by simp [results, Try.results20, go_sem, y0, y1]) rfl (NO.out _ (by
      repeat (refine Below.setCell ?_ (by simp; omega) _)
      exact AF.out.bb))
  have e1' : ((c : Int) != (c' : Int)) = false := by rw [e1]; simp
  by_cases e2 : m' = m
  rotate_left
  · have e2' : ((m' : Int) != (m : Int)) = true := bne_iff_ne.2 (by omega)
    clear e1 e2
    go_wp2_with fail
    refine wp_region_quiet_below (by kernel_rfl) (by kernel_rfl) ?_
    repeat (go_big_quiet_step (first | (go_at_call 18; exact CI.out _ rfl _ _)))
    refine wpQuiet_nil ?_
    intro _ hw'
    obtain ⟨⟨dq, osq⟩, hw''⟩ := hw'
    subst hw''
    have AF := hide (FIN.out dq osq)
    obtain ⟨y0, y1⟩ := AF.out.z
    have gg := AF.out.fr
    unfold Free at gg
    go_wp2_with fail
    exact bodyPost_ret (v := .agg #[.slice none 0 0, .slice none 0 0]) (by simp [results, Try.results20, go_sem, y0, y1]) rfl (NO.out _ (by
      repeat (refine Below.setCell ?_ (by simp; omega) _)
      exact AF.out.bb))
  have e2' : ((m' : Int) != (m : Int)) = false := by rw [e2]; simp
  by_cases e3 : n ≤ m
  rotate_left
  · have e3' : (m : Int) < (n : Int) := by omega
    clear e1 e2 e3
    go_wp2_with fail
    refine wp_region_quiet_below (by kernel_rfl) (by kernel_rfl) ?_
    repeat (go_big_quiet_step (first | (go_at_call 18; exact CI.out _ rfl _ _)))
    refine wpQuiet_nil ?_
    intro _ hw'
    obtain ⟨⟨dq, osq⟩, hw''⟩ := hw'
    subst hw''
    have AF := hide (FIN.out dq osq)
    obtain ⟨y0, y1⟩ := AF.out.z
    have gg := AF.out.fr
    unfold Free at gg
    go_wp2_with fail
    exact bodyPost_ret (v := .agg #[.slice none 0 0, .slice none 0 0]) (by simp [results, Try.results20, go_sem, y0, y1]) rfl (NO.out _ (by
      repeat (refine Below.setCell ?_ (by simp; omega) _)
      exact AF.out.bb))
  have e3' : decide ((m : Int) < (n : Int)) = false := decide_eq_false (by omega)
  have e3'' : decide (m < n) = false := decide_eq_false (by omega)
  by_cases e4 : 0 ≤ win ∧ win ≤ 4096
  rotate_left
  · have CJ := hide (CI.out false (decide_eq_false e4))
    clear e1 e2 e3 e4 CI
    go_wp2_with fail
    refine wp_region_quiet_below (by kernel_rfl) (by kernel_rfl) ?_
    repeat (go_big_quiet_step (first | (go_at_call 18; exact CJ.out _ _)))
    refine wpQuiet_nil ?_
    intro _ hw'
    obtain ⟨⟨dq, osq⟩, hw''⟩ := hw'
    subst hw''
    have AF := hide (FIN.out dq osq)
    obtain ⟨y0, y1⟩ := AF.out.z
    have gg := AF.out.fr
    unfold Free at gg
    go_wp2_with fail
    exact bodyPost_ret (v := .agg #[.slice none 0 0, .slice none 0 0]) (by simp [results, Try.results20, go_sem, y0, y1]) rfl (NO.out _ (by
      repeat (refine Below.setCell ?_ (by simp; omega) _)
      exact AF.out.bb))
  have CJ := hide (CI.out true (decide_eq_true e4))
  have e5 : (65536 : Int) < (y : Int) := by have := BAD.out e1 e2 e3 e4; omega
  have e5' : 65536 < y := by omega
  clear e1 e2 e3 e4 CI
  go_wp2_with fail
  refine wp_region_quiet_below (by kernel_rfl) (by kernel_rfl) ?_
  repeat (go_big_quiet_step (first | (go_at_call 18; exact CJ.out _ _)))
  refine wpQuiet_nil ?_
  intro _ hw'
  obtain ⟨⟨dq, osq⟩, hw''⟩ := hw'
  subst hw''
  have AF := hide (FIN.out dq osq)
  obtain ⟨y0, y1⟩ := AF.out.z
  have gg := AF.out.fr
  unfold Free at gg
  go_wp2_with fail
  exact bodyPost_ret (v := .agg #[.slice none 0 0, .slice none 0 0]) (by simp [results, Try.results20, go_sem, y0, y1]) rfl (NO.out _ (by
    repeat (refine Below.setCell ?_ (by simp; omega) _)
    exact AF.out.bb))
theorem specAttendNo (B : Nat) (q k v : TV) (win : Int) (w : World) (hB : B ≤ w.heap.size) (hq : q.read B w) (hk : k.read B w) (hv : v.read B w) (lq : (q.r : Int) ≤ 1048576 ∧ (q.s : Int) ≤ 1048576) (lk : (k.r : Int) ≤ 1048576 ∧ (k.s : Int) ≤ 1048576) (lv : (v.r : Int) ≤ 1048576 ∧ (v.s : Int) ≤ 1048576)
    (hw : bd win) (hno : ¬ (AttOk q k v ∧ 0 ≤ win ∧ win ≤ 4096)) :
    Calls Try.prog 20 #[.agg #[.slice q.a q.r q.cap, .slice q.b q.s q.dap], .agg #[.slice k.a k.r k.cap, .slice k.b k.s k.dap], .agg #[.slice v.a v.r v.cap, .slice v.b v.s v.dap], .int .i64 win] w fun e w' => TensR w.heap.size (attP q k v win) w e w' := specAttendNoL B q k v win w hB hq hk hv ⟨lq.1, by omega⟩ ⟨lk.1, by omega⟩ ⟨lv.1, by omega⟩ hw hno
end Vo
end Go.Proofs.Ytjlmbeachanlfaa
