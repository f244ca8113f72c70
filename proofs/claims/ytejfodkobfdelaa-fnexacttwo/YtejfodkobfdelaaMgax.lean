/- Lemmas for the proof of the law. -/
import Derived.Test.YtejfodkobfdelaaMgai
import Derived.Test.YtejfodkobfdelaaMgah
import Derived.Test.YtejfodkobfdelaaMgae
import Derived.OrdersIn
/- A region that draws its order, inside a round; slices.Backward. -/
namespace Go.Proofs.Ytejfodkobfdelaa
namespace Vo
open Go.ChangeShapes Go.WideShapes Go.ChangeAt Go.RowKit Go.Joins
open Vl Vp Vr
set_option linter.unusedVariables false
attribute [local go_sem] Oper.semAt_some

section
variable {F : Fence} {n : Nat} {P : Program} {ops : Array Oper} {Q : Exit → Act → World → Prop} {md : Region.Mode}
/-- no deferring among them -/
def noDefer (ops : Array Oper) : Bool := ops.toList.all fun o => match o.op with | .defer _ => false | _ => true
theorem noDefer_spec (h : noDefer ops = true) {j : Nat} {o : Oper} (hj : ops[j]? = some o) : ∀ c, o.op ≠ .defer c := by
  intro c e
  unfold noDefer at h
  have hm : o ∈ ops.toList := by
    rw [← Array.getElem?_toList] at hj
    exact List.mem_of_getElem? hj
  have := List.all_eq_true.1 h o hm
  rw [e] at this
  simp at this
/-- an operation inside a round: as outside -/
theorem wpOp_round (l : Nat) (hro : F.round = none) (hd : noDefer ops = true) {i : Nat} {K : Act → World → Prop} {a : Act} {w : World} (h : wpOpIn F n P ops Q i K a w) : wpOpIn (F.inRound l) n P ops Q i K a w := by
  unfold wpOpIn at *
  cases q : ops[i]? with
  | none => simpa [q] using h
  | some o =>
    simp only [q] at h ⊢
    by_cases hw : Region.wanted o (yielded ops a.tmps) = true
    · rw [if_pos hw] at h ⊢
      unfold Oper.wpIn at *
      refine ⟨h.1, ?_⟩
      have h2 := h.2
      rw [hro, Oper.semAt_none] at h2
      rw [Oper.semAt_eq _ _ _ (noDefer_spec hd q)]
      generalize (execOp a.eval o).run P w = r at *
      cases r with
      | ok x w' => cases x <;> exact h2
      | halt x w' => cases x <;> exact h2
    · rw [if_neg hw] at h ⊢
      exact h
theorem wpAny_round (l : Nat) (hro : F.round = none) (hd : noDefer ops = true) : ∀ (fuel : Nat) (listed : Array Bool) (a : Act) (w : World), wpAnyIn F n P md ops Q fuel listed a w → wpAnyIn (F.inRound l) n P md ops Q fuel listed a w
  | 0, _, _, _, h => h
  | fuel + 1, listed, a, w, h => ⟨h.1, fun i hi => wpOp_round l hro hd (wpOpIn_mono (fun a w => wpAny_round l hro hd fuel _ a w) (h.2 i hi))⟩
theorem region_round {l : Nat} {id : Nat} {a : Act} {w : World} (hm : P.follows .mixedOrders = true) (hro : F.round = none) (hd : noDefer ops = true)
    (h : wpAnyIn F n P .any ops Q ops.size (Array.replicate ops.size false) a w.drew) : (Code.region id ops true).wpIn (F.inRound l) n P Q a w :=
  wpIn_region_any hm (wpAny_round l hro hd _ _ _ _ h)
/-- a call at such a step -/
theorem stepIn_call {o : Oper} {a : Act} {w : World} {K : Act → World → Prop} {E : Prop} (hgd : o.guard = none) (f : FuncId) (xs : Array Operand) (ts : Array TypeId)
    (ho : o.op = .call { callee := .value (.func f), args := xs, argTypes := ts }) (eg : ∀ args w, (callFunc f args).run P w = .ok (.enter f args) w) (vs : Array Value) (hx : xs.map a.eval = vs) (R : Value → World → Prop)
    (hc : Calls P f vs w fun e w' => ∃ u, e = .returned u ∧ R u w') (h : ∀ u w', R u w' → K (a.put o.dst u) w') : if Region.wanted o (yielded ops a.tmps) = true then o.wpIn Fence.wide n P a w K Q else E := by
  have hw : Region.wanted o (yielded ops a.tmps) = true := by simp [Region.wanted, hgd]
  rw [if_pos hw]
  have he : (execOp a.eval o).run P w = .ok (.enter f vs) w := by
    unfold execOp
    simp [ho, resolve, invoke, go_sem, hx, eg, Act.eval]
  unfold Oper.wpIn
  refine ⟨fun _ _ => trivial, ?_⟩
  rw [show Fence.wide.round = none from rfl, Oper.semAt_none, he, Oper.uponIn_enter]
  refine ⟨(fun h => by cases h), callsIn_wide.2 (hc.mono ?_)⟩
  rintro e w' ⟨u, rfl, hr⟩
  exact h u w' hr
end
theorem strideOf (x y : Int) (w : World) : Calls Try.prog 92 #[.int .i64 x, .int .i64 y] w fun e w' => e = .returned (.int .i64 (if x = 1 then 0 else y)) ∧ w' = w := by
  by_cases c : x = 1
  · have c' : (x == 1) = true := beq_iff_eq.2 c
    rw [if_pos c]
    clear c
    go_enter Try.func92, Try.ntmps92
    go_wp2_with fail
    go_ret
    exact ⟨rfl, rfl⟩
  · have c' : (x == 1) = false := beq_eq_false_iff_ne.2 c
    rw [if_neg c]
    clear c
    go_enter Try.func92, Try.ntmps92
    go_wp2_with fail
    go_ret
    exact ⟨rfl, rfl⟩
theorem backwardF (a : Option Addr) (r cap : Nat) (w : World) :
    Calls Try.prog 99 #[.slice a r cap] w fun e w' => e = .returned (.func (.func 103) #[] #[.pointer (some ⟨w.heap.size, 0, none⟩)]) ∧ w' = w.alloc (.cells #[.slice a r cap] 22) := by
  go_enter Try.func99, Try.ntmps99
  go_wp2_with fail
  go_ret
  exact ⟨rfl, rfl⟩
set_option maxRecDepth 100000 in
set_option maxHeartbeats 1000000 in
theorem backward1 (p B : Nat) (a : Option Addr) (r cap : Nat) (D : Nat → Int) (own : Nat → Prop) (w : World) (hx : w.cell? ⟨p, 0, none⟩ = some (.slice a r cap)) (hp : p < w.heap.size) (hpo : ¬ own p) (hown : ∀ k, own k → k < w.heap.size)
    (hB : B ≤ w.heap.size) (h : Ints B w a r D) (hBo : ∀ k, k < B → ¬ own k) (hr : (r : Int) ≤ 1048576) :
    SeqN Try.prog 103 #[.pointer (some ⟨p, 0, none⟩)] (fun k => #[.int .i64 ((r : Int) - 1 - k), .int .i64 (D (r - 1 - k))]) r own w := by
  intro J Jx W hW hWs hJ hJx hY h0
  have x0 := below_cell hW (p := ⟨p, 0, none⟩) hp hx
  have H := hide (h.below (hW.mono hB))
  have HJ := hide hJ
  have HJx := hide hJx
  have HY := hide hY
  have H0 := hide h0
  have HOwn := hide hown
  have HBo := hide hBo
  clear hx h hJ hJx hY h0 hown hBo
  generalize hz : w.heap.size = z at *
  have wr0 : IntKind.i64.wrap ((r : Int) - 1) = (r : Int) - 1 := by rw [IntKind.wrap_i64]; omega
  show Calls Try.prog 103 #[.func (.yield (z + 1)) #[] #[], .pointer (some ⟨p, 0, none⟩)] W _
  go_enter Try.func103, Try.ntmps103
  go_wp2_with fail
  go_loopg [3] r (fun m i wx => ∃ k : Nat, k + m = r ∧ i = .int .i64 ((m : Int) - 1) ∧ J k wx ∧ wx.cell? ⟨p, 0, none⟩ = some (.slice a r cap) ∧ Ints B wx a r D ∧ z + 2 ≤ wx.heap.size)
  case atStart => exact ⟨0, by omega, rfl, H0.out, x0, H.out, by omega⟩
  case round =>
    obtain ⟨k, hkm, rfl, hj, hc, ha, hsz⟩ := hrel
    clear x0
    cases gk with
    | zero =>
      obtain rfl : k = r := by omega
      have JJ := hide hj
      rw [show (((0 : Nat) : Int) - 1) = -1 from rfl]
      clear hj ha
      go_wp2_with fail
      refine bodyPost_end (results_none rfl _ _ _) rfl ⟨⟨_, rfl⟩, .inl JJ.out⟩
    | succ m =>
      have hkN : k < r := by omega
      have HkN := hide hkN
      obtain ⟨fn, tmps, asg, bdy, hy, hR⟩ := HY.out k wr hj hkN
      rw [show ((r : Int) - 1 - k) = (m : Int) by omega, show r - 1 - k = m by omega] at hy
      rw [show (((m + 1 : Nat) : Int) - 1) = (m : Int) by omega]
      have hmr : m < r := by omega
      have hmI : (m : Int) < r := by omega
      have m0 : (0 : Int) ≤ (m : Int) := by omega
      have wr1 : IntKind.i64.wrap ((m : Int) - 1) = (m : Int) - 1 := by rw [IntKind.wrap_i64]; omega
      have HA := hide ha
      have HR := hide hR
      have HC := hide hc
      rcases ha with h0 | ⟨b, off, rfl, hbB, hcc⟩
      · omega
      have c1 := (hcc m hmr).1
      clear hcc hR hj
      refine (wpIn_wide (n := 0)).1 ?_
      gi_wp2
      refine ⟨rfl, HR.out.mono ?_⟩
      rintro e A (⟨rfl, hj1, hk1⟩ | ⟨rfl, hjx, hk1⟩)
      rotate_left
      · have JX := hide hjx
        clear hjx hk1 HR hy
        gi_wp2
        go_wp2_with fail
        refine bodyPost_ret (results_none rfl _ _ _) rfl ⟨⟨_, rfl⟩, .inr ⟨k, HkN.out, JX.out⟩⟩
      · have nt : ∀ t, (t < z ∧ ¬ own t) → ¬ Turn own z t := by
          rintro t ht (e | e | e)
          · exact ht.2 e
          · omega
          · omega
        have sA := hk1.size
        have HA1 := hide (HA.out.kept (by omega) hk1 (fun t ht => nt t ⟨by omega, HBo.out t ht⟩))
        have HC1 := hide ((World.cell?_of_block (w := wr) (a := ⟨p, 0, none⟩) (hk1.block p (by omega) (nt p ⟨hp, hpo⟩))).trans HC.out)
        have JK := hide hj1
        clear hj1 hk1 nt HR hy HA c1 hc
        gi_wp2
        go_wp2_with fail
        go_roundg m
        case rel => exact ⟨k + 1, by omega, rfl, JK.out, HC1.out, HA1.out, by omega⟩
        case measure => omega
end Vo
end Go.Proofs.Ytejfodkobfdelaa

/- Whole of the program. -/
namespace Go.Proofs.Ytejfodkobfdelaa
namespace Vo
open Go.ChangeShapes Go.WideShapes Go.ChangeAt Go.RowKit Go.Joins
open Vl Vp Vr
set_option linter.unusedVariables false
set_option linter.unusedSimpArgs false
attribute [local go_sem] Oper.semAt_some

theorem drew_size (w : World) : w.drew.heap.size = w.heap.size := rfl
/-- a region that ends as it should -/
def regPost (R : Act → World → Prop) : Exit → Act → World → Prop
  | .normal, a, w => R a w
  | _, _, _ => False
theorem Kept.refl (S : Nat → Prop) (w : World) : Kept S w w := Kept.of_below (Below.refl w.heap.size w)
theorem kept_ge {B : Nat} {w wx : World} (hb : Below B w wx) : Kept (fun j => B ≤ j) w wx := ⟨hb.os, hb.tape, hb.output, hb.size, fun j hj hn => hb.block j (by omega)⟩
/-- the steps from behind, k of them laid -/
def PsI (r : Nat) (D : Nat → Int) (w wx : World) (g P q k : Nat) : Prop :=
  wx.cell? ⟨P, 0, none⟩ = some (.slice (some ⟨g, 0, none⟩) r r) ∧ Rw wx g r (fun t => if r - k ≤ t then stW D r t else 0) ∧ wx.cell? ⟨q, 0, none⟩ = some (.int .i64 (bh D r k)) ∧ wx.frozen? ⟨q, 0, none⟩ = false ∧ Below w.heap.size w wx ∧ q + 2 ≤ wx.heap.size
theorem PsI.below {r : Nat} {D : Nat → Int} {w wx wy : World} {g P q k : Nat} (h : PsI r D w wx g P q k) (hb : Below (q + 2) wx wy) (hg : g < q) (hP : P < q) (hw : w.heap.size < q) : PsI r D w wy g P q k := by
  obtain ⟨q1, q3, q4, q5, q8, q9⟩ := h
  exact ⟨below_cell hb (by show P < q + 2; omega) q1, q3.below hb (by omega), below_cell hb (by show q < q + 2; omega) q4, below_mark hb (by show q < q + 2; omega) q5, q8.trans (hb.mono (by omega)), Nat.le_trans q9 hb.size⟩
theorem PsI.next {r : Nat} {D : Nat → Int} {w wx : World} {g P q k m : Nat} (h : PsI r D w wx g P q k) (hm : m + k + 1 = r) (hd : dok r D = true) (hg : g < q) (hP : P < q) (hgp : g ≠ P) (g1 : w.heap.size ≤ g) :
    PsI r D w ((wx.drew.setCell ⟨g, m, none⟩ (.int .i64 (stW D r m))).setCell ⟨q, 0, none⟩ (.int .i64 (bh D r k * D m))) g P q (k + 1) := by
  obtain ⟨q1, q3, q4, q5, q8, q9⟩ := h
  have kd : Kept (fun j => j = g ∨ j = q) wx ((wx.drew.setCell ⟨g, m, none⟩ (.int .i64 (stW D r m))).setCell ⟨q, 0, none⟩ (.int .i64 (bh D r k * D m))) :=
    ((Kept.of_below (show Below wx.heap.size wx wx.drew from (Below.refl _ _).drew)).trans ((Kept.setCell wx.drew ⟨g, m, none⟩ _).mono (fun _ _ e => .inl e))).trans ((Kept.setCell _ ⟨q, 0, none⟩ _).mono (fun _ _ e => .inr e))
  have hb : ∀ j, j ≤ r → 1 ≤ bh D r j ∧ bh D r j ≤ 4096 := fun j hj => by
    have h1 := bh_le (fun i hi => (dok_len hd hi).1) j hj
    have h2 := (dok_iff.1 hd).2
    rcases szR_cases D r with e | ⟨_, e, _, e4⟩ <;> omega
  have hs : bd (stW D r m) := by
    have := hb (r - 1 - m) (by omega)
    unfold stW bd; split <;> omega
  refine ⟨set_other (by show P ≠ q; omega) (set_other (by show P ≠ g; omega) q1), ?_, ?_, ?_, q8.trans (kd.below q8.size (fun j e => by omega)), by have := kd.size; omega⟩
  · refine Rw.same (Rw.other (Rw.set (q3.below (B := wx.heap.size) ((Below.refl _ _).drew) (by omega)) m (stW D r m) hs) (by show g ≠ q; omega)) (fun t ht => ?_)
    by_cases c : t = m
    · subst c; simp; omega
    · by_cases l : r - k ≤ t
      · rw [if_pos (by omega), if_neg c, if_pos l]
      · rw [if_neg (by omega), if_neg c, if_neg l]
  · rw [show bh D r (k + 1) = bh D r k * D m by simp only [bh]; rw [show r - 1 - k = m by omega]]
    exact World.cell?_setCell_same _ _ _ (set_other (by show q ≠ g; omega) q4)
  · rw [World.frozen?_setCell, World.frozen?_setCell]; exact q5
theorem wholeV_le (r : Nat) (D : Nat → Int) : (wholeV r D).r ≤ r ∧ (wholeV r D).s ≤ r := by
  unfold wholeV
  split
  · exact ⟨Nat.le_refl _, Nat.le_refl _⟩
  · exact ⟨Nat.zero_le _, Nat.zero_le _⟩
set_option maxRecDepth 100000 in
set_option maxHeartbeats 2000000 in
theorem plainStepsF (B : Nat) (ad : Addr) (r cap : Nat) (D : Nat → Int) (w : World) (h : Ints B w (some ad) r D) (hB : B ≤ w.heap.size) (hd : dok r D = true) :
    Calls Try.prog 88 #[.slice (some ad) r cap] w fun e w' => e = .returned (.slice (some ⟨w.heap.size, 0, none⟩) r r) ∧ Rw w' w.heap.size r (stW D r) ∧ w.heap.size < w'.heap.size ∧ Below w.heap.size w w' := by
  have H := hide h
  have HD := hide hd
  have r6 : (r : Int) ≤ 6 := by have := (dok_iff.1 hd).1; omega
  have hmk := make_int r (by omega)
  clear h hd
  refine calls_marks Try.func88 rfl ?_
  simp only [Try.ntmps88, List.size_toArray, List.length_cons, List.length_nil, Nat.reduceAdd, Nat.reduceSub, Array.replicate_succ, Array.replicate_zero, List.push_toArray, List.append_toArray, List.nil_append, List.cons_append]
  go_wp2_with fail
  refine (backwardF _ _ _ _).mono ?_
  rintro e2 w2 ⟨rfl, rfl⟩
  go_wp2_with fail
  refine abs_wp (fun W => PsI r D w W w.heap.size (w.heap.size + 1) (w.heap.size + 1 + 1) 0 ∧ W.cell? ⟨w.heap.size + 1 + 1 + 1, 0, none⟩ = some (.slice (some ad) r cap) ∧ W.heap.size = w.heap.size + 1 + 1 + 1 + 1) ⟨⟨by simp [go_sem], ?_, by simp [go_sem, bh], by simp [go_sem], ((((Below.refl _ _).alloc (Nat.le_refl _) _).alloc (by simp) _).alloc (by first | (simp; done) | (simp; omega)) _).alloc (by first | (simp; done) | (simp; omega)) _, by simp⟩, by simp [go_sem], by simp⟩ ?_
  · have b1 := (((Below.refl (w.heap.size + 1) (w.alloc (.cells (madeCells #[.int .i64 0] r) 3))).alloc (by simp) (.cells #[.slice (some ⟨w.heap.size, 0, none⟩) r r] 22)).alloc (by first | (simp; done) | (simp; omega)) (.cells #[.int .i64 1] 3)).alloc (by first | (simp; done) | (simp; omega)) (.cells #[.slice (some ad) r cap] 22)
    exact ((rw_new w r 3).below b1 (Nat.lt_succ_self _)).same (fun t ht => by rw [if_neg (by omega)])
  rintro W ⟨hw, hcs, hsz⟩
  have IT := hide (backward1 (w.heap.size + 1 + 1 + 1) B (some ad) r cap D (fun j => j = w.heap.size ∨ j = w.heap.size + 1 + 1) W hcs (by omega) (by omega) (fun j hj => by omega) (by omega) (H.out.below (hw.2.2.2.2.1.mono hB)) (fun j hj => by omega) (by omega))
  have W00 := hide hw
  have HSZ := hide hsz
  clear hw hcs hsz hmk
  refine range_nat (gf := 103) (lb := #[.pointer (some ⟨w.heap.size + 1 + 1 + 1, 0, none⟩)]) rfl (enters_of Try.func103 (by kernel_rfl) rfl)
    (fun k => #[.int .i64 ((r : Int) - 1 - k), .int .i64 (D (r - 1 - k))]) r (fun j => j = w.heap.size ∨ j = w.heap.size + 1 + 1) (fun j hj => by have := HSZ.out; omega) (fun _ => rfl) IT.out
    (fun k A => PsI r D w A w.heap.size (w.heap.size + 1) (w.heap.size + 1 + 1) k) (fun k A => False)
    (fun k A X h hb => h.below (by rw [HSZ.out] at hb; exact hb) (by omega) (by omega) (by omega)) (fun k A X h hb => h) W00.out
    (fun k => { tmps := #[.slice (some ad) r cap, undef, .slice none 0 0, .pointer (some ⟨w.heap.size + 1, 0, none⟩), .pointer (some ⟨w.heap.size + 1 + 1, 0, none⟩), .int .i64 ((r : Int) - 1 - k), .int .i64 (D (r - 1 - k)), .slice (some ad) r cap, .int .i64 r, .slice (some ⟨w.heap.size, 0, none⟩) r r, .slice (some ad) r cap, .func (.func 103) #[] #[.pointer (some ⟨w.heap.size + 1 + 1 + 1, 0, none⟩)], .int .i64 ((r : Int) - 1 - k), .int .i64 (D (r - 1 - k)), undef, undef, undef, undef, undef, undef, undef, undef, undef, undef], defers := [] }) ?assign ?body ?done ?stop
  case assign =>
    intro l k A K hK
    gi_wp2
    exact hK
  case body =>
    rintro l k A hwi hkr hszA
    have WIK := hide hwi
    obtain ⟨m, hm⟩ : ∃ m, r - 1 - k = m := ⟨_, rfl⟩
    have e1 : ((r : Int) - 1 - k) = (m : Int) := by omega
    have hst : (if D m = 1 then 0 else bh D r k) = stW D r m := by unfold stW; rw [show r - 1 - m = k by omega]
    try dsimp only
    rw [hm, e1]
    have hmr : m < r := by omega
    have hmI : (m : Int) < r := by omega
    obtain ⟨b0, hrw, hc1, hf1, _⟩ := hwi
    have c1 := (hrw m hmr).1
    have f1 := (hrw m hmr).2.1
    clear hrw
    gi_wp2
    refine wpIn_mono (Q := regPost fun a' W' => a' = { tmps := #[.slice (some ad) r cap, undef, .slice none 0 0, .pointer (some ⟨w.heap.size + 1, 0, none⟩), .pointer (some ⟨w.heap.size + 1 + 1, 0, none⟩), .int .i64 m, .int .i64 (D m), .slice (some ad) r cap, .int .i64 r, .slice (some ⟨w.heap.size, 0, none⟩) r r, .slice (some ad) r cap, .func (.func 103) #[] #[.pointer (some ⟨w.heap.size + 1 + 1 + 1, 0, none⟩)], .int .i64 m, .int .i64 (D m), .slice (some ⟨w.heap.size, 0, none⟩) r r, .int .i64 m, .int .i64 (D m), .int .i64 (bh D r k), .int .i64 (stW D r m), .pointer (some ⟨w.heap.size, m, none⟩), undef, undef, undef, undef], defers := [] } ∧ W' = A.drew.setCell ⟨w.heap.size, m, none⟩ (.int .i64 (stW D r m))) ?first ?rest
    case first =>
      refine region_round (by kernel_rfl) rfl (by kernel_rfl) ?_
      refine wpAnyIn_take (i := 1) (v := .int .i64 m) rfl rfl (by kernel_rfl) (by kernel_rfl) (by kernel_rfl) (fun _ _ _ h => h) ⟨Or.inl ⟨by rfl, by intro w; go_simp⟩, fun _ => rfl⟩ ?_
      refine wpAnyIn_take (i := 2) (v := .int .i64 (D m)) rfl rfl (by kernel_rfl) (by kernel_rfl) (by kernel_rfl) (fun _ _ _ h => h) ⟨Or.inl ⟨by rfl, by intro w; go_simp⟩, fun _ => rfl⟩ ?_
      refine wpAnyIn_ready (rs := [0, 3]) (by kernel_rfl) (by simp) ?_
      refine AllReadyIn.cons rfl (fun K hK => ?_) (AllReadyIn.cons rfl (fun K hK => ?_) AllReadyIn.nil)
      · go_simp
        refine hK _ _ ?_
        clear hK K
        refine wpAnyIn_ready (rs := [3]) (by kernel_rfl) (by simp) ?_
        refine AllReadyIn.cons rfl (fun K hK => ?_) AllReadyIn.nil
        go_simp
        refine hK _ _ ?_
        clear hK K
        refine wpAnyIn_ready (rs := [4]) (by kernel_rfl) (by simp) ?_
        refine AllReadyIn.cons rfl (fun K hK => ?_) AllReadyIn.nil
        refine stepIn_call (by rfl) 92 _ _ (by rfl) (enters_of Try.func92 (by kernel_rfl) rfl) #[.int .i64 (D m), .int .i64 (bh D r k)] (by simp [Act.eval]) (fun u w' => u = .int .i64 (stW D r m) ∧ w' = A.drew) ((strideOf _ _ _).mono (by rintro e1 w4 ⟨rfl, rfl⟩; exact ⟨_, rfl, by rw [hst], rfl⟩)) ?_
        rintro u w4 ⟨rfl, rfl⟩
        refine hK _ _ ?_
        clear hK K
        refine wpAnyIn_ready (rs := [5]) (by kernel_rfl) (by simp) ?_
        refine AllReadyIn.cons rfl (fun K hK => ?_) AllReadyIn.nil
        go_simp
        refine hK _ _ ?_
        clear hK K
        refine wpAnyIn_ready (rs := [6]) (by kernel_rfl) (by simp) ?_
        refine AllReadyIn.cons rfl (fun K hK => ?_) AllReadyIn.nil
        go_simp
        refine hK _ _ ?_
        clear hK K
        refine wpAnyIn_done (by kernel_rfl) ?_ _
        exact ⟨rfl, rfl⟩
      · go_simp
        refine hK _ _ ?_
        clear hK K
        refine wpAnyIn_ready (rs := [0, 4]) (by kernel_rfl) (by simp) ?_
        refine AllReadyIn.cons rfl (fun K hK => ?_) (AllReadyIn.cons rfl (fun K hK => ?_) AllReadyIn.nil)
        · go_simp
          refine hK _ _ ?_
          clear hK K
          refine wpAnyIn_ready (rs := [4]) (by kernel_rfl) (by simp) ?_
          refine AllReadyIn.cons rfl (fun K hK => ?_) AllReadyIn.nil
          refine stepIn_call (by rfl) 92 _ _ (by rfl) (enters_of Try.func92 (by kernel_rfl) rfl) #[.int .i64 (D m), .int .i64 (bh D r k)] (by simp [Act.eval]) (fun u w' => u = .int .i64 (stW D r m) ∧ w' = A.drew) ((strideOf _ _ _).mono (by rintro e1 w4 ⟨rfl, rfl⟩; exact ⟨_, rfl, by rw [hst], rfl⟩)) ?_
          rintro u w4 ⟨rfl, rfl⟩
          refine hK _ _ ?_
          clear hK K
          refine wpAnyIn_ready (rs := [5]) (by kernel_rfl) (by simp) ?_
          refine AllReadyIn.cons rfl (fun K hK => ?_) AllReadyIn.nil
          go_simp
          refine hK _ _ ?_
          clear hK K
          refine wpAnyIn_ready (rs := [6]) (by kernel_rfl) (by simp) ?_
          refine AllReadyIn.cons rfl (fun K hK => ?_) AllReadyIn.nil
          go_simp
          refine hK _ _ ?_
          clear hK K
          refine wpAnyIn_done (by kernel_rfl) ?_ _
          exact ⟨rfl, rfl⟩
        · refine stepIn_call (by rfl) 92 _ _ (by rfl) (enters_of Try.func92 (by kernel_rfl) rfl) #[.int .i64 (D m), .int .i64 (bh D r k)] (by simp [Act.eval]) (fun u w' => u = .int .i64 (stW D r m) ∧ w' = A.drew) ((strideOf _ _ _).mono (by rintro e1 w4 ⟨rfl, rfl⟩; exact ⟨_, rfl, by rw [hst], rfl⟩)) ?_
          rintro u w4 ⟨rfl, rfl⟩
          refine hK _ _ ?_
          clear hK K
          refine wpAnyIn_ready (rs := [0]) (by kernel_rfl) (by simp) ?_
          refine AllReadyIn.cons rfl (fun K hK => ?_) AllReadyIn.nil
          go_simp
          refine hK _ _ ?_
          clear hK K
          refine wpAnyIn_ready (rs := [5]) (by kernel_rfl) (by simp) ?_
          refine AllReadyIn.cons rfl (fun K hK => ?_) AllReadyIn.nil
          go_simp
          refine hK _ _ ?_
          clear hK K
          refine wpAnyIn_ready (rs := [6]) (by kernel_rfl) (by simp) ?_
          refine AllReadyIn.cons rfl (fun K hK => ?_) AllReadyIn.nil
          go_simp
          refine hK _ _ ?_
          clear hK K
          refine wpAnyIn_done (by kernel_rfl) ?_ _
          exact ⟨rfl, rfl⟩
    case rest =>
      rintro ex a' W' hp
      cases ex with
      | normal =>
        obtain ⟨rfl, rfl⟩ := hp
        have c2 : (A.drew.setCell ⟨w.heap.size, m, none⟩ (.int .i64 (stW D r m))).cell? ⟨w.heap.size + 1 + 1, 0, none⟩ = some (.int .i64 (bh D r k)) := set_other (by show w.heap.size + 1 + 1 ≠ w.heap.size; omega) hc1
        have f2 : (A.drew.setCell ⟨w.heap.size, m, none⟩ (.int .i64 (stW D r m))).frozen? ⟨w.heap.size + 1 + 1, 0, none⟩ = false := by rw [World.frozen?_setCell]; exact hf1
        have hwrap : IntKind.i64.wrap (bh D r k * D m) = bh D r k * D m := by
          have h1 := bh_le (fun i hi => (dok_len HD.out hi).1) (k + 1) (by omega)
          have h2 := (dok_iff.1 HD.out).2
          have e2 : bh D r (k + 1) = bh D r k * D m := by simp only [bh]; rw [hm]
          rw [e2] at h1
          rw [IntKind.wrap_i64]
          rcases szR_cases D r with e | ⟨_, e, _, e4⟩ <;> omega
        clear hst b0 c1 f1 hc1 hf1
        generalize hW2 : A.drew.setCell ⟨w.heap.size, m, none⟩ (.int .i64 (stW D r m)) = W2 at *
        have HW2 := hide hW2
        clear hW2
        gi_wp2
        rw [← HW2.out]
        exact ⟨((Kept.of_below (show Below A.heap.size A A.drew from (Below.refl _ _).drew)).trans ((Kept.setCell A.drew ⟨w.heap.size, m, none⟩ _).mono (fun _ _ e => .inl e))).trans ((Kept.setCell _ ⟨w.heap.size + 1 + 1, 0, none⟩ _).mono (fun _ _ e => .inr e)), WIK.out.next (by omega) HD.out (by omega) (by omega) (by omega) (Nat.le_refl _)⟩
      | ret => exact hp.elim
      | exit id => exact hp.elim
      | goto t => exact hp.elim
      | panic ch => exact hp.elim
      | outgrown => exact hp.elim
  case done =>
    rintro A hwi hK
    have HK := hide hK
    obtain ⟨b0, r3, _, _, r8, r9⟩ := hwi
    have R3 := hide r3
    have R8 := hide r8
    clear hK r3 r8
    go_wp2_with fail
    have zz := HSZ.out
    have kp := kept_put A W.heap.size (.deferred none)
    have r3' := (R3.out.kept kp (by show ¬ w.heap.size = W.heap.size; omega)).same (E := stW D r) (fun t ht => by rw [if_pos (by omega)])
    refine end1 (v := .slice (some ⟨w.heap.size, 0, none⟩) r r) rfl HK.out (by simp [results, Try.results88, go_sem]) ?_
    exact ⟨rfl, r3', by have := kp.size; omega, R8.out.trans (kp.below R8.out.size (fun j hj => by have hj : j = W.heap.size := hj; omega))⟩
  case stop =>
    rintro k A hkN hf hK
    exact hf.elim
set_option maxRecDepth 100000 in
set_option maxHeartbeats 2000000 in
theorem wholeC (B : Nat) (ad : Addr) (r cap : Nat) (D : Nat → Int) (w : World) (h : Ints B w (some ad) r D) (hB : B ≤ w.heap.size) (hr : (r : Int) ≤ 1048576) :
    Calls Try.prog 68 #[.slice (some ad) r cap] w fun e w' => ViewR w.heap.size (wholeV r D) w e w' := by
  have BL := hide (show Below w.heap.size w (w.alloc (.cells #[.slice none 0 0, .slice none 0 0, .int .i64 0, .int .i64 0] 26)) from (Below.refl _ _).alloc (Nat.le_refl _) _)
  have M0 := hide (box_new w (.slice none 0 0) (.slice none 0 0) (.int .i64 0) (.int .i64 0) 26)
  have G0 := hide (free_new w #[.slice none 0 0, .slice none 0 0, .int .i64 0, .int .i64 0] 26)
  have H := hide h
  clear h
  go_enter Try.func68, Try.ntmps68
  by_cases hd0 : dok r D = false
  · have e := hide (wholeV_no hd0)
    have hs : sz r D = 0 := by
      unfold dok at hd0
      have := of_decide_eq_false hd0
      have : 0 ≤ sz r D := by unfold sz; split; omega; exact (szR_rng D r).1
      omega
    clear hd0
    go_wp2_with fail
    refine (Vs.sizeOf B (some ad) r cap D _ (H.out.below (BL.out.mono hB)) hr).mono ?_; rintro e1 w1 ⟨rfl, rfl⟩
    rw [hs]
    clear hs
    go_wp2_with fail
    refine bodyPost_ret (v := .agg #[.slice none 0 0, .slice none 0 0, .int .i64 0, .int .i64 0]) (by simp [results, Try.results68, go_sem]) rfl (by
      rw [e.out]; refine viewR_zero ?_
      repeat (refine Below.setCell ?_ (by simp) _)
      exact BL.out)
  have hd : dok r D = true := by simpa using hd0
  clear hd0
  have e := hide (wholeV_yes hd)
  have HD := hide hd
  have es : sz r D = szR D r := by unfold sz; rw [if_neg (by have := (dok_iff.1 hd).1; omega)]
  have s0 : 0 < szR D r := (dok_iff.1 hd).2
  have s1 : (szR D r == 0) = false := beq_eq_false_iff_ne.2 (by omega)
  clear hd
  go_wp2_with fail
  refine (Vs.sizeOf B (some ad) r cap D _ (H.out.below (BL.out.mono hB)) hr).mono ?_; rintro e1 w1 ⟨rfl, rfl⟩
  rw [es]
  clear es
  go_wp2_with fail
  refine (clone B (some ad) r cap D _ (H.out.below (BL.out.mono hB)) (Nat.le_trans hB BL.out.size) hr (fun h => by cases h)).mono ?_
  rintro e1 w2 ⟨va, rfl, hva, b2⟩
  obtain ⟨aa, ac, rfl, ho⟩ := RowV.own hva
  have B2 := hide (BL.out.trans (b2.mono BL.out.size))
  have M2 := hide (M0.out.below b2 (by simp))
  have G2 := hide (G0.out.below b2 (by simp))
  have O2 := hide ho
  have z2 : w.heap.size + 1 ≤ w2.heap.size := by have := b2.size; simpa using this
  clear hva b2 ho
  go_wp2_with fail
  refine (plainStepsF B ad r cap D _ (H.out.below (B2.out.mono hB)) (Nat.le_trans hB B2.out.size) HD.out).mono ?_
  rintro e1 w3 ⟨rfl, hrw, hlt, b3⟩
  have B3 := hide (B2.out.trans (b3.mono B2.out.size))
  have M3 := M2.out.below b3 (by omega)
  have G3 := G2.out.below b3 (by omega)
  have O3 := hide (O2.out.below b3)
  have RW := hide hrw
  have E3 := hide (fun j (q : Blk aa r j) => O2.out.blk q)
  have MM := hide M3
  obtain ⟨y0, y1, y2, y3⟩ := M3
  unfold Free at G3
  clear b3 hrw M2 G2 O2
  go_wp2_with fail
  have k4 := kept_sets4 w3 w.heap.size (.slice aa r ac) (.slice (some ⟨w2.heap.size, 0, none⟩) r r) (.int .i64 0) (.int .i64 (szR D r))
  obtain ⟨z0, z1, z2, z3⟩ := box_sets4 MM.out (.slice aa r ac) (.slice (some ⟨w2.heap.size, 0, none⟩) r r) (.int .i64 0) (.int .i64 (szR D r))
  refine bodyPost_ret (v := .agg #[.slice aa r ac, .slice (some ⟨w2.heap.size, 0, none⟩) r r, .int .i64 0, .int .i64 (szR D r)]) (by simp [results, Try.results68, go_sem, z0, z1, z2, z3]) rfl ?_
  rw [e.out]
  exact ⟨aa, some ⟨w2.heap.size, 0, none⟩, ac, r, rfl, ⟨(O3.out.kept k4 (fun j q e => by have := (E3.out j q).1; have e : j = w.heap.size := e; simp only [World.size_alloc] at this; omega)).mono (by simp only [World.size_alloc]; omega), .inr ⟨_, rfl, by omega, RW.out.kept k4 (by show ¬ w2.heap.size = w.heap.size; omega)⟩, fun j q1 q2 => by
    have := (E3.out j q1).2
    obtain ⟨_, ad', e', e''⟩ := q2
    cases e'
    have e'' : w2.heap.size = j := e''
    omega⟩, B3.out.trans (k4.below B3.out.size (fun j e => by have e : j = w.heap.size := e; omega))⟩
theorem whole (B : Nat) (ad : Addr) (r : Nat) (D : Nat → Int) (w : World) (h : Ints B w (some ad) r D) (hB : B ≤ w.heap.size) (hr : (r : Int) ≤ 1048576) :
    Calls Try.prog 68 #[.slice (some ad) r r] w fun e w' => ViewR w.heap.size (wholeV r D) w e w' := wholeC B ad r r D w h hB hr
end Vo
end Go.Proofs.Ytejfodkobfdelaa
