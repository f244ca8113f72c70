/- Plans: what is asked of one, in the program. -/
import Derived.Test.YtgmjijjckedmcaaMo
import Derived.Test.YtgmjijjckedmcaaMc
namespace Go.Proofs.Ytgmjijjckedmcaa
namespace Vo
open Go.ChangeShapes Go.WideShapes Go.ChangeAt Go.RowKit Go.Joins Go.Sort
open Vl Vp
set_option linter.unusedVariables false
set_option linter.unusedSimpArgs false
/-- a plan -/
structure PV where
  v : NV
  oa : Option Addr
  r : Nat
  ocap : Nat
  O : Nat → Int
  ar : Int
def PV.val (p : PV) : Value := .agg #[.slice p.v.sa p.v.sn p.v.scap, .slice p.v.ia p.v.i p.v.icap, .slice p.v.fa p.v.fn p.v.fcap, .slice p.v.ka p.v.kn p.v.kcap, .slice p.v.oa p.v.on p.v.ocap, .slice p.oa p.r p.ocap, .int .i64 p.ar]
def PV.read (B : Nat) (w : World) (p : PV) : Prop := p.v.read B w ∧ Ints B w p.oa p.r p.O ∧ bd p.ar
theorem PV.read.below {B : Nat} {w w' : World} {p : PV} (h : p.read B w) (hb : Below B w w') : p.read B w' := ⟨h.1.below hb, h.2.1.below hb, h.2.2⟩
theorem PV.read.mono {B B' : Nat} {w : World} {p : PV} (h : p.read B w) (hb : B ≤ B') : p.read B' w := ⟨h.1.mono hb, h.2.1.mono hb, h.2.2⟩
def PV.len (p : PV) (m : Int) : Prop := p.v.len m ∧ (p.r : Int) ≤ m
/-- the offset of the i-th life -/
def pof (p : PV) : Nat → Int := fun i => p.O ((lvs p.v p.v.sn).getD i 0)
/-- a plan that can be -/
def PlOk (p : PV) : Prop := NOk p.v ∧ p.r = p.v.sn ∧ (∀ b, b < p.v.sn → lifeB p.v b = false → p.O b = -1) ∧ POk (lvn p.v) (LVS p.v) (lvn p.v) (pof p) ∧ p.ar ≤ 1000000 ∧ pkf (LVS p.v) (pof p) (lvn p.v) ≤ p.ar
instance (p : PV) : Decidable (PlOk p) := by unfold PlOk; infer_instance
theorem lvn_le (v : NV) : lvn v ≤ v.sn := lvs_len v v.sn
theorem lvs_mem {v : NV} {q : Nat} (hq : q < v.sn) (hl : lifeB v q = true) : ∃ i, i < lvn v ∧ (lvs v v.sn).getD i 0 = q := by
  have m : q ∈ lvs v v.sn := List.mem_filter.2 ⟨List.mem_range.2 hq, hl⟩
  obtain ⟨i, hi⟩ := List.getElem?_of_mem m
  exact ⟨i, (List.getElem?_eq_some_iff.1 hi).1, by rw [List.getD_eq_getElem?_getD, hi]; rfl⟩
theorem bbf_in (p : PV) : ∀ (m q : Nat), (∃ i, i < m ∧ (lvs p.v p.v.sn).getD i 0 = q) → bbf (LVS p.v) (pof p) m q = p.O q
  | 0, q, h => by obtain ⟨i, hi, _⟩ := h; omega
  | m + 1, q, h => by
    show (if q = (LVS p.v m).b.toNat then pof p m else bbf (LVS p.v) (pof p) m q) = _
    have e : (LVS p.v m).b.toNat = (lvs p.v p.v.sn).getD m 0 := rfl
    rw [e]
    by_cases c : q = (lvs p.v p.v.sn).getD m 0
    · rw [if_pos c]; unfold pof; rw [← c]
    · rw [if_neg c]
      obtain ⟨i, hi, he⟩ := h
      exact bbf_in p m q ⟨i, by
        by_cases d : i = m
        · rw [d] at he; exact absurd he.symm c
        · omega, he⟩
theorem bbf_out (p : PV) : ∀ (m q : Nat), (∀ i, i < m → (lvs p.v p.v.sn).getD i 0 ≠ q) → bbf (LVS p.v) (pof p) m q = -1
  | 0, q, h => rfl
  | m + 1, q, h => by
    show (if q = (LVS p.v m).b.toNat then pof p m else bbf (LVS p.v) (pof p) m q) = _
    have e : (LVS p.v m).b.toNat = (lvs p.v p.v.sn).getD m 0 := rfl
    rw [e, if_neg (fun c => h m (by omega) c.symm)]
    exact bbf_out p m q (fun i hi => h i (by omega))
theorem bbf_eq (p : PV) : (∀ q, q < p.v.sn → p.O q = bbf (LVS p.v) (pof p) (lvn p.v) q) ↔ ∀ b, b < p.v.sn → lifeB p.v b = false → p.O b = -1 := by
  constructor
  · intro h b hb hl
    rw [h b hb]
    refine bbf_out p _ _ (fun i hi e => ?_)
    have q := lvs_at (v := p.v) (j := p.v.sn) (i := i) hi
    rw [e, hl] at q
    cases q.2
  · intro h q hq
    cases hl : lifeB p.v q with
    | true => rw [bbf_in p _ _ (lvs_mem hq hl)]
    | false =>
      rw [h q hq hl]
      refine (bbf_out p _ _ (fun i hi e => ?_)).symm
      have z := lvs_at (v := p.v) (j := p.v.sn) (i := i) hi
      rw [e, hl] at z
      cases z.2
theorem lvs_ok {v : NV} (h : NOk v) : LOk (lvn v) (LVS v) := by
  refine ⟨Nat.le_trans (lvn_le v) h.1.1, fun i hi => ?_⟩
  obtain ⟨q1, q2⟩ := lvs_at (v := v) (j := v.sn) (i := i) hi
  obtain ⟨b, hb⟩ : ∃ b, (lvs v v.sn).getD i 0 = b := ⟨_, rfl⟩
  show MOk (lifeV v ((lvs v v.sn).getD i 0))
  rw [hb] at q1 q2 ⊢
  have s := h.2.2.1 b q1
  have k4 := h.1.2.2.2
  have f1 := fs_lt v.KK b v.kn
  have l1 := ls_rng v.KK b v.kn
  have fl := fs_ls v.KK b v.kn
  unfold lifeB at q2
  simp only [Bool.and_eq_true, decide_eq_true_eq] at q2
  unfold lifeV MOk
  dsimp only
  refine ⟨by omega, ?_, ?_, ?_⟩
  · split
    · omega
    · split <;> omega
  · split
    · split <;> omega
    · split <;> split <;> omega
  · split <;> omega
section
variable {o : Oper} {A : Act} {w : World} {x : Operand} {b f : Nat} {v0 : Value}
theorem qFieldP1 (ho : o.op = .fieldAddr 45 x 1) (hx : A.eval x = .pointer (some ⟨b, 0, none⟩)) : (execOp A.eval o).run Try.prog w = .ok (.value (.pointer (some ⟨b, 5, none⟩))) w := by
  unfold execOp
  rw [ho]
  simp only [hx]
  go_simp
theorem qLoadL (ho : o.op = .load 28 x) (hx : A.eval x = .pointer (some ⟨b, f, none⟩)) (h : w.cell? ⟨b, f, none⟩ = some v0) : (execOp A.eval o).run Try.prog w = .ok (.value v0) w := by
  unfold execOp
  rw [ho]
  simp only [hx]
  go_simp
end
/-- a row of numbers of one's own, as a value -/
def RwV (n : Nat) (D : Nat → Int) (v : Value) (wx : World) : Prop := ∃ g, v = .slice (some ⟨g, 0, none⟩) n n ∧ Rw wx g n D ∧ g < wx.heap.size
theorem RwV.below {n : Nat} {D : Nat → Int} {v : Value} {w1 w2 : World} (h : RwV n D v w1) (hb : Below w1.heap.size w1 w2) : RwV n D v w2 := by
  obtain ⟨g, e, r, z⟩ := h
  exact ⟨g, e, r.below hb z, Nat.lt_of_lt_of_le z hb.size⟩
set_option maxRecDepth 100000 in
set_option maxHeartbeats 2000000 in
theorem planAt (B B' : Nat) (p : PV) (P Q g m cap k : Nat) (w : World) (hB : B ≤ w.heap.size) (h : Ints B w p.oa p.r p.O) (hL : OML B' w g m m (LVS p.v)) (hp : w.cell? ⟨P, 5, none⟩ = some (.slice p.oa p.r p.ocap)) (hq : w.cell? ⟨Q, 0, none⟩ = some (.slice (some ⟨g, 0, none⟩) m cap)) (hk : k < m) (hm : m = lvn p.v) (hr : p.r = p.v.sn) :
    Calls Try.prog 38 #[.int .i64 k, .pointer (some ⟨P, 0, none⟩), .pointer (some ⟨Q, 0, none⟩)] w fun e w' => e = .returned (.int .i64 (pof p k)) ∧ Below w.heap.size w w' := by
  have kI : (k : Int) < m := by omega
  obtain ⟨⟨c0, c1, c2, c3⟩, _⟩ := hL.laid k hk
  have q := lvs_at (v := p.v) (j := p.v.sn) (i := k) (by rw [hm] at hk; exact hk)
  obtain ⟨n, hn⟩ : ∃ n : Nat, (lvs p.v p.v.sn).getD k 0 = n := ⟨_, rfl⟩
  have cb : w.cell? ⟨g, k * 4, none⟩ = some (.int .i64 (n : Int)) := by
    have e : (LVS p.v k).b = (n : Int) := by show (((lvs p.v p.v.sn).getD k 0 : Nat) : Int) = n; rw [hn]
    rw [← e]; exact c0
  have EP := hide (show pof p k = p.O n by unfold pof; rw [hn])
  rw [hn] at q
  have nlt : n < p.r := by omega
  have nI : (n : Int) < p.r := by omega
  rcases h with h0 | ⟨ob, oo, e, hob, hoc⟩
  · omega
  rw [e] at hp
  have co := (hoc n nlt).1
  have kcb := cell_regrown cb
  have kco := cell_regrown co
  have khp := cell_regrown hp
  have khq := cell_regrown hq
  clear hoc e hn c0 c1 c2 c3 q hL hm hr
  go_enter Try.func38, Try.ntmps38
  go_wp2_with fail
  refine wp_region_quiet_below (by kernel_rfl) (by kernel_rfl) ?_
  repeat (go_big_quiet_step (fail))
  refine wpQuiet_nil ?_
  intro _ hw'
  obtain ⟨⟨dq, osq⟩, hw''⟩ := hw'
  subst hw''
  go_wp2_with fail
  go_ret
  exact ⟨by rw [EP.out]; rfl, below_regrown w dq osq⟩
set_option maxRecDepth 100000 in
set_option maxHeartbeats 8000000 in
theorem planOkF (B : Nat) (p : PV) (w : World) (hB : B ≤ w.heap.size) (h : p.read B w) (hl : p.len 1048576) :
    Calls Try.prog 17 #[p.val] w fun e w' => e = .returned (.bool (decide (PlOk p))) ∧ Below w.heap.size w w' := by
  obtain ⟨W1, hW1⟩ : ∃ W1, w.alloc (.cells #[.slice p.v.sa p.v.sn p.v.scap, .slice p.v.ia p.v.i p.v.icap, .slice p.v.fa p.v.fn p.v.fcap, .slice p.v.ka p.v.kn p.v.kcap, .slice p.v.oa p.v.on p.v.ocap, .slice p.oa p.r p.ocap, .int .i64 p.ar] 45) = W1 := ⟨_, rfl⟩
  have B1 := hide (show Below w.heap.size w W1 by rw [← hW1]; exact (Below.refl _ _).alloc (Nat.le_refl _) _)
  have c7 := Cells7.new w (.slice p.v.sa p.v.sn p.v.scap) (.slice p.v.ia p.v.i p.v.icap) (.slice p.v.fa p.v.fn p.v.fcap) (.slice p.v.ka p.v.kn p.v.kcap) (.slice p.v.oa p.v.on p.v.ocap) (.slice p.oa p.r p.ocap) (.int .i64 p.ar) 45
  rw [hW1] at c7
  have C1 := hide c7
  have z1 : w.heap.size < W1.heap.size := World.block_lt_of_cell? _ _ c7.1
  have HR := hide (h.below (B1.out.mono hB))
  have HL := hide hl
  have rl : (p.r : Int) ≤ 1048576 := hl.2
  have hB1 : B ≤ W1.heap.size := by omega
  obtain ⟨p0, p1, p2, p3, p4, p5, p6⟩ := c7
  have CN := hide (nestOkF givenDoes B p.v W1 hB1 HR.out.1 hl.1)
  unfold NV.val at CN
  unfold PV.val
  clear h hl
  go_enter Try.func17, Try.ntmps17
  by_cases d0 : NOk p.v
  case neg =>
    have e := hide (show ¬ PlOk p from fun q => d0 q.1)
    rw [decide_eq_false d0] at CN
    clear d0
    go_wp2_with fail
    refine CN.out.mono ?_
    rintro e1 W2 ⟨rfl, b2⟩
    have B2 := hide (B1.out.trans (b2.mono B1.out.size))
    go_wp2_with fail
    go_ret
    exact ⟨by rw [decide_eq_false e.out]; rfl, B2.out⟩
  rw [decide_eq_true d0] at CN
  have OK := hide d0
  clear d0
  go_wp2_with fail
  refine CN.out.mono ?_
  rintro e1 W2 ⟨rfl, b2⟩
  have B2 := hide b2
  clear b2 CN p0 p1 p2 p3 p4 p5 p6 hW1
  obtain ⟨p0, p1, p2, p3, p4, p5, p6⟩ := C1.out.below B2.out z1
  by_cases d1 : p.r = p.v.sn
  case neg =>
    have e := hide (show ¬ PlOk p from fun q => d1 q.2.1)
    have d1' : ((p.r : Int) != (p.v.sn : Int)) = true := by simpa using (fun q : (p.r : Int) = p.v.sn => d1 (by omega))
    have d1'' : (p.r != p.v.sn) = true := by simpa using d1
    clear d1
    go_wp2_with fail
    go_ret
    exact ⟨by rw [decide_eq_false e.out]; rfl, B1.out.trans (B2.out.mono B1.out.size)⟩
  have d1' : ((p.r : Int) != (p.v.sn : Int)) = false := by simp [d1]
  have d1'' : (p.r != p.v.sn) = false := by simp [d1]
  have ER := hide d1
  have sn200 : p.v.sn ≤ 200 := OK.out.1.1
  have r200 : p.r ≤ 200 := by omega
  have CLV := hide (livesL B p.v W2 (Nat.le_trans hB1 B2.out.size) (HR.out.1.below (B2.out.mono hB1)) HL.out.1 OK.out)
  unfold NV.val at CLV
  have mle' := lvn_le p.v
  obtain ⟨m, hm⟩ : ∃ m, lvn p.v = m := ⟨_, rfl⟩
  rw [hm] at CLV mle'
  have mle : m ≤ p.v.sn := mle'
  have EM := hide hm
  clear d1 hm mle'
  go_wp2_with fail
  refine CLV.out.mono ?_
  rintro e1 W3 ⟨g, rfl, o3, b3⟩
  have O3 := hide o3
  have B3 := hide (B2.out.trans (b3.mono B2.out.size))
  clear b3 o3 CLV p0 p1 p2 p3 p4 p5 p6 d1' d1''
  obtain ⟨p0, p1, p2, p3, p4, p5, p6⟩ := C1.out.below B3.out z1
  obtain ⟨W4, hW4⟩ : ∃ W4, W3.alloc (.cells #[.slice (some ⟨g, 0, none⟩) m p.v.sn] 28) = W4 := ⟨_, rfl⟩
  have b4 : Below W3.heap.size W3 W4 := by rw [← hW4]; exact (Below.refl _ _).alloc (Nat.le_refl _) _
  have cq : W4.cell? ⟨W3.heap.size, 0, none⟩ = some (.slice (some ⟨g, 0, none⟩) m p.v.sn) := by rw [← hW4]; simp [go_sem]
  have z4 : W3.heap.size < W4.heap.size := World.block_lt_of_cell? _ _ cq
  have CQ := hide cq
  have B4 := hide (B3.out.trans (b4.mono B3.out.size))
  have O4 := hide (O3.out.below b4)
  have PO2 : ∃ PO, pof p = PO := ⟨_, rfl⟩
  obtain ⟨PO, hPO⟩ := PO2
  have EPO := hide hPO
  have BFS := hide (show ∀ i, i < m → 0 ≤ (LVS p.v i).b ∧ (LVS p.v i).b < p.r from fun i hi => by
    have q := lvs_at (v := p.v) (j := p.v.sn) (i := i) (by have := EM.out; unfold lvn at this; omega)
    have e : (LVS p.v i).b = (((lvs p.v p.v.sn).getD i 0 : Nat) : Int) := rfl
    rw [e]
    have := ER.out
    omega)
  have PBD := hide (show ∀ k, k < m → bd (PO k) from fun k hk => by
    rw [← hPO]
    have q := lvs_at (v := p.v) (j := p.v.sn) (i := k) (by have := EM.out; unfold lvn at this; omega)
    exact HR.out.2.1.bd _ (by have := ER.out; omega))
  have CE := hide (elemI2 m 38 (.pointer (some ⟨w.heap.size, 0, none⟩)) (.pointer (some ⟨W3.heap.size, 0, none⟩)) PO W4 (by omega) PBD.out (enters_of Try.func38 (by kernel_rfl) rfl) (fun k W hk hb => by
    rw [← EPO.out]
    exact planAt W4.heap.size _ p w.heap.size W3.heap.size g m p.v.sn k W hb.size (((HR.out.2.1.below (B4.out.mono hB1)).mono (Nat.le_trans hB1 B4.out.size)).below hb) (O4.out.below hb) (C1.out.below (B4.out.trans (hb.mono B4.out.size)) z1).2.2.2.2.2.1 ((hb.cell (p := ⟨W3.heap.size, 0, none⟩) z4).trans CQ.out) hk EM.out.symm ER.out))
  clear hPO b4
  go_wp2_with fail
  refine CE.out.mono ?_
  rintro e1 W5 ⟨rfl, r5, z5, b5⟩
  have R5 := hide r5
  have B5' := hide (B4.out.trans (b5.mono B4.out.size))
  have B5 := hide (B1.out.trans (B5'.out.mono B1.out.size))
  have O5 := hide (O4.out.below b5)
  have Q5 := hide ((b5.cell (p := ⟨W3.heap.size, 0, none⟩) z4).trans CQ.out)
  have z35 : W3.heap.size < W5.heap.size := by omega
  clear r5 b5 CE p0 p1 p2 p3 p4 p5 p6 hW4 cq
  have LD := hide (fun (W : World) (hb : Below W5.heap.size W5 W) => (⟨(C1.out.below (B5'.out.trans (hb.mono B5'.out.size)) z1).2.2.2.2.2.1, (hb.cell (p := ⟨W3.heap.size, 0, none⟩) z35).trans Q5.out, (O5.out.below hb).read, (R5.out.below hb z5).ints (Nat.lt_of_lt_of_le z5 hb.size), ((HR.out.2.1.below ((B5'.out.trans (hb.mono B5'.out.size)).mono hB1)).mono (Nat.le_trans hB1 (Nat.le_trans B5'.out.size hb.size)))⟩ : W.cell? ⟨w.heap.size, 5, none⟩ = some (.slice p.oa p.r p.ocap) ∧ W.cell? ⟨W3.heap.size, 0, none⟩ = some (.slice (some ⟨g, 0, none⟩) m p.v.sn) ∧ LM W.heap.size W (some ⟨g, 0, none⟩) m (LVS p.v) ∧ Ints W.heap.size W (some ⟨W4.heap.size, 0, none⟩) m PO ∧ Ints W.heap.size W p.oa p.r p.O))
  obtain ⟨pk, hpk⟩ : ∃ pk, decide (POk m (LVS p.v) m PO) = pk := ⟨_, rfl⟩
  have PK := hide hpk
  have EQI := hide (show (∀ q, q < p.r → p.O q = bbf (LVS p.v) PO m q) ↔ ∀ b, b < p.v.sn → lifeB p.v b = false → p.O b = -1 by
    have q := bbf_eq p
    rw [EM.out, EPO.out] at q
    rw [ER.out]
    exact q)
  have UN := hide (show PlOk p ↔ ((∀ b, b < p.v.sn → lifeB p.v b = false → p.O b = -1) ∧ POk m (LVS p.v) m PO ∧ p.ar ≤ 1000000 ∧ pkf (LVS p.v) PO m ≤ p.ar) by
    unfold PlOk
    rw [EM.out, EPO.out]
    exact ⟨fun q => q.2.2, fun q => ⟨OK.out, ER.out, q⟩⟩)
  clear hpk
  by_cases dq : ∀ q, q < p.r → p.O q = bbf (LVS p.v) PO m q
  case neg =>
    have EQ := hide (show ∀ e, EqB' p.r p.r p.O (bbf (LVS p.v) PO m) e → e = .returned (.bool false) from fun e ⟨z, he, hz⟩ => by
      cases z
      · exact he
      · exact absurd (hz.1 rfl).2 dq)
    have e := hide (show ¬ PlOk p from fun q => dq (EQI.out.2 (UN.out.1 q).1))
    clear dq
    go_wp2_with fail
    refine Qg.facts2 15 (by kernel_rfl) (by kernel_rfl) (fun i v wx => match i with | 0 => v = .pointer (some ⟨w.heap.size, 5, none⟩) | 1 => v = .slice p.oa p.r p.ocap | 2 => v = .slice (some ⟨g, 0, none⟩) m p.v.sn | 3 => v = .slice (some ⟨W4.heap.size, 0, none⟩) m m | 4 => v = .pointer (some ⟨w.heap.size, 5, none⟩) | 5 => v = .slice p.oa p.r p.ocap | 6 => v = .int .i64 (p.r : Int) | 7 => RwV p.r (bbf (LVS p.v) PO m) v wx | 8 => v = .bool false | 9 => v = .bool true | 10 => v = .bool true | 11 => v = undef | 12 => v = undef | 13 => v = undef | 14 => v = undef | _ => True) ?stable ?steps ?rest
    case stable =>
      intro i v w1 w2 h hb
      match i, h with
      | 0, h => exact h
      | 1, h => exact h
      | 2, h => exact h
      | 3, h => exact h
      | 4, h => exact h
      | 5, h => exact h
      | 6, h => exact h
      | 7, h => exact h.below hb
      | 8, h => exact h
      | 9, h => exact h
      | 10, h => exact h
      | 11, h => exact h
      | 12, h => exact h
      | 13, h => exact h
      | 14, h => exact h
      | _ + 15, h => exact h
    case steps =>
      intro i o hi ho s A wS hb hk hA hO
      match i, hi, ho, hk with
      | 0, _, ho, hk =>
        cases ho
        refine Qg.landsG_free rfl ?_
        exact Qf.lands_val _ _ (qFieldP1 rfl ((hO 1 (by rfl)).trans rfl)) ⟨Below.refl _ _, rfl⟩
      | 1, _, ho, hk =>
        cases ho
        have h0 := hA 0 _ 26 (by decide) rfl rfl (by simp)
        have e0 := hk 0 (by kernel_rfl)
        rw [e0] at h0
        refine Qg.landsG_free rfl ?_
        exact Qf.lands_val _ _ (qLoadS rfl h0 (LD.out wS hb).1) ⟨Below.refl _ _, rfl⟩
      | 2, _, ho, hk =>
        cases ho
        refine Qg.landsG_free rfl ?_
        exact Qf.lands_val _ _ (qLoadL rfl ((hO 3 (by rfl)).trans rfl) (LD.out wS hb).2.1) ⟨Below.refl _ _, rfl⟩
      | 3, _, ho, hk =>
        cases ho
        refine Qg.landsG_free rfl ?_
        exact Qf.lands_move _ rfl _ ((hO 4 (by rfl)).trans rfl) ⟨Below.refl _ _, rfl⟩
      | 4, _, ho, hk =>
        cases ho
        refine Qg.landsG_free rfl ?_
        exact Qf.lands_val _ _ (qFieldP1 rfl ((hO 1 (by rfl)).trans rfl)) ⟨Below.refl _ _, rfl⟩
      | 5, _, ho, hk =>
        cases ho
        have h4 := hA 4 _ 30 (by decide) rfl rfl (by simp)
        have e4 := hk 4 (by kernel_rfl)
        rw [e4] at h4
        refine Qg.landsG_free rfl ?_
        exact Qf.lands_val _ _ (qLoadS rfl h4 (LD.out wS hb).1) ⟨Below.refl _ _, rfl⟩
      | 6, _, ho, hk =>
        cases ho
        have h5 := hA 5 _ 31 (by decide) rfl rfl (by simp)
        have e5 := hk 5 (by kernel_rfl)
        rw [e5] at h5
        refine Qg.landsG_free rfl ?_
        exact Qf.lands_val _ _ (qLenI rfl h5) ⟨Below.refl _ _, rfl⟩
      | 7, _, ho, hk =>
        cases ho
        have h2 := hA 2 _ 28 (by decide) rfl rfl (by simp)
        have e2 := hk 2 (by kernel_rfl)
        rw [e2] at h2
        have h3 := hA 3 _ 29 (by decide) rfl rfl (by simp)
        have e3 := hk 3 (by kernel_rfl)
        rw [e3] at h3
        have h6 := hA 6 _ 32 (by decide) rfl rfl (by simp)
        have e6 := hk 6 (by kernel_rfl)
        rw [e6] at h6
        refine Qg.landsG_free rfl ?_
        refine Qf.lands_call 40 _ _ rfl (enters_of Try.func40 (by kernel_rfl) rfl) _ (by simp [h2, h3, h6]) ((byBufferF wS.heap.size _ m p.v.sn (LVS p.v) _ m m p.r PO wS (Nat.le_refl _) ((LD.out wS hb).2.2.1.below (Below.refl _ _)) (LD.out wS hb).2.2.2.1 (Nat.le_refl _) (by omega) (by omega) BFS.out).mono ?_)
        rintro e wT ⟨gb, rfl, rb, zb, bT⟩
        exact ⟨_, rfl, bT, gb, rfl, rb, zb⟩
      | 8, _, ho, hk =>
        cases ho
        have h1 := hA 1 _ 27 (by decide) rfl rfl (by simp)
        have e1 := hk 1 (by kernel_rfl)
        rw [e1] at h1
        have h7 := hA 7 _ 33 (by decide) rfl rfl (by simp)
        obtain ⟨g7, e7, r7, z7⟩ := hk 7 (by kernel_rfl)
        rw [e7] at h7
        refine Qg.landsG_free rfl ?_
        refine Qf.lands_call 39 _ _ rfl (enters_of Try.func39 (by kernel_rfl) rfl) _ (by simp [h1, h7]) ((equalP wS.heap.size p.oa _ p.r p.r p.ocap p.r p.O _ wS (Nat.le_refl _) (LD.out wS hb).2.2.2.2 (r7.ints z7) (by omega) (by omega)).mono ?_)
        rintro e wT ⟨he, bT⟩
        exact ⟨_, EQ.out e he, bT, rfl⟩
      | 9, _, ho, hk =>
        cases ho
        have h8 := hA 8 _ 34 (by decide) rfl rfl (by simp)
        have e8 := hk 8 (by kernel_rfl)
        rw [e8] at h8
        refine Qg.landsG_free rfl ?_
        exact Qf.lands_val _ _ (qNot rfl h8) ⟨Below.refl _ _, rfl⟩
      | 10, _, ho, hk =>
        cases ho
        have h9 := hA 9 _ 35 (by decide) rfl rfl (by simp)
        have e9 := hk 9 (by kernel_rfl)
        rw [e9] at h9
        refine Qg.landsG_free rfl ?_
        exact Qf.lands_move _ rfl _ h9 ⟨Below.refl _ _, rfl⟩
      | 11, _, ho, hk =>
        cases ho
        have h10 := hA 10 _ 36 (by decide) rfl rfl (by simp)
        have e10 := hk 10 (by kernel_rfl)
        rw [e10] at h10
        exact Qg.landsG_off 10 false 36 rfl rfl _ h10 (by intro q; cases q) ⟨Below.refl _ _, rfl⟩
      | 12, _, ho, hk =>
        cases ho
        have h10 := hA 10 _ 36 (by decide) rfl rfl (by simp)
        have e10 := hk 10 (by kernel_rfl)
        rw [e10] at h10
        exact Qg.landsG_off 10 false 36 rfl rfl _ h10 (by intro q; cases q) ⟨Below.refl _ _, rfl⟩
      | 13, _, ho, hk =>
        cases ho
        have h10 := hA 10 _ 36 (by decide) rfl rfl (by simp)
        have e10 := hk 10 (by kernel_rfl)
        rw [e10] at h10
        exact Qg.landsG_off 10 false 36 rfl rfl _ h10 (by intro q; cases q) ⟨Below.refl _ _, rfl⟩
      | 14, _, ho, hk =>
        cases ho
        have h10 := hA 10 _ 36 (by decide) rfl rfl (by simp)
        have e10 := hk 10 (by kernel_rfl)
        rw [e10] at h10
        exact Qg.landsG_off 10 false 36 rfl rfl _ h10 (by intro q; cases q) ⟨Below.refl _ _, rfl⟩
      | _ + 15, hi, _, _ => exact absurd hi (by omega)
    case rest =>
    intro s Z hbS hk
    have e10 : s 10 = .bool true := hk 10 (by decide)
    have e14 : s 14 = undef := hk 14 (by decide)
    simp only [List.take_succ_cons, List.take_zero, List.drop_succ_cons, List.drop_zero, Qf.lay, Qf.all1, if_true, e10, e14]
    simp only [Act.put, List.setIfInBounds_toArray, List.set_cons_succ, List.set_cons_zero]
    have BZ := hide (B5.out.trans (hbS.mono B5.out.size))
    clear hk e10 e14 hbS LD
    go_wp2_with fail
    go_ret
    exact ⟨by rw [decide_eq_false e.out]; rfl, BZ.out⟩
  have EQ := hide (show ∀ e, EqB' p.r p.r p.O (bbf (LVS p.v) PO m) e → e = .returned (.bool true) from fun e ⟨z, he, hz⟩ => by
    rw [hz.2 ⟨rfl, dq⟩] at he
    exact he)
  have DQ := hide (EQI.out.1 dq)
  clear dq
  go_wp2_with fail
  refine Qg.facts2 15 (by kernel_rfl) (by kernel_rfl) (fun i v wx => match i with | 0 => v = .pointer (some ⟨w.heap.size, 5, none⟩) | 1 => v = .slice p.oa p.r p.ocap | 2 => v = .slice (some ⟨g, 0, none⟩) m p.v.sn | 3 => v = .slice (some ⟨W4.heap.size, 0, none⟩) m m | 4 => v = .pointer (some ⟨w.heap.size, 5, none⟩) | 5 => v = .slice p.oa p.r p.ocap | 6 => v = .int .i64 (p.r : Int) | 7 => RwV p.r (bbf (LVS p.v) PO m) v wx | 8 => v = .bool true | 9 => v = .bool false | 10 => v = .bool false | 11 => v = .slice (some ⟨g, 0, none⟩) m p.v.sn | 12 => v = .slice (some ⟨W4.heap.size, 0, none⟩) m m | 13 => v = .bool pk | 14 => v = .bool (!pk) | _ => True) ?stable ?steps ?rest
  case stable =>
    intro i v w1 w2 h hb
    match i, h with
    | 0, h => exact h
    | 1, h => exact h
    | 2, h => exact h
    | 3, h => exact h
    | 4, h => exact h
    | 5, h => exact h
    | 6, h => exact h
    | 7, h => exact h.below hb
    | 8, h => exact h
    | 9, h => exact h
    | 10, h => exact h
    | 11, h => exact h
    | 12, h => exact h
    | 13, h => exact h
    | 14, h => exact h
    | _ + 15, h => exact h
  case steps =>
    intro i o hi ho s A wS hb hk hA hO
    match i, hi, ho, hk with
    | 0, _, ho, hk =>
      cases ho
      refine Qg.landsG_free rfl ?_
      exact Qf.lands_val _ _ (qFieldP1 rfl ((hO 1 (by rfl)).trans rfl)) ⟨Below.refl _ _, rfl⟩
    | 1, _, ho, hk =>
      cases ho
      have h0 := hA 0 _ 26 (by decide) rfl rfl (by simp)
      have e0 := hk 0 (by kernel_rfl)
      rw [e0] at h0
      refine Qg.landsG_free rfl ?_
      exact Qf.lands_val _ _ (qLoadS rfl h0 (LD.out wS hb).1) ⟨Below.refl _ _, rfl⟩
    | 2, _, ho, hk =>
      cases ho
      refine Qg.landsG_free rfl ?_
      exact Qf.lands_val _ _ (qLoadL rfl ((hO 3 (by rfl)).trans rfl) (LD.out wS hb).2.1) ⟨Below.refl _ _, rfl⟩
    | 3, _, ho, hk =>
      cases ho
      refine Qg.landsG_free rfl ?_
      exact Qf.lands_move _ rfl _ ((hO 4 (by rfl)).trans rfl) ⟨Below.refl _ _, rfl⟩
    | 4, _, ho, hk =>
      cases ho
      refine Qg.landsG_free rfl ?_
      exact Qf.lands_val _ _ (qFieldP1 rfl ((hO 1 (by rfl)).trans rfl)) ⟨Below.refl _ _, rfl⟩
    | 5, _, ho, hk =>
      cases ho
      have h4 := hA 4 _ 30 (by decide) rfl rfl (by simp)
      have e4 := hk 4 (by kernel_rfl)
      rw [e4] at h4
      refine Qg.landsG_free rfl ?_
      exact Qf.lands_val _ _ (qLoadS rfl h4 (LD.out wS hb).1) ⟨Below.refl _ _, rfl⟩
    | 6, _, ho, hk =>
      cases ho
      have h5 := hA 5 _ 31 (by decide) rfl rfl (by simp)
      have e5 := hk 5 (by kernel_rfl)
      rw [e5] at h5
      refine Qg.landsG_free rfl ?_
      exact Qf.lands_val _ _ (qLenI rfl h5) ⟨Below.refl _ _, rfl⟩
    | 7, _, ho, hk =>
      cases ho
      have h2 := hA 2 _ 28 (by decide) rfl rfl (by simp)
      have e2 := hk 2 (by kernel_rfl)
      rw [e2] at h2
      have h3 := hA 3 _ 29 (by decide) rfl rfl (by simp)
      have e3 := hk 3 (by kernel_rfl)
      rw [e3] at h3
      have h6 := hA 6 _ 32 (by decide) rfl rfl (by simp)
      have e6 := hk 6 (by kernel_rfl)
      rw [e6] at h6
      refine Qg.landsG_free rfl ?_
      refine Qf.lands_call 40 _ _ rfl (enters_of Try.func40 (by kernel_rfl) rfl) _ (by simp [h2, h3, h6]) ((byBufferF wS.heap.size _ m p.v.sn (LVS p.v) _ m m p.r PO wS (Nat.le_refl _) ((LD.out wS hb).2.2.1.below (Below.refl _ _)) (LD.out wS hb).2.2.2.1 (Nat.le_refl _) (by omega) (by omega) BFS.out).mono ?_)
      rintro e wT ⟨gb, rfl, rb, zb, bT⟩
      exact ⟨_, rfl, bT, gb, rfl, rb, zb⟩
    | 8, _, ho, hk =>
      cases ho
      have h1 := hA 1 _ 27 (by decide) rfl rfl (by simp)
      have e1 := hk 1 (by kernel_rfl)
      rw [e1] at h1
      have h7 := hA 7 _ 33 (by decide) rfl rfl (by simp)
      obtain ⟨g7, e7, r7, z7⟩ := hk 7 (by kernel_rfl)
      rw [e7] at h7
      refine Qg.landsG_free rfl ?_
      refine Qf.lands_call 39 _ _ rfl (enters_of Try.func39 (by kernel_rfl) rfl) _ (by simp [h1, h7]) ((equalP wS.heap.size p.oa _ p.r p.r p.ocap p.r p.O _ wS (Nat.le_refl _) (LD.out wS hb).2.2.2.2 (r7.ints z7) (by omega) (by omega)).mono ?_)
      rintro e wT ⟨he, bT⟩
      exact ⟨_, EQ.out e he, bT, rfl⟩
    | 9, _, ho, hk =>
      cases ho
      have h8 := hA 8 _ 34 (by decide) rfl rfl (by simp)
      have e8 := hk 8 (by kernel_rfl)
      rw [e8] at h8
      refine Qg.landsG_free rfl ?_
      exact Qf.lands_val _ _ (qNot rfl h8) ⟨Below.refl _ _, rfl⟩
    | 10, _, ho, hk =>
      cases ho
      have h9 := hA 9 _ 35 (by decide) rfl rfl (by simp)
      have e9 := hk 9 (by kernel_rfl)
      rw [e9] at h9
      refine Qg.landsG_free rfl ?_
      exact Qf.lands_move _ rfl _ h9 ⟨Below.refl _ _, rfl⟩
    | 11, _, ho, hk =>
      cases ho
      have h10 := hA 10 _ 36 (by decide) rfl rfl (by simp)
      have e10 := hk 10 (by kernel_rfl)
      rw [e10] at h10
      refine Qg.landsG_on 10 false 36 rfl rfl h10 ?_
      exact Qf.lands_val _ _ (qLoadL rfl ((hO 3 (by rfl)).trans rfl) (LD.out wS hb).2.1) ⟨Below.refl _ _, rfl⟩
    | 12, _, ho, hk =>
      cases ho
      have h10 := hA 10 _ 36 (by decide) rfl rfl (by simp)
      have e10 := hk 10 (by kernel_rfl)
      rw [e10] at h10
      refine Qg.landsG_on 10 false 36 rfl rfl h10 ?_
      exact Qf.lands_move _ rfl _ ((hO 4 (by rfl)).trans rfl) ⟨Below.refl _ _, rfl⟩
    | 13, _, ho, hk =>
      cases ho
      have h11 := hA 11 _ 37 (by decide) rfl rfl (by simp)
      have e11 := hk 11 (by kernel_rfl)
      rw [e11] at h11
      have h12 := hA 12 _ 38 (by decide) rfl rfl (by simp)
      have e12 := hk 12 (by kernel_rfl)
      rw [e12] at h12
      have h10 := hA 10 _ 36 (by decide) rfl rfl (by simp)
      have e10 := hk 10 (by kernel_rfl)
      rw [e10] at h10
      refine Qg.landsG_on 10 false 36 rfl rfl h10 ?_
      refine Qf.lands_call 41 _ _ rfl (enters_of Try.func41 (by kernel_rfl) rfl) _ (by simp [h11, h12]) ((packOkF wS.heap.size _ m p.v.sn (LVS p.v) _ m m PO wS (Nat.le_refl _) ((LD.out wS hb).2.2.1.below (Below.refl _ _)) (LD.out wS hb).2.2.2.1 (by omega) (by omega) mle).mono ?_)
      rintro e wT ⟨rfl, bT⟩
      exact ⟨_, rfl, bT, congrArg Value.bool PK.out⟩
    | 14, _, ho, hk =>
      cases ho
      have h13 := hA 13 _ 39 (by decide) rfl rfl (by simp)
      have e13 := hk 13 (by kernel_rfl)
      rw [e13] at h13
      have h10 := hA 10 _ 36 (by decide) rfl rfl (by simp)
      have e10 := hk 10 (by kernel_rfl)
      rw [e10] at h10
      refine Qg.landsG_on 10 false 36 rfl rfl h10 ?_
      exact Qf.lands_val _ _ (qNot rfl h13) ⟨Below.refl _ _, rfl⟩
    | _ + 15, hi, _, _ => exact absurd hi (by omega)
  case rest =>
  intro s Z hbS hk
  have e10 : s 10 = .bool false := hk 10 (by decide)
  have e14 : s 14 = .bool (!pk) := hk 14 (by decide)
  simp only [List.take_succ_cons, List.take_zero, List.drop_succ_cons, List.drop_zero, Qf.lay, Qf.all1, if_true, e10, e14]
  simp only [Act.put, List.setIfInBounds_toArray, List.set_cons_succ, List.set_cons_zero]
  have BZ := hide (B5.out.trans (hbS.mono B5.out.size))
  cases pk with
  | false =>
    have e := hide (show ¬ PlOk p from fun q => (of_decide_eq_false PK.out) (UN.out.1 q).2.1)
    clear hk e10 e14 hbS LD
    go_wp2_with fail
    go_ret
    exact ⟨by rw [decide_eq_false e.out]; rfl, BZ.out⟩
  | true =>
  have POK := hide (of_decide_eq_true PK.out)
  have cz := (C1.out.below (B5'.out.trans (hbS.mono B5'.out.size)) z1).2.2.2.2.2.2
  obtain ⟨_, lq, l3, l4, _⟩ := LD.out Z hbS
  have kz := cell_regrown cz
  have kq := cell_regrown lq
  have CPK := hide (fun (q1 : Nat) (os : Array Obj) => show Calls Try.prog 42 #[.slice (some ⟨g, 0, none⟩) m p.v.sn, .slice (some ⟨W4.heap.size, 0, none⟩) m m] (Sort.grow (redrawn Z q1) os) (fun e w'' => e = .returned (.int .i64 (pkf (LVS p.v) PO m)) ∧ ∃ p : Regrown, w'' = Sort.grow (redrawn Z p.d) p.os) from Calls.regrown_of (peakOfF Z.heap.size _ m p.v.sn (LVS p.v) _ m PO _ (below_regrown Z q1 os).size (l3.below (below_regrown Z q1 os)) (l4.below (below_regrown Z q1 os)) POK.out.2.1 POK.out.2.2.1))
  obtain ⟨pe, hpe⟩ : ∃ pe, pkf (LVS p.v) PO m = pe := ⟨_, rfl⟩
  rw [hpe] at CPK UN
  obtain ⟨ar, har⟩ : ∃ ar, p.ar = ar := ⟨_, rfl⟩
  rw [har] at cz kz UN
  clear hk e10 e14 hbS LD l3 l4 hpe har
  by_cases t0 : ar ≤ 1000000
  case neg =>
    have t0' : decide (ar ≤ 1000000) = false := by rw [decide_eq_false_iff_not]; exact t0
    have e := hide (show ¬ PlOk p from fun q => t0 (UN.out.1 q).2.2.1)
    clear t0
    go_wp2_with fail
    refine wp_region_quiet_below (by kernel_rfl) (by kernel_rfl) ?_
    repeat (go_big_quiet_step (first | (go_at_call 42; exact CPK.out _ _)))
    refine wpQuiet_nil ?_
    intro _ hw'
    obtain ⟨⟨dq, osq⟩, hw''⟩ := hw'
    subst hw''
    go_wp2_with fail
    go_ret
    exact ⟨by rw [decide_eq_false e.out]; rfl, BZ.out.trans ((below_regrown Z dq osq).mono BZ.out.size)⟩
  have e := hide (show decide (pe ≤ ar) = decide (PlOk p) from decide_eq_decide.2 ⟨fun q => UN.out.2 ⟨DQ.out, POK.out, t0, q⟩, fun q => (UN.out.1 q).2.2.2⟩)
  go_wp2_with fail
  refine wp_region_quiet_below (by kernel_rfl) (by kernel_rfl) ?_
  repeat (go_big_quiet_step (first | (go_at_call 42; exact CPK.out _ _)))
  refine wpQuiet_nil ?_
  intro _ hw'
  obtain ⟨⟨dq, osq⟩, hw''⟩ := hw'
  subst hw''
  go_wp2_with fail
  go_ret
  exact ⟨by rw [← e.out]; rfl, BZ.out.trans ((below_regrown Z dq osq).mono BZ.out.size)⟩
end Vo
end Go.Proofs.Ytgmjijjckedmcaa
