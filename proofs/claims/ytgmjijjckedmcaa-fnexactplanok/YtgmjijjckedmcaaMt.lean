/- Plans compared; plans that come in; copies of one plan. -/
import Derived.Test.YtgmjijjckedmcaaMs
namespace Go.Proofs.Ytgmjijjckedmcaa
namespace Vo
open Go.ChangeShapes Go.WideShapes Go.ChangeAt Go.RowKit Go.Joins Go.Sort
open Vl Vp
set_option linter.unusedVariables false
set_option linter.unusedSimpArgs false
set_option maxHeartbeats 2000000 in
theorem eqPlan (B : Nat) (p u : PV) (w : World) (hB : B ≤ w.heap.size) (h : p.read B w) (h' : u.read B w) (hl : p.len 1048576) (hs : PSame p u) :
    Calls Try.prog 18 #[p.val, u.val] w fun e w' => e = .returned (.bool true) ∧ Below w.heap.size w w' := by
  obtain ⟨W1, hW1⟩ : ∃ W1, w.alloc (.cells #[.slice p.v.sa p.v.sn p.v.scap, .slice p.v.ia p.v.i p.v.icap, .slice p.v.fa p.v.fn p.v.fcap, .slice p.v.ka p.v.kn p.v.kcap, .slice p.v.oa p.v.on p.v.ocap, .slice p.oa p.r p.ocap, .int .i64 p.ar] 45) = W1 := ⟨_, rfl⟩
  have b1 : Below w.heap.size w W1 := by rw [← hW1]; exact (Below.refl _ _).alloc (Nat.le_refl _) _
  have c7 := Cells7.new w (.slice p.v.sa p.v.sn p.v.scap) (.slice p.v.ia p.v.i p.v.icap) (.slice p.v.fa p.v.fn p.v.fcap) (.slice p.v.ka p.v.kn p.v.kcap) (.slice p.v.oa p.v.on p.v.ocap) (.slice p.oa p.r p.ocap) (.int .i64 p.ar) 45
  rw [hW1] at c7
  have z1 : w.heap.size < W1.heap.size := World.block_lt_of_cell? _ _ c7.1
  obtain ⟨W2, hW2⟩ : ∃ W2, W1.alloc (.cells #[.slice u.v.sa u.v.sn u.v.scap, .slice u.v.ia u.v.i u.v.icap, .slice u.v.fa u.v.fn u.v.fcap, .slice u.v.ka u.v.kn u.v.kcap, .slice u.v.oa u.v.on u.v.ocap, .slice u.oa u.r u.ocap, .int .i64 u.ar] 45) = W2 := ⟨_, rfl⟩
  have b2 : Below W1.heap.size W1 W2 := by rw [← hW2]; exact (Below.refl _ _).alloc (Nat.le_refl _) _
  have d7 := Cells7.new W1 (.slice u.v.sa u.v.sn u.v.scap) (.slice u.v.ia u.v.i u.v.icap) (.slice u.v.fa u.v.fn u.v.fcap) (.slice u.v.ka u.v.kn u.v.kcap) (.slice u.v.oa u.v.on u.v.ocap) (.slice u.oa u.r u.ocap) (.int .i64 u.ar) 45
  rw [hW2] at d7
  have z2 : W1.heap.size < W2.heap.size := World.block_lt_of_cell? _ _ d7.1
  have BB := hide (b1.trans (b2.mono b1.size))
  have C2 := hide (c7.below b2 z1)
  have D2 := hide d7
  have HP := hide (h.below (BB.out.mono hB))
  have HU := hide (h'.below (BB.out.mono hB))
  have HS := hide hs
  have l2 := hl.2
  have CN := hide (eqNest B p.v u.v W2 (Nat.le_trans hB BB.out.size) HP.out.1 HU.out.1 hl.1 (neq_of hs.1))
  unfold NV.val at CN
  obtain ⟨p0, p1, p2, p3, p4, p5, p6⟩ := C2.out
  obtain ⟨q0, q1, q2, q3, q4, q5, q6⟩ := D2.out
  unfold PV.val
  clear h h' hl hs b1 b2 c7 d7
  go_enter Try.func18, Try.ntmps18
  go_wp2_with fail
  refine CN.out.mono ?_
  rintro e W3 ⟨rfl, b3⟩
  have B3 := hide (BB.out.trans (b3.mono BB.out.size))
  have C3 := hide (C2.out.below b3 (by omega))
  have D3 := hide (D2.out.below b3 z2)
  have CI := hide (eqIntS B p.oa u.oa p.r p.ocap u.ocap p.O u.O W3 (HP.out.2.1.below (b3.mono (Nat.le_trans hB BB.out.size))) (by have := HU.out.2.1.below (b3.mono (Nat.le_trans hB BB.out.size)); rwa [HS.out.2.1] at this) (fun j _ => by rw [HS.out.2.2.1]) l2)
  have z3 := b3.size
  clear b3 CN p0 p1 p2 p3 p4 p5 p6 q0 q1 q2 q3 q4 q5 q6 hW1 hW2
  obtain ⟨p0, p1, p2, p3, p4, p5, p6⟩ := C3.out
  obtain ⟨q0, q1, q2, q3, q4, q5, q6⟩ := D3.out
  rw [HS.out.2.1] at q5
  rw [HS.out.2.2.2] at q6
  go_wp2_with fail
  refine CI.out.mono ?_
  rintro e W4 ⟨rfl, b4⟩
  have B4 := hide (B3.out.trans (b4.mono B3.out.size))
  have x6 := (b4.cell (p := ⟨w.heap.size, 6, none⟩) (by show w.heap.size < W3.heap.size; omega)).trans p6
  have y6 := (b4.cell (p := ⟨W1.heap.size, 6, none⟩) (by show W1.heap.size < W3.heap.size; omega)).trans q6
  obtain ⟨ar, har⟩ : ∃ ar, p.ar = ar := ⟨_, rfl⟩
  rw [har] at x6 y6
  have ea : (ar != ar) = false := by simp
  clear b4 CI p0 p1 p2 p3 p4 p5 p6 q0 q1 q2 q3 q4 q5 q6 har
  go_wp2_with fail
  go_ret
  exact ⟨rfl, B4.out⟩
/-- an argument: a plan -/
def ArgP (w : World) (v : Value) : Prop := ∃ u : PV, v = u.val ∧ u.read w.heap.size w ∧ u.len 9223372036854775807
section
variable {H : Type} {enc : TypeId × Value → H} {w : World} {base : Nat} {spare : Nat → Bool} {held : Bool} {fuel : Nat}
theorem argP_of {c0 c1 c2 c3 c4 c5 c6 : Value} {x : DataW H × List MemPlace} (h : DataW.trod enc Try.prog w base spare held fuel 41 [c0, c1, c2, c3, c4, c5, c6] = some x) : ArgP w (.agg #[c0, c1, c2, c3, c4, c5, c6]) := by
  obtain ⟨y0, n0, q0⟩ := field_of Try.underlying41 h 0 _ rfl 5 (by kernel_rfl)
  obtain ⟨y1, n1, q1⟩ := field_of Try.underlying41 h 1 _ rfl 1 (by kernel_rfl)
  obtain ⟨y2, n2, q2⟩ := field_of Try.underlying41 h 2 _ rfl 1 (by kernel_rfl)
  have q0 : DataW.trod enc Try.prog w base spare held n0 26 [c0, c1, c2, c3, c4] = some y0 := q0
  have q1 : DataW.trod enc Try.prog w base spare held n1 22 [c5] = some y1 := q1
  have q2 : DataW.trod enc Try.prog w base spare held n2 3 [c6] = some y2 := q2
  obtain ⟨v, e, hr, hl⟩ := argN_of q0
  unfold NV.val at e
  simp at e
  obtain ⟨rfl, rfl, rfl, rfl, rfl⟩ := e
  obtain ⟨a1, r1, p1, rfl, hr1, D1, hD1⟩ := arg_of q1
  obtain ⟨ar, rfl, har⟩ := int_of q2
  exact ⟨⟨v, a1, r1, p1, D1, ar⟩, rfl, ⟨hr, hD1, har⟩, hl, hr1⟩
set_option maxRecDepth 100000 in
theorem argP_at {b0 : Nat} {v : Value} {d : DataW H} {p : List MemPlace} (hv : Value.okWide Try.prog w .any b0 41 v) (h : DataW.Trod enc Try.prog w base spare held 41 v d p) : ArgP w v := by
  obtain ⟨cs, rfl, hsz⟩ := okWide_struct Try.underlying41 hv
  have hC : Try.prog.cellsOf 41 = 7 := by kernel_rfl
  obtain ⟨l⟩ := cs
  match l, hsz.trans hC with
  | [c0, c1, c2, c3, c4, c5, c6], _ =>
    obtain ⟨fuel, hf⟩ := h
    exact argP_of (by simpa [Value.cells] using hf)
end
theorem hasB_congr2 {n : Nat} {G G' : Nat → Int} (h : ∀ j, j < n → G' j = G j) (x : Int) : hasB n G' x = hasB n G x := hasB_congr (fun j hj => h j hj) x
theorem touch_eq {k k' : KV} (h : KEq k k') (b : Int) : touchB k' b = touchB k b := by
  unfold touchB loadsB
  rw [h.2.2.2.2.1.1, h.2.2.1, hasB_congr2 (fun j hj => (h.2.2.2.1 j hj).1)]
theorem fs_eq {K K' : Nat → KV} (b : Int) : ∀ n, (∀ j, j < n → KEq (K j) (K' j)) → fs K' b n = fs K b n
  | 0, _ => rfl
  | n + 1, h => by unfold fs; rw [fs_eq b n (fun j hj => h j (by omega)), touch_eq (h n (by omega))]
theorem ls_eq {K K' : Nat → KV} (b : Int) : ∀ n, (∀ j, j < n → KEq (K j) (K' j)) → ls K' b n = ls K b n
  | 0, _ => rfl
  | n + 1, h => by unfold ls; rw [ls_eq b n (fun j hj => h j (by omega)), touch_eq (h n (by omega))]
theorem gv_eq {v u : NV} (h : NEq v u) (b : Int) : gvB u b = gvB v b := by
  unfold gvB
  rw [h.2.1.1, h.2.2.1.1]
  exact hasB_congr2 (fun j hj => gvn_eq h j hj) b
theorem lifeB_eq {v u : NV} (h : NEq v u) (b : Nat) : lifeB u b = lifeB v b := by
  unfold lifeB
  rw [gv_eq h, h.1.2, h.2.2.2.1.1, fs_eq _ _ h.2.2.2.1.2]
  unfold ouB
  rw [h.2.2.2.2.1, h.2.2.2.2.2]
theorem lifeV_eq {v u : NV} (h : NEq v u) (b : Nat) : lifeV u b = lifeV v b := by
  unfold lifeV
  rw [gv_eq h, h.1.2, h.2.2.2.1.1, fs_eq _ _ h.2.2.2.1.2, ls_eq _ _ h.2.2.2.1.2]
  unfold ouB
  rw [h.2.2.2.2.1, h.2.2.2.2.2]
theorem lvs_eq {v u : NV} (h : NEq v u) (j : Nat) : lvs u j = lvs v j := by
  unfold lvs
  exact List.filter_congr (fun q _ => lifeB_eq h q)
theorem LVS_eq {v u : NV} (h : NEq v u) : LVS u = LVS v := by
  funext q
  unfold LVS
  rw [h.1.1, lvs_eq h, lifeV_eq h]
theorem lvn_eq {v u : NV} (h : NEq v u) : lvn u = lvn v := by
  unfold lvn
  rw [h.1.1, lvs_eq h]
theorem plok_same {p u : PV} (h : PSame p u) : decide (PlOk u) = decide (PlOk p) := by
  have e := h.1.eq
  have n : NOk u.v ↔ NOk p.v := ⟨nok_of e.symm, nok_of e⟩
  have po : pof u = pof p := by funext i; unfold pof; rw [h.2.2.1, e.1.1, lvs_eq e]
  refine decide_eq_decide.2 ?_
  unfold PlOk
  rw [n, h.2.1, e.1.1, LVS_eq e, lvn_eq e, po, h.2.2.2, h.2.2.1]
  constructor
  · rintro ⟨a, b, c, d⟩
    exact ⟨a, b, fun q hq hl => c q hq (by rw [lifeB_eq e]; exact hl), d⟩
  · rintro ⟨a, b, c, d⟩
    exact ⟨a, b, fun q hq hl => c q hq (by rw [lifeB_eq e] at hl; exact hl), d⟩
end Vo
end Go.Proofs.Ytgmjijjckedmcaa
