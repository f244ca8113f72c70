/- Convolutions of the model: where there is none. -/
import Derived.Test.YtgcialbchmbgkaaZg
namespace Go.Proofs.Ytgcialbchmbgkaa
namespace Vo
open Go.ChangeShapes Go.WideShapes Go.ChangeAt Go.RowKit Go.Joins Go.Sort
open Vl Vp Vr
set_option linter.unusedVariables false
set_option linter.unusedSimpArgs false
/-- a convolution of the model, under way: its variables -/
structure A2 (B : Nat) (x k : TV) (w wx : World) : Prop where
  bx : Bx wx w.heap.size (.slice x.a x.r x.cap) (.slice x.b x.s x.dap)
  bk : Bx wx (w.heap.size + 1) (.slice k.a k.r k.cap) (.slice k.b k.s k.dap)
  z : Bx wx (w.heap.size + 1 + 1) (.slice none 0 0) (.slice none 0 0)
  fr : Free wx (w.heap.size + 1 + 1)
  bb : Below w.heap.size w wx
  sz : w.heap.size + 1 + 1 < wx.heap.size
  rx : x.read B wx
  rk : k.read B wx
theorem A2.below {B : Nat} {x k : TV} {w wx wy : World} (hB : B ≤ w.heap.size) (h : A2 B x k w wx) (hb : Below wx.heap.size wx wy) : A2 B x k w wy := by
  have s := h.sz
  exact ⟨h.bx.below hb (by omega), h.bk.below hb (by omega), h.z.below hb (by omega), h.fr.below hb (by omega), h.bb.trans (hb.mono h.bb.size), Nat.lt_of_lt_of_le s hb.size, h.rx.below (hb.mono (by omega)), h.rk.below (hb.mono (by omega))⟩
theorem TV.read.kept2 {T : Nat → Prop} {B : Nat} {w w' : World} {t : TV} (h : t.read B w) (hB : B ≤ w.heap.size) (hk : Kept T w w') (hs : ∀ b, b < B → ¬ T b) : t.read B w' := ⟨h.1.kept hB hk hs, h.2.kept hB hk hs⟩
theorem A2.kept {B g : Nat} {x k : TV} {w wx wy : World} (hB : B ≤ w.heap.size) (h : A2 B x k w wx) (hk : Kept (· = g) wx wy) (hg : w.heap.size + 1 + 1 < g) : A2 B x k w wy := by
  have s := h.sz
  have r : ∀ b, b < B → ¬ (b = g) := fun b hb => by omega
  exact ⟨h.bx.kept hk (by omega) (by show ¬ (_ = g); omega), h.bk.kept hk (by omega) (by show ¬ (_ = g); omega), h.z.kept hk (by omega) (by show ¬ (_ = g); omega), h.fr.kept hk (by omega) (by show ¬ (_ = g); omega),
    h.bb.trans (hk.below h.bb.size (fun j e => by have e : j = g := e; omega)), Nat.lt_of_lt_of_le s hk.size, h.rx.kept2 (by omega) hk r, h.rk.kept2 (by omega) hk r⟩
theorem a2_new (B : Nat) (x k : TV) (w : World) (hB : B ≤ w.heap.size) (hx : x.read B w) (hk : k.read B w) :
    A2 B x k w (((w.alloc (.cells #[.slice x.a x.r x.cap, .slice x.b x.s x.dap] 26)).alloc (.cells #[.slice k.a k.r k.cap, .slice k.b k.s k.dap] 26)).alloc (.cells #[.slice none 0 0, .slice none 0 0] 26)) := by
  have bl := (((Below.refl w.heap.size w).alloc (Nat.le_refl _) (.cells #[.slice x.a x.r x.cap, .slice x.b x.s x.dap] 26)).alloc (by simp) (.cells #[.slice k.a k.r k.cap, .slice k.b k.s k.dap] 26)).alloc (by simp; omega) (.cells #[.slice none 0 0, .slice none 0 0] 26)
  exact ⟨⟨by simp [go_sem], by simp [go_sem]⟩, ⟨by simp [go_sem], by simp [go_sem]⟩, ⟨by simp [go_sem], by simp [go_sem]⟩, fun i => by simp [go_sem], bl, by simp, hx.below (bl.mono hB), hk.below (bl.mono hB)⟩
set_option maxRecDepth 100000 in
set_option maxHeartbeats 8000000 in
theorem specConvNo (B : Nat) (x k : TV) (st pd dl gr : Int) (w : World) (hB : B ≤ w.heap.size) (hx : x.read B w) (hk : k.read B w) (lx : (x.r : Int) ≤ 1048576 ∧ (x.s : Int) ≤ 1048576) (lk : (k.r : Int) ≤ 1048576 ∧ (k.s : Int) ≤ 1048576) (hno : ¬ ConvOk x k st pd dl gr) :
    Calls Try.prog 7 #[.agg #[.slice x.a x.r x.cap, .slice x.b x.s x.dap], .agg #[.slice k.a k.r k.cap, .slice k.b k.s k.dap], .int .i64 st, .int .i64 pd, .int .i64 dl, .int .i64 gr] w fun e w' => TensR w.heap.size (convP x k st pd dl gr) w e w' := by
  have A0 := hide (a2_new B x k w hB hx hk)
  have NO := hide (fun (w2 : World) (hb : Below w.heap.size w w2) => show TensR w.heap.size (convP x k st pd dl gr) w (.returned (.agg #[.slice none 0 0, .slice none 0 0])) w2 by rw [convP_no hno]; exact tensR_zero hb)
  have HNO := hide hno
  obtain ⟨W0, hW0⟩ : ∃ W0, ((w.alloc (.cells #[.slice x.a x.r x.cap, .slice x.b x.s x.dap] 26)).alloc (.cells #[.slice k.a k.r k.cap, .slice k.b k.s k.dap] 26)).alloc (.cells #[.slice none 0 0, .slice none 0 0] 26) = W0 := ⟨_, rfl⟩
  rw [hW0] at A0
  obtain ⟨x0, x1⟩ := A0.out.bx
  have C1 := hide (specTensorOk B x.a x.b x.r x.s x.cap x.dap x.D x.S W0 (by have := A0.out.sz; omega) A0.out.rx.1 A0.out.rx.2 lx.1 lx.2)
  clear hno hx hk
  go_enter Try.func7, Try.ntmps7
  go_wp2_with fail
  refine C1.out.mono ?_
  clear hW0 C1 x0 x1
  rintro e w1 ⟨rfl, b1⟩
  have A1 := hide (A0.out.below hB b1)
  clear A0 b1
  obtain ⟨y0, y1⟩ := A1.out.z
  have gg := A1.out.fr
  unfold Free at gg
  cases tx : tok x.r x.s x.D x.S with
  | false =>
    go_wp2_with fail
    exact bodyPost_ret (v := .agg #[.slice none 0 0, .slice none 0 0]) (by simp [results, Try.results7, go_sem, y0, y1]) rfl (NO.out _ (by
      repeat (refine Below.setCell ?_ (by simp; omega) _)
      exact A1.out.bb))
  | true =>
  obtain ⟨x0, x1⟩ := A1.out.bk
  have C1 := hide (specTensorOk B k.a k.b k.r k.s k.cap k.dap k.D k.S w1 (by have := A1.out.sz; omega) A1.out.rk.1 A1.out.rk.2 lk.1 lk.2)
  go_wp2_with fail
  refine C1.out.mono ?_
  clear C1 x0 x1 y0 y1 gg
  rintro e w2 ⟨rfl, b1⟩
  have A2' := hide (A1.out.below hB b1)
  clear A1 b1
  obtain ⟨y0, y1⟩ := A2'.out.z
  have gg := A2'.out.fr
  unfold Free at gg
  obtain ⟨p0, p1⟩ := A2'.out.bx
  obtain ⟨p2, p3⟩ := A2'.out.bk
  cases tk : tok k.r k.s k.D k.S with
  | false =>
    go_wp2_with fail
    exact bodyPost_ret (v := .agg #[.slice none 0 0, .slice none 0 0]) (by simp [results, Try.results7, go_sem, y0, y1]) rfl (NO.out _ (by
      repeat (refine Below.setCell ?_ (by simp; omega) _)
      exact A2'.out.bb))
  | true =>
  by_cases x4 : x.r = 4
  rotate_left
  · have x4' : ((x.r : Int) != 4) = true := bne_iff_ne.2 (by omega)
    clear x4
    go_wp2_with fail
    exact bodyPost_ret (v := .agg #[.slice none 0 0, .slice none 0 0]) (by simp [results, Try.results7, go_sem, y0, y1]) rfl (NO.out _ (by
      repeat (refine Below.setCell ?_ (by simp; omega) _)
      exact A2'.out.bb))
  by_cases k4 : k.r = 4
  rotate_left
  · have x4' : ((x.r : Int) != 4) = false := by rw [x4]; rfl
    have k4' : ((k.r : Int) != 4) = true := bne_iff_ne.2 (by omega)
    clear x4 k4
    go_wp2_with fail
    exact bodyPost_ret (v := .agg #[.slice none 0 0, .slice none 0 0]) (by simp [results, Try.results7, go_sem, y0, y1]) rfl (NO.out _ (by
      repeat (refine Below.setCell ?_ (by simp; omega) _)
      exact A2'.out.bb))
  have x4' : ((x.r : Int) != 4) = false := by rw [x4]; rfl
  have k4' : ((k.r : Int) != 4) = false := by rw [k4]; rfl
  have X4 := hide x4
  have K4 := hide k4
  have HP := hide (zf_pos (st := st) (pd := pd) (dl := dl) (gr := gr) (x := x) (k := k) (by rw [← x4]; exact tx) (by rw [← k4]; exact tk))
  have TX := hide tx
  have TK := hide tk
  clear x4 k4 tx tk
  go_wp2_with fail
  refine (l5In st 1 4096 _).mono ?_
  rintro e w9 ⟨rfl, hq⟩
  have hq := hq.symm
  subst hq
  by_cases hst : 1 ≤ st ∧ st ≤ 4096
  rotate_left
  · rw [decide_eq_false hst]
    clear hst
    go_wp2_with fail
    exact bodyPost_ret (v := .agg #[.slice none 0 0, .slice none 0 0]) (by simp [results, Try.results7, go_sem, y0, y1]) rfl (NO.out _ (by
      repeat (refine Below.setCell ?_ (by simp; omega) _)
      exact A2'.out.bb))
  rw [decide_eq_true hst]
  go_wp2_with fail
  refine (l5In pd 0 4096 _).mono ?_
  rintro e w9 ⟨rfl, hq⟩
  have hq := hq.symm
  subst hq
  by_cases hpd : 0 ≤ pd ∧ pd ≤ 4096
  rotate_left
  · rw [decide_eq_false hpd]
    clear hpd
    go_wp2_with fail
    exact bodyPost_ret (v := .agg #[.slice none 0 0, .slice none 0 0]) (by simp [results, Try.results7, go_sem, y0, y1]) rfl (NO.out _ (by
      repeat (refine Below.setCell ?_ (by simp; omega) _)
      exact A2'.out.bb))
  rw [decide_eq_true hpd]
  go_wp2_with fail
  refine (l5In dl 1 4096 _).mono ?_
  rintro e w9 ⟨rfl, hq⟩
  have hq := hq.symm
  subst hq
  by_cases hdl : 1 ≤ dl ∧ dl ≤ 4096
  rotate_left
  · rw [decide_eq_false hdl]
    clear hdl
    go_wp2_with fail
    exact bodyPost_ret (v := .agg #[.slice none 0 0, .slice none 0 0]) (by simp [results, Try.results7, go_sem, y0, y1]) rfl (NO.out _ (by
      repeat (refine Below.setCell ?_ (by simp; omega) _)
      exact A2'.out.bb))
  rw [decide_eq_true hdl]
  go_wp2_with fail
  refine (l5In gr 1 4096 _).mono ?_
  rintro e w9 ⟨rfl, hq⟩
  have hq := hq.symm
  subst hq
  by_cases hgr : 1 ≤ gr ∧ gr ≤ 4096
  rotate_left
  · rw [decide_eq_false hgr]
    clear hgr
    go_wp2_with fail
    exact bodyPost_ret (v := .agg #[.slice none 0 0, .slice none 0 0]) (by simp [results, Try.results7, go_sem, y0, y1]) rfl (NO.out _ (by
      repeat (refine Below.setCell ?_ (by simp; omega) _)
      exact A2'.out.bb))
  rw [decide_eq_true hgr]

  obtain ⟨xb, xo, ex, hcx⟩ : ∃ xb xo, x.a = some ⟨xb, xo, none⟩ ∧ ∀ j, j < 4 → w2.cell? ⟨xb, xo + j, none⟩ = some (.int .i64 (x.D j)) := by
    rcases A2'.out.rx.1 with h0 | ⟨b, o, h, _, hc⟩
    · have := X4.out; omega
    · exact ⟨b, o, h, fun j hj => (hc j (by have := X4.out; omega)).1⟩
  obtain ⟨kb, ko, ek, hck⟩ : ∃ kb ko, k.a = some ⟨kb, ko, none⟩ ∧ ∀ j, j < 4 → w2.cell? ⟨kb, ko + j, none⟩ = some (.int .i64 (k.D j)) := by
    rcases A2'.out.rk.1 with h0 | ⟨b, o, h, _, hc⟩
    · have := K4.out; omega
    · exact ⟨b, o, h, fun j hj => (hc j (by have := K4.out; omega)).1⟩
  rw [ex, X4.out] at p0
  rw [ek, K4.out] at p2
  have x0' := hcx 0 (by decide)
  have x1' := hcx 1 (by decide)
  have x2' := hcx 2 (by decide)
  have x3' := hcx 3 (by decide)
  have k0' := hck 0 (by decide)
  have k1' := hck 1 (by decide)
  have k2' := hck 2 (by decide)
  have k3' := hck 3 (by decide)
  rw [Nat.add_zero] at x0' k0'
  have q0 : 1 ≤ x.D 0 ∧ x.D 0 ≤ 4096 := HP.out 0 (by decide)
  have q1 : 1 ≤ x.D 1 ∧ x.D 1 ≤ 4096 := HP.out 1 (by decide)
  have q2 : 1 ≤ x.D 2 ∧ x.D 2 ≤ 4096 := HP.out 2 (by decide)
  have q3 : 1 ≤ x.D 3 ∧ x.D 3 ≤ 4096 := HP.out 3 (by decide)
  have q4 : 1 ≤ k.D 0 ∧ k.D 0 ≤ 4096 := HP.out 4 (by decide)
  have q5 : 1 ≤ k.D 1 ∧ k.D 1 ≤ 4096 := HP.out 5 (by decide)
  have q6 : 1 ≤ k.D 2 ∧ k.D 2 ≤ 4096 := HP.out 6 (by decide)
  have q7 : 1 ≤ k.D 3 ∧ k.D 3 ≤ 4096 := HP.out 7 (by decide)
  have m5 := mul_rng (a := k.D 1) (b := gr) (m := 4096) (n := 4096) (by omega) q5.2 (by omega) hgr.2
  have w1' : IntKind.i64.wrap (k.D 1 * gr) = k.D 1 * gr := by rw [IntKind.wrap_i64]; omega
  have g11 : (gr == 0) = false := beq_eq_false_iff_ne.2 (by omega)
  have g11' : ¬ (gr = 0) := by omega
  by_cases h3 : x.D 1 = k.D 1 * gr
  rotate_left
  · have h3' : (x.D 1 != k.D 1 * gr) = true := bne_iff_ne.2 h3
    clear h3
    go_wp2_with fail
    exact bodyPost_ret (v := .agg #[.slice none 0 0, .slice none 0 0]) (by simp [results, Try.results7, go_sem, y0, y1]) rfl (NO.out _ (by
      repeat (refine Below.setCell ?_ (by simp; omega) _)
      exact A2'.out.bb))
  have h3' : (x.D 1 != k.D 1 * gr) = false := bne_eq_false_iff_eq.2 h3
  have H3 := hide h3
  clear h3
  obtain ⟨v, hv⟩ : ∃ v, (k.D 0).tmod gr = v := ⟨_, rfl⟩
  have vr : 0 ≤ v ∧ v ≤ 4096 := by rw [← hv, Int.tmod_eq_emod_of_nonneg (by omega)]; exact ⟨Int.emod_nonneg _ (by omega), Int.le_trans (Int.emod_lt_of_pos _ (by omega) |> Int.le_of_lt) hgr.2⟩
  have w2' : IntKind.i64.wrap v = v := by rw [IntKind.wrap_i64]; omega
  by_cases h4 : v = 0
  rotate_left
  · have h4' : (v != 0) = true := bne_iff_ne.2 h4
    clear h4
    go_wp2_with fail
    exact bodyPost_ret (v := .agg #[.slice none 0 0, .slice none 0 0]) (by simp [results, Try.results7, go_sem, y0, y1]) rfl (NO.out _ (by
      repeat (refine Below.setCell ?_ (by simp; omega) _)
      exact A2'.out.bb))
  have h4' : (v != 0) = false := bne_eq_false_iff_eq.2 h4
  have ZB := hide (show CzB (zf x.D k.D st pd dl gr) from ⟨hst, hpd, hdl, hgr, HP.out⟩)
  have BAD := hide (fun (y1 : 0 < szR (cvE (zf x.D k.D st pd dl gr)) 4) (y2 : szR (cvE (zf x.D k.D st pd dl gr)) 4 * k.D 1 * k.D 2 * k.D 3 ≤ 65536) => HNO.out ⟨⟨TX.out, X4.out⟩, ⟨TK.out, K4.out⟩, hst, hdl, hgr, hpd, H3.out, hv.trans h4, y1, y2⟩)
  have HV := hide hv
  have V0 := hide h4
  clear h4
  have CH := hide (fun (W : World) => show Calls Try.prog 29 #[.int .i64 (x.D 2 + 2 * pd), .int .i64 (dl * (k.D 2 - 1) + 1), .int .i64 st] W (fun e w' => e = .returned (.int .i64 (plcs (zf x.D k.D st pd dl gr) (x.D 2) (k.D 2))) ∧ w' = W) from l5OutW (zf x.D k.D st pd dl gr) (x.D 2) (k.D 2) W ZB.out q2.1 q2.2 q6.1 q6.2)
  have CG := hide (fun (W : World) => show Calls Try.prog 29 #[.int .i64 (x.D 3 + 2 * pd), .int .i64 (dl * (k.D 3 - 1) + 1), .int .i64 st] W (fun e w' => e = .returned (.int .i64 (plcs (zf x.D k.D st pd dl gr) (x.D 3) (k.D 3))) ∧ w' = W) from l5OutW (zf x.D k.D st pd dl gr) (x.D 3) (k.D 3) W ZB.out q3.1 q3.2 q7.1 q7.2)
  have RH := hide (plcs_rng ZB.out q2.1 q2.2 q6.1 q6.2)
  have RG := hide (plcs_rng ZB.out q3.1 q3.2 q7.1 q7.2)
  have EE := hide (show cvE (zf x.D k.D st pd dl gr) = l4f (x.D 0) (k.D 0) (plcs (zf x.D k.D st pd dl gr) (x.D 2) (k.D 2)) (plcs (zf x.D k.D st pd dl gr) (x.D 3) (k.D 3)) from rfl)
  obtain ⟨hv1, hhv1⟩ : ∃ v, plcs (zf x.D k.D st pd dl gr) (x.D 2) (k.D 2) = v := ⟨_, rfl⟩
  obtain ⟨hv2, hhv2⟩ : ∃ v, plcs (zf x.D k.D st pd dl gr) (x.D 3) (k.D 3) = v := ⟨_, rfl⟩
  rw [hhv1] at CH RH EE
  rw [hhv2] at CG RG EE
  rw [EE.out] at BAD
  have mm := mul_rng (a := dl) (b := k.D 2 - 1) (m := 4096) (n := 4095) (by omega) hdl.2 (by omega) (by omega)
  have mn := mul_rng (a := dl) (b := k.D 3 - 1) (m := 4096) (n := 4095) (by omega) hdl.2 (by omega) (by omega)
  have u1 : IntKind.i64.wrap (2 * pd) = 2 * pd := by rw [IntKind.wrap_i64]; omega
  have u2 : IntKind.i64.wrap (x.D 2 + 2 * pd) = x.D 2 + 2 * pd := by rw [IntKind.wrap_i64]; omega
  have u3 : IntKind.i64.wrap (x.D 3 + 2 * pd) = x.D 3 + 2 * pd := by rw [IntKind.wrap_i64]; omega
  have u4 : IntKind.i64.wrap (k.D 2 - 1) = k.D 2 - 1 := by rw [IntKind.wrap_i64]; omega
  have u5 : IntKind.i64.wrap (k.D 3 - 1) = k.D 3 - 1 := by rw [IntKind.wrap_i64]; omega
  have u6 : IntKind.i64.wrap (dl * (k.D 2 - 1)) = dl * (k.D 2 - 1) := by rw [IntKind.wrap_i64]; omega
  have u7 : IntKind.i64.wrap (dl * (k.D 3 - 1)) = dl * (k.D 3 - 1) := by rw [IntKind.wrap_i64]; omega
  have u8 : IntKind.i64.wrap (dl * (k.D 2 - 1) + 1) = dl * (k.D 2 - 1) + 1 := by rw [IntKind.wrap_i64]; omega
  have u9 : IntKind.i64.wrap (dl * (k.D 3 - 1) + 1) = dl * (k.D 3 - 1) + 1 := by rw [IntKind.wrap_i64]; omega
  have ALLF := hide (fun (W : World) (hb : Below w2.heap.size w2 W) => show (W.cell? ⟨w.heap.size, 0, none⟩ = some (.slice (some ⟨xb, xo, none⟩) 4 x.cap) ∧ W.cell? ⟨w.heap.size + 1, 0, none⟩ = some (.slice (some ⟨kb, ko, none⟩) 4 k.cap)) ∧ (∀ j, j < 4 → W.cell? ⟨xb, xo + j, none⟩ = some (.int .i64 (x.D j))) ∧ (∀ j, j < 4 → W.cell? ⟨kb, ko + j, none⟩ = some (.int .i64 (k.D j))) from
    ⟨⟨below_old hb p0, below_old hb p2⟩, fun j hj => below_old hb (hcx j hj), fun j hj => below_old hb (hck j hj)⟩)
  clear hhv1 hhv2 mm mn hcx hck
  go_wp2_with fail
  go_quiet (first | (go_at_call 29; exact Calls.quiet_of_same (CH.out _)))
  have bz1 := below_drewN (Below.refl w2.heap.size w2) nq
  generalize w2.drewN nq = X1 at bz1 ⊢
  clear p0 p1 p2 p3 x0' x1' x2' x3' k0' k1' k2' k3' y0 y1 gg x4' k4' h3' h4' w1' w2' u2 u4 u6 u8 CH
  have BZ1 := hide bz1
  obtain ⟨⟨p0, p2⟩, fx, fk⟩ := ALLF.out X1 bz1
  have x3' := fx 3 (by decide)
  have k3' := fk 3 (by decide)
  clear bz1 fx fk
  go_wp2_with fail
  go_quiet (first | (go_at_call 29; exact Calls.quiet_of_same (CG.out _)))
  have bz2 := below_drewN (Below.refl X1.heap.size X1) nq
  generalize X1.drewN nq = X2 at bz2 ⊢
  have bz2' := BZ1.out.trans (bz2.mono BZ1.out.size)
  clear p0 p2 x3' k3' bz2 BZ1 u1 u3 u5 u7 u9 CG
  obtain ⟨⟨p0, p2⟩, fx, fk⟩ := ALLF.out X2 bz2'
  have x0' := fx 0 (by decide)
  rw [Nat.add_zero] at x0'
  have AX := hide (A2'.out.below hB bz2')
  obtain ⟨W9, hW9⟩ : ∃ W9, X2.alloc (.cells #[.int .i64 (x.D 0), .int .i64 (k.D 0), .int .i64 hv1, .int .i64 hv2] 3) = W9 := ⟨_, rfl⟩
  have b9 : Below X2.heap.size X2 W9 := by rw [← hW9]; exact (Below.refl _ _).alloc (Nat.le_refl _) _
  have rw9 : Rw W9 X2.heap.size 4 (l4f (x.D 0) (k.D 0) hv1 hv2) := by
    rw [← hW9]
    have r1 := RH.out
    have r2 := RG.out
    exact rw4_new X2 _ _ _ _ (by unfold bd; omega) (by unfold bd; omega) (by unfold bd; omega) (by unfold bd; omega)
  have s9 : X2.heap.size < W9.heap.size := by rw [← hW9]; simp
  have A9 := hide (AX.out.below hB b9)
  obtain ⟨⟨_, r2⟩, _, fk9⟩ := ALLF.out W9 (bz2'.trans (b9.mono bz2'.size))
  have k2' := fk9 2 (by decide)
  have k3' := fk9 3 (by decide)
  have RI := hide (fun (q : Nat) => show Ints W9.heap.size (W9.drewN q) (some ⟨X2.heap.size, 0, none⟩) 4 (l4f (x.D 0) (k.D 0) hv1 hv2) from (rw9.ints s9).below (below_drewN (Below.refl _ _) q))
  have CD := hide (fun (q : Nat) => Vs.specDimsOk W9.heap.size (some ⟨X2.heap.size, 0, none⟩) 4 4 (l4f (x.D 0) (k.D 0) hv1 hv2) (W9.drewN q) (RI.out q) (by decide))
  have CS := hide (fun (q : Nat) => Vs.l3Size W9.heap.size (some ⟨X2.heap.size, 0, none⟩) 4 4 (l4f (x.D 0) (k.D 0) hv1 hv2) (W9.drewN q) (RI.out q) (by decide))
  have SR := szR_rng (l4f (x.D 0) (k.D 0) hv1 hv2) 4
  have DI := hide (show dok 4 (l4f (x.D 0) (k.D 0) hv1 hv2) = true ↔ 0 < szR (l4f (x.D 0) (k.D 0) hv1 hv2) 4 from ⟨fun h => (dok_iff.1 h).2, fun h => dok_iff.2 ⟨by omega, h⟩⟩)
  obtain ⟨sz', hsz⟩ : ∃ s, szR (l4f (x.D 0) (k.D 0) hv1 hv2) 4 = s := ⟨_, rfl⟩
  rw [hsz] at CS BAD SR DI
  clear fx fk fk9 rw9 b9 AX bz2' hsz EE
  have FIN := hide (fun (q : Nat) => A9.out.below hB (below_drewN (Below.refl W9.heap.size W9) q))
  cases hd : dok 4 (l4f (x.D 0) (k.D 0) hv1 hv2) with
  | false =>
    rw [hd] at CD
    go_wp2_with fail
    clear hW9 p0 p2 x0'
    go_quiet (first | (go_at_call 30; exact Calls.quiet_of_same (CD.out _)))
    have AF := hide (FIN.out nq)
    obtain ⟨y0, y1⟩ := AF.out.z
    have gg := AF.out.fr
    unfold Free at gg
    go_wp2_with fail
    exact bodyPost_ret (v := .agg #[.slice none 0 0, .slice none 0 0]) (by simp [results, Try.results7, go_sem, y0, y1]) rfl (NO.out _ (by
      repeat (refine Below.setCell ?_ (by simp; omega) _)
      exact AF.out.bb))
  | true =>
    have sp := DI.out.1 hd
    have m1 := mul_rng (a := sz') (b := k.D 1) (m := 4096) (n := 4096) (by omega) SR.2 (by omega) q5.2
    have m2 := mul_rng (a := sz' * k.D 1) (b := k.D 2) (m := 16777216) (n := 4096) m1.1 (by omega) (by omega) q6.2
    have m3 := mul_rng (a := sz' * k.D 1 * k.D 2) (b := k.D 3) (m := 68719476736) (n := 4096) m2.1 (by omega) (by omega) q7.2
    have BB := BAD.out sp
    obtain ⟨t1, ht1⟩ : ∃ t1, sz' * k.D 1 = t1 := ⟨_, rfl⟩
    rw [ht1] at m1 m2 m3 BB
    obtain ⟨t2, ht2⟩ : ∃ t2, t1 * k.D 2 = t2 := ⟨_, rfl⟩
    rw [ht2] at m2 m3 BB
    obtain ⟨t3, ht3⟩ : ∃ t3, t2 * k.D 3 = t3 := ⟨_, rfl⟩
    rw [ht3] at m3 BB
    have e5 : 65536 < t3 := by
      apply Int.lt_of_not_ge
      intro h
      exact BB h
    have u1 : IntKind.i64.wrap t1 = t1 := by rw [IntKind.wrap_i64]; omega
    have u2 : IntKind.i64.wrap t2 = t2 := by rw [IntKind.wrap_i64]; omega
    have u3 : IntKind.i64.wrap t3 = t3 := by rw [IntKind.wrap_i64]; omega
    rw [hd] at CD
    clear m1 m2 m3 BB BAD
    go_wp2_with fail
    clear hW9 p0 p2 x0'
    go_quiet (first | (go_at_call 30; exact Calls.quiet_of_same (CD.out _)) | (go_at_call 31; exact Calls.quiet_of_same (CS.out _)))
    have AF := hide (FIN.out nq)
    obtain ⟨y0, y1⟩ := AF.out.z
    have gg := AF.out.fr
    unfold Free at gg
    go_wp2_with fail
    exact bodyPost_ret (v := .agg #[.slice none 0 0, .slice none 0 0]) (by simp [results, Try.results7, go_sem, y0, y1]) rfl (NO.out _ (by
      repeat (refine Below.setCell ?_ (by simp; omega) _)
      exact AF.out.bb))
end Vo
end Go.Proofs.Ytgcialbchmbgkaa
