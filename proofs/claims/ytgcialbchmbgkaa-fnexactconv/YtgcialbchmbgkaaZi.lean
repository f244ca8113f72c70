/- Convolutions of the model. -/
import Derived.Test.YtgcialbchmbgkaaZh
namespace Go.Proofs.Ytgcialbchmbgkaa
namespace Vo
open Go.ChangeShapes Go.WideShapes Go.ChangeAt Go.RowKit Go.Joins Go.Sort
open Vl Vp Vr
set_option linter.unusedVariables false
set_option linter.unusedSimpArgs false
theorem grp_lt {z4 gr : Int} {o qd od : Nat} (z0 : 0 ≤ z4) (g1 : 1 ≤ gr) (hm : z4.tmod gr = 0) (hq : z4.tdiv gr = (qd : Int)) (hod : (o : Int).tdiv (qd : Int) = (od : Int)) (ho : (o : Int) < z4) (q1 : 1 ≤ qd) : (od : Int) < gr := by
  have em : gr * (qd : Int) = z4 := by
    have := Int.mul_tdiv_add_tmod z4 gr
    rw [hm, hq] at this
    omega
  have odl : (od : Int) * qd ≤ o := by
    have h1 := Int.mul_tdiv_add_tmod (o : Int) (qd : Int)
    have h2 := Int.tmod_nonneg (qd : Int) (show (0 : Int) ≤ o by omega)
    rw [hod, Int.mul_comm] at h1
    omega
  apply Int.lt_of_not_ge
  intro h
  have : gr * (qd : Int) ≤ (od : Int) * qd := Int.mul_le_mul_of_nonneg_right h (by omega)
  omega
/-- a list of four that was laid -/
def Ls4 (B : Nat) (a b c d : Int) (v : Value) (wx : World) : Prop := ∃ g, v = .slice (some ⟨g, 0, none⟩) 4 4 ∧ Rw wx g 4 (l4f a b c d) ∧ B ≤ g ∧ g < wx.heap.size
theorem Ls4.below {B : Nat} {a b c d : Int} {v : Value} {w1 w2 : World} (h : Ls4 B a b c d v w1) (hb : Below w1.heap.size w1 w2) : Ls4 B a b c d v w2 := by
  obtain ⟨g, e, r, h1, h2⟩ := h
  exact ⟨g, e, r.below hb h2, h1, Nat.lt_of_lt_of_le h2 hb.size⟩
theorem ls4_new (B : Nat) (w : World) (a b c d : Int) (hB : B ≤ w.heap.size) (hd : (bd a ∧ bd b) ∧ bd c ∧ bd d) : Below w.heap.size w (w.alloc (.cells #[.int .i64 a, .int .i64 b, .int .i64 c, .int .i64 d] 3)) ∧ Ls4 B a b c d (.slice (some ⟨w.heap.size, 0, none⟩) 4 4) (w.alloc (.cells #[.int .i64 a, .int .i64 b, .int .i64 c, .int .i64 d] 3)) :=
  ⟨(Below.refl _ _).alloc (Nat.le_refl _) _, _, rfl, rw4_new w _ _ _ _ hd.1.1 hd.1.2 hd.2.1 hd.2.2, hB, by simp⟩
theorem runIdx {o : Oper} {A : Act} {w : World} {x y : Operand} {b f n c j : Nat} (ho : o.op = .indexAddr 22 x y) (hx : A.eval x = .slice (some ⟨b, f, none⟩) n c) (hy : A.eval y = .int .i64 ((j : Nat) : Int)) (hj : j < n) : (execOp A.eval o).run Try.prog w = .ok (.value (.pointer (some ⟨b, f + j, none⟩))) w := by
  have hj' : (j : Int) < (n : Int) := by omega
  unfold execOp
  rw [ho]
  simp only [hx, hy]
  go_simp
theorem runLoadI {o : Oper} {A : Act} {w : World} {x : Operand} {b f : Nat} {v : Value} (ho : o.op = .load 3 x) (hx : A.eval x = .pointer (some ⟨b, f, none⟩)) (h : w.cell? ⟨b, f, none⟩ = some v) : (execOp A.eval o).run Try.prog w = .ok (.value v) w := by
  unfold execOp
  rw [ho]
  simp only [hx]
  go_simp
theorem runBuild4 {o : Oper} {A : Act} {w : World} {x0 x1 x2 x3 : Operand} {a b c d : Int} (ho : o.op = .buildSlice 22 4 #[(0, x0), (1, x1), (2, x2), (3, x3)]) (h0 : A.eval x0 = .int .i64 a) (h1 : A.eval x1 = .int .i64 b) (h2 : A.eval x2 = .int .i64 c) (h3 : A.eval x3 = .int .i64 d) : (execOp A.eval o).run Try.prog w = .ok (.value (.slice (some ⟨w.heap.size, 0, none⟩) 4 4)) (w.alloc (.cells #[.int .i64 a, .int .i64 b, .int .i64 c, .int .i64 d] 3)) := by
  unfold execOp
  rw [ho]
  simp only [List.map_toArray, List.map_cons, List.map_nil, h0, h1, h2, h3]
  go_simp
set_option maxRecDepth 100000 in
set_option maxHeartbeats 8000000 in
theorem specConvYes (B : Nat) (x k : TV) (st pd dl gr : Int) (w : World) (hB : B ≤ w.heap.size) (hx : x.read B w) (hk : k.read B w) (lx : (x.r : Int) ≤ 1048576 ∧ (x.s : Int) ≤ 1048576) (lk : (k.r : Int) ≤ 1048576 ∧ (k.s : Int) ≤ 1048576) (hok : ConvOk x k st pd dl gr) :
    Calls Try.prog 7 #[.agg #[.slice x.a x.r x.cap, .slice x.b x.s x.dap], .agg #[.slice k.a k.r k.cap, .slice k.b k.s k.dap], .int .i64 st, .int .i64 pd, .int .i64 dl, .int .i64 gr] w fun e w' => TensR w.heap.size (convP x k st pd dl gr) w e w' := by
  have EZ := hide (convP_yes hok)
  obtain ⟨⟨tx, x4⟩, ⟨tk, k4⟩, ok⟩ := hok
  unfold TV.ok at tx tk
  have HP := hide (zf_pos (st := st) (pd := pd) (dl := dl) (gr := gr) (x := x) (k := k) (by rw [← x4]; exact tx) (by rw [← k4]; exact tk))
  have FX := hide (four_len (show tok 4 x.s x.D x.S = true by rw [← x4]; exact tx))
  have FK := hide (four_len (show tok 4 k.s k.D k.S = true by rw [← k4]; exact tk))
  have OK := hide ok
  have hst : 1 ≤ st ∧ st ≤ 4096 := ok.1
  have hdl : 1 ≤ dl ∧ dl ≤ 4096 := ok.2.1
  have hgr : 1 ≤ gr ∧ gr ≤ 4096 := ok.2.2.1
  have hpd : 0 ≤ pd ∧ pd ≤ 4096 := ok.2.2.2.1
  have h3 : x.D 1 = k.D 1 * gr := ok.2.2.2.2.1
  have hv : (k.D 0).tmod gr = 0 := ok.2.2.2.2.2.1
  have H3 := hide h3
  have HV := hide hv
  have X4 := hide x4
  have K4 := hide k4
  have TX := hide tx
  have TK := hide tk
  have A0 := hide (a2_new B x k w hB hx hk)
  obtain ⟨W0, hW0⟩ : ∃ W0, ((w.alloc (.cells #[.slice x.a x.r x.cap, .slice x.b x.s x.dap] 26)).alloc (.cells #[.slice k.a k.r k.cap, .slice k.b k.s k.dap] 26)).alloc (.cells #[.slice none 0 0, .slice none 0 0] 26) = W0 := ⟨_, rfl⟩
  rw [hW0] at A0
  obtain ⟨x0, x1⟩ := A0.out.bx
  have C1 := hide (specTensorOk B x.a x.b x.r x.s x.cap x.dap x.D x.S W0 (by have := A0.out.sz; omega) A0.out.rx.1 A0.out.rx.2 lx.1 lx.2)
  rw [tx] at C1
  clear hx hk x4 k4 tx tk ok h3 hv
  go_enter Try.func7, Try.ntmps7
  go_wp2_with fail
  refine C1.out.mono ?_
  clear hW0 C1 x0 x1
  rintro e w1 ⟨rfl, b1⟩
  have A1 := hide (A0.out.below hB b1)
  clear A0 b1
  obtain ⟨x0, x1⟩ := A1.out.bk
  have C1 := hide (specTensorOk B k.a k.b k.r k.s k.cap k.dap k.D k.S w1 (by have := A1.out.sz; omega) A1.out.rk.1 A1.out.rk.2 lk.1 lk.2)
  rw [TK.out] at C1
  go_wp2_with fail
  refine C1.out.mono ?_
  clear C1 x0 x1
  rintro e w2 ⟨rfl, b1⟩
  have A2' := hide (A1.out.below hB b1)
  clear A1 b1
  obtain ⟨p0, p1⟩ := A2'.out.bx
  obtain ⟨p2, p3⟩ := A2'.out.bk
  have x4' : ((x.r : Int) != 4) = false := by rw [X4.out]; rfl
  have k4' : ((k.r : Int) != 4) = false := by rw [K4.out]; rfl
  go_wp2_with fail
  refine (l5In st 1 4096 _).mono ?_
  rintro e w9 ⟨rfl, hq⟩
  have hq := hq.symm
  subst hq
  rw [decide_eq_true hst]
  go_wp2_with fail
  refine (l5In pd 0 4096 _).mono ?_
  rintro e w9 ⟨rfl, hq⟩
  have hq := hq.symm
  subst hq
  rw [decide_eq_true hpd]
  go_wp2_with fail
  refine (l5In dl 1 4096 _).mono ?_
  rintro e w9 ⟨rfl, hq⟩
  have hq := hq.symm
  subst hq
  rw [decide_eq_true hdl]
  go_wp2_with fail
  refine (l5In gr 1 4096 _).mono ?_
  rintro e w9 ⟨rfl, hq⟩
  have hq := hq.symm
  subst hq
  rw [decide_eq_true hgr]
  obtain ⟨xb, xo, ex, hcx⟩ : ∃ xb xo, x.a = some ⟨xb, xo, none⟩ ∧ ∀ j, j < 4 → w2.cell? ⟨xb, xo + j, none⟩ = some (.int .i64 (x.D j)) := by
    rcases A2'.out.rx.1 with h0 | ⟨b, o, h, _, hc⟩
    · have := X4.out; omega
    · exact ⟨b, o, h, fun j hj => (hc j (by have := X4.out; omega)).1⟩
  obtain ⟨kb, ko, ek, hck⟩ : ∃ kb ko, k.a = some ⟨kb, ko, none⟩ ∧ ∀ j, j < 4 → w2.cell? ⟨kb, ko + j, none⟩ = some (.int .i64 (k.D j)) := by
    rcases A2'.out.rk.1 with h0 | ⟨b, o, h, _, hc⟩
    · have := K4.out; omega
    · exact ⟨b, o, h, fun j hj => (hc j (by have := K4.out; omega)).1⟩
  rw [ex, X4.out] at p0
  rw [ek, K4.out] at p2
  have x0' := hcx 0 (by decide)
  have x1' := hcx 1 (by decide)
  have x2' := hcx 2 (by decide)
  have x3' := hcx 3 (by decide)
  have k0' := hck 0 (by decide)
  have k1' := hck 1 (by decide)
  have k2' := hck 2 (by decide)
  have k3' := hck 3 (by decide)
  rw [Nat.add_zero] at x0' k0'
  have q0 : 1 ≤ x.D 0 ∧ x.D 0 ≤ 4096 := HP.out 0 (by decide)
  have q1 : 1 ≤ x.D 1 ∧ x.D 1 ≤ 4096 := HP.out 1 (by decide)
  have q2 : 1 ≤ x.D 2 ∧ x.D 2 ≤ 4096 := HP.out 2 (by decide)
  have q3 : 1 ≤ x.D 3 ∧ x.D 3 ≤ 4096 := HP.out 3 (by decide)
  have q4 : 1 ≤ k.D 0 ∧ k.D 0 ≤ 4096 := HP.out 4 (by decide)
  have q5 : 1 ≤ k.D 1 ∧ k.D 1 ≤ 4096 := HP.out 5 (by decide)
  have q6 : 1 ≤ k.D 2 ∧ k.D 2 ≤ 4096 := HP.out 6 (by decide)
  have q7 : 1 ≤ k.D 3 ∧ k.D 3 ≤ 4096 := HP.out 7 (by decide)
  have m5 := mul_rng (a := k.D 1) (b := gr) (m := 4096) (n := 4096) (by omega) q5.2 (by omega) hgr.2
  have w1' : IntKind.i64.wrap (k.D 1 * gr) = k.D 1 * gr := by rw [IntKind.wrap_i64]; omega
  have g11 : (gr == 0) = false := beq_eq_false_iff_ne.2 (by omega)
  have g11' : ¬ (gr = 0) := by omega
  have h3' : (x.D 1 != k.D 1 * gr) = false := bne_eq_false_iff_eq.2 H3.out
  obtain ⟨v, hv⟩ : ∃ v, (k.D 0).tmod gr = v := ⟨_, rfl⟩
  have h4' : (v != 0) = false := bne_eq_false_iff_eq.2 (hv.symm.trans HV.out)
  have w2' : IntKind.i64.wrap v = v := by have : v = 0 := hv.symm.trans HV.out; rw [this]; rfl
  have ZB := hide (show CzB (zf x.D k.D st pd dl gr) from OK.out.b HP.out)
  have CH := hide (fun (W : World) => show Calls Try.prog 29 #[.int .i64 (x.D 2 + 2 * pd), .int .i64 (dl * (k.D 2 - 1) + 1), .int .i64 st] W (fun e w' => e = .returned (.int .i64 (plcs (zf x.D k.D st pd dl gr) (x.D 2) (k.D 2))) ∧ w' = W) from l5OutW (zf x.D k.D st pd dl gr) (x.D 2) (k.D 2) W ZB.out q2.1 q2.2 q6.1 q6.2)
  have CG := hide (fun (W : World) => show Calls Try.prog 29 #[.int .i64 (x.D 3 + 2 * pd), .int .i64 (dl * (k.D 3 - 1) + 1), .int .i64 st] W (fun e w' => e = .returned (.int .i64 (plcs (zf x.D k.D st pd dl gr) (x.D 3) (k.D 3))) ∧ w' = W) from l5OutW (zf x.D k.D st pd dl gr) (x.D 3) (k.D 3) W ZB.out q3.1 q3.2 q7.1 q7.2)
  have RH := hide (plcs_rng ZB.out q2.1 q2.2 q6.1 q6.2)
  have RG := hide (plcs_rng ZB.out q3.1 q3.2 q7.1 q7.2)
  have EE := hide (show cvE (zf x.D k.D st pd dl gr) = l4f (x.D 0) (k.D 0) (plcs (zf x.D k.D st pd dl gr) (x.D 2) (k.D 2)) (plcs (zf x.D k.D st pd dl gr) (x.D 3) (k.D 3)) from rfl)
  obtain ⟨hv1, hhv1⟩ : ∃ v, plcs (zf x.D k.D st pd dl gr) (x.D 2) (k.D 2) = v := ⟨_, rfl⟩
  obtain ⟨hv2, hhv2⟩ : ∃ v, plcs (zf x.D k.D st pd dl gr) (x.D 3) (k.D 3) = v := ⟨_, rfl⟩
  rw [hhv1] at CH RH EE
  rw [hhv2] at CG RG EE
  have EE2 := hide EE.out
  have mm := mul_rng (a := dl) (b := k.D 2 - 1) (m := 4096) (n := 4095) (by omega) hdl.2 (by omega) (by omega)
  have mn := mul_rng (a := dl) (b := k.D 3 - 1) (m := 4096) (n := 4095) (by omega) hdl.2 (by omega) (by omega)
  have u1 : IntKind.i64.wrap (2 * pd) = 2 * pd := by rw [IntKind.wrap_i64]; omega
  have u2 : IntKind.i64.wrap (x.D 2 + 2 * pd) = x.D 2 + 2 * pd := by rw [IntKind.wrap_i64]; omega
  have u3 : IntKind.i64.wrap (x.D 3 + 2 * pd) = x.D 3 + 2 * pd := by rw [IntKind.wrap_i64]; omega
  have u4 : IntKind.i64.wrap (k.D 2 - 1) = k.D 2 - 1 := by rw [IntKind.wrap_i64]; omega
  have u5 : IntKind.i64.wrap (k.D 3 - 1) = k.D 3 - 1 := by rw [IntKind.wrap_i64]; omega
  have u6 : IntKind.i64.wrap (dl * (k.D 2 - 1)) = dl * (k.D 2 - 1) := by rw [IntKind.wrap_i64]; omega
  have u7 : IntKind.i64.wrap (dl * (k.D 3 - 1)) = dl * (k.D 3 - 1) := by rw [IntKind.wrap_i64]; omega
  have u8 : IntKind.i64.wrap (dl * (k.D 2 - 1) + 1) = dl * (k.D 2 - 1) + 1 := by rw [IntKind.wrap_i64]; omega
  have u9 : IntKind.i64.wrap (dl * (k.D 3 - 1) + 1) = dl * (k.D 3 - 1) + 1 := by rw [IntKind.wrap_i64]; omega
  have ALLF := hide (fun (W : World) (hb : Below w2.heap.size w2 W) => show (W.cell? ⟨w.heap.size, 0, none⟩ = some (.slice (some ⟨xb, xo, none⟩) 4 x.cap) ∧ W.cell? ⟨w.heap.size + 1, 0, none⟩ = some (.slice (some ⟨kb, ko, none⟩) 4 k.cap)) ∧ (∀ j, j < 4 → W.cell? ⟨xb, xo + j, none⟩ = some (.int .i64 (x.D j))) ∧ (∀ j, j < 4 → W.cell? ⟨kb, ko + j, none⟩ = some (.int .i64 (k.D j))) from
    ⟨⟨below_old hb p0, below_old hb p2⟩, fun j hj => below_old hb (hcx j hj), fun j hj => below_old hb (hck j hj)⟩)
  clear hhv1 hhv2 mm mn hcx hck
  go_wp2_with fail
  go_quiet (first | (go_at_call 29; exact Calls.quiet_of_same (CH.out _)))
  have bz1 := below_drewN (Below.refl w2.heap.size w2) nq
  generalize w2.drewN nq = X1 at bz1 ⊢
  clear p0 p1 p2 p3 x0' x1' x2' x3' k0' k1' k2' k3' x4' k4' h3' h4' w1' w2' hv u2 u4 u6 u8 CH
  have BZ1 := hide bz1
  obtain ⟨⟨p0, p2⟩, fx, fk⟩ := ALLF.out X1 bz1
  have x3' := fx 3 (by decide)
  have k3' := fk 3 (by decide)
  clear bz1 fx fk
  go_wp2_with fail
  go_quiet (first | (go_at_call 29; exact Calls.quiet_of_same (CG.out _)))
  have bz2 := below_drewN (Below.refl X1.heap.size X1) nq
  generalize X1.drewN nq = X2 at bz2 ⊢
  have bz2' := BZ1.out.trans (bz2.mono BZ1.out.size)
  clear p0 p2 x3' k3' bz2 BZ1 u1 u3 u5 u7 u9 CG
  obtain ⟨⟨p0, p2⟩, fx, fk⟩ := ALLF.out X2 bz2'
  have x0' := fx 0 (by decide)
  rw [Nat.add_zero] at x0'
  have AX := hide (A2'.out.below hB bz2')
  obtain ⟨W9, hW9⟩ : ∃ W9, X2.alloc (.cells #[.int .i64 (x.D 0), .int .i64 (k.D 0), .int .i64 hv1, .int .i64 hv2] 3) = W9 := ⟨_, rfl⟩
  have b9 : Below X2.heap.size X2 W9 := by rw [← hW9]; exact (Below.refl _ _).alloc (Nat.le_refl _) _
  have rw9 : Rw W9 X2.heap.size 4 (l4f (x.D 0) (k.D 0) hv1 hv2) := by
    rw [← hW9]
    have r1 := RH.out
    have r2 := RG.out
    exact rw4_new X2 _ _ _ _ (by unfold bd; omega) (by unfold bd; omega) (by unfold bd; omega) (by unfold bd; omega)
  have s9 : X2.heap.size < W9.heap.size := by rw [← hW9]; simp
  have A9 := hide (AX.out.below hB b9)
  obtain ⟨⟨_, r2⟩, _, fk9⟩ := ALLF.out W9 (bz2'.trans (b9.mono bz2'.size))
  have k2' := fk9 2 (by decide)
  have k3' := fk9 3 (by decide)
  have RI := hide (fun (q : Nat) => show Ints W9.heap.size (W9.drewN q) (some ⟨X2.heap.size, 0, none⟩) 4 (l4f (x.D 0) (k.D 0) hv1 hv2) from (rw9.ints s9).below (below_drewN (Below.refl _ _) q))
  have CD := hide (fun (q : Nat) => Vs.specDimsOk W9.heap.size (some ⟨X2.heap.size, 0, none⟩) 4 4 (l4f (x.D 0) (k.D 0) hv1 hv2) (W9.drewN q) (RI.out q) (by decide))
  have CS := hide (fun (q : Nat) => Vs.l3Size W9.heap.size (some ⟨X2.heap.size, 0, none⟩) 4 4 (l4f (x.D 0) (k.D 0) hv1 hv2) (W9.drewN q) (RI.out q) (by decide))
  have SR := szR_rng (l4f (x.D 0) (k.D 0) hv1 hv2) 4
  obtain ⟨sz', hsz⟩ : ∃ s, szR (l4f (x.D 0) (k.D 0) hv1 hv2) 4 = s := ⟨_, rfl⟩
  rw [hsz] at CS SR
  have RW9 := hide rw9
  have BA9 := hide (bz2'.trans (b9.mono bz2'.size))
  have HSZ := hide hsz
  clear fx fk fk9 rw9 b9 AX bz2' hsz EE
  have FIN := hide (fun (q : Nat) => A9.out.below hB (below_drewN (Below.refl W9.heap.size W9) q))
  have EO := hide OK.out
  have DK : dok 4 (l4f (x.D 0) (k.D 0) hv1 hv2) = true := dok_iff.2 ⟨by omega, by rw [← EE2.out]; exact OK.out.2.2.2.2.2.2.1⟩
  have e5 : sz' * k.D 1 * k.D 2 * k.D 3 ≤ 65536 := by rw [← HSZ.out, ← EE2.out]; exact OK.out.2.2.2.2.2.2.2
  rw [DK] at CD
  have m1 := mul_rng (a := sz') (b := k.D 1) (m := 4096) (n := 4096) (by omega) SR.2 (by omega) q5.2
  have m2 := mul_rng (a := sz' * k.D 1) (b := k.D 2) (m := 16777216) (n := 4096) m1.1 (by omega) (by omega) q6.2
  have m3 := mul_rng (a := sz' * k.D 1 * k.D 2) (b := k.D 3) (m := 68719476736) (n := 4096) m2.1 (by omega) (by omega) q7.2
  obtain ⟨t1, ht1⟩ : ∃ t1, sz' * k.D 1 = t1 := ⟨_, rfl⟩
  rw [ht1] at m1 m2 m3 e5
  obtain ⟨t2, ht2⟩ : ∃ t2, t1 * k.D 2 = t2 := ⟨_, rfl⟩
  rw [ht2] at m2 m3 e5
  obtain ⟨t3, ht3⟩ : ∃ t3, t2 * k.D 3 = t3 := ⟨_, rfl⟩
  rw [ht3] at m3 e5
  have e5' : decide (65536 < t3) = false := decide_eq_false (by omega)
  have u1 : IntKind.i64.wrap t1 = t1 := by rw [IntKind.wrap_i64]; omega
  have u2 : IntKind.i64.wrap t2 = t2 := by rw [IntKind.wrap_i64]; omega
  have u3 : IntKind.i64.wrap t3 = t3 := by rw [IntKind.wrap_i64]; omega
  clear m1 m2 m3 e5 DK
  go_wp2_with fail
  clear hW9 p0 p2 x0'
  go_quiet (first | (go_at_call 30; exact Calls.quiet_of_same (CD.out _)) | (go_at_call 31; exact Calls.quiet_of_same (CS.out _)))
  have bzY := below_drewN (Below.refl W9.heap.size W9) nq
  generalize W9.drewN nq = Y at bzY ⊢
  have AY := hide (A9.out.below hB bzY)
  have RY := hide (RW9.out.below bzY s9)
  have BAY := hide (BA9.out.trans (bzY.mono BA9.out.size))
  have sY : X2.heap.size < Y.heap.size := by have := bzY.size; omega
  clear bzY CD CS RI FIN k2' k3' r2 u1 u2 u3 e5' ht1 ht2 ht3 A9 BA9 RW9
  obtain ⟨N, hN⟩ : ∃ N : Nat, sz' = N := ⟨sz'.toNat, by have := SR.1; omega⟩
  have EV := hide (show l4f (x.D 0) (k.D 0) hv1 hv2 = cvE (zf x.D k.D st pd dl gr) from EE2.out.symm)
  rw [EV.out] at RY
  have HSE := hide (show szR (cvE (zf x.D k.D st pd dl gr)) 4 = (N : Int) by rw [← hN, ← HSZ.out, EV.out])
  have N4 : (N : Int) ≤ 4096 := by rw [← hN]; exact SR.2
  have DE := hide (show ∀ j, j < 4 → 1 ≤ cvE (zf x.D k.D st pd dl gr) j ∧ cvE (zf x.D k.D st pd dl gr) j ≤ 4096 from fun j hj => dok_len (dok_iff.2 ⟨by omega, OK.out.2.2.2.2.2.2.1⟩) hj)
  have e0 := DE.out 0 (by decide)
  have e1 := DE.out 1 (by decide)
  have e2 := DE.out 2 (by decide)
  have e3 := DE.out 3 (by decide)
  obtain ⟨N0, hN0⟩ : ∃ n : Nat, cvE (zf x.D k.D st pd dl gr) 0 = n := ⟨(cvE (zf x.D k.D st pd dl gr) 0).toNat, by omega⟩
  obtain ⟨O, hO⟩ : ∃ n : Nat, cvE (zf x.D k.D st pd dl gr) 1 = n := ⟨(cvE (zf x.D k.D st pd dl gr) 1).toNat, by omega⟩
  obtain ⟨E2, hE2⟩ : ∃ n : Nat, cvE (zf x.D k.D st pd dl gr) 2 = n := ⟨(cvE (zf x.D k.D st pd dl gr) 2).toNat, by omega⟩
  obtain ⟨E3, hE3⟩ : ∃ n : Nat, cvE (zf x.D k.D st pd dl gr) 3 = n := ⟨(cvE (zf x.D k.D st pd dl gr) 3).toNat, by omega⟩
  have hx0 : x.D 0 = N0 := hN0
  have hk0 : k.D 0 = O := hO
  have OI : (O : Int) ≤ 4096 := by omega
  have NI0 : (N0 : Int) ≤ 4096 := by omega
  have E2I : (E2 : Int) ≤ 4096 := by omega
  have E3I : (E3 : Int) ≤ 4096 := by omega
  have hNp : N0 * O * E2 * E3 = N := by
    have ee : szR (cvE (zf x.D k.D st pd dl gr)) 4 = pr (cvE (zf x.D k.D st pd dl gr)) 4 := by
      rcases szR_cases (cvE (zf x.D k.D st pd dl gr)) 4 with h | h
      · have := OK.out.2.2.2.2.2.2.1; omega
      · exact h.2.1
    have e' : pr (cvE (zf x.D k.D st pd dl gr)) 4 = cvE (zf x.D k.D st pd dl gr) 0 * cvE (zf x.D k.D st pd dl gr) 1 * cvE (zf x.D k.D st pd dl gr) 2 * cvE (zf x.D k.D st pd dl gr) 3 := by
      show 1 * cvE (zf x.D k.D st pd dl gr) 0 * cvE (zf x.D k.D st pd dl gr) 1 * cvE (zf x.D k.D st pd dl gr) 2 * cvE (zf x.D k.D st pd dl gr) 3 = _
      rw [Int.one_mul]
    rw [e', hN0, hO, hE2, hE3, HSE.out] at ee
    have : ((N0 * O * E2 * E3 : Nat) : Int) = N := by rw [Int.natCast_mul, Int.natCast_mul, Int.natCast_mul]; exact ee.symm
    exact Int.ofNat.inj this
  obtain ⟨K, hK⟩ : ∃ n : Nat, k.D 1 = n := ⟨(k.D 1).toNat, by omega⟩
  obtain ⟨KH, hKH⟩ : ∃ n : Nat, k.D 2 = n := ⟨(k.D 2).toNat, by omega⟩
  obtain ⟨KW, hKW⟩ : ∃ n : Nat, k.D 3 = n := ⟨(k.D 3).toNat, by omega⟩
  obtain ⟨KK, hKK⟩ : ∃ n : Nat, K * KH * KW = n := ⟨_, rfl⟩
  have E1' : k.D 1 * k.D 2 = ((K * KH : Nat) : Int) := by rw [hK, hKH, Int.natCast_mul]
  have E2' : ((K * KH : Nat) : Int) * k.D 3 = (KK : Int) := by rw [hKW, ← hKK, Int.natCast_mul (K * KH)]
  have KK4 : (KK : Int) ≤ 4096 := by
    have h1 := FK.out.2.1
    have h2 := FK.out.2.2
    have h3 : k.D 0 * k.D 1 * k.D 2 * k.D 3 = k.D 0 * (KK : Int) := by rw [← E2', ← E1', Int.mul_assoc (k.D 0), Int.mul_assoc (k.D 0)]
    have h4 : 1 * (KK : Int) ≤ k.D 0 * (KK : Int) := Int.mul_le_mul_of_nonneg_right q4.1 (by omega)
    omega
  have KHp : (K * KH : Nat) ≤ KK := by
    have : K * KH * 1 ≤ K * KH * KW := Nat.mul_le_mul_left _ (by omega)
    omega
  obtain ⟨S, hS⟩ : ∃ S, cvS (zf x.D k.D st pd dl gr) x.S k.S = S := ⟨_, rfl⟩
  have SAT := hide (fun (p : Nat) => show S p = cvN (zf x.D k.D st pd dl gr) x.S k.S (p / E3 / E2 / O) (p / E3 / E2 % O) (p / E3 % E2) (p % E3) by
    rw [← hS]; unfold cvS
    rw [hE2, hE3, show zf x.D k.D st pd dl gr 4 = (O : Int) from hk0, Int.toNat_natCast, Int.toNat_natCast, Int.toNat_natCast])
  have EP := hide (show cvP (zf x.D k.D st pd dl gr) x.S k.S = ⟨4, N, cvE (zf x.D k.D st pd dl gr), S⟩ by unfold cvP; rw [HSE.out, hS, Int.toNat_natCast])
  have D4E := hide (fun (p : Nat) (hp : p < N) => dg4 (E := cvE (zf x.D k.D st pd dl gr)) (p := p) hN0 hO hE2 hE3 (by rw [hNp]; exact hp))
  have FIT := hide (fun (n o : Nat) (hn : n < N0) (ho : o < O) => cv_fit (n := n) (o := o) OK.out HP.out (by show (n : Int) < x.D 0; omega) (by show (o : Int) < k.D 0; omega) (sx := x.s) (sw := k.s) FX.out.2.1 (by have := FK.out.2.1; rw [Int.mul_assoc, Int.mul_assoc] at this; show k.D 0 * (k.D 1 * k.D 2 * k.D 3) = _; rw [Int.mul_assoc]; exact this))
  have HD := hide (And.intro hN0 (And.intro hO (And.intro hE2 hE3)))
  have HKS := hide (And.intro hK (And.intro hKH hKW))
  have HX0 := hide (And.intro hx0 hk0)
  have HKK := hide hKK
  have HNP := hide hNp
  obtain ⟨E, hE⟩ : ∃ E, cvE (zf x.D k.D st pd dl gr) = E := ⟨_, rfl⟩
  have EQE := hide hE
  rw [hE] at RY HSE DE D4E EP
  have CN := hide (l4New Y.heap.size ⟨X2.heap.size, 0, none⟩ 4 4 N E Y (Nat.le_refl _) (RY.out.ints sY) (by decide) HSE.out N4)
  clear e0 e1 e2 e3 hN0 hO hE2 hE3 hK hKH hKW hx0 hk0 hKK hNp hN hE hS
  go_wp2_with fail
  refine CN.out.mono ?_
  clear CN
  rintro e w8 ⟨va, vc, g, rfl, ov', rg, lg, hg, hne, b8⟩
  have A8 := hide (AY.out.below hB b8)
  have s8 := b8.size
  have g3 : w.heap.size + 1 + 1 < g := by have := AY.out.sz; omega
  have g7 : w.heap.size + 1 + 1 + 1 ≤ Y.heap.size + 1 := by have := AY.out.sz; omega
  obtain ⟨W, hW⟩ : ∃ W, w8.alloc (.cells #[.slice va 4 vc, .slice (some ⟨g, 0, none⟩) N N] 26) = W := ⟨_, rfl⟩
  have bW : Below w8.heap.size w8 W := by rw [← hW]; exact (Below.refl _ _).alloc (Nat.le_refl _) _
  obtain ⟨P, hP⟩ : ∃ P, w8.heap.size = P := ⟨_, rfl⟩
  have zW : W.heap.size = P + 1 := by rw [← hW, ← hP]; simp
  have TW := hide (show Bx W P (.slice va 4 vc) (.slice (some ⟨g, 0, none⟩) N N) by rw [← hW, ← hP]; exact bx_new w8 _ _ _)
  have AW := hide (A8.out.below hB bW)
  have OV := hide (ov'.below bW)
  have RG0 := hide (rg.below bW hg)
  have HNE := hide hne
  have ZW := hide zW
  have RYW := hide ((RY.out.below b8 sY).below bW (by omega))
  have BAW := hide ((BAY.out.trans (b8.mono BAY.out.size)).trans (bW.mono (by have := BAY.out.size; omega)))
  have gP : g < P := by omega
  have XP : X2.heap.size < g := by omega
  have HPP := hide hP
  have lgY := lg
  clear ov' rg b8 bW s8 hne zW lg
  go_wp2_with fail
  clear hW hP
  go_loopw [19] (fun q wx => ∃ i : Nat, i ≤ N ∧ q = .int .i64 i ∧ Bx wx P (.slice va 4 vc) (.slice (some ⟨g, 0, none⟩) N N) ∧ Rw wx g N (fun p => if p < i then S p else 0) ∧ Kept (· = g) W wx) (fun q _ => N - (intOf q).toNat)
  case atStart => exact ⟨0, Nat.zero_le _, rfl, TW.out, RG0.out.same (fun t ht => by simp), Kept.refl _ _⟩
  case round =>
    obtain ⟨X, rfl⟩ : ∃ X, X = wr := ⟨_, rfl⟩
    obtain ⟨i, hi, rfl, hbx, hrw, hkp⟩ := hrel
    have HBX := hide hbx
    have HRW := hide hrw
    have HKP := hide hkp
    have lX : P + 1 ≤ X.heap.size := by have := HKP.out.size; have := ZW.out; omega
    obtain ⟨u0, u1⟩ := hbx
    clear hrw hkp
    by_cases hlt : i < N
    · have iI : (i : Int) < N := by omega
      have RYX := hide (RYW.out.kept HKP.out (show ¬ X2.heap.size = g by omega))
      go_wp2_with fail
      refine (l3Index X.heap.size (some ⟨X2.heap.size, 0, none⟩) 4 4 E i _ (RYX.out.ints (by omega)) (Nat.le_refl _) (by decide) DE.out (by omega) (by omega)).mono ?_
      rintro e X1 ⟨rfl, ra, sa, ba⟩
      obtain ⟨dg0, dg1, dg2, dg3⟩ := D4E.out i hlt
      obtain ⟨n0, hn0⟩ : ∃ n, i / E3 / E2 / O = n := ⟨_, rfl⟩
      obtain ⟨o0, ho0⟩ : ∃ n, i / E3 / E2 % O = n := ⟨_, rfl⟩
      obtain ⟨a0, ha0⟩ : ∃ n, i / E3 % E2 = n := ⟨_, rfl⟩
      obtain ⟨c0, hc0⟩ : ∃ n, i % E3 = n := ⟨_, rfl⟩
      have SI := hide (SAT.out i)
      rw [hn0, ho0, ha0, hc0] at SI
      rw [hn0] at dg0
      rw [ho0] at dg1
      rw [ha0] at dg2
      rw [hc0] at dg3
      have dgr := dg_rng E 4 (fun j hj => (DE.out j hj).1) (i : Int)
      have r0 := dgr 0 (by decide)
      have r1 := dgr 1 (by decide)
      have r2 := dgr 2 (by decide)
      have r3 := dgr 3 (by decide)
      have de2 := DE.out 2 (by decide)
      have de3 := DE.out 3 (by decide)
      have dd0 := HD.out.1
      have dd1 := HD.out.2.1
      have RA := hide ra
      have ce0 := (ra 0 (by decide)).1
      have ce1 := (ra 1 (by decide)).1
      have ce2 := (ra 2 (by decide)).1
      have ce3 := (ra 3 (by decide)).1
      rw [dg0] at ce0 r0
      rw [dg1] at ce1 r1
      rw [dg2] at ce2 r2
      rw [dg3] at ce3 r3
      have DGI := hide (And.intro dg0 (And.intro dg1 (And.intro dg2 dg3)))
      have n0l : n0 < N0 := by have : E 0 = (N0 : Int) := EQE.out ▸ dd0; omega
      have o0l : o0 < O := by have : E 1 = (O : Int) := EQE.out ▸ dd1; omega
      obtain ⟨qd, od, h1, h2, h3, h4, h5, h6⟩ := FIT.out n0 o0 n0l o0l
      have h1 : (k.D 0).tdiv gr = (qd : Int) := h1
      have h4 : (n0 : Int) * x.D 1 + (od : Int) * k.D 1 = (cvF (zf x.D k.D st pd dl gr) n0 o0 : Int) := h4
      have h5 : ((cvF (zf x.D k.D st pd dl gr) n0 o0 : Int) + k.D 1) * x.D 2 * x.D 3 ≤ (x.s : Int) := h5
      have qdI : (qd : Int) ≤ 4096 := by have := tdiv_rng (a := k.D 0) (b := gr) (by omega) hgr.1; omega
      have odI : (od : Int) ≤ 4096 := by have := tdiv_rng (a := (o0 : Int)) (b := (qd : Int)) (by omega) (by omega); omega
      have mo := mul_rng (a := (od : Int)) (b := k.D 1) (m := 4096) (n := 4096) (by omega) odI (by omega) q5.2
      obtain ⟨oc, hoc⟩ : ∃ oc : Nat, (od : Int) * k.D 1 = oc := ⟨((od : Int) * k.D 1).toNat, by omega⟩
      have odg := grp_lt (by omega) hgr.1 HV.out h1 h3 (by have := HX0.out.2; omega) h2
      have ocl : (oc : Int) + k.D 1 ≤ x.D 1 := by
        have q := H3.out
        have a1 : ((od : Int) + 1) * k.D 1 ≤ gr * k.D 1 := Int.mul_le_mul_of_nonneg_right (by omega) (by omega)
        rw [Int.add_mul, Int.one_mul, hoc, Int.mul_comm gr] at a1
        omega
      rw [hoc] at h4 mo
      obtain ⟨fi, hfi⟩ : ∃ fi, cvF (zf x.D k.D st pd dl gr) n0 o0 = fi := ⟨_, rfl⟩
      rw [hfi] at h4 h5
      have SI2 := hide (show S i = cvA (zf x.D k.D st pd dl gr) x.S k.S o0 fi ((a0 : Int) * st - pd) ((c0 : Int) * st - pd) KK by
        rw [SI.out]; unfold cvN
        rw [hfi]
        show cvA _ _ _ _ _ ((a0 : Int) * st - pd) ((c0 : Int) * st - pd) ((k.D 1).toNat * (k.D 2).toNat * (k.D 3).toNat) = _
        rw [HKS.out.1, HKS.out.2.1, HKS.out.2.2, Int.toNat_natCast, Int.toNat_natCast, Int.toNat_natCast, HKK.out])
      have g1 : ((qd : Int) == 0) = false := beq_eq_false_iff_ne.2 (by omega)
      have g1' : (qd == 0) = false := beq_eq_false_iff_ne.2 (by omega)
      have g2 : ¬ (qd = 0) := by omega
      have v1 : IntKind.i64.wrap (qd : Int) = qd := by rw [IntKind.wrap_i64]; omega
      have v2 : IntKind.i64.wrap (od : Int) = od := by rw [IntKind.wrap_i64]; omega
      have v3 : IntKind.i64.wrap (oc : Int) = oc := by rw [IntKind.wrap_i64]; omega
      have h3' : (o0 : Int).tdiv (qd : Int) = (od : Int) := h3
      have HH5 := hide h5
      have HH6 := hide h6
      have HH4 := hide h4
      have kX1 := hide (show Kept (· = g) W X1 from HKP.out.trans (Kept.of_below ba))
      have RX1 := hide (HRW.out.below ba (by omega))
      clear ra ba dgr dg0 dg1 dg2 dg3 SI hn0 ho0 ha0 hc0 h5 h6 h4 hfi dd0 dd1 u0 u1
      go_wp2_with fail
      go_quiet (fail)
      have bzX := below_drewN (Below.refl X1.heap.size X1) nq
      generalize X1.drewN nq = Z at bzX ⊢
      have RAZ := hide (RA.out.below bzX sa)
      have KZ := hide (kX1.out.trans (Kept.of_below bzX))
      have RZ := hide (RX1.out.below bzX (by omega))
      have lZ : X.heap.size < Z.heap.size := by have := bzX.size; omega
      clear bzX g1 g1' g2 v1 v2 v3 h1 h3 h3' hoc ce0 ce1 ce2 ce3 kX1 RX1 RA
      go_wp2_with fail
      go_loopw [22] (fun q wx => ∃ m : Nat, m ≤ KK ∧ q = .int .i64 m ∧ Rw wx g N (fun p => if p = i then cvA (zf x.D k.D st pd dl gr) x.S k.S o0 fi ((a0 : Int) * st - pd) ((c0 : Int) * st - pd) m else if p < i then S p else 0) ∧ Kept (· = g) Z wx) (fun q _ => KK - (intOf q).toNat)
      case atStart => exact ⟨0, Nat.zero_le _, rfl, RZ.out.same (fun p hp => by
        by_cases c : p = i
        · subst c; simp [cvA]
        · simp [c]), Kept.refl _ _⟩
      case round =>
        obtain ⟨V0, rfl⟩ : ∃ V0, V0 = wr := ⟨_, rfl⟩
        obtain ⟨m, hm, rfl, hrw, hkp⟩ := hrel
        have HR2 := hide hrw
        have HK2 := hide hkp
        clear hrw hkp
        have KW0 := hide (show Kept (· = g) W V0 from KZ.out.trans HK2.out)
        have AV := hide (AW.out.kept hB KW0.out g3)
        obtain ⟨p2, _⟩ := AV.out.bk
        rw [ek, K4.out] at p2
        have ck : ∀ j, j < 4 → V0.cell? ⟨kb, ko + j, none⟩ = some (.int .i64 (k.D j)) := by
          rcases AV.out.rk.1 with h0 | ⟨b, o, h, _, hc⟩
          · have := K4.out; omega
          · rw [ek] at h
            injection h with h
            injection h with hh1 hh2
            subst hh1 hh2
            exact fun j hj => (hc j (by have := K4.out; omega)).1
        have k2' := ck 2 (by decide)
        have k3' := ck 3 (by decide)
        have vv1 : IntKind.i64.wrap ((K * KH : Nat) : Int) = ((K * KH : Nat) : Int) := by rw [IntKind.wrap_i64]; omega
        have vv2 : IntKind.i64.wrap (KK : Int) = KK := by rw [IntKind.wrap_i64]; omega
        obtain ⟨kh, hkh⟩ : ∃ kh, ((K * KH : Nat) : Int) = kh := ⟨_, rfl⟩
        rw [hkh] at vv1
        have E1'' : k.D 1 * k.D 2 = kh := E1'.trans hkh
        have E2'' : kh * k.D 3 = (KK : Int) := by rw [← hkh]; exact E2'
        by_cases hml : m < KK
        · have mI : (m : Int) < KK := by omega
          go_wp2_with fail
          go_quiet (fail)
          have bz := below_drewN (Below.refl V0.heap.size V0) nq
          generalize V0.drewN nq = V1 at bz ⊢
          have AV1 := hide (AV.out.below hB bz)
          have lV0 : Z.heap.size ≤ V0.heap.size := HK2.out.size
          have lV1 : V0.heap.size ≤ V1.heap.size := bz.size
          have HR3 := hide (HR2.out.below bz (by omega))
          have KV1 := hide (show Kept (· = g) Z V1 from HK2.out.trans (Kept.of_below bz))
          have RA1 := hide ((RAZ.out.kept HK2.out (show ¬ X.heap.size = g by omega)).below bz (by omega))
          have T1 := hide ((TW.out.kept KW0.out (by have := ZW.out; omega) (show ¬ P = g by omega)).below bz (by omega))
          have p2b := below_old bz p2
          have k2b := below_old bz k2'
          have k3b := below_old bz k3'
          have b1v : bd (k.D 1) := by unfold bd; omega
          have b2v : bd (k.D 2) := by unfold bd; omega
          have b3v : bd (k.D 3) := by unfold bd; omega
          obtain ⟨V2, hV2⟩ : ∃ V2, V1.drew.alloc (.cells #[.int .i64 (k.D 1), .int .i64 (k.D 2), .int .i64 (k.D 3)] 3) = V2 := ⟨_, rfl⟩
          have b2 : Below V1.heap.size V1 V2 := by rw [← hV2]; exact (Below.refl _ _).drew.alloc (Nat.le_refl _) _
          have r2' : Rw V2 V1.heap.size 3 (l3f (k.D 1) (k.D 2) (k.D 3)) := by rw [← hV2]; exact rw3_new V1.drew _ _ _ b1v b2v b3v
          have s2 : V1.heap.size < V2.heap.size := by rw [← hV2]; simp
          have C21 := hide (l3Index V2.heap.size (some ⟨V1.heap.size, 0, none⟩) 3 3 (l3f (k.D 1) (k.D 2) (k.D 3)) m V2 (r2'.ints s2) (Nat.le_refl _) (by decide) (fun j hj => by
            have : j = 0 ∨ j = 1 ∨ j = 2 := by omega
            rcases this with rfl | rfl | rfl
            · exact q5
            · exact q6
            · exact q7) (by omega) (by omega))
          have p2c := below_old b2 p2b
          have k2c := below_old b2 k2b
          have k3c := below_old b2 k3b
          have B2h := hide b2
          clear p2 k2' k3' ck bz r2' vv1 vv2 E1'' E2'' hkh b2 b1v b2v b3v
          go_wp2_with fail
          go_region_held3 (fun w' => w'.cell? ⟨w.heap.size + 1, 0, none⟩ = some (.slice (some ⟨kb, ko, none⟩) 4 k.cap) ∧ w'.cell? ⟨kb, ko + 2, none⟩ = some (.int .i64 (k.D 2)) ∧ w'.cell? ⟨kb, ko + 3, none⟩ = some (.int .i64 (k.D 3)))
            ((try dsimp only) <;> (repeat' apply And.intro) <;> (repeat (first | with_reducible assumption | with_reducible apply drew_old | with_reducible apply alloc_old | assumption)))
            (first
              | (go_at_call 33
                 refine C21.out.mono ?_
                 rintro e V3 ⟨rfl, ri, si, bi⟩
                 have p2d := below_old bi p2c
                 have k2d := below_old bi k2c
                 have k3d := below_old bi k3c))
          have B3h := hide (show Below V1.heap.size V1 V3 from B2h.out.trans (bi.mono B2h.out.size))
          obtain ⟨f0, f1, f2⟩ := dg3' (E := l3f (k.D 1) (k.D 2) (k.D 3)) (m := m) HKS.out.1 HKS.out.2.1 HKS.out.2.2 (by rw [HKK.out]; exact hml)
          have i0c := (ri 0 (by decide)).1
          have i1c := (ri 1 (by decide)).1
          have i2c := (ri 2 (by decide)).1
          rw [f0] at i0c
          rw [f1] at i1c
          rw [f2] at i2c
          have KWp : 1 ≤ KW := by have := HKS.out.2.2; omega
          have KHp' : 1 ≤ KH := by have := HKS.out.2.1; omega
          have dl0 : m / KW / KH < K := Nat.div_lt_of_lt_mul (by rw [Nat.mul_comm]; exact Nat.div_lt_of_lt_mul (by rw [Nat.mul_comm, HKK.out]; exact hml))
          have dl1 : m / KW % KH < KH := Nat.mod_lt _ (by omega)
          have dl2 : m % KW < KW := Nat.mod_lt _ (by omega)
          have em : (m / KW / KH * KH + m / KW % KH) * KW + m % KW = m := by
            rw [Nat.mul_comm (m / KW / KH), Nat.div_add_mod, Nat.mul_comm (m / KW), Nat.div_add_mod]
          have CX := hide (show cvA (zf x.D k.D st pd dl gr) x.S k.S o0 fi ((a0 : Int) * st - pd) ((c0 : Int) * st - pd) (m + 1) = pl (cvA (zf x.D k.D st pd dl gr) x.S k.S o0 fi ((a0 : Int) * st - pd) ((c0 : Int) * st - pd) m) (ti (k.S (o0 * KK + m)) (inP (zf x.D k.D st pd dl gr) x.S ((fi : Int) + (m / KW / KH : Nat)) ((a0 : Int) * st - pd + dl * (m / KW % KH : Nat)) ((c0 : Int) * st - pd + dl * (m % KW : Nat)))) by
            show pl _ (ti (k.S (o0 * ((k.D 1).toNat * (k.D 2).toNat * (k.D 3).toNat) + m)) (inP (zf x.D k.D st pd dl gr) x.S ((fi : Int) + (m / (k.D 3).toNat / (k.D 2).toNat : Nat)) ((a0 : Int) * st - pd + dl * (m / (k.D 3).toNat % (k.D 2).toNat : Nat)) ((c0 : Int) * st - pd + dl * (m % (k.D 3).toNat : Nat)))) = _
            rw [HKS.out.1, HKS.out.2.1, HKS.out.2.2, Int.toNat_natCast, Int.toNat_natCast, Int.toNat_natCast, HKK.out])
          obtain ⟨d0, hd0⟩ : ∃ d, m / KW / KH = d := ⟨_, rfl⟩
          obtain ⟨d1, hd1⟩ : ∃ d, m / KW % KH = d := ⟨_, rfl⟩
          obtain ⟨d2, hd2⟩ : ∃ d, m % KW = d := ⟨_, rfl⟩
          rw [hd0] at i0c dl0 em CX
          rw [hd1] at i1c dl1 em CX
          rw [hd2] at i2c dl2 em CX
          have KI : (K : Int) ≤ 4096 ∧ (KH : Int) ≤ 4096 ∧ (KW : Int) ≤ 4096 := by have := HKS.out; omega
          have KD : k.D 1 = (K : Int) := HKS.out.1
          have kvI : (d0 : Int) < K := by omega
          have AV3 := hide (AV1.out.below hB B3h.out)
          obtain ⟨px0, px1⟩ := AV3.out.bx
          rw [ex, X4.out] at px0
          have RA3 := hide (RA1.out.below B3h.out (by omega))
          have a0c := (RA3.out 0 (by decide)).1
          have a2c := (RA3.out 2 (by decide)).1
          have a3c := (RA3.out 3 (by decide)).1
          obtain ⟨eg0, eg1, eg2, eg3⟩ := DGI.out
          rw [eg0] at a0c
          rw [eg2] at a2c
          rw [eg3] at a3c
          have ma := mul_rng (a := (a0 : Int)) (b := st) (m := 4096) (n := 4096) (by omega) (by omega) (by omega) hst.2
          have mc := mul_rng (a := (c0 : Int)) (b := st) (m := 4096) (n := 4096) (by omega) (by omega) (by omega) hst.2
          have md := mul_rng (a := dl) (b := (d1 : Int)) (m := 4096) (n := 4096) (by omega) hdl.2 (by omega) (by omega)
          have me := mul_rng (a := dl) (b := (d2 : Int)) (m := 4096) (n := 4096) (by omega) hdl.2 (by omega) (by omega)
          have y1 : IntKind.i64.wrap ((oc : Int) + d0) = (oc : Int) + d0 := by rw [IntKind.wrap_i64]; omega
          have y2 : IntKind.i64.wrap ((a0 : Int) * st) = (a0 : Int) * st := by rw [IntKind.wrap_i64]; omega
          have y3 : IntKind.i64.wrap ((a0 : Int) * st - pd) = (a0 : Int) * st - pd := by rw [IntKind.wrap_i64]; omega
          have y4 : IntKind.i64.wrap (dl * (d1 : Int)) = dl * (d1 : Int) := by rw [IntKind.wrap_i64]; omega
          have y5 : IntKind.i64.wrap ((a0 : Int) * st - pd + dl * (d1 : Int)) = (a0 : Int) * st - pd + dl * (d1 : Int) := by rw [IntKind.wrap_i64]; omega
          have y6 : IntKind.i64.wrap ((c0 : Int) * st) = (c0 : Int) * st := by rw [IntKind.wrap_i64]; omega
          have y7 : IntKind.i64.wrap ((c0 : Int) * st - pd) = (c0 : Int) * st - pd := by rw [IntKind.wrap_i64]; omega
          have y8 : IntKind.i64.wrap (dl * (d2 : Int)) = dl * (d2 : Int) := by rw [IntKind.wrap_i64]; omega
          have y9 : IntKind.i64.wrap ((c0 : Int) * st - pd + dl * (d2 : Int)) = (c0 : Int) * st - pd + dl * (d2 : Int) := by rw [IntKind.wrap_i64]; omega
          obtain ⟨rv, hrv⟩ : ∃ rv, (a0 : Int) * st - pd + dl * (d1 : Int) = rv := ⟨_, rfl⟩
          obtain ⟨cv, hcv⟩ : ∃ cv, (c0 : Int) * st - pd + dl * (d2 : Int) = cv := ⟨_, rfl⟩
          have rvb : bd rv := by unfold bd; omega
          have cvb : bd cv := by unfold bd; omega
          rw [hrv] at y5 CX
          rw [hcv] at y9 CX
          obtain ⟨V4, hV4⟩ : ∃ V4, V3.drew.alloc (.cells #[.int .i64 (n0 : Int), .int .i64 ((oc : Int) + d0), .int .i64 rv, .int .i64 cv] 3) = V4 := ⟨_, rfl⟩
          have b4 : Below V3.heap.size V3 V4 := by rw [← hV4]; exact (Below.refl _ _).drew.alloc (Nat.le_refl _) _
          have r4 : Rw V4 V3.heap.size 4 (l4f (n0 : Int) ((oc : Int) + d0) rv cv) := by rw [← hV4]; exact rw4_new V3.drew _ _ _ _ (by unfold bd; omega) (by unfold bd; omega) rvb cvb
          have s4 : V3.heap.size < V4.heap.size := by rw [← hV4]; simp
          have AV4 := hide (AV3.out.below hB b4)
          have C22 := l5At B x (some ⟨V3.heap.size, 0, none⟩) 4 (l4f (n0 : Int) ((oc : Int) + d0) rv cv) V4 (by have := AV4.out.sz; omega) AV4.out.rx (by rw [X4.out]; exact r4.ints s4) TX.out lx.1
          rw [at_inP x k st pd dl gr X4.out (n0 : Int) ((oc : Int) + d0) rv cv (by omega) (by have := HX0.out.1; omega) (by omega) (by omega), X4.out, ex] at C22
          have efi : (n0 : Int) * x.D 1 + ((oc : Int) + d0) = (fi : Int) + d0 := by have := HH4.out; omega
          rw [efi] at C22
          have pln : ((fi : Int) + d0 + 1) * x.D 2 * x.D 3 ≤ (x.s : Int) := by
            have a1 : ((fi : Int) + d0 + 1) * x.D 2 ≤ ((fi : Int) + k.D 1) * x.D 2 := Int.mul_le_mul_of_nonneg_right (by omega) (by omega)
            have a2 : ((fi : Int) + d0 + 1) * x.D 2 * x.D 3 ≤ ((fi : Int) + k.D 1) * x.D 2 * x.D 3 := Int.mul_le_mul_of_nonneg_right a1 (by omega)
            have := HH5.out
            omega
          have yb := inP_bd (z := zf x.D k.D st pd dl gr) (r := rv) (c := cv) AV4.out.rx.2 ZB.out (show 0 ≤ (fi : Int) + d0 by omega) pln
          obtain ⟨yv, hyv⟩ : ∃ yv, inP (zf x.D k.D st pd dl gr) x.S ((fi : Int) + d0) rv cv = yv := ⟨_, rfl⟩
          rw [hyv] at C22 yb CX
          have CC22 := hide C22
          have px0' := below_old b4 px0
          have px1' := below_old b4 px1
          have a0c' := below_old b4 a0c
          have a2c' := below_old b4 a2c
          have a3c' := below_old b4 a3c
          have i0c' := below_old b4 i0c
          have i1c' := below_old b4 i1c
          have i2c' := below_old b4 i2c
          have B4h := hide (show Below V1.heap.size V1 V4 from B3h.out.trans (b4.mono B3h.out.size))
          rw [Nat.add_zero] at *
          clear KD C22 ri bi si r4 b4 f0 f1 f2 hd0 hd1 hd2 ma mc md me efi pln hyv hV2 p2b p2c p2d k2b k2c k2d k3b k3c k3d C21
          go_wp2_with fail
          go_region_held3 (fun w' => w'.cell? ⟨w.heap.size, 0, none⟩ = some (.slice (some ⟨xb, xo, none⟩) 4 x.cap) ∧ w'.cell? ⟨w.heap.size, 1, none⟩ = some (.slice x.b x.s x.dap) ∧ w'.cell? ⟨X.heap.size, 0, none⟩ = some (.int .i64 (n0 : Int)) ∧ w'.cell? ⟨X.heap.size, 2, none⟩ = some (.int .i64 (a0 : Int)) ∧ w'.cell? ⟨X.heap.size, 3, none⟩ = some (.int .i64 (c0 : Int)) ∧ w'.cell? ⟨V2.heap.size, 0, none⟩ = some (.int .i64 (d0 : Int)) ∧ w'.cell? ⟨V2.heap.size, 1, none⟩ = some (.int .i64 (d1 : Int)) ∧ w'.cell? ⟨V2.heap.size, 2, none⟩ = some (.int .i64 (d2 : Int)))
            ((try dsimp only) <;> (repeat' apply And.intro) <;> (repeat (first | with_reducible assumption | with_reducible apply drew_old | with_reducible apply alloc_old | assumption)))
            (first
              | (go_at_call 34
                 refine CC22.out.mono ?_
                 rintro e V5 ⟨rfl, b5⟩
                 have px0d := below_old b5 px0'
                 have px1d := below_old b5 px1'
                 have a0d := below_old b5 a0c'
                 have a2d := below_old b5 a2c'
                 have a3d := below_old b5 a3c'
                 have i0d := below_old b5 i0c'
                 have i1d := below_old b5 i1c'
                 have i2d := below_old b5 i2c'))
          have B5h := hide (show Below V1.heap.size V1 V5 from B4h.out.trans (b5.mono B4h.out.size))
          have AV5 := hide (AV1.out.below hB B5h.out)
          have T5 := hide (T1.out.below B5h.out (by omega))
          have RA5 := hide (RA1.out.below B5h.out (by omega))
          have HR5 := hide (HR3.out.below B5h.out (by omega))
          have K5 := hide (show Kept (· = g) Z V5 from KV1.out.trans (Kept.of_below B5h.out))
          have lV5 := B5h.out.size
          have lV2 : V2.heap.size < V5.heap.size := by have := World.block_lt_of_cell? _ _ i0d; exact this
          obtain ⟨cacc, facc, _⟩ := HR5.out i hlt
          dsimp only at cacc
          rw [if_pos rfl] at cacc
          have ar := cvA_rng (zf x.D k.D st pd dl gr) x.S k.S o0 fi ((a0 : Int) * st - pd) ((c0 : Int) * st - pd) m
          have ar1 := cvA_rng (zf x.D k.D st pd dl gr) x.S k.S o0 fi ((a0 : Int) * st - pd) ((c0 : Int) * st - pd) (m + 1)
          obtain ⟨acc, hacc⟩ : ∃ acc, cvA (zf x.D k.D st pd dl gr) x.S k.S o0 fi ((a0 : Int) * st - pd) ((c0 : Int) * st - pd) m = acc := ⟨_, rfl⟩
          obtain ⟨an, han⟩ : ∃ an, cvA (zf x.D k.D st pd dl gr) x.S k.S o0 fi ((a0 : Int) * st - pd) ((c0 : Int) * st - pd) (m + 1) = an := ⟨_, rfl⟩
          rw [hacc] at cacc ar CX
          rw [han] at ar1 CX
          obtain ⟨wv', hwv⟩ : ∃ v, k.S (o0 * KK + m) = v := ⟨_, rfl⟩
          rw [hwv] at CX
          have o1c := (RA5.out 1 (by decide)).1
          rw [DGI.out.2.1] at o1c
          obtain ⟨bk0, bk1⟩ := AV5.out.bk
          rw [ek, K4.out] at bk0
          have BK5 := hide (show Bx V5 (w.heap.size + 1) (.slice (some ⟨kb, ko, none⟩) 4 k.cap) (.slice k.b k.s k.dap) from ⟨bk0, bk1⟩)
          have szA := AV5.out.sz
          have LA := hide (fun (W' : World) (hb : Below V5.heap.size V5 W') => show Bx W' P (.slice va 4 vc) (.slice (some ⟨g, 0, none⟩) N N) ∧ W'.cell? ⟨g, 0 + i, none⟩ = some (.int .i64 acc) ∧ Bx W' (w.heap.size + 1) (.slice (some ⟨kb, ko, none⟩) 4 k.cap) (.slice k.b k.s k.dap) ∧ W'.cell? ⟨X.heap.size, 0 + 1, none⟩ = some (.int .i64 (o0 : Int)) ∧ W'.cell? ⟨V2.heap.size, 0 + 0, none⟩ = some (.int .i64 (d0 : Int)) ∧ W'.cell? ⟨V2.heap.size, 0 + 1, none⟩ = some (.int .i64 (d1 : Int)) ∧ W'.cell? ⟨V2.heap.size, 0 + 2, none⟩ = some (.int .i64 (d2 : Int)) by
            simp only [Nat.zero_add]
            exact ⟨T5.out.below hb (by omega), below_old hb cacc, BK5.out.below hb (by omega), below_old hb o1c, below_old hb i0d, below_old hb i1d, below_old hb i2d⟩)
          have LF := hide (fun (W' : World) (hb : Below V5.heap.size V5 W') => show W'.frozen? ⟨g, i, none⟩ = false from (hb.frozen (p := ⟨g, i, none⟩) (by show g < V5.heap.size; omega)).trans facc)
          have CGET := hide (fun (W' : World) (hb : Below V5.heap.size V5 W') (gl : Nat) (rl : Rw W' gl 4 (l4f (o0 : Int) (d0 : Int) (d1 : Int) (d2 : Int))) (hl2 : gl < W'.heap.size) => show Calls Try.prog 37 #[.agg #[.slice (some ⟨kb, ko, none⟩) 4 k.cap, .slice k.b k.s k.dap], .slice (some ⟨gl, 0, none⟩) 4 4] W' (fun e w' => e = .returned (.int .i64 wv') ∧ Below W'.heap.size W' w') by
            have rk := AV5.out.rk
            unfold TV.read at rk
            rw [ek, K4.out] at rk
            have hbb := hb.size
            have r1 := (rk.1.below (hb.mono (by omega))).mono (show B ≤ W'.heap.size by omega)
            have r2 := (rk.2.below (hb.mono (by omega))).mono (show B ≤ W'.heap.size by omega)
            have tk := TK.out
            rw [K4.out] at tk
            have q := l4Get W'.heap.size (some ⟨kb, ko, none⟩) k.b (some ⟨gl, 0, none⟩) 4 k.s k.cap k.dap 4 4 k.D k.S (l4f (o0 : Int) (d0 : Int) (d1 : Int) (d2 : Int)) W' (Nat.le_refl _) r1 r2 (rl.ints hl2) (Nat.le_refl _) tk (fun j hj => by
              have hk := HKS.out
              have hx := HX0.out
              have : j = 0 ∨ j = 1 ∨ j = 2 ∨ j = 3 := by omega
              rcases this with rfl | rfl | rfl | rfl
              · show 0 ≤ (o0 : Int) ∧ (o0 : Int) < k.D 0; omega
              · show 0 ≤ (d0 : Int) ∧ (d0 : Int) < k.D 1; omega
              · show 0 ≤ (d1 : Int) ∧ (d1 : Int) < k.D 2; omega
              · show 0 ≤ (d2 : Int) ∧ (d2 : Int) < k.D 3; omega)
            have eo : (Vo.od k.D (l4f (o0 : Int) (d0 : Int) (d1 : Int) (d2 : Int)) 4).toNat = o0 * KK + m := by
              rw [od4, HKS.out.1, HKS.out.2.1, HKS.out.2.2]
              have h1 := widx o0 K KH KW d0 d1 d2
              rw [em, HKK.out] at h1
              have h2 : ((((o0 * K + d0) * KH + d1) * KW + d2 : Nat) : Int) = (((o0 : Int) * K + d0) * KH + d1) * KW + d2 := by
                simp only [Int.natCast_add, Int.natCast_mul]
              rw [← h2, Int.toNat_natCast, h1]
            rw [eo, hwv] at q
            exact q)
          have wb : bd wv' := by
            rw [← hwv]
            refine AV5.out.rk.2.bd _ ?_
            have h6 := HH6.out
            have h7 : (k.D 1).toNat * (k.D 2).toNat * (k.D 3).toNat = KK := by rw [HKS.out.1, HKS.out.2.1, HKS.out.2.2, Int.toNat_natCast, Int.toNat_natCast, Int.toNat_natCast, HKK.out]
            have h8 : (o0 + 1) * ((k.D 1).toNat * (k.D 2).toNat * (k.D 3).toNat) ≤ k.s := h6
            rw [h7, Nat.add_mul, Nat.one_mul] at h8
            omega
          have yb2 := yb
          unfold bd at yb2 wb
          have tr := ti_rng yv wv'
          have CT := hide (fun (W' : World) => show Calls Try.prog 36 #[.int .i64 yv, .int .i64 wv'] W' (fun e w' => e = .returned (.int .i64 (ti yv wv')) ∧ w' = W') from Base.specTimes yv wv' W' yb2.1 yb2.2 wb.1 wb.2)
          obtain ⟨tv, htv⟩ : ∃ tv, ti yv wv' = tv := ⟨_, rfl⟩
          have CX2 := hide (show an = pl acc tv by rw [CX.out, ti_comm, htv])
          rw [htv] at CT tr
          have CP := hide (fun (W' : World) => show Calls Try.prog 35 #[.int .i64 acc, .int .i64 tv] W' (fun e w' => e = .returned (.int .i64 (pl acc tv)) ∧ w' = W') from Base.specPlus acc tv W' (by omega) (by omega) (by omega) (by omega))
          rw [← CX2.out] at CP
          have D4 := hide (show (bd (o0 : Int) ∧ bd (d0 : Int)) ∧ bd (d1 : Int) ∧ bd (d2 : Int) by unfold bd; omega)
          have iN := hlt
          have HAN := hide han
          have HACC := hide hacc
          have AR1 := hide ar1
          have gV5 : g < V5.heap.size := by omega
          clear b5 px0' px1' a0c' a2c' a3c' i0c' i1c' i2c' px0 px1 a0c a2c a3c i0c i1c i2c px0d px1d a0d a2d a3d i0d i1d i2d hV4 y1 y2 y3 y4 y5 y6 y7 y8 y9 cacc facc ar ar1 hacc han hwv htv o1c bk0 bk1 CC22 yb yb2 wb tr CX CX2 rvb cvb hrv hcv
          go_wp2_with fail
          refine Qf.facts2 27 (by kernel_rfl) (by kernel_rfl) (by kernel_rfl) (fun q v wx => match q with | 0 => v = .pointer (some ⟨P, 1, none⟩) | 1 => v = .slice (some ⟨g, 0, none⟩) N N | 2 => v = .int .i64 (i : Int) | 3 => v = .pointer (some ⟨P, 1, none⟩) | 4 => v = .slice (some ⟨g, 0, none⟩) N N | 5 => v = .int .i64 (i : Int) | 6 => v = .pointer (some ⟨g, 0 + i, none⟩) | 7 => v = .int .i64 acc | 8 => v = .int .i64 yv | 9 => v = .agg #[.slice (some ⟨kb, ko, none⟩) 4 k.cap, .slice k.b k.s k.dap] | 10 => v = .slice (some ⟨X.heap.size, 0, none⟩) 4 4 | 11 => v = .pointer (some ⟨X.heap.size, 0 + 1, none⟩) | 12 => v = .int .i64 (o0 : Int) | 13 => v = .slice (some ⟨V2.heap.size, 0, none⟩) 3 3 | 14 => v = .pointer (some ⟨V2.heap.size, 0 + 0, none⟩) | 15 => v = .int .i64 (d0 : Int) | 16 => v = .slice (some ⟨V2.heap.size, 0, none⟩) 3 3 | 17 => v = .pointer (some ⟨V2.heap.size, 0 + 1, none⟩) | 18 => v = .int .i64 (d1 : Int) | 19 => v = .slice (some ⟨V2.heap.size, 0, none⟩) 3 3 | 20 => v = .pointer (some ⟨V2.heap.size, 0 + 2, none⟩) | 21 => v = .int .i64 (d2 : Int) | 22 => Ls4 V5.heap.size (o0 : Int) (d0 : Int) (d1 : Int) (d2 : Int) v wx | 23 => v = .int .i64 wv' | 24 => v = .int .i64 tv | 25 => v = .int .i64 an | 26 => v = .pointer (some ⟨g, 0 + i, none⟩) | _ => True) ?stable ?steps ?rest
          case stable =>
            intro q v w1 w2 h hb
            match q, h with
            | 0, h => exact h
            | 1, h => exact h
            | 2, h => exact h
            | 3, h => exact h
            | 4, h => exact h
            | 5, h => exact h
            | 6, h => exact h
            | 7, h => exact h
            | 8, h => exact h
            | 9, h => exact h
            | 10, h => exact h
            | 11, h => exact h
            | 12, h => exact h
            | 13, h => exact h
            | 14, h => exact h
            | 15, h => exact h
            | 16, h => exact h
            | 17, h => exact h
            | 18, h => exact h
            | 19, h => exact h
            | 20, h => exact h
            | 21, h => exact h
            | 22, h => exact Ls4.below h hb
            | 23, h => exact h
            | 24, h => exact h
            | 25, h => exact h
            | 26, h => exact h
            | _ + 27, h => exact h
          case steps =>
            intro q o hi ho s A w1 hb hk hA hO
            match q, hi, ho, hk with
            | 0, _, ho, hk =>
              cases ho
              exact Qf.lands_val _ _ (runField1 (v0 := undef) (v1 := undef) rfl ((hO 18 (by rfl)).trans rfl)) ⟨Below.refl _ _, rfl⟩
            | 1, _, ho, hk =>
              cases ho
              have e0 : s 0 = .pointer (some ⟨P, 1, none⟩) := hk 0 (by kernel_rfl)
              have h0 := hA 0 _ 237 (by decide) rfl rfl (by simp)
              rw [e0] at h0
              exact Qf.lands_val _ _ (runLoadS rfl h0 (LA.out w1 hb).1) ⟨Below.refl _ _, rfl⟩
            | 2, _, ho, hk =>
              cases ho
              exact Qf.lands_move _ rfl _ ((hO 19 (by rfl)).trans rfl) ⟨Below.refl _ _, rfl⟩
            | 3, _, ho, hk =>
              cases ho
              exact Qf.lands_val _ _ (runField1 (v0 := undef) (v1 := undef) rfl ((hO 18 (by rfl)).trans rfl)) ⟨Below.refl _ _, rfl⟩
            | 4, _, ho, hk =>
              cases ho
              have e0 : s 3 = .pointer (some ⟨P, 1, none⟩) := hk 3 (by kernel_rfl)
              have h0 := hA 3 _ 240 (by decide) rfl rfl (by simp)
              rw [e0] at h0
              exact Qf.lands_val _ _ (runLoadS rfl h0 (LA.out w1 hb).1) ⟨Below.refl _ _, rfl⟩
            | 5, _, ho, hk =>
              cases ho
              exact Qf.lands_move _ rfl _ ((hO 19 (by rfl)).trans rfl) ⟨Below.refl _ _, rfl⟩
            | 6, _, ho, hk =>
              cases ho
              have e0 : s 4 = .slice (some ⟨g, 0, none⟩) N N := hk 4 (by kernel_rfl)
              have h0 := hA 4 _ 241 (by decide) rfl rfl (by simp)
              rw [e0] at h0
              have e1 : s 5 = .int .i64 (i : Int) := hk 5 (by kernel_rfl)
              have h1 := hA 5 _ 242 (by decide) rfl rfl (by simp)
              rw [e1] at h1
              exact Qf.lands_val _ _ (runIdx (j := i) rfl h0 h1 iN) ⟨Below.refl _ _, rfl⟩
            | 7, _, ho, hk =>
              cases ho
              have e0 : s 6 = .pointer (some ⟨g, 0 + i, none⟩) := hk 6 (by kernel_rfl)
              have h0 := hA 6 _ 243 (by decide) rfl rfl (by simp)
              rw [e0] at h0
              exact Qf.lands_val _ _ (runLoadI rfl h0 (LA.out w1 hb).2.1) ⟨Below.refl _ _, rfl⟩
            | 8, _, ho, hk =>
              cases ho
              exact Qf.lands_move _ rfl _ ((hO 24 (by rfl)).trans rfl) ⟨Below.refl _ _, rfl⟩
            | 9, _, ho, hk =>
              cases ho
              exact Qf.lands_val _ _ (runLoadTI rfl ((hO 7 (by rfl)).trans rfl) (LA.out w1 hb).2.2.1) ⟨Below.refl _ _, rfl⟩
            | 10, _, ho, hk =>
              cases ho
              exact Qf.lands_move _ rfl _ ((hO 20 (by rfl)).trans rfl) ⟨Below.refl _ _, rfl⟩
            | 11, _, ho, hk =>
              cases ho
              have e0 : s 10 = .slice (some ⟨X.heap.size, 0, none⟩) 4 4 := hk 10 (by kernel_rfl)
              have h0 := hA 10 _ 247 (by decide) rfl rfl (by simp)
              rw [e0] at h0
              exact Qf.lands_val _ _ (runIdx (j := 1) rfl h0 rfl (by decide)) ⟨Below.refl _ _, rfl⟩
            | 12, _, ho, hk =>
              cases ho
              have e0 : s 11 = .pointer (some ⟨X.heap.size, 0 + 1, none⟩) := hk 11 (by kernel_rfl)
              have h0 := hA 11 _ 248 (by decide) rfl rfl (by simp)
              rw [e0] at h0
              exact Qf.lands_val _ _ (runLoadI rfl h0 (LA.out w1 hb).2.2.2.1) ⟨Below.refl _ _, rfl⟩
            | 13, _, ho, hk =>
              cases ho
              exact Qf.lands_move _ rfl _ ((hO 23 (by rfl)).trans rfl) ⟨Below.refl _ _, rfl⟩
            | 14, _, ho, hk =>
              cases ho
              have e0 : s 13 = .slice (some ⟨V2.heap.size, 0, none⟩) 3 3 := hk 13 (by kernel_rfl)
              have h0 := hA 13 _ 250 (by decide) rfl rfl (by simp)
              rw [e0] at h0
              exact Qf.lands_val _ _ (runIdx (j := 0) rfl h0 rfl (by decide)) ⟨Below.refl _ _, rfl⟩
            | 15, _, ho, hk =>
              cases ho
              have e0 : s 14 = .pointer (some ⟨V2.heap.size, 0 + 0, none⟩) := hk 14 (by kernel_rfl)
              have h0 := hA 14 _ 251 (by decide) rfl rfl (by simp)
              rw [e0] at h0
              exact Qf.lands_val _ _ (runLoadI rfl h0 (LA.out w1 hb).2.2.2.2.1) ⟨Below.refl _ _, rfl⟩
            | 16, _, ho, hk =>
              cases ho
              exact Qf.lands_move _ rfl _ ((hO 23 (by rfl)).trans rfl) ⟨Below.refl _ _, rfl⟩
            | 17, _, ho, hk =>
              cases ho
              have e0 : s 16 = .slice (some ⟨V2.heap.size, 0, none⟩) 3 3 := hk 16 (by kernel_rfl)
              have h0 := hA 16 _ 253 (by decide) rfl rfl (by simp)
              rw [e0] at h0
              exact Qf.lands_val _ _ (runIdx (j := 1) rfl h0 rfl (by decide)) ⟨Below.refl _ _, rfl⟩
            | 18, _, ho, hk =>
              cases ho
              have e0 : s 17 = .pointer (some ⟨V2.heap.size, 0 + 1, none⟩) := hk 17 (by kernel_rfl)
              have h0 := hA 17 _ 254 (by decide) rfl rfl (by simp)
              rw [e0] at h0
              exact Qf.lands_val _ _ (runLoadI rfl h0 (LA.out w1 hb).2.2.2.2.2.1) ⟨Below.refl _ _, rfl⟩
            | 19, _, ho, hk =>
              cases ho
              exact Qf.lands_move _ rfl _ ((hO 23 (by rfl)).trans rfl) ⟨Below.refl _ _, rfl⟩
            | 20, _, ho, hk =>
              cases ho
              have e0 : s 19 = .slice (some ⟨V2.heap.size, 0, none⟩) 3 3 := hk 19 (by kernel_rfl)
              have h0 := hA 19 _ 256 (by decide) rfl rfl (by simp)
              rw [e0] at h0
              exact Qf.lands_val _ _ (runIdx (j := 2) rfl h0 rfl (by decide)) ⟨Below.refl _ _, rfl⟩
            | 21, _, ho, hk =>
              cases ho
              have e0 : s 20 = .pointer (some ⟨V2.heap.size, 0 + 2, none⟩) := hk 20 (by kernel_rfl)
              have h0 := hA 20 _ 257 (by decide) rfl rfl (by simp)
              rw [e0] at h0
              exact Qf.lands_val _ _ (runLoadI rfl h0 (LA.out w1 hb).2.2.2.2.2.2) ⟨Below.refl _ _, rfl⟩
            | 22, _, ho, hk =>
              cases ho
              have e0 : s 12 = .int .i64 (o0 : Int) := hk 12 (by kernel_rfl)
              have h0 := hA 12 _ 249 (by decide) rfl rfl (by simp)
              rw [e0] at h0
              have e1 : s 15 = .int .i64 (d0 : Int) := hk 15 (by kernel_rfl)
              have h1 := hA 15 _ 252 (by decide) rfl rfl (by simp)
              rw [e1] at h1
              have e2 : s 18 = .int .i64 (d1 : Int) := hk 18 (by kernel_rfl)
              have h2 := hA 18 _ 255 (by decide) rfl rfl (by simp)
              rw [e2] at h2
              have e3 : s 21 = .int .i64 (d2 : Int) := hk 21 (by kernel_rfl)
              have h3 := hA 21 _ 258 (by decide) rfl rfl (by simp)
              rw [e3] at h3
              exact Qf.lands_val _ _ (runBuild4 rfl h0 h1 h2 h3) (ls4_new _ w1 _ _ _ _ hb.size D4.out)
            | 23, _, ho, hk =>
              cases ho
              have e0 : s 9 = .agg #[.slice (some ⟨kb, ko, none⟩) 4 k.cap, .slice k.b k.s k.dap] := hk 9 (by kernel_rfl)
              have h0 := hA 9 _ 246 (by decide) rfl rfl (by simp)
              rw [e0] at h0
              obtain ⟨gl, e1, rl, hl1, hl2⟩ := hk 22 (by kernel_rfl)
              have h1 := hA 22 _ 259 (by decide) rfl rfl (by simp)
              rw [e1] at h1
              refine Qf.lands_call 37 _ _ rfl (enters_of Try.func37 (by kernel_rfl) rfl) _ (by simp [h0, h1]) ((CGET.out w1 hb gl rl hl2).mono ?_)
              rintro e w2 ⟨rfl, bA⟩
              exact ⟨_, rfl, bA, rfl⟩
            | 24, _, ho, hk =>
              cases ho
              have e0 : s 8 = .int .i64 yv := hk 8 (by kernel_rfl)
              have h0 := hA 8 _ 245 (by decide) rfl rfl (by simp)
              rw [e0] at h0
              have e1 : s 23 = .int .i64 wv' := hk 23 (by kernel_rfl)
              have h1 := hA 23 _ 260 (by decide) rfl rfl (by simp)
              rw [e1] at h1
              refine Qf.lands_call 36 _ _ rfl (enters_of Try.func36 (by kernel_rfl) rfl) _ (by simp [h0, h1]) ((CT.out w1).mono ?_)
              rintro e w2 ⟨rfl, hq⟩
              exact ⟨_, rfl, by rw [hq]; exact Below.refl _ _, rfl⟩
            | 25, _, ho, hk =>
              cases ho
              have e0 : s 7 = .int .i64 acc := hk 7 (by kernel_rfl)
              have h0 := hA 7 _ 244 (by decide) rfl rfl (by simp)
              rw [e0] at h0
              have e1 : s 24 = .int .i64 tv := hk 24 (by kernel_rfl)
              have h1 := hA 24 _ 261 (by decide) rfl rfl (by simp)
              rw [e1] at h1
              refine Qf.lands_call 35 _ _ rfl (enters_of Try.func35 (by kernel_rfl) rfl) _ (by simp [h0, h1]) ((CP.out w1).mono ?_)
              rintro e w2 ⟨rfl, hq⟩
              exact ⟨_, rfl, by rw [hq]; exact Below.refl _ _, rfl⟩
            | 26, _, ho, hk =>
              cases ho
              have e0 : s 1 = .slice (some ⟨g, 0, none⟩) N N := hk 1 (by kernel_rfl)
              have h0 := hA 1 _ 238 (by decide) rfl rfl (by simp)
              rw [e0] at h0
              have e1 : s 2 = .int .i64 (i : Int) := hk 2 (by kernel_rfl)
              have h1 := hA 2 _ 239 (by decide) rfl rfl (by simp)
              rw [e1] at h1
              exact Qf.lands_val _ _ (runIdx (j := i) rfl h0 h1 iN) ⟨Below.refl _ _, rfl⟩
            | _ + 27, hi, _, _ => exact absurd hi (by omega)
          case rest =>
          intro s V6 hbS hk
          have e0 : s 0 = .pointer (some ⟨P, 1, none⟩) := hk 0 (by decide)
          have e1 : s 1 = .slice (some ⟨g, 0, none⟩) N N := hk 1 (by decide)
          have e2 : s 2 = .int .i64 (i : Int) := hk 2 (by decide)
          have e3 : s 3 = .pointer (some ⟨P, 1, none⟩) := hk 3 (by decide)
          have e4 : s 4 = .slice (some ⟨g, 0, none⟩) N N := hk 4 (by decide)
          have e5 : s 5 = .int .i64 (i : Int) := hk 5 (by decide)
          have e6 : s 6 = .pointer (some ⟨g, 0 + i, none⟩) := hk 6 (by decide)
          have e7 : s 7 = .int .i64 acc := hk 7 (by decide)
          have e8 : s 8 = .int .i64 yv := hk 8 (by decide)
          have e9 : s 9 = .agg #[.slice (some ⟨kb, ko, none⟩) 4 k.cap, .slice k.b k.s k.dap] := hk 9 (by decide)
          have e10 : s 10 = .slice (some ⟨X.heap.size, 0, none⟩) 4 4 := hk 10 (by decide)
          have e11 : s 11 = .pointer (some ⟨X.heap.size, 0 + 1, none⟩) := hk 11 (by decide)
          have e12 : s 12 = .int .i64 (o0 : Int) := hk 12 (by decide)
          have e13 : s 13 = .slice (some ⟨V2.heap.size, 0, none⟩) 3 3 := hk 13 (by decide)
          have e14 : s 14 = .pointer (some ⟨V2.heap.size, 0 + 0, none⟩) := hk 14 (by decide)
          have e15 : s 15 = .int .i64 (d0 : Int) := hk 15 (by decide)
          have e16 : s 16 = .slice (some ⟨V2.heap.size, 0, none⟩) 3 3 := hk 16 (by decide)
          have e17 : s 17 = .pointer (some ⟨V2.heap.size, 0 + 1, none⟩) := hk 17 (by decide)
          have e18 : s 18 = .int .i64 (d1 : Int) := hk 18 (by decide)
          have e19 : s 19 = .slice (some ⟨V2.heap.size, 0, none⟩) 3 3 := hk 19 (by decide)
          have e20 : s 20 = .pointer (some ⟨V2.heap.size, 0 + 2, none⟩) := hk 20 (by decide)
          have e21 : s 21 = .int .i64 (d2 : Int) := hk 21 (by decide)
          obtain ⟨gl, e22, _, _, _⟩ := hk 22 (by decide)
          have e23 : s 23 = .int .i64 wv' := hk 23 (by decide)
          have e24 : s 24 = .int .i64 tv := hk 24 (by decide)
          have e25 : s 25 = .int .i64 an := hk 25 (by decide)
          have e26 : s 26 = .pointer (some ⟨g, 0 + i, none⟩) := hk 26 (by decide)
          simp only [List.take_succ_cons, List.take_zero, List.drop_succ_cons, List.drop_zero, Qf.lay, Qf.all1, if_true, e0, e1, e2, e3, e4, e5, e6, e7, e8, e9, e10, e11, e12, e13, e14, e15, e16, e17, e18, e19, e20, e21, e22, e23, e24, e25, e26]
          simp only [Act.put, List.setIfInBounds_toArray, List.set_cons_succ, List.set_cons_zero]
          have B6 := hide hbS
          have LA6 := LA.out V6 hbS
          have c6 : V6.cell? ⟨g, i, none⟩ = some (.int .i64 acc) := by have q := LA6.2.1; rwa [Nat.zero_add] at q
          have f6 := (LF.out V6 hbS)
          clear hk hbS LA6 e0 e1 e2 e3 e4 e5 e6 e7 e8 e9 e10 e11 e12 e13 e14 e15 e16 e17 e18 e19 e20 e21 e22 e23 e24 e25 e26
          go_wp2_with fail
          go_roundw
          case rel =>
            have hB6 := B6.out
            refine ⟨m + 1, by omega, by go_num, ((HR5.out.below hB6 gV5).set i an (bd_of AR1.out)).same (fun p hp => ?_), (K5.out.trans (Kept.of_below hB6)).trans (Kept.setCell _ ⟨g, i, none⟩ _)⟩
            rw [HAN.out]
            by_cases c : p = i
            · simp [c]
            · simp [c]
          case measure => simp [intOf]; omega
        · have emK : m = KK := by omega
          have hml' : decide ((m : Int) < (KK : Int)) = false := decide_eq_false (by omega)
          have hml'' : decide (m < KK) = false := decide_eq_false (by omega)
          clear hml
          go_wp2_with fail
          go_quiet (fail)
          have bz := below_drewN (Below.refl V0.heap.size V0) nq
          generalize V0.drewN nq = V1 at bz ⊢
          have lV0 : Z.heap.size ≤ V0.heap.size := HK2.out.size
          have R6 := hide ((HR2.out.below bz (by omega)).same (E := fun p => if p < i + 1 then S p else 0) (fun p hp => by
            by_cases c : p = i
            · subst c
              rw [if_pos (by omega), if_pos rfl, SI2.out, emK]
            · rw [if_neg c]
              by_cases c2 : p < i
              · rw [if_pos (by omega), if_pos c2]
              · rw [if_neg (by omega), if_neg c2]))
          have K6 := hide (show Kept (· = g) W V1 from KW0.out.trans (Kept.of_below bz))
          have T6 := hide (TW.out.kept K6.out (by have := ZW.out; omega) (show ¬ P = g by omega))
          obtain ⟨t60, t61⟩ := T6.out
          clear emK bz p2 k2' k3' ck
          go_wp2_with fail
          go_roundw
          case rel => exact ⟨i + 1, by omega, by go_num, T6.out, R6.out, K6.out⟩
          case measure => simp [intOf]; omega
    · have ei : i = N := by omega
      have hlt' : decide ((i : Int) < (N : Int)) = false := decide_eq_false (by omega)
      have hlt'' : decide (i < N) = false := decide_eq_false (by omega)
      have AX := hide (AW.out.kept hB HKP.out g3)
      have OV5 := hide (OV.out.kept HKP.out (fun b q e => HNE.out b q e))
      have R5 := hide (HRW.out.same (E := S) (fun p hp => by rw [if_pos (by omega)]))
      obtain ⟨y0, y1⟩ := AX.out.z
      have gg := AX.out.fr
      unfold Free at gg
      clear hlt ei
      go_wp2_with fail
      refine bodyPost_ret (v := .agg #[.slice va 4 vc, .slice (some ⟨g, 0, none⟩) N N]) (by simp [results, Try.results7, go_sem, y0, y1]) rfl ?_
      rw [EZ.out, EP.out]
      exact tens_end (v := ⟨4, N, E, S⟩) (P := w.heap.size + 1 + 1) (B := w.heap.size + 1 + 1 + 1) ⟨OV5.out.mono g7, .inr ⟨g, rfl, by omega, R5.out⟩, fun j q1 q2 => by
          obtain ⟨_, ad, e', e''⟩ := q2
          injection e' with e'
          subst e'
          have e'' : g = j := e''
          exact HNE.out j q1 e''.symm⟩ (by omega) (by omega) AX.out.bb
end Vo
end Go.Proofs.Ytgcialbchmbgkaa
