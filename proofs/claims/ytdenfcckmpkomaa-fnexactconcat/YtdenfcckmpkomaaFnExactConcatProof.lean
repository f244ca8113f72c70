/-
  Proved: whatever the arguments, 'FnExactConcat' returns true: the landed function answers as its model, and what came in reads as it did. No condition.
-/
import Derived.Test.YtdenfcckmpkomaaRows
import Derived.Test.YtdenfcckmpkomaaVl
import Derived.Test.YtdenfcckmpkomaaVp
import Derived.Test.YtdenfcckmpkomaaVs
import Derived.Test.YtdenfcckmpkomaaVq
import Derived.Test.YtdenfcckmpkomaaVo
import Derived.Test.YtdenfcckmpkomaaVv
import Derived.Test.YtdenfcckmpkomaaTa
import Derived.Test.YtdenfcckmpkomaaTza
import Derived.Test.YtdenfcckmpkomaaTb
import Derived.Test.YtdenfcckmpkomaaVr
import Derived.Test.YtdenfcckmpkomaaVm
import Derived.Test.YtdenfcckmpkomaaVn
import Derived.Test.YtdenfcckmpkomaaVw
import Derived.Test.YtdenfcckmpkomaaVx
import Derived.Test.YtdenfcckmpkomaaVt
import Derived.Test.YtdenfcckmpkomaaVy
import Derived.Test.YtdenfcckmpkomaaVz
import Derived.Test.YtdenfcckmpkomaaVc
import Derived.Test.YtdenfcckmpkomaaVac
import Derived.Test.YtdenfcckmpkomaaVaf
import Derived.Test.YtdenfcckmpkomaaVag
import Derived.Test.YtdenfcckmpkomaaNum
import Derived.Test.YtdenfcckmpkomaaBase
import Derived.Test.YtdenfcckmpkomaaTc
import Derived.Test.YtdenfcckmpkomaaLn
import Derived.Test.YtdenfcckmpkomaaTf
import Derived.Test.YtdenfcckmpkomaaTh
import Derived.Test.YtdenfcckmpkomaaXa
import Derived.Test.YtdenfcckmpkomaaXb
import Derived.Test.YtdenfcckmpkomaaEq
import Derived.Test.YtdenfcckmpkomaaTg
import Derived.Test.YtdenfcckmpkomaaTi
import Derived.Test.YtdenfcckmpkomaaXc
import Derived.Test.YtdenfcckmpkomaaXd
import Derived.Test.YtdenfcckmpkomaaXh
import Derived.Test.YtdenfcckmpkomaaXg
import Derived.Test.YtdenfcckmpkomaaXe
import Derived.WalkKit
import Derived.ProofKit
import Derived.OpenShut
import Derived.ShutString
import Derived.ChangeOld
import Derived.Below
import Derived.Lib.SmallJoins
import Derived.OpenVars
import Derived.ChangeVars
import Derived.Deep.RegionHeld3
namespace Go.Proofs.Ytdenfcckmpkomaa.fnExactConcat
open Go.ChangeShapes Go.WideShapes Go.ChangeAt Go.RowKit Go.Joins
open Go.ChangeMaps (open_string shut_string)
set_option linter.unusedVariables false
set_option linter.unusedSimpArgs false

theorem own : ownKnob Try.prog.godebug = none := by kernel_rfl
theorem laidOut : laidOutB Try.prog = true := by kernel_rfl

set_option maxRecDepth 100000 in
set_option maxHeartbeats 4000000 in
theorem walk (a0 : Option Addr) (r0 cap0 : Nat) (a1 : Int) (w1 : (Lit.int .i64 a1).wf = true) (w : World) (w0 : Vo.ArgT w a0 r0) :
    Calls Try.prog 6 #[.slice a0 r0 cap0, .int .i64 a1] w fun e w' => e = .returned (.bool true) ∧ Below w.heap.size w w' := by
  obtain ⟨hn0, T0, hh0, hl0⟩ := w0
  have H0 := Vl.hide hh0
  have HL := Vl.hide hl0
  clear hh0 hl0
  have B0 := Vl.hide (Below.refl w.heap.size w)
  go_enter Try.func6, Try.ntmps6
  go_wp2_with fail
  refine (Vo.szTensorS w.heap.size a0 r0 cap0 T0 1048576 w (Nat.le_refl _) H0.out hn0 HL.out (by omega) (by omega)).mono ?_; rintro e W1 ⟨x0, rfl, hx0, bb⟩
  have B1 := Vl.hide (B0.out.trans (Below.mono bb B0.out.size))
  have sz1 : w.heap.size ≤ W1.heap.size := bb.size
  try clear u0 u1
  try clear v0 v1
  try clear z0 z1
  clear bb
  by_cases hn : x0 < 0
  · clear hx0
    go_wp2_with fail
    go_ret
    exact ⟨rfl, B1.out⟩
  have hm0 : decide (x0 < 0) = false := by rw [decide_eq_false_iff_not]; exact hn
  obtain ⟨_, ln, lt⟩ := hx0 (by omega)
  have NL := Vl.hide (Vo.tlen_of lt)
  have LT := Vl.hide lt
  clear hn hx0 hn0 lt
  obtain ⟨T, hT⟩ : ∃ T, Vo.conP r0 a1 T0 = T := ⟨_, rfl⟩
  have lv : ((T.r : Nat) : Int) ≤ 1048576 := by rw [← hT]; have := (Vo.conP_le (n := r0) (x := a1) (T := T0)).1; omega
  have lw : ((T.s : Nat) : Int) ≤ 1048576 := by rw [← hT]; have := (Vo.conP_le (n := r0) (x := a1) (T := T0)).2; omega
  have UL := Vl.hide (show ∀ U, Vo.TSame r0 T0 U → Vo.TLen r0 U 1048576 from fun U hs i hi => by rw [(hs i hi).1, (hs i hi).2.1]; exact NL.out i hi)
  have CS := Vl.hide (show ∀ (B g : Nat) (U : Nat → Vo.TV) (W : World) (hB : B ≤ W.heap.size) (h : Vo.TL B W (some ⟨g, 0, none⟩) r0 U) (hs : Vo.TSame r0 T0 U), Calls Try.prog 21 #[.slice (some ⟨g, 0, none⟩) r0 r0, .int .i64 a1] W fun e w' => Vo.TensR W.heap.size T W e w' from fun B g U W hB h hs => by have q := Vo.specConcat B _ r0 r0 a1 U W hB h ln (UL.out U hs); rwa [Vo.conP_same hs, hT] at q)
  have CI := Vl.hide (show ∀ (B g : Nat) (U : Nat → Vo.TV) (W : World) (hB : B ≤ W.heap.size) (h : Vo.TL B W (some ⟨g, 0, none⟩) r0 U) (hs : Vo.TSame r0 T0 U), Calls Try.prog 23 #[.slice (some ⟨g, 0, none⟩) r0 r0, .int .i64 a1] W fun e w' => Vo.TensR W.heap.size T W e w' from fun B g U W hB h hs => by have q := Vo.concatF B _ r0 r0 a1 U W hB h ln (UL.out U hs) (fun i hi => ⟨by rw [(hs i hi).1, (hs i hi).2.2.2.2.1]; exact Nat.le_refl _, by rw [(hs i hi).2.1, (hs i hi).2.2.2.2.2]; exact Nat.le_refl _⟩); rwa [Vo.conP_same hs, hT] at q)
  clear hT
  go_wp2_with fail
  refine (Vo.toTensorS w.heap.size a0 r0 cap0 T0 _ B1.out.size (H0.out.below B1.out) ln NL.out).mono ?_; rintro e W2 ⟨ga, Uga, lga, rfl, oga, sga, bb⟩
  have B2 := Vl.hide (B1.out.trans (Below.mono bb B1.out.size))
  have sz2 : W1.heap.size ≤ W2.heap.size := bb.size
  try clear u0 u1
  try clear v0 v1
  try clear z0 z1
  clear bb
  have QA_2 := Vl.hide oga
  have Sga := Vl.hide sga
  have loga : W1.heap.size ≤ ga := oga.lo
  have lwga : ga < lga 0 := oga.low
  have tpga : lga r0 ≤ W2.heap.size := oga.top
  clear oga sga
  go_wp2_with fail
  refine (CS.out _ ga Uga _ (Nat.le_refl _) QA_2.out.read Sga.out).mono ?_; rintro e W3 ⟨sa, sb, sc, sd, rfl, qs, bb⟩
  have B3 := Vl.hide (B2.out.trans (Below.mono bb B2.out.size))
  have sz3 : W2.heap.size ≤ W3.heap.size := bb.size
  try clear u0 u1
  try clear v0 v1
  try clear z0 z1
  have QA_3 := Vl.hide (QA_2.out.below bb)
  clear bb
  have QS_3 := Vl.hide qs
  have Ls := Vl.hide (fun y h => qs.blk (k := y) h)
  clear qs
  have bx := Vo.bx_new W3 (.slice sa T.r sc) (.slice sb T.s sd) 26
  have bb := (Below.refl W3.heap.size W3).alloc (Nat.le_refl _) (.cells #[.slice sa T.r sc, .slice sb T.s sd] 26)
  obtain ⟨W4, hW4⟩ : ∃ W4, W3.alloc (.cells #[.slice sa T.r sc, .slice sb T.s sd] 26) = W4 := ⟨_, rfl⟩
  have ltW4 : W3.heap.size < W4.heap.size := by rw [← hW4]; simp
  rw [hW4] at bb bx
  have B4 := Vl.hide (B3.out.trans (Below.mono bb B3.out.size))
  have sz4 : W3.heap.size ≤ W4.heap.size := bb.size
  try clear u0 u1
  try clear v0 v1
  try clear z0 z1
  have QS_4 := Vl.hide (QS_3.out.below bb)
  clear bb
  have S_4 := Vl.hide bx
  clear bx
  obtain ⟨u0, u1⟩ := S_4.out
  go_wp2_with fail
  refine (Vo.toTensorS w.heap.size a0 r0 cap0 T0 _ B4.out.size (H0.out.below B4.out) ln NL.out).mono ?_; rintro e W5 ⟨gx, Ugx, lgx, rfl, ogx, sgx, bb⟩
  have B5 := Vl.hide (B4.out.trans (Below.mono bb B4.out.size))
  have sz5 : W4.heap.size ≤ W5.heap.size := bb.size
  try clear u0 u1
  try clear v0 v1
  try clear z0 z1
  have QS_5 := Vl.hide (QS_4.out.below bb)
  have S_5 := Vl.hide (S_4.out.below bb (by omega))
  clear bb
  obtain ⟨u0, u1⟩ := S_5.out
  have QX_5 := Vl.hide ogx
  have Sgx := Vl.hide sgx
  have logx : W4.heap.size ≤ gx := ogx.lo
  have lwgx : gx < lgx 0 := ogx.low
  have tpgx : lgx r0 ≤ W5.heap.size := ogx.top
  clear ogx sgx
  go_wp2_with fail
  refine (CI.out _ gx Ugx _ (Nat.le_refl _) QX_5.out.read Sgx.out).mono ?_; rintro e W6 ⟨ga, gb, gc, gd, rfl, qg, bb⟩
  have B6 := Vl.hide (B5.out.trans (Below.mono bb B5.out.size))
  have sz6 : W5.heap.size ≤ W6.heap.size := bb.size
  try clear u0 u1
  try clear v0 v1
  try clear z0 z1
  have QS_6 := Vl.hide (QS_5.out.below bb)
  have S_6 := Vl.hide (S_5.out.below bb (by omega))
  have QX_6 := Vl.hide (QX_5.out.below bb)
  clear bb
  obtain ⟨u0, u1⟩ := S_6.out
  have QG_6 := Vl.hide qg
  have Lg := Vl.hide (fun y h => qg.blk (k := y) h)
  clear qg
  have bx := Vo.bx_new W6 (.slice ga T.r gc) (.slice gb T.s gd) 26
  have bb := (Below.refl W6.heap.size W6).alloc (Nat.le_refl _) (.cells #[.slice ga T.r gc, .slice gb T.s gd] 26)
  obtain ⟨W7, hW7⟩ : ∃ W7, W6.alloc (.cells #[.slice ga T.r gc, .slice gb T.s gd] 26) = W7 := ⟨_, rfl⟩
  have ltW7 : W6.heap.size < W7.heap.size := by rw [← hW7]; simp
  rw [hW7] at bb bx
  have B7 := Vl.hide (B6.out.trans (Below.mono bb B6.out.size))
  have sz7 : W6.heap.size ≤ W7.heap.size := bb.size
  try clear u0 u1
  try clear v0 v1
  try clear z0 z1
  have QS_7 := Vl.hide (QS_6.out.below bb)
  have S_7 := Vl.hide (S_6.out.below bb (by omega))
  have QX_7 := Vl.hide (QX_6.out.below bb)
  have QG_7 := Vl.hide (QG_6.out.below bb)
  clear bb
  obtain ⟨u0, u1⟩ := S_7.out
  have G_7 := Vl.hide bx
  clear bx
  obtain ⟨v0, v1⟩ := G_7.out
  go_wp2_with fail
  refine (Vo.eqTensor _ _ _ _ _ T.r T.s gc gd sc sd T.D T.S T.D T.S _ (Nat.le_refl _) QG_7.out.d.ints QG_7.out.t.ints QS_7.out.d.ints QS_7.out.t.ints (fun _ _ => rfl) (fun _ _ => rfl) lv lw).mono ?_; rintro e W8 ⟨rfl, bb⟩
  have B8 := Vl.hide (B7.out.trans (Below.mono bb B7.out.size))
  have sz8 : W7.heap.size ≤ W8.heap.size := bb.size
  try clear u0 u1
  try clear v0 v1
  try clear z0 z1
  have QS_8 := Vl.hide (QS_7.out.below bb)
  have S_8 := Vl.hide (S_7.out.below bb (by omega))
  have QX_8 := Vl.hide (QX_7.out.below bb)
  have QG_8 := Vl.hide (QG_7.out.below bb)
  have G_8 := Vl.hide (G_7.out.below bb (by omega))
  clear bb
  obtain ⟨u0, u1⟩ := S_8.out
  obtain ⟨v0, v1⟩ := G_8.out
  go_wp2_with fail
  refine (Vo.toTensorS w.heap.size a0 r0 cap0 T0 _ B8.out.size (H0.out.below B8.out) ln NL.out).mono ?_; rintro e W9 ⟨gm, Ugm, lgm, rfl, ogm, sgm, bb⟩
  have B9 := Vl.hide (B8.out.trans (Below.mono bb B8.out.size))
  have sz9 : W8.heap.size ≤ W9.heap.size := bb.size
  try clear u0 u1
  try clear v0 v1
  try clear z0 z1
  have QS_9 := Vl.hide (QS_8.out.below bb)
  have S_9 := Vl.hide (S_8.out.below bb (by omega))
  have QX_9 := Vl.hide (QX_8.out.below bb)
  have QG_9 := Vl.hide (QG_8.out.below bb)
  have G_9 := Vl.hide (G_8.out.below bb (by omega))
  clear bb
  obtain ⟨u0, u1⟩ := S_9.out
  obtain ⟨v0, v1⟩ := G_9.out
  have QM_9 := Vl.hide ogm
  have Sgm := Vl.hide sgm
  have logm : W8.heap.size ≤ gm := ogm.lo
  have lwgm : gm < lgm 0 := ogm.low
  have tpgm : lgm r0 ≤ W9.heap.size := ogm.top
  clear ogm sgm
  go_wp2_with fail
  refine (Vo.eqTensorS _ _ _ r0 r0 r0 Ugx Ugm _ (Nat.le_refl _) QX_9.out.read QM_9.out.read ln (UL.out _ Sgx.out) (fun i hi => by obtain ⟨a1, a2, a3, a4, _⟩ := Sgx.out i hi; obtain ⟨b1, b2, b3, b4, _⟩ := Sgm.out i hi; exact ⟨by rw [a1, b1], by rw [a2, b2], fun _ _ => by rw [a3, b3], fun _ _ => by rw [a4, b4]⟩)).mono ?_; rintro e W10 ⟨rfl, bb⟩
  have B10 := Vl.hide (B9.out.trans (Below.mono bb B9.out.size))
  have sz10 : W9.heap.size ≤ W10.heap.size := bb.size
  try clear u0 u1
  try clear v0 v1
  try clear z0 z1
  have QS_10 := Vl.hide (QS_9.out.below bb)
  have S_10 := Vl.hide (S_9.out.below bb (by omega))
  have QX_10 := Vl.hide (QX_9.out.below bb)
  have QG_10 := Vl.hide (QG_9.out.below bb)
  have G_10 := Vl.hide (G_9.out.below bb (by omega))
  have QM_10 := Vl.hide (QM_9.out.below bb)
  clear bb
  obtain ⟨u0, u1⟩ := S_10.out
  obtain ⟨v0, v1⟩ := G_10.out
  have ts : Vo.tsum Ugx r0 = Vo.tsum T0 r0 := Vo.tsum_same Sgx.out
  have tb : (Vo.tsum Ugx r0 : Int) ≤ 1048576 := by rw [ts]; exact LT.out
  clear ts
  go_wp2_with fail
  refine (Vo.markTensorS _ gx r0 r0 Ugx lgx 1 _ QX_10.out ln tb (by omega) (by omega)).mono ?_; rintro e W11 ⟨rfl, kk⟩
  have B11 := Vl.hide (B10.out.trans (kk.below B10.out.size (fun q h => by have h := h.1; omega)))
  have sz11 : W10.heap.size ≤ W11.heap.size := kk.size
  try clear u0 u1
  try clear v0 v1
  try clear z0 z1
  have QS_11 := Vl.hide (QS_10.out.kept kk (fun y h q => by have h := Ls.out y h; have q := q.1; omega))
  have QG_11 := Vl.hide (QG_10.out.kept kk (fun y h q => by have h := Lg.out y h; have q := q.2; omega))
  have S_11 := Vl.hide (S_10.out.kept kk (by omega) (fun q => by have q := q.1; omega))
  have G_11 := Vl.hide (G_10.out.kept kk (by omega) (fun q => by have q := q.2; omega))
  clear kk
  obtain ⟨u0, u1⟩ := S_11.out
  obtain ⟨v0, v1⟩ := G_11.out
  have neg1 : decide ((1 : Int) + (Vo.tsum Ugx r0 : Nat) < 0) = false := by rw [decide_eq_false_iff_not]; omega
  go_wp2_with fail
  refine (Vo.eqTensor _ _ _ _ _ T.r T.s gc gd sc sd T.D T.S T.D T.S _ (Nat.le_refl _) QG_11.out.d.ints QG_11.out.t.ints QS_11.out.d.ints QS_11.out.t.ints (fun _ _ => rfl) (fun _ _ => rfl) lv lw).mono ?_; rintro e W12 ⟨rfl, bb⟩
  have B12 := Vl.hide (B11.out.trans (Below.mono bb B11.out.size))
  have sz12 : W11.heap.size ≤ W12.heap.size := bb.size
  try clear u0 u1
  try clear v0 v1
  try clear z0 z1
  have QS_12 := Vl.hide (QS_11.out.below bb)
  have S_12 := Vl.hide (S_11.out.below bb (by omega))
  have QG_12 := Vl.hide (QG_11.out.below bb)
  have G_12 := Vl.hide (G_11.out.below bb (by omega))
  clear bb
  obtain ⟨u0, u1⟩ := S_12.out
  obtain ⟨v0, v1⟩ := G_12.out
  go_wp2_with fail
  refine (Vo.markTensor _ _ _ T.r T.s gc gd T.D T.S 1 _ QG_12.out lv lw (by omega) (by omega)).mono ?_; rintro e W13 ⟨rfl, qm, kk⟩
  have B13 := Vl.hide (B12.out.trans (kk.below B12.out.size (fun q h => by have h := (Lg.out q h).1; omega)))
  have sz13 : W12.heap.size ≤ W13.heap.size := kk.size
  try clear u0 u1
  try clear v0 v1
  have QS_13 := Vl.hide (QS_12.out.kept kk (fun y h q => by have h := Ls.out y h; have q := Lg.out y q; omega))
  have QG_13 := Vl.hide qm
  have S_13 := Vl.hide (S_12.out.kept kk (by omega) (fun q => by have q := Lg.out _ q; omega))
  have G_13 := Vl.hide (G_12.out.kept kk (by omega) (fun q => by have q := Lg.out _ q; omega))
  clear kk qm
  obtain ⟨u0, u1⟩ := S_13.out
  obtain ⟨v0, v1⟩ := G_13.out
  have neg2 : decide ((1 : Int) + (T.r : Nat) + (T.s : Nat) < 0) = false := by rw [decide_eq_false_iff_not]; omega
  go_wp2_with fail
  refine (Vo.heldTensor _ _ _ T.r T.s gc gd 1 _ QG_13.out lv lw (by omega) (by omega)).mono ?_; rintro e W14 ⟨rfl, bb⟩
  have B14 := Vl.hide (B13.out.trans (Below.mono bb B13.out.size))
  have sz14 : W13.heap.size ≤ W14.heap.size := bb.size
  try clear u0 u1
  try clear v0 v1
  try clear z0 z1
  have QS_14 := Vl.hide (QS_13.out.below bb)
  have S_14 := Vl.hide (S_13.out.below bb (by omega))
  have QG_14 := Vl.hide (QG_13.out.below bb)
  have G_14 := Vl.hide (G_13.out.below bb (by omega))
  clear bb
  obtain ⟨u0, u1⟩ := S_14.out
  obtain ⟨v0, v1⟩ := G_14.out
  go_wp2_with fail
  refine (Vo.toTensorS w.heap.size a0 r0 cap0 T0 _ B14.out.size (H0.out.below B14.out) ln NL.out).mono ?_; rintro e W15 ⟨gn, Ugn, lgn, rfl, ogn, sgn, bb⟩
  have B15 := Vl.hide (B14.out.trans (Below.mono bb B14.out.size))
  have sz15 : W14.heap.size ≤ W15.heap.size := bb.size
  try clear u0 u1
  try clear v0 v1
  try clear z0 z1
  have QS_15 := Vl.hide (QS_14.out.below bb)
  have S_15 := Vl.hide (S_14.out.below bb (by omega))
  have QG_15 := Vl.hide (QG_14.out.below bb)
  have G_15 := Vl.hide (G_14.out.below bb (by omega))
  clear bb
  obtain ⟨u0, u1⟩ := S_15.out
  obtain ⟨v0, v1⟩ := G_15.out
  have QN_15 := Vl.hide ogn
  have Sgn := Vl.hide sgn
  have logn : W14.heap.size ≤ gn := ogn.lo
  have lwgn : gn < lgn 0 := ogn.low
  have tpgn : lgn r0 ≤ W15.heap.size := ogn.top
  clear ogn sgn
  go_wp2_with fail
  refine (CI.out _ gn Ugn _ (Nat.le_refl _) QN_15.out.read Sgn.out).mono ?_; rintro e W16 ⟨ha, hb, hc, hd, rfl, qh, bb⟩
  have B16 := Vl.hide (B15.out.trans (Below.mono bb B15.out.size))
  have sz16 : W15.heap.size ≤ W16.heap.size := bb.size
  try clear u0 u1
  try clear v0 v1
  try clear z0 z1
  have QS_16 := Vl.hide (QS_15.out.below bb)
  have S_16 := Vl.hide (S_15.out.below bb (by omega))
  have QG_16 := Vl.hide (QG_15.out.below bb)
  have G_16 := Vl.hide (G_15.out.below bb (by omega))
  have QN_16 := Vl.hide (QN_15.out.below bb)
  clear bb
  obtain ⟨u0, u1⟩ := S_16.out
  obtain ⟨v0, v1⟩ := G_16.out
  have QH_16 := Vl.hide qh
  have Lh := Vl.hide (fun y h => qh.blk (k := y) h)
  clear qh
  have bx := Vo.bx_new W16 (.slice ha T.r hc) (.slice hb T.s hd) 26
  have bb := (Below.refl W16.heap.size W16).alloc (Nat.le_refl _) (.cells #[.slice ha T.r hc, .slice hb T.s hd] 26)
  obtain ⟨W17, hW17⟩ : ∃ W17, W16.alloc (.cells #[.slice ha T.r hc, .slice hb T.s hd] 26) = W17 := ⟨_, rfl⟩
  have ltW17 : W16.heap.size < W17.heap.size := by rw [← hW17]; simp
  rw [hW17] at bb bx
  have B17 := Vl.hide (B16.out.trans (Below.mono bb B16.out.size))
  have sz17 : W16.heap.size ≤ W17.heap.size := bb.size
  try clear u0 u1
  try clear v0 v1
  try clear z0 z1
  have QS_17 := Vl.hide (QS_16.out.below bb)
  have S_17 := Vl.hide (S_16.out.below bb (by omega))
  have QG_17 := Vl.hide (QG_16.out.below bb)
  have G_17 := Vl.hide (G_16.out.below bb (by omega))
  have QH_17 := Vl.hide (QH_16.out.below bb)
  clear bb
  obtain ⟨u0, u1⟩ := S_17.out
  obtain ⟨v0, v1⟩ := G_17.out
  have H_17 := Vl.hide bx
  clear bx
  obtain ⟨z0, z1⟩ := H_17.out
  go_wp2_with fail
  refine (Vo.eqTensor _ _ _ _ _ T.r T.s hc hd sc sd T.D T.S T.D T.S _ (Nat.le_refl _) QH_17.out.d.ints QH_17.out.t.ints QS_17.out.d.ints QS_17.out.t.ints (fun _ _ => rfl) (fun _ _ => rfl) lv lw).mono ?_; rintro e W18 ⟨rfl, bb⟩
  have B18 := Vl.hide (B17.out.trans (Below.mono bb B17.out.size))
  have sz18 : W17.heap.size ≤ W18.heap.size := bb.size
  try clear u0 u1
  try clear v0 v1
  try clear z0 z1
  have QS_18 := Vl.hide (QS_17.out.below bb)
  have S_18 := Vl.hide (S_17.out.below bb (by omega))
  have QG_18 := Vl.hide (QG_17.out.below bb)
  have G_18 := Vl.hide (G_17.out.below bb (by omega))
  have QH_18 := Vl.hide (QH_17.out.below bb)
  have H_18 := Vl.hide (H_17.out.below bb (by omega))
  clear bb
  obtain ⟨u0, u1⟩ := S_18.out
  obtain ⟨v0, v1⟩ := G_18.out
  obtain ⟨z0, z1⟩ := H_18.out
  go_wp2_with fail
  refine (Vo.heldTensor _ _ _ T.r T.s gc gd 1 _ QG_18.out lv lw (by omega) (by omega)).mono ?_; rintro e W19 ⟨rfl, bb⟩
  have B19 := Vl.hide (B18.out.trans (Below.mono bb B18.out.size))
  have sz19 : W18.heap.size ≤ W19.heap.size := bb.size
  try clear u0 u1
  try clear v0 v1
  try clear z0 z1
  have QS_19 := Vl.hide (QS_18.out.below bb)
  have S_19 := Vl.hide (S_18.out.below bb (by omega))
  have QG_19 := Vl.hide (QG_18.out.below bb)
  have G_19 := Vl.hide (G_18.out.below bb (by omega))
  have QH_19 := Vl.hide (QH_18.out.below bb)
  have H_19 := Vl.hide (H_18.out.below bb (by omega))
  clear bb
  obtain ⟨u0, u1⟩ := S_19.out
  obtain ⟨v0, v1⟩ := G_19.out
  obtain ⟨z0, z1⟩ := H_19.out
  go_wp2_with fail
  go_ret
  exact ⟨rfl, B19.out⟩

set_option maxRecDepth 100000 in
theorem lifted (os : Os) (started : os.Started) (H : Type) (enc : TypeId × Value → H) :
    ReturnsInHanded {} Try.checked os 6 .any (Rows.fnExactConcatSpec.pre6 enc Try.prog Try.f6 Rows.fnExactConcatRow.domain false) (Rows.fnExactConcatSpec.post enc Try.prog Try.f6 false true false false) := by
  refine returnsInHanded_of_change (C := Try.checked) own started (by kernel_rfl) Try.func6
    (ChangeSpec.witness6 (enc := enc) (C := Try.checked) false ⟨#[], #[.slice none 0 0, .int .i64 0], []⟩ 8 (by kernel_rfl) (by kernel_rfl) (by kernel_rfl) (by kernel_rfl)) ?_
  intro W base args ds gs before hval0 hW hcnd _
  have hval : ∀ (j : Nat) t v, Try.f6.params[j]? = some t → args[j]? = some v → Value.okWide Try.prog W .any base t v := hval0
  have hW' := hW
  obtain ⟨p, q, hA0, hV, rfl, hfz, hnd⟩ := hW
  have hA : DataW.TrodAll enc Try.prog W 0 (fun _ => true) true Try.f6.params.toList args.toList ds p := hA0
  rw [Try.params6] at hA hval
  obtain ⟨v0, vs0, d0, ds0, p0, q0, hargs, rfl, rfl, h0, rst0⟩ := trodAll_cons hA
  obtain ⟨v1, vs1, d1, ds1, p1, q1, rfl, rfl, rfl, h1, rst1⟩ := trodAll_cons rst0
  obtain ⟨rfl, rfl, rfl⟩ := trodAll_nil rst1
  obtain rfl : args = #[v0, v1] := by cases args; simp_all
  obtain ⟨rfl, rfl⟩ := trodVars_none hV
  have k0 := h0
  have lt0 : ∀ x ∈ p0, x.block < W.heap.size := by obtain ⟨m, hm⟩ := k0; exact DataW.trod_lt m _ _ _ hm
  obtain ⟨a0, r0, cap0, rfl⟩ := okWide_slice Try.underlying34 (hval 0 34 v0 rfl rfl)
  have w0 : Vo.ArgT W a0 r0 := Vo.argT_at h0
  have k1 := h1
  have lt1 : ∀ x ∈ p1, x.block < W.heap.size := by obtain ⟨m, hm⟩ := k1; exact DataW.trod_lt m _ _ _ hm
  obtain ⟨a1, rfl, e1, _, w1⟩ := open_int Try.underlying3 (hval 1 3 v1 rfl rfl) h1
  clear hA0 hval0
  refine (walk a0 r0 cap0 a1 w1 W w0).mono fun e W' ⟨he, bel⟩ => ?_
  subst he
  exact ⟨_, rfl, _, _, _, [], _, [], hW', trodAll_mk1 (shut_bool Try.underlying4 _), (trodAll_cons_mk (Below.trod laidOut (by kernel_rfl) (of_decide_eq_true (by kernel_rfl)) k0 bel lt0) (trodAll_cons_mk (Below.trod laidOut (by kernel_rfl) (of_decide_eq_true (by kernel_rfl)) k1 bel lt1) trodAll_mk0)), rfl, bel.frame _, fun h => by cases h⟩

theorem over : Rows.fnExactConcatRow.holds Try.pinned (OpenSpec.ofChange Rows.fnExactConcatSpec) :=
  OpenClaim.holds_of_wide 6 Try.f6 rfl rfl rfl rfl rfl rfl rfl ⟨rfl, rfl, rfl, rfl, rfl⟩ rfl rfl rfl rfl rfl (by kernel_rfl) Try.func6 (by kernel_rfl)
    (of_decide_eq_true (by kernel_rfl)) (by unfold Func.isWrapper; first | (rw [if_pos (by decide +kernel)]; kernel_rfl) | (rw [if_neg (by decide +kernel)]; exact ⟨rfl, rfl⟩))
    (fun os started H enc _ => lifted os started H enc)

theorem proved : Rows.FnExactConcatSaid := over
#print axioms proved
end Go.Proofs.Ytdenfcckmpkomaa.fnExactConcat
