/-
  Proved: whatever the arguments, 'FnExactLives' returns true: the landed function answers as its model, and what came in reads as it did. No condition.
-/
import Derived.Test.YtgmjijjckedmcaaRows
import Derived.Test.YtgmjijjckedmcaaVl
import Derived.Test.YtgmjijjckedmcaaVp
import Derived.Test.YtgmjijjckedmcaaVs
import Derived.Test.YtgmjijjckedmcaaVq
import Derived.Test.YtgmjijjckedmcaaVo
import Derived.Test.YtgmjijjckedmcaaVv
import Derived.Test.YtgmjijjckedmcaaJa
import Derived.Test.YtgmjijjckedmcaaJb
import Derived.Test.YtgmjijjckedmcaaJc
import Derived.Test.YtgmjijjckedmcaaJd
import Derived.Test.YtgmjijjckedmcaaJe
import Derived.Test.YtgmjijjckedmcaaJf
import Derived.Test.YtgmjijjckedmcaaMu
import Derived.Test.YtgmjijjckedmcaaMv
import Derived.Test.YtgmjijjckedmcaaMw
import Derived.Test.YtgmjijjckedmcaaAr
import Derived.Test.YtgmjijjckedmcaaMa
import Derived.Test.YtgmjijjckedmcaaJg
import Derived.Test.YtgmjijjckedmcaaJh
import Derived.Test.YtgmjijjckedmcaaJi
import Derived.Test.YtgmjijjckedmcaaJj
import Derived.Test.YtgmjijjckedmcaaTa
import Derived.Test.YtgmjijjckedmcaaTb
import Derived.Test.YtgmjijjckedmcaaVm
import Derived.Test.YtgmjijjckedmcaaVn
import Derived.Test.YtgmjijjckedmcaaVc
import Derived.Test.YtgmjijjckedmcaaJk
import Derived.Test.YtgmjijjckedmcaaJl
import Derived.Test.YtgmjijjckedmcaaJm
import Derived.Test.YtgmjijjckedmcaaJn
import Derived.Test.YtgmjijjckedmcaaJo
import Derived.Test.YtgmjijjckedmcaaJp
import Derived.Test.YtgmjijjckedmcaaQf
import Derived.Test.YtgmjijjckedmcaaQg
import Derived.Test.YtgmjijjckedmcaaJq
import Derived.Test.YtgmjijjckedmcaaMf
import Derived.Test.YtgmjijjckedmcaaMg
import Derived.Test.YtgmjijjckedmcaaMh
import Derived.Test.YtgmjijjckedmcaaQt
import Derived.Test.YtgmjijjckedmcaaMi
import Derived.Test.YtgmjijjckedmcaaMj
import Derived.Test.YtgmjijjckedmcaaMk
import Derived.Test.YtgmjijjckedmcaaMl
import Derived.Test.YtgmjijjckedmcaaMm
import Derived.Test.YtgmjijjckedmcaaJr
import Derived.Test.YtgmjijjckedmcaaMx
import Derived.Test.YtgmjijjckedmcaaMy
import Derived.Test.YtgmjijjckedmcaaMz
import Derived.WalkKit
import Derived.ProofKit
import Derived.OpenShut
import Derived.ShutString
import Derived.ChangeOld
import Derived.Below
import Derived.Lib.SmallJoins
import Derived.OpenVars
import Derived.ChangeVars
import Derived.Deep.RegionHeld3
namespace Go.Proofs.Ytgmjijjckedmcaa.fnExactLives
open Go.ChangeShapes Go.WideShapes Go.ChangeAt Go.RowKit Go.Joins
open Go.ChangeMaps (open_string shut_string)
set_option linter.unusedVariables false
set_option linter.unusedSimpArgs false

theorem own : ownKnob Try.prog.godebug = none := by kernel_rfl
theorem laidOut : laidOutB Try.prog = true := by kernel_rfl

set_option maxRecDepth 100000 in
set_option maxHeartbeats 4000000 in
theorem walk (x0 : Vo.NV) (w : World) (w0 : x0.read w.heap.size w ∧ x0.len 9223372036854775807) :
    Calls Try.prog 3 #[x0.val] w fun e w' => e = .returned (.bool true) ∧ Below w.heap.size w w' := by
  obtain ⟨hr0, hl0⟩ := w0
  obtain ⟨N, hN⟩ : ∃ N : Vo.NV, N = x0 := ⟨_, rfl⟩
  obtain ⟨sa0, sn0, sc0, SD0, ia0, i0, ic0, ID0, fa0, fn0, fc0, FF0, ka0, kn0, kc0, KK0, oa0, on0, oc0, OD0⟩ := x0
  have HN := Vl.hide hN
  rw [← hN] at hr0 hl0
  have VAL := Vl.hide (show Vo.NV.val N = .agg #[.slice sa0 sn0 sc0, .slice ia0 i0 ic0, .slice fa0 fn0 fc0, .slice ka0 kn0 kc0, .slice oa0 on0 oc0] by rw [hN]; rfl)
  have R0 := Vl.hide hr0
  have L0 := Vl.hide hl0
  clear hr0 hl0 hN
  have bb := (Below.refl w.heap.size w).alloc (Nat.le_refl _) (.cells #[.slice sa0 sn0 sc0, .slice ia0 i0 ic0, .slice fa0 fn0 fc0, .slice ka0 kn0 kc0, .slice oa0 on0 oc0] 26)
  have B1 := Vl.hide bb
  have V1 := Vl.hide (Vo.Cells5.new w (.slice sa0 sn0 sc0) (.slice ia0 i0 ic0) (.slice fa0 fn0 fc0) (.slice ka0 kn0 kc0) (.slice oa0 on0 oc0) 26)
  clear bb
  obtain ⟨u0, u1, u2, u3, u4⟩ := V1.out
  dsimp only [Vo.NV.val]
  have SZ := Vl.hide (Vo.szNestE w.heap.size N 1048576 _ B1.out.size (R0.out.below B1.out) L0.out (by omega) (by omega))
  rw [VAL.out] at SZ
  go_enter Try.func3, Try.ntmps3
  go_wp2_with fail
  refine SZ.out.mono ?_
  rintro e W2 ⟨x1, rfl, hx0, bb⟩
  have B2 := Vl.hide (B1.out.trans (bb.mono B1.out.size))
  have V2 := Vl.hide (V1.out.below bb (by simp))
  have sz2 : w.heap.size < W2.heap.size := by have := bb.size; simp at this; omega
  clear u0 u1 u2 u3 u4 bb SZ
  obtain ⟨u0, u1, u2, u3, u4⟩ := V2.out
  by_cases hn0 : x1 < 0
  · clear hx0
    go_wp2_with fail
    go_ret
    exact ⟨rfl, B2.out⟩
  have hm0 : decide (x1 < 0) = false := by rw [decide_eq_false_iff_not]; exact hn0
  have NS := Vl.hide (show (Vo.nsz N : Int) ≤ 1048576 by have := (hx0 (by omega)).2; omega)
  have L1 := Vl.hide (Vo.nlen_of NS.out)
  clear hn0 hx0
  have TO := Vl.hide (fun (W : World) (hb : Below w.heap.size w W) => Vo.toNestS w.heap.size N W hb.size (R0.out.below hb) L1.out)
  rw [VAL.out] at TO
  have mq := Vo.lvq_le N
  have EM := Vl.hide (fun (u : Vo.NV) (h : Vo.NSame N u) => Vo.lvq_eq h)
  have ELV := Vl.hide (fun (u : Vo.NV) (h : Vo.NSame N u) => Vo.LVS_eq h.eq)
  obtain ⟨m, hm⟩ : ∃ m, Vo.lvq N = m := ⟨_, rfl⟩
  rw [hm] at mq
  obtain ⟨LV, hLV⟩ : ∃ LV, Vo.LVS N = LV := ⟨_, rfl⟩
  have m1 : (m : Int) ≤ 1048576 := by omega
  have EM2 := Vl.hide (fun (u : Vo.NV) (h : Vo.NSame N u) => (EM.out u h).trans hm)
  have EL2 := Vl.hide (fun (u : Vo.NV) (h : Vo.NSame N u) => (ELV.out u h).trans hLV)
  clear hm hLV EM ELV HN VAL
  go_wp2_with fail
  refine (TO.out _ B2.out).mono ?_
  rintro e W3 ⟨y, rfl, ky, _, sy, bb⟩
  have B3 := Vl.hide (B2.out.trans (bb.mono B2.out.size))
  have V3 := Vl.hide (V2.out.below bb sz2)
  have sz3 : w.heap.size < W3.heap.size := by have := bb.size; omega
  have SP := Vl.hide (Vo.specLivesA W3.heap.size y W3 (Nat.le_refl _) (ky W3 (Vl.Kept.refl _ _)) (sy.len L1.out))
  rw [EM2.out y sy, EL2.out y sy] at SP
  clear u0 u1 u2 u3 u4 bb sy ky
  obtain ⟨u0, u1, u2, u3, u4⟩ := V3.out
  go_wp2_with fail
  refine SP.out.mono ?_
  rintro e W4 ⟨wa, wc, rfl, l4, bb⟩
  have B4 := Vl.hide (B3.out.trans (bb.mono B3.out.size))
  have V4 := Vl.hide (V3.out.below bb sz3)
  have sz4 : w.heap.size < W4.heap.size := by have := bb.size; omega
  have L4 := Vl.hide l4
  clear u0 u1 u2 u3 u4 bb l4 SP
  obtain ⟨u0, u1, u2, u3, u4⟩ := V4.out
  go_wp2_with fail
  refine (TO.out _ B4.out).mono ?_
  rintro e W5 ⟨⟨sa1, sn1, sc1, SD1, ia1, i1, ic1, ID1, fa1, fn1, fc1, FF1, ka1, kn1, kc1, KK1, oa1, on1, oc1, OD1⟩, rfl, ky, shy, sy, bb⟩
  obtain ⟨M, hM⟩ : ∃ M : Vo.NV, M = ⟨sa1, sn1, sc1, SD1, ia1, i1, ic1, ID1, fa1, fn1, fc1, FF1, ka1, kn1, kc1, KK1, oa1, on1, oc1, OD1⟩ := ⟨_, rfl⟩
  rw [← hM] at ky shy sy
  have VM := Vl.hide (show Vo.NV.val M = .agg #[.slice sa1 sn1 sc1, .slice ia1 i1 ic1, .slice fa1 fn1 fc1, .slice ka1 kn1 kc1, .slice oa1 on1 oc1] by rw [hM]; rfl)
  clear hM
  dsimp only [Vo.NV.val]
  have B5 := Vl.hide (B4.out.trans (bb.mono B4.out.size))
  have B45 := Vl.hide bb
  have V5 := V4.out.below bb sz4
  have sz5 : w.heap.size < W5.heap.size := by have := bb.size; omega
  have SY := Vl.hide sy
  have KY := Vl.hide ky
  have SH := Vl.hide shy
  have LM1 := Vl.hide (sy.len L1.out)
  have nct := Vo.nct_le M
  have NM := Vl.hide (show (Vo.nct M : Int) ≤ 3145728 by
    have e1 : Vo.nsz M = Vo.nsz N := Vo.nsz_same SY.out
    have := NS.out
    omega)
  clear u0 u1 u2 u3 u4 bb sy ky shy nct
  obtain ⟨W6, hW6⟩ : ∃ W6, W5.alloc (.cells #[.slice sa1 sn1 sc1, .slice ia1 i1 ic1, .slice fa1 fn1 fc1, .slice ka1 kn1 kc1, .slice oa1 on1 oc1] 33) = W6 := ⟨_, rfl⟩
  have b6 : Below W5.heap.size W5 W6 := by rw [← hW6]; exact (Below.refl _ _).alloc (Nat.le_refl _) _
  have x6 := Vo.Cells5.new W5 (.slice sa1 sn1 sc1) (.slice ia1 i1 ic1) (.slice fa1 fn1 fc1) (.slice ka1 kn1 kc1) (.slice oa1 on1 oc1) 33
  rw [hW6] at x6
  have X6 := Vl.hide x6
  have sz6 : W5.heap.size < W6.heap.size := World.block_lt_of_cell? _ _ x6.1
  have B56 := Vl.hide b6
  have B6 := Vl.hide (B5.out.trans (b6.mono B5.out.size))
  have V6 := Vl.hide (V5.below b6 sz5)
  have IM := Vl.hide (Vo.implLives W6.heap.size M W6 (Nat.le_refl _) (KY.out W6 (Vl.Kept.of_below b6)) LM1.out)
  rw [EM2.out M SY.out, EL2.out M SY.out, VM.out] at IM
  clear b6 V5 x6
  obtain ⟨u0, u1, u2, u3, u4⟩ := V6.out
  obtain ⟨v0, v1, v2, v3, v4⟩ := X6.out
  go_wp2_with fail
  refine IM.out.mono ?_
  rintro e W7 ⟨g, gc, rfl, o7, bb⟩
  have B67 := Vl.hide bb
  have B7 := Vl.hide (B6.out.trans (bb.mono B6.out.size))
  have O7 := Vl.hide o7
  have B47 := Vl.hide (B45.out.trans ((B56.out.trans (bb.mono B56.out.size)).mono B45.out.size))
  have EQ := Vl.hide (fun (W : World) (hb : Below W7.heap.size W7 W) => Vo.eqLifeS W.heap.size (some ⟨g, 0, none⟩) wa m gc wc LV LV W (Nat.le_refl _) (O7.out.below hb).read ((L4.out.below (B47.out.trans (hb.mono B47.out.size))).mono (Nat.le_trans B47.out.size hb.size)) m1 (fun _ _ => rfl))
  have sz7 : W6.heap.size ≤ W7.heap.size := bb.size
  have glo : W6.heap.size ≤ g := o7.lo
  clear u0 u1 u2 u3 u4 v0 v1 v2 v3 v4 bb o7 IM hW6
  go_wp2_with fail
  refine (EQ.out W7 (Below.refl _ _)).mono ?_
  rintro e W8 ⟨rfl, bb⟩
  have B78 := Vl.hide bb
  have B68 := Vl.hide (B67.out.trans (bb.mono B67.out.size))
  have B8 := Vl.hide (B7.out.trans (bb.mono B7.out.size))
  have V8 := Vl.hide (V6.out.below B68.out (by omega))
  have X8 := Vl.hide (X6.out.below B68.out sz6)
  have B58 := Vl.hide (B56.out.trans (B68.out.mono B56.out.size))
  have sz8 : W7.heap.size ≤ W8.heap.size := bb.size
  clear bb EQ
  obtain ⟨u0, u1, u2, u3, u4⟩ := V8.out
  obtain ⟨v0, v1, v2, v3, v4⟩ := X8.out
  have HT := Vl.hide (fun (W : World) (hW : Below W8.heap.size W8 W) => TO.out W (B8.out.trans (hW.mono B8.out.size)))
  have HE := Vl.hide (fun (W : World) (hW : Below W8.heap.size W8 W) (z : Vo.NV) (rz : z.read W.heap.size W) (sz : Vo.NSame N z) => Vo.eqNest W.heap.size M z W (Nat.le_refl _) (KY.out W (Vl.Kept.of_below (B58.out.trans (hW.mono B58.out.size)))) rz LM1.out (Vo.neq_of (SY.out.both sz)))
  rw [VM.out] at HE
  go_wp2_with fail
  go_region_held3 (fun w' => (w'.cell? ⟨W5.heap.size, 0, none⟩ = some (.slice sa1 sn1 sc1) ∧ w'.cell? ⟨W5.heap.size, 1, none⟩ = some (.slice ia1 i1 ic1) ∧ w'.cell? ⟨W5.heap.size, 2, none⟩ = some (.slice fa1 fn1 fc1) ∧ w'.cell? ⟨W5.heap.size, 3, none⟩ = some (.slice ka1 kn1 kc1) ∧ w'.cell? ⟨W5.heap.size, 4, none⟩ = some (.slice oa1 on1 oc1)) ∧ w'.cell? ⟨w.heap.size, 0, none⟩ = some (.slice sa0 sn0 sc0) ∧ w'.cell? ⟨w.heap.size, 1, none⟩ = some (.slice ia0 i0 ic0) ∧ w'.cell? ⟨w.heap.size, 2, none⟩ = some (.slice fa0 fn0 fc0) ∧ w'.cell? ⟨w.heap.size, 3, none⟩ = some (.slice ka0 kn0 kc0) ∧ w'.cell? ⟨w.heap.size, 4, none⟩ = some (.slice oa0 on0 oc0))
    ((try dsimp only) <;> (repeat' apply And.intro) <;> (repeat (first | with_reducible assumption | with_reducible apply Vo.drew_old | (with_reducible apply Vo.below_old; (focus (with_reducible assumption))))))
    (first
      | (go_at_call 7
         refine (HT.out _ (by exact (Below.refl _ _).drew)).mono ?_
         rintro e wA ⟨z, rfl, kz, _, qz, bA⟩
         have rz := kz wA (Vl.Kept.refl _ _))
      | (go_at_call 10
         refine (HE.out _ (by exact (Below.refl _ W8).drew.trans bA) z rz qz).mono ?_
         rintro e W9 ⟨rfl, bB⟩))
  have b89 : Below W8.heap.size W8 W9 := ((Below.refl _ W8).drew.trans bA).trans (bB.mono (Nat.le_trans (Nat.le_refl _) bA.size))
  have B79 := Vl.hide (B78.out.trans (b89.mono B78.out.size))
  have B9 := Vl.hide (B8.out.trans (b89.mono B8.out.size))
  have X9 := Vl.hide (X8.out.below b89 (by omega))
  have B59 := Vl.hide (B58.out.trans (b89.mono B58.out.size))
  have O9 := Vl.hide (O7.out.below B79.out)
  have MK := Vl.hide (Vo.mkNest W4.heap.size W5.heap.size M 1 W9 (SH.out.mk (Vo.mk_below B59.out)) (Nat.le_trans B45.out.size B59.out.size) (by omega) (by have := NM.out; omega))
  rw [VM.out] at MK
  clear bA bB rz kz qz HT HE b89 u0 u1 u2 u3 u4 v0 v1 v2 v3 v4
  obtain ⟨v0, v1, v2, v3, v4⟩ := X9.out
  have B49 := Vl.hide (B45.out.trans (B59.out.mono B45.out.size))
  go_wp2_with fail
  refine MK.out.mono ?_
  rintro e W10 ⟨rfl, k10⟩
  have b10 : Below W4.heap.size W9 W10 := k10.below B49.out.size (fun q c => by have c : W4.heap.size ≤ q ∧ q < W5.heap.size := c; omega)
  have O10 := Vl.hide (O9.out.keptG k10 (by show ¬ (W4.heap.size ≤ g ∧ g < W5.heap.size); omega))
  have B4x := Vl.hide (B49.out.trans b10)
  have B10 := Vl.hide (B9.out.trans (b10.mono (Nat.le_of_lt sz4)))
  have dn : decide (1 + (Vo.nct M : Int) < 0) = false := by rw [decide_eq_false_iff_not]; omega
  have EQ := Vl.hide (Vo.eqLifeS W10.heap.size (some ⟨g, 0, none⟩) wa m gc wc LV LV W10 (Nat.le_refl _) O10.out.read ((L4.out.below B4x.out).mono B4x.out.size) m1 (fun _ _ => rfl))
  clear k10 b10 MK v0 v1 v2 v3 v4
  go_wp2_with fail
  refine EQ.out.mono ?_
  rintro e W11 ⟨rfl, bb⟩
  have B411 := Vl.hide (B4x.out.trans (bb.mono B4x.out.size))
  have B11 := Vl.hide (B10.out.trans (bb.mono B10.out.size))
  have O11 := Vl.hide (O10.out.below bb)
  have ML := Vl.hide (Vo.markLifeS W6.heap.size g m gc LV 1 W11 O11.out m1 (by omega) (by omega))
  clear bb EQ dn
  go_wp2_with fail
  refine ML.out.mono ?_
  rintro e W12 ⟨rfl, o12, k12⟩
  have O12 := Vl.hide o12
  have b12 : Below W6.heap.size W11 W12 := k12.below (by have := O11.out.lt; omega) (fun q c => by have c : q = g := c; omega)
  have le46 : W4.heap.size ≤ W6.heap.size := Nat.le_trans B45.out.size (Nat.le_of_lt sz6)
  have B412 := Vl.hide (B411.out.trans (b12.mono le46))
  have B12 := Vl.hide (B11.out.trans (b12.mono (Nat.le_trans (Nat.le_of_lt sz4) le46)))
  have V12 := Vl.hide (V4.out.below B412.out sz4)
  have HL := Vl.hide (Vo.heldLifeS W6.heap.size g m gc 1 W12 O12.out m1 (by omega) (by omega))
  have dm : decide (1 + 4 * (m : Int) < 0) = false := by rw [decide_eq_false_iff_not]; omega
  have nm : (1 + 4 * (m : Int) != 1 + 4 * (m : Int)) = false := by simp
  clear o12 k12 b12 ML
  go_wp2_with fail
  refine HL.out.mono ?_
  rintro e WX ⟨rfl, hWX⟩
  have hWX := hWX.symm
  subst hWX
  obtain ⟨u0, u1, u2, u3, u4⟩ := V12.out
  go_wp2_with fail
  refine (TO.out _ B12.out).mono ?_
  rintro e W13 ⟨z, rfl, kz, _, sz, bb⟩
  have B1213 := Vl.hide bb
  have B13 := Vl.hide (B12.out.trans (bb.mono B12.out.size))
  have IM := Vl.hide (Vo.implLives W13.heap.size z W13 (Nat.le_refl _) (kz W13 (Vl.Kept.refl _ _)) (sz.len L1.out))
  rw [EM2.out z sz, EL2.out z sz] at IM
  clear u0 u1 u2 u3 u4 bb kz sz HL
  go_wp2_with fail
  refine IM.out.mono ?_
  rintro e W14 ⟨g2, gc2, rfl, o14, bb⟩
  have B1214 := Vl.hide (B1213.out.trans (bb.mono B1213.out.size))
  have B14 := Vl.hide (B13.out.trans (bb.mono B13.out.size))
  have B414 := Vl.hide (B412.out.trans (B1214.out.mono B412.out.size))
  have EQ := Vl.hide (Vo.eqLifeS W14.heap.size (some ⟨g2, 0, none⟩) wa m gc2 wc LV LV W14 (Nat.le_refl _) o14.read ((L4.out.below B414.out).mono B414.out.size) m1 (fun _ _ => rfl))
  clear bb o14 IM
  go_wp2_with fail
  refine EQ.out.mono ?_
  rintro e W15 ⟨rfl, bb⟩
  have B15 := Vl.hide (B14.out.trans (bb.mono B14.out.size))
  have O15 := Vl.hide (O12.out.below (B1214.out.trans (bb.mono B1214.out.size)))
  have HL := Vl.hide (Vo.heldLifeS W6.heap.size g m gc 1 W15 O15.out m1 (by omega) (by omega))
  clear bb EQ
  go_wp2_with fail
  refine HL.out.mono ?_
  rintro e WX ⟨rfl, hWX⟩
  have hWX := hWX.symm
  subst hWX
  go_wp2_with fail
  go_ret
  exact ⟨rfl, B15.out⟩

set_option maxRecDepth 100000 in
theorem lifted (os : Os) (started : os.Started) (H : Type) (enc : TypeId × Value → H) :
    ReturnsInHanded {} Try.checked os 3 .any (Rows.fnExactLivesSpec.pre6 enc Try.prog Try.f3 Rows.fnExactLivesRow.domain false) (Rows.fnExactLivesSpec.post enc Try.prog Try.f3 false true false false) := by
  refine returnsInHanded_of_change (C := Try.checked) own started (by kernel_rfl) Try.func3
    (ChangeSpec.witness6 (enc := enc) (C := Try.checked) false ⟨#[], #[.agg #[.slice none 0 0, .slice none 0 0, .slice none 0 0, .slice none 0 0, .slice none 0 0]], []⟩ 8 (by kernel_rfl) (by kernel_rfl) (by kernel_rfl) (by kernel_rfl)) ?_
  intro W base args ds gs before hval0 hW hcnd _
  have hval : ∀ (j : Nat) t v, Try.f3.params[j]? = some t → args[j]? = some v → Value.okWide Try.prog W .any base t v := hval0
  have hW' := hW
  obtain ⟨p, q, hA0, hV, rfl, hfz, hnd⟩ := hW
  have hA : DataW.TrodAll enc Try.prog W 0 (fun _ => true) true Try.f3.params.toList args.toList ds p := hA0
  rw [Try.params3] at hA hval
  obtain ⟨v0, vs0, d0, ds0, p0, q0, hargs, rfl, rfl, h0, rst0⟩ := trodAll_cons hA
  obtain ⟨rfl, rfl, rfl⟩ := trodAll_nil rst0
  obtain rfl : args = #[v0] := by cases args; simp_all
  obtain ⟨rfl, rfl⟩ := trodVars_none hV
  have k0 := h0
  have lt0 : ∀ x ∈ p0, x.block < W.heap.size := by obtain ⟨m, hm⟩ := k0; exact DataW.trod_lt m _ _ _ hm
  obtain ⟨x0, rfl, w0⟩ := Vo.argN_at (hval 0 26 v0 rfl rfl) h0
  clear hA0 hval0
  refine (walk x0 W w0).mono fun e W' ⟨he, bel⟩ => ?_
  subst he
  exact ⟨_, rfl, _, _, _, [], _, [], hW', trodAll_mk1 (shut_bool Try.underlying4 _), (trodAll_cons_mk (Below.trod laidOut (by kernel_rfl) (of_decide_eq_true (by kernel_rfl)) k0 bel lt0) trodAll_mk0), rfl, bel.frame _, fun h => by cases h⟩

theorem over : Rows.fnExactLivesRow.holds Try.pinned (OpenSpec.ofChange Rows.fnExactLivesSpec) :=
  OpenClaim.holds_of_wide 3 Try.f3 rfl rfl rfl rfl rfl rfl rfl ⟨rfl, rfl, rfl, rfl, rfl⟩ rfl rfl rfl rfl rfl (by kernel_rfl) Try.func3 (by kernel_rfl)
    (of_decide_eq_true (by kernel_rfl)) (by unfold Func.isWrapper; first | (rw [if_pos (by decide +kernel)]; kernel_rfl) | (rw [if_neg (by decide +kernel)]; exact ⟨rfl, rfl⟩))
    (fun os started H enc _ => lifted os started H enc)

theorem proved : Rows.FnExactLivesSaid := over
#print axioms proved
end Go.Proofs.Ytgmjijjckedmcaa.fnExactLives
