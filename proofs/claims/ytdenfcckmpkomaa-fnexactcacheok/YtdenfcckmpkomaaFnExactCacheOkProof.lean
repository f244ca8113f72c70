/-
  Proved: whatever the arguments, 'FnExactCacheOk' returns true: the landed function answers as its model, and what came in reads as it did. No condition.
-/
import Derived.Test.YtdenfcckmpkomaaRows
import Derived.Test.YtdenfcckmpkomaaVl
import Derived.Test.YtdenfcckmpkomaaVp
import Derived.Test.YtdenfcckmpkomaaVs
import Derived.Test.YtdenfcckmpkomaaVq
import Derived.Test.YtdenfcckmpkomaaVo
import Derived.Test.YtdenfcckmpkomaaVm
import Derived.Test.YtdenfcckmpkomaaVn
import Derived.Test.YtdenfcckmpkomaaVt
import Derived.Test.YtdenfcckmpkomaaVv
import Derived.Test.YtdenfcckmpkomaaTa
import Derived.Test.YtdenfcckmpkomaaTb
import Derived.Test.YtdenfcckmpkomaaLza
import Derived.Test.YtdenfcckmpkomaaLzb
import Derived.Test.YtdenfcckmpkomaaLzc
import Derived.Test.YtdenfcckmpkomaaLzd
import Derived.Test.YtdenfcckmpkomaaLze
import Derived.Test.YtdenfcckmpkomaaLzf
import Derived.WalkKit
import Derived.ProofKit
import Derived.OpenShut
import Derived.ShutString
import Derived.ChangeOld
import Derived.Below
import Derived.Lib.SmallJoins
import Derived.OpenVars
import Derived.ChangeVars
import Derived.Deep.RegionHeld3
namespace Go.Proofs.Ytdenfcckmpkomaa.fnExactCacheOk
open Go.ChangeShapes Go.WideShapes Go.ChangeAt Go.RowKit Go.Joins
open Go.ChangeMaps (open_string shut_string)
set_option linter.unusedVariables false

theorem own : ownKnob Try.prog.godebug = none := by kernel_rfl
theorem laidOut : laidOutB Try.prog = true := by kernel_rfl

theorem walk (a0 : Option Addr) (r0 cap0 : Nat) (b0 : Option Addr) (s0 dap0 : Nat) (w : World) (w0 : Vo.Arg2 w a0 r0) (y0 : Vo.Arg2 w b0 s0) :
    Calls Try.prog 7 #[.agg #[.slice a0 r0 cap0, .slice b0 s0 dap0]] w fun e w' => e = .returned (.bool true) ∧ Below w.heap.size w w' := by
  obtain ⟨hr0, L0, hh0, hl0⟩ := w0
  obtain ⟨hs0, M0, hk0, hm0⟩ := y0
  have H0 := Vl.hide hh0
  have K0 := Vl.hide hk0
  have HL := Vl.hide hl0
  have HM := Vl.hide hm0
  clear hh0 hk0 hl0 hm0
  have bb := (Below.refl w.heap.size w).alloc (Nat.le_refl _) (.cells #[.slice a0 r0 cap0, .slice b0 s0 dap0] 44)
  have x1 := Vo.bx_new w (.slice a0 r0 cap0) (.slice b0 s0 dap0) 44
  have B1 := Vl.hide bb
  have V1 := Vl.hide x1
  clear bb
  obtain ⟨u0, u1⟩ := x1
  go_enter Try.func7, Try.ntmps7
  go_wp2_with fail
  refine (Vo.szCache w.heap.size a0 b0 r0 s0 cap0 dap0 L0 M0 1048576 _ B1.out.size (H0.out.below B1.out) (K0.out.below B1.out) hr0 hs0 HL.out HM.out (by omega) (by omega)).mono ?_
  rintro e W2 ⟨x0, rfl, hx0, bb⟩
  have B2 := Vl.hide (B1.out.trans (bb.mono B1.out.size))
  have V2 := Vl.hide (V1.out.below bb (by simp))
  have sz2 : w.heap.size < W2.heap.size := by have := bb.size; simp at this; omega
  clear u0 u1 bb
  obtain ⟨u0, u1⟩ := V2.out
  by_cases hn0 : x0 < 0
  · clear hx0
    go_wp2_with fail
    go_ret
    exact ⟨rfl, B2.out⟩
  have hm0 : decide (x0 < 0) = false := by rw [decide_eq_false_iff_not]; exact hn0
  obtain ⟨lr0, lL, ls0, lM⟩ := hx0 (by omega)
  have NL := Vl.hide (Vo.llen_of lL)
  have NM := Vl.hide (Vo.llen_of lM)
  clear hn0 hx0 hr0 hs0 lL lM
  go_wp2_with fail
  refine (Vo.toCache w.heap.size a0 b0 r0 s0 cap0 dap0 L0 M0 _ B2.out.size (H0.out.below B2.out) (K0.out.below B2.out) lr0 ls0 NL.out NM.out).mono ?_
  rintro e W3 ⟨ga, gb, L1, M1, rfl, q1, q2, p1, p2, bb⟩
  have B3 := Vl.hide (B2.out.trans (bb.mono B2.out.size))
  have V3 := Vl.hide (V2.out.below bb sz2)
  have sz3 : w.heap.size < W3.heap.size := by have := bb.size; omega
  have Q1 := Vl.hide q1
  have Q2 := Vl.hide q2
  have P1 := Vl.hide p1
  have P2 := Vl.hide p2
  clear u0 u1 bb q1 q2 p1 p2
  obtain ⟨u0, u1⟩ := V3.out
  go_wp2_with fail
  refine (Vo.specCacheOk _ ga gb r0 s0 r0 s0 L1 M1 _ (Nat.le_refl _) Q1.out Q2.out lr0 ls0 (NL.out.same P1.out) (NM.out.same P2.out)).mono ?_
  rintro e W4 ⟨rfl, bb⟩
  rw [Vo.cacheB_same P1.out P2.out]
  have B4 := Vl.hide (B3.out.trans (bb.mono B3.out.size))
  have V4 := Vl.hide (V3.out.below bb sz3)
  have sz4 : w.heap.size < W4.heap.size := by have := bb.size; omega
  clear u0 u1 bb Q1 Q2 P1 P2
  obtain ⟨u0, u1⟩ := V4.out
  go_wp2_with fail
  refine (Vo.toCache w.heap.size a0 b0 r0 s0 cap0 dap0 L0 M0 _ B4.out.size (H0.out.below B4.out) (K0.out.below B4.out) lr0 ls0 NL.out NM.out).mono ?_
  rintro e W5 ⟨gx, gy, L2, M2, rfl, q1, q2, p1, p2, bb⟩
  have B5 := Vl.hide (B4.out.trans (bb.mono B4.out.size))
  have V5 := V4.out.below bb sz4
  have sz5 : w.heap.size < W5.heap.size := by have := bb.size; omega
  have P1 := Vl.hide p1
  have P2 := Vl.hide p2
  clear u0 u1 bb p1 p2
  have bb := (Below.refl W5.heap.size W5).alloc (Nat.le_refl _) (.cells #[.slice gx r0 r0, .slice gy s0 s0] 47)
  have X6 := Vl.hide (Vo.bx_new W5 (.slice gx r0 r0) (.slice gy s0 s0) 47)
  have B6 := Vl.hide (B5.out.trans (bb.mono B5.out.size))
  have V6 := Vl.hide (V5.below bb sz5)
  have Q1 := Vl.hide (q1.below bb)
  have Q2 := Vl.hide (q2.below bb)
  clear q1 q2 bb V5
  obtain ⟨u0, u1⟩ := V6.out
  obtain ⟨v0, v1⟩ := X6.out
  go_wp2_with fail
  refine (Vo.cacheOk W5.heap.size gx gy r0 s0 r0 s0 L2 M2 _ (by simp) Q1.out Q2.out lr0 ls0 (NL.out.same P1.out) (NM.out.same P2.out)).mono ?_
  rintro e W7 ⟨rfl, bb⟩
  rw [Vo.cacheB_same P1.out P2.out]
  have sz6 : W5.heap.size < W7.heap.size := by have := bb.size; simp at this; omega
  have B7 := Vl.hide (B6.out.trans (bb.mono B6.out.size))
  have V7 := Vl.hide (V6.out.below bb (by simp; omega))
  have X7 := Vl.hide (X6.out.below bb (by simp))
  have Q3 := Vl.hide (Q1.out.below (bb.mono (by simp)))
  have Q4 := Vl.hide (Q2.out.below (bb.mono (by simp)))
  clear u0 u1 v0 v1 bb Q1 Q2
  obtain ⟨u0, u1⟩ := V7.out
  obtain ⟨v0, v1⟩ := X7.out
  have HT := Vl.hide (fun (W : World) (hW : Below W7.heap.size W7 W) => Vo.toCache w.heap.size a0 b0 r0 s0 cap0 dap0 L0 M0 W (Nat.le_trans B7.out.size hW.size) (H0.out.below (B7.out.trans (hW.mono B7.out.size))) (K0.out.below (B7.out.trans (hW.mono B7.out.size))) lr0 ls0 NL.out NM.out)
  have HE := Vl.hide (fun (W : World) (hW : Below W7.heap.size W7 W) (g5 g6 : Option Addr) (L3 M3 : Nat → Vo.LV) (q : Vo.LL W.heap.size W g5 r0 L3) (q' : Vo.LL W.heap.size W g6 s0 M3) (p : Vo.LSame r0 L0 L3) (p' : Vo.LSame s0 M0 M3) => Vo.eqCache W.heap.size gx gy g5 g6 r0 s0 r0 s0 r0 s0 L2 M2 L3 M3 W (Nat.le_refl _) ((Q3.out.below (hW.mono (Nat.le_of_lt sz6))).mono (Nat.le_trans (Nat.le_of_lt sz6) hW.size)) ((Q4.out.below (hW.mono (Nat.le_of_lt sz6))).mono (Nat.le_trans (Nat.le_of_lt sz6) hW.size)) q q' (Vo.LSame.both P1.out p) (Vo.LSame.both P2.out p') lr0 ls0 (NL.out.same P1.out) (NM.out.same P2.out))
  go_wp2_with fail
  go_region_held3 (fun w' => w'.cell? ⟨W5.heap.size, 0, none⟩ = some (.slice gx r0 r0) ∧ w'.cell? ⟨W5.heap.size, 1, none⟩ = some (.slice gy s0 s0) ∧ w'.cell? ⟨w.heap.size, 0, none⟩ = some (.slice a0 r0 cap0) ∧ w'.cell? ⟨w.heap.size, 1, none⟩ = some (.slice b0 s0 dap0))
    ((try dsimp only) <;> (repeat' apply And.intro) <;> (repeat (first | with_reducible assumption | with_reducible apply Vo.drew_old | (with_reducible apply Vo.below_old; (focus (with_reducible assumption))))))
    (first
      | (go_at_call 28
         refine (HT.out _ (by exact (Below.refl _ _).drew)).mono ?_
         rintro e wA ⟨g5, g6, L3, M3, rfl, qA, qB, pA, pB, bA⟩)
      | (go_at_call 30
         refine (HE.out _ (by exact (Below.refl _ W7).drew.trans bA) g5 g6 L3 M3 qA qB pA pB).mono ?_
         rintro e wB8 ⟨rfl, bB⟩))
  have bb : Below W7.heap.size W7 wB8 := ((Below.refl _ W7).drew.trans bA).trans (bB.mono (Nat.le_trans (Nat.le_refl _) bA.size))
  have B8 := Vl.hide (B7.out.trans (bb.mono B7.out.size))
  clear bA bB qA qB pA pB HT HE bb
  go_wp2_with fail
  go_ret
  exact ⟨rfl, B8.out⟩

set_option maxRecDepth 100000 in
theorem lifted (os : Os) (started : os.Started) (H : Type) (enc : TypeId × Value → H) :
    ReturnsInHanded {} Try.checked os 7 .any (Rows.fnExactCacheOkSpec.pre6 enc Try.prog Try.f7 Rows.fnExactCacheOkRow.domain false) (Rows.fnExactCacheOkSpec.post enc Try.prog Try.f7 false true false false) := by
  refine returnsInHanded_of_change (C := Try.checked) own started (by kernel_rfl) Try.func7
    (ChangeSpec.witness6 (enc := enc) (C := Try.checked) false ⟨#[], #[.agg #[.slice none 0 0, .slice none 0 0]], []⟩ 8 (by kernel_rfl) (by kernel_rfl) (by kernel_rfl) (by kernel_rfl)) ?_
  intro W base args ds gs before hval0 hW hcnd _
  have hval : ∀ (j : Nat) t v, Try.f7.params[j]? = some t → args[j]? = some v → Value.okWide Try.prog W .any base t v := hval0
  have hW' := hW
  obtain ⟨p, q, hA0, hV, rfl, hfz, hnd⟩ := hW
  have hA : DataW.TrodAll enc Try.prog W 0 (fun _ => true) true Try.f7.params.toList args.toList ds p := hA0
  rw [Try.params7] at hA hval
  obtain ⟨v0, vs0, d0, ds0, p0, q0, hargs, rfl, rfl, h0, rst0⟩ := trodAll_cons hA
  obtain ⟨rfl, rfl, rfl⟩ := trodAll_nil rst0
  obtain rfl : args = #[v0] := by cases args; simp_all
  obtain ⟨rfl, rfl⟩ := trodVars_none hV
  have k0 := h0
  have lt0 : ∀ x ∈ p0, x.block < W.heap.size := by obtain ⟨m, hm⟩ := k0; exact DataW.trod_lt m _ _ _ hm
  obtain ⟨c00, c01, u00, u01, m0, rfl, _, _, hy00, hy01⟩ := open_agg2 Try.underlying44 (by kernel_rfl) (by kernel_rfl) (hval 0 44 v0 rfl rfl) h0
  obtain ⟨a0, r0, cap0, rfl, w0⟩ := Vo.arg2_of hy00
  obtain ⟨b0, s0, dap0, rfl, y0⟩ := Vo.arg2_of hy01
  clear hA0 hval0
  refine (walk a0 r0 cap0 b0 s0 dap0 W w0 y0).mono fun e W' ⟨he, bel⟩ => ?_
  subst he
  exact ⟨_, rfl, _, _, _, [], _, [], hW', trodAll_mk1 (shut_bool Try.underlying4 _), (trodAll_cons_mk (Below.trod laidOut (by kernel_rfl) (of_decide_eq_true (by kernel_rfl)) k0 bel lt0) trodAll_mk0), rfl, bel.frame _, fun h => by cases h⟩

theorem over : Rows.fnExactCacheOkRow.holds Try.pinned (OpenSpec.ofChange Rows.fnExactCacheOkSpec) :=
  OpenClaim.holds_of_wide 7 Try.f7 rfl rfl rfl rfl rfl rfl rfl ⟨rfl, rfl, rfl, rfl, rfl⟩ rfl rfl rfl rfl rfl (by kernel_rfl) Try.func7 (by kernel_rfl)
    (of_decide_eq_true (by kernel_rfl)) (by unfold Func.isWrapper; first | (rw [if_pos (by decide +kernel)]; kernel_rfl) | (rw [if_neg (by decide +kernel)]; exact ⟨rfl, rfl⟩))
    (fun os started H enc _ => lifted os started H enc)

theorem proved : Rows.FnExactCacheOkSaid := over
#print axioms proved
end Go.Proofs.Ytdenfcckmpkomaa.fnExactCacheOk
