/-
  Proved: whatever the arguments, 'FnExactRound' returns true: the landed function answers as its model, and what came in reads as it did. No condition.
-/
import Derived.Test.YtcnopdonnjemmabRows
import Derived.Test.YtcnopdonnjemmabVl
import Derived.Test.YtcnopdonnjemmabVp
import Derived.Test.YtcnopdonnjemmabVs
import Derived.Test.YtcnopdonnjemmabVq
import Derived.Test.YtcnopdonnjemmabVo
import Derived.Test.YtcnopdonnjemmabVv
import Derived.Test.YtcnopdonnjemmabLza
import Derived.Test.YtcnopdonnjemmabIa
import Derived.Test.YtcnopdonnjemmabNea
import Derived.Test.YtcnopdonnjemmabIb
import Derived.Test.YtcnopdonnjemmabIc
import Derived.Test.YtcnopdonnjemmabIe
import Derived.Test.YtcnopdonnjemmabWg
import Derived.Test.YtcnopdonnjemmabVm
import Derived.Test.YtcnopdonnjemmabVn
import Derived.Test.YtcnopdonnjemmabVc
import Derived.Test.YtcnopdonnjemmabWn
import Derived.Test.YtcnopdonnjemmabWq
import Derived.Test.YtcnopdonnjemmabWr
import Derived.WalkKit
import Derived.ProofKit
import Derived.OpenShut
import Derived.ShutString
import Derived.ChangeOld
import Derived.Below
import Derived.Lib.SmallJoins
import Derived.OpenVars
import Derived.ChangeVars
import Derived.Deep.RegionHeld3
namespace Go.Proofs.Ytcnopdonnjemmab.fnExactRound
open Go.ChangeShapes Go.WideShapes Go.ChangeAt Go.RowKit Go.Joins
open Go.ChangeMaps (open_string shut_string)
set_option linter.unusedVariables false

theorem own : ownKnob Try.prog.godebug = none := by kernel_rfl
theorem laidOut : laidOutB Try.prog = true := by kernel_rfl

theorem walk (a0 : Option Addr) (r0 cap0 : Nat) (w : World) (w0 : Vo.Arg2 w a0 r0) :
    Calls Try.prog 4 #[.slice a0 r0 cap0] w fun e w' => e = .returned (.bool true) ∧ Below w.heap.size w w' := by
  obtain ⟨hr0, L, h0, hl0⟩ := w0
  have H := Vl.hide h0
  have HL := Vl.hide hl0
  clear h0 hl0
  obtain ⟨W0, hW⟩ : ∃ W0, W0 = w := ⟨_, rfl⟩
  rw [← hW] at H ⊢
  clear hW
  have BW := Vl.hide (Below.refl W0.heap.size W0)
  go_enter Try.func4, Try.ntmps4
  go_wp2_with fail
  refine (Vo.szIntSS W0.heap.size a0 r0 cap0 L 1048576 W0 (Nat.le_refl _) H.out hr0 HL.out (by omega) (by omega)).mono ?_
  rintro e W1 ⟨x, rfl, hx, hq⟩; have hq := hq.symm; subst hq
  by_cases hn0 : x < 0
  · clear hx
    go_wp2_with fail
    go_ret
    exact ⟨rfl, BW.out⟩
  have hm0 : decide (x < 0) = false := by rw [decide_eq_false_iff_not]; exact hn0
  obtain ⟨-, lr, ls⟩ := hx (by omega)
  have NL := Vl.hide (Vo.llen_of ls)
  obtain ⟨m, m4, hs, hi⟩ := Wj.roundBoth r0 L (by omega) (by omega)
  have HS := Vl.hide hs
  have HI := Vl.hide hi
  have ln : (m : Int) ≤ 1048576 := by omega
  have SL := Vl.hide (show (Vo.lsum L r0 : Int) ≤ 1048576 from ls)
  clear hx hn0 hs hi hr0 ls m4
  go_wp2_with fail
  clear hm0
  refine (Vo.toIntSS W0.heap.size a0 r0 cap0 L _ BW.out.size (H.out.below BW.out) lr NL.out).mono ?_
  rintro e W1 ⟨M1, rfl, q1, p1, bb⟩
  have C1 := Vl.hide (q1.read)
  have P1 := Vl.hide p1
  replace BW := Vl.hide (BW.out.trans (bb.mono BW.out.size))
  clear q1 p1 bb
  go_wp2_with fail
  refine (HS.out _ _ M1 _ C1.out P1.out).mono ?_
  rintro e W2 ⟨Sa, Sc, rfl, q, bb⟩
  have QS := Vl.hide q
  have US := Vl.hide (fun b (hb : Vl.Blk Sa m b) => (q.blk hb).2)
  replace BW := Vl.hide (BW.out.trans (bb.mono BW.out.size))
  clear q bb C1 P1
  go_wp2_with fail
  refine (Vo.toIntSS W0.heap.size a0 r0 cap0 L _ BW.out.size (H.out.below BW.out) lr NL.out).mono ?_
  rintro e W3 ⟨MX, rfl, q3, p3, bb⟩
  have RX := Vl.hide (show Vo.RowsO W2.heap.size W3.heap.size W3 (some ⟨W2.heap.size, 0, none⟩) r0 MX from .inr ⟨_, rfl, Nat.le_refl _, q3.lt, q3, fun i hi b hb => ((q3.own i hi).blk hb).2⟩)
  have SZ := Vl.hide (show W2.heap.size ≤ W3.heap.size from bb.size)
  have SZ0 := Vl.hide (show W0.heap.size ≤ W2.heap.size from BW.out.size)
  have PX := Vl.hide p3
  have NX := Vl.hide (show Vo.LLen r0 MX 1048576 from fun i hi => by rw [(PX.out i hi).1]; exact NL.out i hi)
  have SX := Vl.hide (show (Vo.lsum MX r0 : Int) ≤ 33554432 by rw [Wj.lsum_same PX.out r0 (Nat.le_refl _)]; have := SL.out; omega)
  replace QS := Vl.hide (QS.out.below bb)
  replace BW := Vl.hide (BW.out.trans (bb.mono BW.out.size))
  clear q3 p3 bb
  go_wp2_with fail
  refine (HI.out _ _ MX _ RX.out.read PX.out).mono ?_
  rintro e W4 ⟨Ga, Gc, rfl, q, bb⟩
  have QG := Vl.hide q
  have UG := Vl.hide (fun b (hb : Vl.Blk Ga m b) => (q.blk hb).1)
  replace QS := Vl.hide (QS.out.below bb)
  replace RX := Vl.hide (RX.out.below bb)
  replace BW := Vl.hide (BW.out.trans (bb.mono BW.out.size))
  clear q bb
  go_wp2_with fail
  refine (Vl.eqIntS _ _ _ m Gc Sc (Wj.rdG r0 L) (Wj.rdG r0 L) _ QG.out.ints QS.out.ints (fun _ _ => rfl) ln).mono ?_
  rintro e W5 ⟨rfl, bb⟩
  replace QG := Vl.hide (QG.out.below bb)
  replace QS := Vl.hide (QS.out.below bb)
  replace RX := Vl.hide (RX.out.below bb)
  replace BW := Vl.hide (BW.out.trans (bb.mono BW.out.size))
  clear bb
  go_wp2_with fail
  refine (Vo.toIntSS W0.heap.size a0 r0 cap0 L _ BW.out.size (H.out.below BW.out) lr NL.out).mono ?_
  rintro e W6 ⟨MY, rfl, q3, p3, bb⟩
  have CY := Vl.hide (q3.read)
  have PY := Vl.hide p3
  replace QG := Vl.hide (QG.out.below bb)
  replace QS := Vl.hide (QS.out.below bb)
  replace RX := Vl.hide (RX.out.below bb)
  replace BW := Vl.hide (BW.out.trans (bb.mono BW.out.size))
  clear q3 p3 bb
  go_wp2_with fail
  refine (Vo.eqIntSS _ _ _ r0 _ _ MX MY _ (Nat.le_refl _) RX.out.read CY.out lr NX.out (fun i hi => ⟨by rw [(PX.out i hi).1, (PY.out i hi).1], fun j hj => by rw [(PX.out i hi).2, (PY.out i hi).2]⟩)).mono ?_
  rintro e W7 ⟨rfl, bb⟩
  replace QG := Vl.hide (QG.out.below bb)
  replace QS := Vl.hide (QS.out.below bb)
  replace RX := Vl.hide (RX.out.below bb)
  replace BW := Vl.hide (BW.out.trans (bb.mono BW.out.size))
  clear bb CY PY
  go_wp2_with fail
  refine (Vo.markIntSS W2.heap.size W3.heap.size _ r0 _ MX 1 _ RX.out NX.out SX.out lr (by omega) (by omega)).mono ?_
  rintro e W8 ⟨rfl, -, bb⟩
  replace QG := Vl.hide (QG.out.kept bb (fun b hb hq => by have := UG.out b hb; omega))
  replace QS := Vl.hide (QS.out.kept bb (fun b hb hq => by have := US.out b hb; omega))
  replace BW := Vl.hide (BW.out.trans (Vl.Kept.below bb BW.out.size (fun k hk => by have := SZ0.out; omega)))
  clear bb RX NX PX
  obtain ⟨sx, hsx⟩ : ∃ sx : Nat, Vo.lsum MX r0 = sx := ⟨_, rfl⟩
  rw [hsx] at SX ⊢
  have sx1 : (sx : Int) ≤ 33554432 := SX.out
  have neg1 : decide ((1 : Int) + (sx : Int) < 0) = false := by rw [decide_eq_false_iff_not]; omega
  clear hsx SX
  go_wp2_with fail
  refine (Vl.eqIntS _ _ _ m Gc Sc (Wj.rdG r0 L) (Wj.rdG r0 L) _ QG.out.ints QS.out.ints (fun _ _ => rfl) ln).mono ?_
  rintro e W9 ⟨rfl, bb⟩
  replace QG := Vl.hide (QG.out.below bb)
  replace QS := Vl.hide (QS.out.below bb)
  replace BW := Vl.hide (BW.out.trans (bb.mono BW.out.size))
  clear bb neg1 sx1
  go_wp2_with fail
  refine (Vl.markIntS _ _ m Gc (Wj.rdG r0 L) 1 _ QG.out ln (by omega) (by omega)).mono ?_
  rintro e W10 ⟨rfl, qs, bb⟩
  have szG := Vl.hide (show W2.heap.size ≤ W3.heap.size from SZ.out)
  replace QS := Vl.hide (QS.out.kept bb (fun b hb hq => by have := US.out b hb; have := UG.out b hq; have := szG.out; omega))
  replace BW := Vl.hide (BW.out.trans (Vl.Kept.below bb BW.out.size (fun k hk => by have := UG.out k hk; have := szG.out; have := SZ0.out; omega)))
  replace QG := Vl.hide qs
  clear qs bb
  have negG : decide ((1 : Int) + (m : Nat) < 0) = false := by rw [decide_eq_false_iff_not]; omega
  go_wp2_with fail
  refine (Vl.heldIntS _ _ m _ 1 _ QG.out.ints ln (by omega) (by omega)).mono ?_
  rintro e w' ⟨rfl, hq⟩; have hq := hq.symm; subst hq
  go_wp2_with fail
  refine (Vo.toIntSS W0.heap.size a0 r0 cap0 L _ BW.out.size (H.out.below BW.out) lr NL.out).mono ?_
  rintro e W11 ⟨MZ, rfl, q3, p3, bb⟩
  have CZ := Vl.hide (q3.read)
  have PZ := Vl.hide p3
  replace QG := Vl.hide (QG.out.below bb)
  replace QS := Vl.hide (QS.out.below bb)
  replace BW := Vl.hide (BW.out.trans (bb.mono BW.out.size))
  clear q3 p3 bb
  go_wp2_with fail
  refine (HI.out _ _ MZ _ CZ.out PZ.out).mono ?_
  rintro e W12 ⟨Ha, Hc, rfl, q, bb⟩
  have QH := Vl.hide q
  replace QG := Vl.hide (QG.out.below bb)
  replace QS := Vl.hide (QS.out.below bb)
  replace BW := Vl.hide (BW.out.trans (bb.mono BW.out.size))
  clear q bb CZ PZ
  go_wp2_with fail
  refine (Vl.eqIntS _ _ _ m Hc Sc (Wj.rdG r0 L) (Wj.rdG r0 L) _ QH.out.ints QS.out.ints (fun _ _ => rfl) ln).mono ?_
  rintro e W13 ⟨rfl, bb⟩
  replace QG := Vl.hide (QG.out.below bb)
  replace BW := Vl.hide (BW.out.trans (bb.mono BW.out.size))
  clear bb
  go_wp2_with fail
  refine (Vl.heldIntS _ _ m _ 1 _ QG.out.ints ln (by omega) (by omega)).mono ?_
  rintro e w' ⟨rfl, hq⟩; have hq := hq.symm; subst hq
  go_wp2_with fail
  go_ret
  exact ⟨rfl, BW.out⟩

set_option maxRecDepth 100000 in
theorem lifted (os : Os) (started : os.Started) (H : Type) (enc : TypeId × Value → H) :
    ReturnsInHanded {} Try.checked os 4 .any (Rows.fnExactRoundSpec.pre6 enc Try.prog Try.f4 Rows.fnExactRoundRow.domain false) (Rows.fnExactRoundSpec.post enc Try.prog Try.f4 false true false false) := by
  refine returnsInHanded_of_change (C := Try.checked) own started (by kernel_rfl) Try.func4
    (ChangeSpec.witness6 (enc := enc) (C := Try.checked) false ⟨#[], #[.slice none 0 0], []⟩ 8 (by kernel_rfl) (by kernel_rfl) (by kernel_rfl) (by kernel_rfl)) ?_
  intro W base args ds gs before hval0 hW hcnd _
  have hval : ∀ (j : Nat) t v, Try.f4.params[j]? = some t → args[j]? = some v → Value.okWide Try.prog W .any base t v := hval0
  have hW' := hW
  obtain ⟨p, q, hA0, hV, rfl, hfz, hnd⟩ := hW
  have hA : DataW.TrodAll enc Try.prog W 0 (fun _ => true) true Try.f4.params.toList args.toList ds p := hA0
  rw [Try.params4] at hA hval
  obtain ⟨v0, vs0, d0, ds0, p0, q0, hargs, rfl, rfl, h0, rst0⟩ := trodAll_cons hA
  obtain ⟨rfl, rfl, rfl⟩ := trodAll_nil rst0
  obtain rfl : args = #[v0] := by cases args; simp_all
  obtain ⟨rfl, rfl⟩ := trodVars_none hV
  have k0 := h0
  have lt0 : ∀ x ∈ p0, x.block < W.heap.size := by obtain ⟨m, hm⟩ := k0; exact DataW.trod_lt m _ _ _ hm
  obtain ⟨a0, r0, cap0, rfl⟩ := okWide_slice Try.underlying30 (hval 0 30 v0 rfl rfl)
  have w0 : Vo.Arg2 W a0 r0 := Vo.arg2_at h0
  clear hA0 hval0
  refine (walk a0 r0 cap0 W w0).mono fun e W' ⟨he, bel⟩ => ?_
  subst he
  exact ⟨_, rfl, _, _, _, [], _, [], hW', trodAll_mk1 (shut_bool Try.underlying4 _), (trodAll_cons_mk (Below.trod laidOut (by kernel_rfl) (of_decide_eq_true (by kernel_rfl)) k0 bel lt0) trodAll_mk0), rfl, bel.frame _, fun h => by cases h⟩

theorem over : Rows.fnExactRoundRow.holds Try.pinned (OpenSpec.ofChange Rows.fnExactRoundSpec) :=
  OpenClaim.holds_of_wide 4 Try.f4 rfl rfl rfl rfl rfl rfl rfl ⟨rfl, rfl, rfl, rfl, rfl⟩ rfl rfl rfl rfl rfl (by kernel_rfl) Try.func4 (by kernel_rfl)
    (of_decide_eq_true (by kernel_rfl)) (by unfold Func.isWrapper; first | (rw [if_pos (by decide +kernel)]; kernel_rfl) | (rw [if_neg (by decide +kernel)]; exact ⟨rfl, rfl⟩))
    (fun os started H enc _ => lifted os started H enc)

theorem proved : Rows.FnExactRoundSaid := over
#print axioms proved
end Go.Proofs.Ytcnopdonnjemmab.fnExactRound
