/-
  Proved: whatever the arguments, 'FnExactPlanOk' returns true: the landed function answers as its model, and what came in reads as it did. No condition.
-/
import Derived.Test.YtgmjijjckedmcaaRows
import Derived.Test.YtgmjijjckedmcaaQf
import Derived.Test.YtgmjijjckedmcaaQg
import Derived.Test.YtgmjijjckedmcaaQh
import Derived.Test.YtgmjijjckedmcaaVl
import Derived.Test.YtgmjijjckedmcaaVp
import Derived.Test.YtgmjijjckedmcaaVs
import Derived.Test.YtgmjijjckedmcaaVq
import Derived.Test.YtgmjijjckedmcaaVo
import Derived.Test.YtgmjijjckedmcaaVm
import Derived.Test.YtgmjijjckedmcaaVn
import Derived.Test.YtgmjijjckedmcaaShelf
import Derived.Test.YtgmjijjckedmcaaMn
import Derived.Test.YtgmjijjckedmcaaAr
import Derived.Test.YtgmjijjckedmcaaVv
import Derived.Test.YtgmjijjckedmcaaMa
import Derived.Test.YtgmjijjckedmcaaJa
import Derived.Test.YtgmjijjckedmcaaJb
import Derived.Test.YtgmjijjckedmcaaJc
import Derived.Test.YtgmjijjckedmcaaJd
import Derived.Test.YtgmjijjckedmcaaJe
import Derived.Test.YtgmjijjckedmcaaJf
import Derived.Test.YtgmjijjckedmcaaJg
import Derived.Test.YtgmjijjckedmcaaJh
import Derived.Test.YtgmjijjckedmcaaJi
import Derived.Test.YtgmjijjckedmcaaJj
import Derived.Test.YtgmjijjckedmcaaTa
import Derived.Test.YtgmjijjckedmcaaTb
import Derived.Test.YtgmjijjckedmcaaVc
import Derived.Test.YtgmjijjckedmcaaJk
import Derived.Test.YtgmjijjckedmcaaJl
import Derived.Test.YtgmjijjckedmcaaJm
import Derived.Test.YtgmjijjckedmcaaJn
import Derived.Test.YtgmjijjckedmcaaJo
import Derived.Test.YtgmjijjckedmcaaJp
import Derived.Test.YtgmjijjckedmcaaJq
import Derived.Test.YtgmjijjckedmcaaMf
import Derived.Test.YtgmjijjckedmcaaMg
import Derived.Test.YtgmjijjckedmcaaMh
import Derived.Test.YtgmjijjckedmcaaQt
import Derived.Test.YtgmjijjckedmcaaMi
import Derived.Test.YtgmjijjckedmcaaMj
import Derived.Test.YtgmjijjckedmcaaMk
import Derived.Test.YtgmjijjckedmcaaMl
import Derived.Test.YtgmjijjckedmcaaMm
import Derived.Test.YtgmjijjckedmcaaMb
import Derived.Test.YtgmjijjckedmcaaMc
import Derived.Test.YtgmjijjckedmcaaMd
import Derived.Test.YtgmjijjckedmcaaMo
import Derived.Test.YtgmjijjckedmcaaMp
import Derived.Test.YtgmjijjckedmcaaMq
import Derived.Test.YtgmjijjckedmcaaMr
import Derived.Test.YtgmjijjckedmcaaJr
import Derived.Test.YtgmjijjckedmcaaMs
import Derived.Test.YtgmjijjckedmcaaMt
import Derived.WalkKit
import Derived.ProofKit
import Derived.OpenShut
import Derived.ShutString
import Derived.ChangeOld
import Derived.Below
import Derived.Lib.SmallJoins
import Derived.OpenVars
import Derived.ChangeVars
import Derived.Deep.RegionHeld3
namespace Go.Proofs.Ytgmjijjckedmcaa.fnExactPlanOk
open Go.ChangeShapes Go.WideShapes Go.ChangeAt Go.RowKit Go.Joins
open Go.ChangeMaps (open_string shut_string)
set_option linter.unusedVariables false
set_option linter.unusedSimpArgs false

theorem own : ownKnob Try.prog.godebug = none := by kernel_rfl
theorem laidOut : laidOutB Try.prog = true := by kernel_rfl

set_option maxRecDepth 100000 in
set_option maxHeartbeats 4000000 in
theorem walk (x0 : Vo.PV) (w : World) (w0 : x0.read w.heap.size w ∧ x0.len 9223372036854775807) :
    Calls Try.prog 4 #[x0.val] w fun e w' => e = .returned (.bool true) ∧ Below w.heap.size w w' := by
  obtain ⟨hr0, hl0⟩ := w0
  have R0 := Vl.hide hr0
  have L0 := Vl.hide hl0
  clear hr0 hl0
  have bb := (Below.refl w.heap.size w).alloc (Nat.le_refl _) (.cells #[.slice x0.v.sa x0.v.sn x0.v.scap, .slice x0.v.ia x0.v.i x0.v.icap, .slice x0.v.fa x0.v.fn x0.v.fcap, .slice x0.v.ka x0.v.kn x0.v.kcap, .slice x0.v.oa x0.v.on x0.v.ocap, .slice x0.oa x0.r x0.ocap, .int .i64 x0.ar] 41)
  have B1 := Vl.hide bb
  have V1 := Vl.hide (Vo.Cells7.new w (.slice x0.v.sa x0.v.sn x0.v.scap) (.slice x0.v.ia x0.v.i x0.v.icap) (.slice x0.v.fa x0.v.fn x0.v.fcap) (.slice x0.v.ka x0.v.kn x0.v.kcap) (.slice x0.v.oa x0.v.on x0.v.ocap) (.slice x0.oa x0.r x0.ocap) (.int .i64 x0.ar) 41)
  clear bb
  obtain ⟨u0, u1, u2, u3, u4, u5, u6⟩ := V1.out
  dsimp only [Vo.PV.val]
  go_enter Try.func4, Try.ntmps4
  go_wp2_with fail
  refine (Vo.szPlan w.heap.size x0 1048576 _ B1.out.size (R0.out.below B1.out) L0.out (by omega) (by omega)).mono ?_
  rintro e W2 ⟨x1, rfl, hx0, bb⟩
  have B2 := Vl.hide (B1.out.trans (bb.mono B1.out.size))
  have V2 := Vl.hide (V1.out.below bb (by simp))
  have sz2 : w.heap.size < W2.heap.size := by have := bb.size; simp at this; omega
  clear u0 u1 u2 u3 u4 u5 u6 bb
  obtain ⟨u0, u1, u2, u3, u4, u5, u6⟩ := V2.out
  by_cases hn0 : x1 < 0
  · clear hx0
    go_wp2_with fail
    go_ret
    exact ⟨rfl, B2.out⟩
  have hm0 : decide (x1 < 0) = false := by rw [decide_eq_false_iff_not]; exact hn0
  have L1 := Vl.hide (hx0 (by omega))
  clear hn0 hx0
  have TO := Vl.hide (fun (W : World) (hb : Below w.heap.size w W) => Vo.toPlan w.heap.size x0 W hb.size (R0.out.below hb) L1.out)
  go_wp2_with fail
  refine (TO.out _ B2.out).mono ?_
  rintro e W3 ⟨y, rfl, ry, sy, bb⟩
  have B3 := Vl.hide (B2.out.trans (bb.mono B2.out.size))
  have V3 := Vl.hide (V2.out.below bb sz2)
  have sz3 : w.heap.size < W3.heap.size := by have := bb.size; omega
  have RY := Vl.hide ry
  have SY := Vl.hide sy
  clear u0 u1 u2 u3 u4 u5 u6 bb ry sy
  obtain ⟨u0, u1, u2, u3, u4, u5, u6⟩ := V3.out
  go_wp2_with fail
  refine (Vo.specPlanOk _ y _ (Nat.le_refl _) RY.out (SY.out.len L1.out)).mono ?_
  rintro e W4 ⟨rfl, bb⟩
  rw [Vo.plok_same SY.out]
  have B4 := Vl.hide (B3.out.trans (bb.mono B3.out.size))
  have V4 := Vl.hide (V3.out.below bb sz3)
  have sz4 : w.heap.size < W4.heap.size := by have := bb.size; omega
  clear u0 u1 u2 u3 u4 u5 u6 bb RY SY
  obtain ⟨u0, u1, u2, u3, u4, u5, u6⟩ := V4.out
  go_wp2_with fail
  refine (TO.out _ B4.out).mono ?_
  rintro e W5 ⟨y, rfl, ry, sy, bb⟩
  dsimp only [Vo.PV.val]
  have B5 := Vl.hide (B4.out.trans (bb.mono B4.out.size))
  have V5 := V4.out.below bb sz4
  have sz5 : w.heap.size < W5.heap.size := by have := bb.size; omega
  have SY := Vl.hide sy
  clear u0 u1 u2 u3 u4 u5 u6 bb sy
  have bb := (Below.refl W5.heap.size W5).alloc (Nat.le_refl _) (.cells #[.slice y.v.sa y.v.sn y.v.scap, .slice y.v.ia y.v.i y.v.icap, .slice y.v.fa y.v.fn y.v.fcap, .slice y.v.ka y.v.kn y.v.kcap, .slice y.v.oa y.v.on y.v.ocap, .slice y.oa y.r y.ocap, .int .i64 y.ar] 45)
  have X6 := Vl.hide (Vo.Cells7.new W5 (.slice y.v.sa y.v.sn y.v.scap) (.slice y.v.ia y.v.i y.v.icap) (.slice y.v.fa y.v.fn y.v.fcap) (.slice y.v.ka y.v.kn y.v.kcap) (.slice y.v.oa y.v.on y.v.ocap) (.slice y.oa y.r y.ocap) (.int .i64 y.ar) 45)
  have B6 := Vl.hide (B5.out.trans (bb.mono B5.out.size))
  have V6 := Vl.hide (V5.below bb sz5)
  have RY := Vl.hide (ry.below bb)
  clear ry bb V5
  obtain ⟨u0, u1, u2, u3, u4, u5, u6⟩ := V6.out
  obtain ⟨v0, v1, v2, v3, v4, v5, v6⟩ := X6.out
  go_wp2_with fail
  refine (Vo.planOkF W5.heap.size y _ (by simp) RY.out (SY.out.len L1.out)).mono ?_
  rintro e W7 ⟨rfl, bb⟩
  rw [Vo.plok_same SY.out]
  have sz6 : W5.heap.size < W7.heap.size := by have := bb.size; simp at this; omega
  have B7 := Vl.hide (B6.out.trans (bb.mono B6.out.size))
  have V7 := Vl.hide (V6.out.below bb (by simp; omega))
  have X7 := Vl.hide (X6.out.below bb (by simp))
  have RZ := Vl.hide (RY.out.below (bb.mono (by simp)))
  clear u0 u1 u2 u3 u4 u5 u6 v0 v1 v2 v3 v4 v5 v6 bb RY
  obtain ⟨u0, u1, u2, u3, u4, u5, u6⟩ := V7.out
  obtain ⟨v0, v1, v2, v3, v4, v5, v6⟩ := X7.out
  have HT := Vl.hide (fun (W : World) (hW : Below W7.heap.size W7 W) => TO.out W (B7.out.trans (hW.mono B7.out.size)))
  have HE := Vl.hide (fun (W : World) (hW : Below W7.heap.size W7 W) (z : Vo.PV) (rz : z.read W.heap.size W) (sz : Vo.PSame x0 z) => Vo.eqPlan W.heap.size y z W (Nat.le_refl _) ((RZ.out.below (hW.mono (Nat.le_of_lt sz6))).mono (Nat.le_trans (Nat.le_of_lt sz6) hW.size)) rz (SY.out.len L1.out) (SY.out.both sz))
  dsimp only [Vo.PV.val] at HT HE
  generalize decide (Vo.PlOk x0) = ans
  go_wp2_with fail
  go_region_held3 (fun w' => (w'.cell? ⟨W5.heap.size, 0, none⟩ = some (.slice y.v.sa y.v.sn y.v.scap) ∧ w'.cell? ⟨W5.heap.size, 1, none⟩ = some (.slice y.v.ia y.v.i y.v.icap) ∧ w'.cell? ⟨W5.heap.size, 2, none⟩ = some (.slice y.v.fa y.v.fn y.v.fcap) ∧ w'.cell? ⟨W5.heap.size, 3, none⟩ = some (.slice y.v.ka y.v.kn y.v.kcap) ∧ w'.cell? ⟨W5.heap.size, 4, none⟩ = some (.slice y.v.oa y.v.on y.v.ocap) ∧ w'.cell? ⟨W5.heap.size, 5, none⟩ = some (.slice y.oa y.r y.ocap) ∧ w'.cell? ⟨W5.heap.size, 6, none⟩ = some (.int .i64 y.ar)) ∧ w'.cell? ⟨w.heap.size, 0, none⟩ = some (.slice x0.v.sa x0.v.sn x0.v.scap) ∧ w'.cell? ⟨w.heap.size, 1, none⟩ = some (.slice x0.v.ia x0.v.i x0.v.icap) ∧ w'.cell? ⟨w.heap.size, 2, none⟩ = some (.slice x0.v.fa x0.v.fn x0.v.fcap) ∧ w'.cell? ⟨w.heap.size, 3, none⟩ = some (.slice x0.v.ka x0.v.kn x0.v.kcap) ∧ w'.cell? ⟨w.heap.size, 4, none⟩ = some (.slice x0.v.oa x0.v.on x0.v.ocap) ∧ w'.cell? ⟨w.heap.size, 5, none⟩ = some (.slice x0.oa x0.r x0.ocap) ∧ w'.cell? ⟨w.heap.size, 6, none⟩ = some (.int .i64 x0.ar))
    ((try dsimp only) <;> (repeat' apply And.intro) <;> (repeat (first | with_reducible assumption | with_reducible apply Vo.drew_old | (with_reducible apply Vo.below_old; (focus (with_reducible assumption))))))
    (first
      | (go_at_call 16
         refine (HT.out _ (by exact (Below.refl _ _).drew)).mono ?_
         rintro e wA ⟨z, rfl, rz, qz, bA⟩)
      | (go_at_call 18
         refine (HE.out _ (by exact (Below.refl _ W7).drew.trans bA) z rz qz).mono ?_
         rintro e wB8 ⟨rfl, bB⟩))
  have bb : Below W7.heap.size W7 wB8 := ((Below.refl _ W7).drew.trans bA).trans (bB.mono (Nat.le_trans (Nat.le_refl _) bA.size))
  have B8 := Vl.hide (B7.out.trans (bb.mono B7.out.size))
  clear bA bB rz qz HT HE bb
  go_wp2_with fail
  go_ret
  exact ⟨rfl, B8.out⟩

set_option maxRecDepth 100000 in
theorem lifted (os : Os) (started : os.Started) (H : Type) (enc : TypeId × Value → H) :
    ReturnsInHanded {} Try.checked os 4 .any (Rows.fnExactPlanOkSpec.pre6 enc Try.prog Try.f4 Rows.fnExactPlanOkRow.domain false) (Rows.fnExactPlanOkSpec.post enc Try.prog Try.f4 false true false false) := by
  refine returnsInHanded_of_change (C := Try.checked) own started (by kernel_rfl) Try.func4
    (ChangeSpec.witness6 (enc := enc) (C := Try.checked) false ⟨#[], #[.agg #[.slice none 0 0, .slice none 0 0, .slice none 0 0, .slice none 0 0, .slice none 0 0, .slice none 0 0, .int .i64 0]], []⟩ 8 (by kernel_rfl) (by kernel_rfl) (by kernel_rfl) (by kernel_rfl)) ?_
  intro W base args ds gs before hval0 hW hcnd _
  have hval : ∀ (j : Nat) t v, Try.f4.params[j]? = some t → args[j]? = some v → Value.okWide Try.prog W .any base t v := hval0
  have hW' := hW
  obtain ⟨p, q, hA0, hV, rfl, hfz, hnd⟩ := hW
  have hA : DataW.TrodAll enc Try.prog W 0 (fun _ => true) true Try.f4.params.toList args.toList ds p := hA0
  rw [Try.params4] at hA hval
  obtain ⟨v0, vs0, d0, ds0, p0, q0, hargs, rfl, rfl, h0, rst0⟩ := trodAll_cons hA
  obtain ⟨rfl, rfl, rfl⟩ := trodAll_nil rst0
  obtain rfl : args = #[v0] := by cases args; simp_all
  obtain ⟨rfl, rfl⟩ := trodVars_none hV
  have k0 := h0
  have lt0 : ∀ x ∈ p0, x.block < W.heap.size := by obtain ⟨m, hm⟩ := k0; exact DataW.trod_lt m _ _ _ hm
  obtain ⟨x0, rfl, w0⟩ := Vo.argP_at (hval 0 41 v0 rfl rfl) h0
  clear hA0 hval0
  refine (walk x0 W w0).mono fun e W' ⟨he, bel⟩ => ?_
  subst he
  exact ⟨_, rfl, _, _, _, [], _, [], hW', trodAll_mk1 (shut_bool Try.underlying4 _), (trodAll_cons_mk (Below.trod laidOut (by kernel_rfl) (of_decide_eq_true (by kernel_rfl)) k0 bel lt0) trodAll_mk0), rfl, bel.frame _, fun h => by cases h⟩

theorem over : Rows.fnExactPlanOkRow.holds Try.pinned (OpenSpec.ofChange Rows.fnExactPlanOkSpec) :=
  OpenClaim.holds_of_wide 4 Try.f4 rfl rfl rfl rfl rfl rfl rfl ⟨rfl, rfl, rfl, rfl, rfl⟩ rfl rfl rfl rfl rfl (by kernel_rfl) Try.func4 (by kernel_rfl)
    (of_decide_eq_true (by kernel_rfl)) (by unfold Func.isWrapper; first | (rw [if_pos (by decide +kernel)]; kernel_rfl) | (rw [if_neg (by decide +kernel)]; exact ⟨rfl, rfl⟩))
    (fun os started H enc _ => lifted os started H enc)

theorem proved : Rows.FnExactPlanOkSaid := over
#print axioms proved
end Go.Proofs.Ytgmjijjckedmcaa.fnExactPlanOk
