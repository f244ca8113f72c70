/-
  Proved: whatever the arguments, 'FnExactOptOk' returns true: the landed function answers as its model, and what came in reads as it did. No condition.
-/
import Derived.Test.YtfpkodcdlhejpabRows
import Derived.Test.YtfpkodcdlhejpabVl
import Derived.Test.YtfpkodcdlhejpabIa
import Derived.Test.YtfpkodcdlhejpabNea
import Derived.Test.YtfpkodcdlhejpabIb
import Derived.Test.YtfpkodcdlhejpabIc
import Derived.Test.YtfpkodcdlhejpabIe
import Derived.Test.YtfpkodcdlhejpabEkp
import Derived.Test.YtfpkodcdlhejpabEk
import Derived.Test.YtfpkodcdlhejpabEb
import Derived.Test.YtfpkodcdlhejpabEa
import Derived.Test.YtfpkodcdlhejpabEj
import Derived.Test.YtfpkodcdlhejpabEc
import Derived.Test.YtfpkodcdlhejpabAr
import Derived.Test.YtfpkodcdlhejpabEf
import Derived.Test.YtfpkodcdlhejpabEn
import Derived.Test.YtfpkodcdlhejpabVp
import Derived.Test.YtfpkodcdlhejpabVs
import Derived.Test.YtfpkodcdlhejpabVq
import Derived.Test.YtfpkodcdlhejpabVo
import Derived.Test.YtfpkodcdlhejpabVm
import Derived.Test.YtfpkodcdlhejpabVn
import Derived.Test.YtfpkodcdlhejpabEo
import Derived.WalkKit
import Derived.ProofKit
import Derived.OpenShut
import Derived.ShutString
import Derived.ChangeOld
import Derived.Below
import Derived.Lib.SmallJoins
import Derived.OpenVars
import Derived.ChangeVars
import Derived.Deep.RegionHeld3
namespace Go.Proofs.Ytfpkodcdlhejpab.fnExactOptOk
open Go.ChangeShapes Go.WideShapes Go.ChangeAt Go.RowKit Go.Joins
open Go.ChangeMaps (open_string shut_string)
set_option linter.unusedVariables false

theorem own : ownKnob Try.prog.godebug = none := by kernel_rfl
theorem laidOut : laidOutB Try.prog = true := by kernel_rfl

theorem walk (a0 b0 c0 : Option Addr) (r0 q0 s0 cap0 dap0 eap0 : Nat) (n0 f0 o0 : Int) (bn0 : Vl.bd n0) (bf0 : Vl.bd f0) (bo0 : Vl.bd o0) (w : World) (wa0 : Vl.Arg w a0 r0) (wb0 : Vl.Arg w b0 q0) (wc0 : Vl.Arg w c0 s0) :
    Calls Try.prog 3 #[.agg #[.slice a0 r0 cap0, .slice b0 q0 dap0, .slice c0 s0 eap0, .int .i64 n0, .int .i64 f0, .int .i64 o0]] w fun e w' => e = .returned (.bool true) ∧ Below w.heap.size w w' := by
  obtain ⟨hr, P, h1⟩ := wa0
  obtain ⟨hq, Q, h2⟩ := wb0
  obtain ⟨hs, S, h3⟩ := wc0
  have H1 := Vl.hide h1
  have H2 := Vl.hide h2
  have H3 := Vl.hide h3
  have Hn := Vl.hide bn0
  have Hf := Vl.hide bf0
  have Ho := Vl.hide bo0
  clear h1 h2 h3 bn0 bf0 bo0
  obtain ⟨WA, hWA⟩ : ∃ WA, w.alloc (.cells #[.slice a0 r0 cap0, .slice b0 q0 dap0, .slice c0 s0 eap0, .int .i64 n0, .int .i64 f0, .int .i64 o0] 24) = WA := ⟨_, rfl⟩
  have nWA : Below w.heap.size w WA := hWA ▸ (Below.refl _ _).alloc (Nat.le_refl _) _
  have KA := Vl.hide (show Vo.BoxV6 WA w.heap.size (.slice a0 r0 cap0) (.slice b0 q0 dap0) (.slice c0 s0 eap0) (.int .i64 n0) (.int .i64 f0) (.int .i64 o0) from hWA ▸ Vo.boxV6_new _ _ _ _ _ _ _ _)
  have BW := Vl.hide nWA
  clear nWA
  obtain ⟨-, cA0, cA1, cA2, cA3, cA4, cA5⟩ := KA.out
  go_enter Try.func3, Try.ntmps3
  go_wp2_with fail
  refine (Vo.szOpt a0 b0 c0 r0 q0 s0 cap0 dap0 eap0 n0 f0 o0 _ hr hq hs).mono ?_
  rintro e W1 ⟨x, rfl, hx, bb⟩
  replace KA := Vl.hide (KA.out.below bb)
  replace BW := Vl.hide (BW.out.trans (bb.mono BW.out.size))
  clear bb hWA cA0 cA1 cA2 cA3 cA4 cA5
  obtain ⟨-, cA0, cA1, cA2, cA3, cA4, cA5⟩ := KA.out
  have HX := Vl.hide hx
  clear hx
  by_cases x0 : x < 0
  · go_wp2_with fail
    go_ret
    exact ⟨rfl, BW.out⟩
  obtain ⟨-, lr, lq, ls⟩ := HX.out (by omega)
  have x0' : decide (x < 0) = false := decide_eq_false x0
  clear x0 HX hr hq hs
  have CT := Vl.hide (fun (W : World) (hW : Below w.heap.size w W) => Vo.toOpt w.heap.size a0 b0 c0 r0 q0 s0 cap0 dap0 eap0 P Q S n0 f0 o0 W hW.size (H1.out.below hW) (H2.out.below hW) (H3.out.below hW) lr lq ls)
  go_wp2_with fail
  refine (CT.out _ BW.out).mono ?_
  rintro e W2 ⟨m1, m2, m3, rfl, ⟨z1, z2, z3, z4⟩, w1, w2, w3, bb⟩
  replace KA := Vl.hide (KA.out.below bb)
  replace BW := Vl.hide (BW.out.trans (bb.mono BW.out.size))
  clear bb cA0 cA1 cA2 cA3 cA4 cA5
  obtain ⟨-, cA0, cA1, cA2, cA3, cA4, cA5⟩ := KA.out
  have CS := Vl.hide (Vo.specOpt (some ⟨m1, 0, none⟩) (some ⟨m2, 0, none⟩) (some ⟨m3, 0, none⟩) r0 q0 s0 r0 q0 s0 P Q S n0 f0 o0 W2 (w1.ints (by omega)) (w2.ints (by omega)) (w3.ints z4) lr Hn.out Hf.out Ho.out lq ls)
  clear w1 w2 w3 z1 z2 z3 z4
  go_wp2_with fail
  refine CS.out.mono ?_
  rintro e W3 ⟨rfl, bb⟩
  replace KA := Vl.hide (KA.out.below bb)
  replace BW := Vl.hide (BW.out.trans (bb.mono BW.out.size))
  clear bb CS cA0 cA1 cA2 cA3 cA4 cA5
  obtain ⟨-, cA0, cA1, cA2, cA3, cA4, cA5⟩ := KA.out
  obtain ⟨v, hv⟩ : ∃ v, Vo.ook r0 q0 s0 P Q S n0 f0 o0 = v := ⟨_, rfl⟩
  rw [hv]
  go_wp2_with fail
  refine (CT.out _ BW.out).mono ?_
  rintro e W4 ⟨g1, g2, g3, rfl, ⟨z1, z2, z3, z4⟩, w1, w2, w3, bb⟩
  simp only [Vo.OVal]
  replace KA := Vl.hide (KA.out.below bb)
  replace BW := Vl.hide (BW.out.trans (bb.mono BW.out.size))
  clear bb cA0 cA1 cA2 cA3 cA4 cA5
  obtain ⟨W5, hW5⟩ : ∃ W5, W4.alloc (.cells #[.slice (some ⟨g1, 0, none⟩) r0 r0, .slice (some ⟨g2, 0, none⟩) q0 q0, .slice (some ⟨g3, 0, none⟩) s0 s0, .int .i64 n0, .int .i64 f0, .int .i64 o0] 27) = W5 := ⟨_, rfl⟩
  have n5 : Below W4.heap.size W4 W5 := hW5 ▸ (Below.refl _ _).alloc (Nat.le_refl _) _
  have KB := Vl.hide (show Vo.BoxV6 W5 W4.heap.size (.slice (some ⟨g1, 0, none⟩) r0 r0) (.slice (some ⟨g2, 0, none⟩) q0 q0) (.slice (some ⟨g3, 0, none⟩) s0 s0) (.int .i64 n0) (.int .i64 f0) (.int .i64 o0) from hW5 ▸ Vo.boxV6_new _ _ _ _ _ _ _ _)
  replace KA := Vl.hide (KA.out.below n5)
  replace BW := Vl.hide (BW.out.trans (n5.mono BW.out.size))
  have Q1 := Vl.hide (w1.below n5 (by omega))
  have Q2 := Vl.hide (w2.below n5 (by omega))
  have Q3 := Vl.hide (w3.below n5 z4)
  have Z4 := Vl.hide (show g1 < W5.heap.size ∧ g2 < W5.heap.size ∧ g3 < W5.heap.size by have := n5.size; omega)
  clear n5 w1 w2 w3 z1 z2 z3 z4
  have CI := Vl.hide (Vo.implOpt (some ⟨g1, 0, none⟩) (some ⟨g2, 0, none⟩) (some ⟨g3, 0, none⟩) r0 q0 s0 r0 q0 s0 P Q S n0 f0 o0 W5 (Q1.out.ints Z4.out.1) (Q2.out.ints Z4.out.2.1) (Q3.out.ints Z4.out.2.2) lr Hn.out Hf.out Ho.out lq ls)
  rw [hv] at CI
  clear hv
  obtain ⟨-, cA0, cA1, cA2, cA3, cA4, cA5⟩ := KA.out
  obtain ⟨-, cB0, cB1, cB2, cB3, cB4, cB5⟩ := KB.out
  go_wp2_with fail
  refine CI.out.mono ?_
  rintro e W6 ⟨rfl, bb⟩
  replace KA := Vl.hide (KA.out.below bb)
  replace KB := Vl.hide (KB.out.below bb)
  replace BW := Vl.hide (BW.out.trans (bb.mono BW.out.size))
  replace Q1 := Vl.hide (Q1.out.below bb Z4.out.1)
  replace Q2 := Vl.hide (Q2.out.below bb Z4.out.2.1)
  replace Q3 := Vl.hide (Q3.out.below bb Z4.out.2.2)
  replace Z4 := Vl.hide (show g1 < W6.heap.size ∧ g2 < W6.heap.size ∧ g3 < W6.heap.size by have := bb.size; have := Z4.out; omega)
  clear bb hW5 CI cA0 cA1 cA2 cA3 cA4 cA5 cB0 cB1 cB2 cB3 cB4 cB5
  obtain ⟨-, cA0, cA1, cA2, cA3, cA4, cA5⟩ := KA.out
  obtain ⟨-, cB0, cB1, cB2, cB3, cB4, cB5⟩ := KB.out
  have HT := Vl.hide (fun (W : World) (hW : Below W6.heap.size W6 W) => CT.out W (BW.out.trans (hW.mono BW.out.size)))
  have HE := Vl.hide (fun (W : World) (hW : Below W6.heap.size W6 W) (k1 k2 k3 : Nat) (z : k1 < W.heap.size ∧ k2 < W.heap.size ∧ k3 < W.heap.size) (q1 : Vl.Rw W k1 r0 P) (q2 : Vl.Rw W k2 q0 Q) (q3 : Vl.Rw W k3 s0 S) => Vo.eqOpt W.heap.size (some ⟨g1, 0, none⟩) (some ⟨g2, 0, none⟩) (some ⟨g3, 0, none⟩) (some ⟨k1, 0, none⟩) (some ⟨k2, 0, none⟩) (some ⟨k3, 0, none⟩) r0 q0 s0 r0 q0 s0 r0 q0 s0 P Q S P Q S n0 f0 o0 W (Nat.le_refl _) ((Q1.out.below hW Z4.out.1).ints (Nat.lt_of_lt_of_le Z4.out.1 hW.size)) ((Q2.out.below hW Z4.out.2.1).ints (Nat.lt_of_lt_of_le Z4.out.2.1 hW.size)) ((Q3.out.below hW Z4.out.2.2).ints (Nat.lt_of_lt_of_le Z4.out.2.2 hW.size)) (q1.ints z.1) (q2.ints z.2.1) (q3.ints z.2.2) (fun _ _ => rfl) (fun _ _ => rfl) (fun _ _ => rfl) lr lq ls)
  go_wp2_with fail
  go_region_held3 (fun w' => w'.cell? ⟨W4.heap.size, 0, none⟩ = some (.slice (some ⟨g1, 0, none⟩) r0 r0) ∧ w'.cell? ⟨W4.heap.size, 1, none⟩ = some (.slice (some ⟨g2, 0, none⟩) q0 q0) ∧ w'.cell? ⟨W4.heap.size, 2, none⟩ = some (.slice (some ⟨g3, 0, none⟩) s0 s0) ∧ w'.cell? ⟨W4.heap.size, 3, none⟩ = some (.int .i64 n0) ∧ w'.cell? ⟨W4.heap.size, 4, none⟩ = some (.int .i64 f0) ∧ w'.cell? ⟨W4.heap.size, 5, none⟩ = some (.int .i64 o0) ∧ w'.cell? ⟨w.heap.size, 0, none⟩ = some (.slice a0 r0 cap0) ∧ w'.cell? ⟨w.heap.size, 1, none⟩ = some (.slice b0 q0 dap0) ∧ w'.cell? ⟨w.heap.size, 2, none⟩ = some (.slice c0 s0 eap0) ∧ w'.cell? ⟨w.heap.size, 3, none⟩ = some (.int .i64 n0) ∧ w'.cell? ⟨w.heap.size, 4, none⟩ = some (.int .i64 f0) ∧ w'.cell? ⟨w.heap.size, 5, none⟩ = some (.int .i64 o0))
    ((try dsimp only) <;> (repeat' apply And.intro) <;> (repeat (first | with_reducible assumption | with_reducible apply Vo.drew_old | (with_reducible apply Vo.below_old; (focus (with_reducible assumption))))))
    (first
      | (go_at_call 6
         refine (HT.out _ (by exact (Below.refl _ _).drew)).mono ?_
         rintro e wA ⟨k1, k2, k3, rfl, ⟨y1, y2, y3, y4⟩, qA, qB, qC, bA⟩)
      | (go_at_call 8
         refine (HE.out _ (by exact (Below.refl _ W6).drew.trans bA) k1 k2 k3 ⟨by omega, by omega, y4⟩ qA qB qC).mono ?_
         rintro e wB8 ⟨rfl, bB⟩))
  have bb : Below W6.heap.size W6 wB8 := ((Below.refl _ W6).drew.trans bA).trans (bB.mono (Nat.le_trans (Nat.le_refl _) bA.size))
  replace BW := Vl.hide (BW.out.trans (bb.mono BW.out.size))
  clear bA bB qA qB qC HT HE bb
  go_wp2_with fail
  go_ret
  exact ⟨rfl, BW.out⟩

set_option maxRecDepth 100000 in
theorem lifted (os : Os) (started : os.Started) (H : Type) (enc : TypeId × Value → H) :
    ReturnsInHanded {} Try.checked os 3 .any (Rows.fnExactOptOkSpec.pre6 enc Try.prog Try.f3 Rows.fnExactOptOkRow.domain false) (Rows.fnExactOptOkSpec.post enc Try.prog Try.f3 false true false false) := by
  refine returnsInHanded_of_change (C := Try.checked) own started (by kernel_rfl) Try.func3
    (ChangeSpec.witness6 (enc := enc) (C := Try.checked) false ⟨#[], #[.agg #[.slice none 0 0, .slice none 0 0, .slice none 0 0, .int .i64 0, .int .i64 0, .int .i64 0]], []⟩ 8 (by kernel_rfl) (by kernel_rfl) (by kernel_rfl) (by kernel_rfl)) ?_
  intro W base args ds gs before hval0 hW hcnd _
  have hval : ∀ (j : Nat) t v, Try.f3.params[j]? = some t → args[j]? = some v → Value.okWide Try.prog W .any base t v := hval0
  have hW' := hW
  obtain ⟨p, q, hA0, hV, rfl, hfz, hnd⟩ := hW
  have hA : DataW.TrodAll enc Try.prog W 0 (fun _ => true) true Try.f3.params.toList args.toList ds p := hA0
  rw [Try.params3] at hA hval
  obtain ⟨v0, vs0, d0, ds0, p0, q0, hargs, rfl, rfl, h0, rst0⟩ := trodAll_cons hA
  obtain ⟨rfl, rfl, rfl⟩ := trodAll_nil rst0
  obtain rfl : args = #[v0] := by cases args; simp_all
  obtain ⟨rfl, rfl⟩ := trodVars_none hV
  have k0 := h0
  have lt0 : ∀ x ∈ p0, x.block < W.heap.size := by obtain ⟨m, hm⟩ := k0; exact DataW.trod_lt m _ _ _ hm
  obtain ⟨a0, b0, c0, r0, qq0, s0, cap0, dap0, eap0, n0, f0, o0, rfl, wa0, wb0, wc0, bn0, bf0, bo0⟩ := Vo.opt_at (hval 0 24 v0 rfl rfl) h0
  clear hA0 hval0
  refine (walk a0 b0 c0 r0 qq0 s0 cap0 dap0 eap0 n0 f0 o0 bn0 bf0 bo0 W wa0 wb0 wc0).mono fun e W' ⟨he, bel⟩ => ?_
  subst he
  exact ⟨_, rfl, _, _, _, [], _, [], hW', trodAll_mk1 (shut_bool Try.underlying4 _), (trodAll_cons_mk (Below.trod laidOut (by kernel_rfl) (of_decide_eq_true (by kernel_rfl)) k0 bel lt0) trodAll_mk0), rfl, bel.frame _, fun h => by cases h⟩

theorem over : Rows.fnExactOptOkRow.holds Try.pinned (OpenSpec.ofChange Rows.fnExactOptOkSpec) :=
  OpenClaim.holds_of_wide 3 Try.f3 rfl rfl rfl rfl rfl rfl rfl ⟨rfl, rfl, rfl, rfl, rfl⟩ rfl rfl rfl rfl rfl (by kernel_rfl) Try.func3 (by kernel_rfl)
    (of_decide_eq_true (by kernel_rfl)) (by unfold Func.isWrapper; first | (rw [if_pos (by decide +kernel)]; kernel_rfl) | (rw [if_neg (by decide +kernel)]; exact ⟨rfl, rfl⟩))
    (fun os started H enc _ => lifted os started H enc)

theorem proved : Rows.FnExactOptOkSaid := over
#print axioms proved
end Go.Proofs.Ytfpkodcdlhejpab.fnExactOptOk
