/-
  Proved: whatever the arguments, 'FnExactNodes' returns true: the landed function answers as its model, and what came in reads as it did. No condition.
-/
import Derived.Test.YtkllbolamgmmaaaRows
import Derived.Test.YtkllbolamgmmaaaVl
import Derived.Test.YtkllbolamgmmaaaQf
import Derived.Test.YtkllbolamgmmaaaQt
import Derived.Test.YtkllbolamgmmaaaIa
import Derived.Test.YtkllbolamgmmaaaFg
import Derived.Test.YtkllbolamgmmaaaFh
import Derived.Test.YtkllbolamgmmaaaFi
import Derived.Test.YtkllbolamgmmaaaFj
import Derived.Test.YtkllbolamgmmaaaFk
import Derived.Test.YtkllbolamgmmaaaFl
import Derived.Test.YtkllbolamgmmaaaFm
import Derived.Test.YtkllbolamgmmaaaFn
import Derived.Test.YtkllbolamgmmaaaFo
import Derived.Test.YtkllbolamgmmaaaFp
import Derived.Test.YtkllbolamgmmaaaFq
import Derived.Test.YtkllbolamgmmaaaFr
import Derived.Test.YtkllbolamgmmaaaFs
import Derived.Test.YtkllbolamgmmaaaFt
import Derived.Test.YtkllbolamgmmaaaFu
import Derived.Test.YtkllbolamgmmaaaFv
import Derived.Test.YtkllbolamgmmaaaFw
import Derived.WalkKit
import Derived.ProofKit
import Derived.OpenShut
import Derived.ShutString
import Derived.ChangeOld
import Derived.Below
import Derived.Lib.SmallJoins
import Derived.OpenVars
import Derived.ChangeVars
import Derived.Deep.RegionHeld3
namespace Go.Proofs.Ytkllbolamgmmaaa.fnExactNodes
open Go.ChangeShapes Go.WideShapes Go.ChangeAt Go.RowKit Go.Joins
open Go.ChangeMaps (open_string shut_string)
set_option linter.unusedVariables false

theorem own : ownKnob Try.prog.godebug = none := by kernel_rfl
theorem laidOut : laidOutB Try.prog = true := by kernel_rfl

theorem walk (a0 : Int) (w0 : (Lit.int .i64 a0).wf = true) (a1 : Int) (w1 : (Lit.int .i64 a1).wf = true) (w : World) :
    Calls Try.prog 5 #[.int .i64 a0, .int .i64 a1] w fun e w' => e = .returned (.bool true) ∧ Below w.heap.size w w' := by
  have SM := Vl.hide (Vo.nodes_small a0 a1)
  have HS := Vl.hide (fun W => Vo.specNodes a0 a1 W (bounds_i64 w0) (bounds_i64 w1))
  have HI := Vl.hide (fun W => Vo.implNodes a0 a1 W (bounds_i64 w0) (bounds_i64 w1))
  obtain ⟨R, hR⟩ : ∃ R, Vo.nodesZ a0 a1 = R := ⟨_, rfl⟩
  rw [hR] at SM HS HI
  obtain ⟨n, hn⟩ : ∃ n, R.length = n := ⟨_, rfl⟩
  replace HS := Vl.hide (fun (W : World) => (HS.out W).mono (fun e w' h => h.b.n hn))
  replace HI := Vl.hide (fun (W : World) => (HI.out W).mono (fun e w' h => h.n hn))
  obtain ⟨s1, s2⟩ := SM.out
  rw [hn] at s1
  have n1 : (n : Int) ≤ 1048576 := by omega
  have TT := Vl.hide (fun (L : List Vo.VM) (h : Vo.cnt L = R) => show (Vo.tot L : Int) ≤ 1048576 from by rw [Vo.tot_is, h]; omega)
  clear SM hR s1 s2 hn w0 w1
  obtain ⟨W0, hW⟩ : ∃ W0, W0 = w := ⟨_, rfl⟩
  rw [← hW]
  clear hW
  go_enter Try.func5, Try.ntmps5
  go_wp2_with fail
  refine (HS.out _).mono ?_
  rintro e W1 ⟨sa, sc, L0, rfl, l0, r0, c0, q⟩
  have S0 := Vl.hide (Vo.RowsM.readN l0 r0)
  have C0 := Vl.hide c0
  have Z0 := Vl.hide l0
  have BW := Vl.hide q
  clear l0 r0 c0 q HS
  go_wp2_with fail
  refine (HI.out _).mono ?_
  rintro e W2 ⟨ga, gc, L1, rfl, l1, r1, c1, q⟩
  have G1 := Vl.hide r1
  have C1 := Vl.hide c1
  have Z1 := Vl.hide l1
  have T1 := Vl.hide (TT.out L1 c1)
  have RB1 := Vl.hide (fun b (hb : Vo.RB L1 b) => (r1.lo hb).1)
  replace S0 := Vl.hide (S0.out.below q)
  have V1 := Vl.hide (show W1.heap.size ≤ W2.heap.size from q.size)
  have BX := Vl.hide q
  clear l1 r1 c1 q
  go_wp2_with fail
  refine (Vo.eqMoveSS W2.heap.size ga sa n gc sc L1 L0 W2 Z1.out (Nat.le_refl _) (G1.out.readN Z1.out) (S0.out.mono V1.out) (C1.out.trans C0.out.symm) n1 T1.out).mono ?_
  rintro e W3 ⟨rfl, q⟩
  replace G1 := Vl.hide (G1.out.below q)
  replace BX := Vl.hide (BX.out.trans (q.mono V1.out))
  replace S0 := Vl.hide (S0.out.below (q.mono V1.out))
  clear q
  go_wp2_with fail
  refine (Vo.markMoveSS W1.heap.size ga n gc L1 1 W3 Z1.out G1.out n1 T1.out (by omega) (by omega)).mono ?_
  rintro e W4 ⟨rfl, r, q⟩
  have MB : Below W1.heap.size W3 W4 := q.below BX.out.size RB1.out
  have M1 := Vl.hide r
  replace BX := Vl.hide (BX.out.trans MB)
  replace S0 := Vl.hide (S0.out.below MB)
  have ML1 := Vl.hide (show (Vo.mkL 1 L1).length = n by rw [Vo.mkL_len]; exact Z1.out)
  clear r q MB G1
  obtain ⟨t, ht⟩ : ∃ t : Int, (Vo.tot L1 : Int) = t := ⟨_, rfl⟩
  have t0 : 0 ≤ t := by omega
  have HH := Vl.hide (fun (W : World) (r : Vo.RowsM W1.heap.size W (.slice ga n gc) (Vo.mkL 1 L1)) => Vo.heldMoveSS W.heap.size ga n gc L1 1 W Z1.out (r.readN ML1.out) n1 T1.out (by omega) (by omega))
  rw [ht] at HH T1 ⊢
  have t1 : t ≤ 1048576 := T1.out
  have neg : decide ((1 : Int) + 4 * t < 0) = false := by rw [decide_eq_false_iff_not]; omega
  have neq : ((1 : Int) + 4 * t != 1 + 4 * t) = false := by simp
  clear ht T1
  go_wp2_with fail
  refine (HH.out _ M1.out).mono ?_
  rintro e W5 ⟨rfl, rfl⟩
  go_wp2_with fail
  refine (HI.out _).mono ?_
  rintro e W6 ⟨ha, hc, L2, rfl, l2, r2, c2, q⟩
  have T2 := Vl.hide (TT.out L2 c2)
  have S0' := Vl.hide (S0.out.below (q.mono BX.out.size))
  have M1' := Vl.hide (M1.out.below q)
  have V2 := Vl.hide (show W1.heap.size ≤ W6.heap.size from Nat.le_trans BX.out.size q.size)
  have EQ := Vl.hide (Vo.eqMoveSS W6.heap.size ha sa n hc sc L2 L0 W6 l2 (Nat.le_refl _) (r2.readN l2) (S0'.out.mono V2.out) (c2.trans C0.out.symm) n1 T2.out)
  replace BX := Vl.hide (BX.out.trans (q.mono BX.out.size))
  clear l2 r2 c2 q M1 S0 S0' T2 V1 RB1
  go_wp2_with fail
  refine EQ.out.mono ?_
  rintro e W7 ⟨rfl, q⟩
  have M2 := Vl.hide (M1'.out.below q)
  have BZ := Vl.hide (BW.out.trans ((BX.out.trans (q.mono V2.out)).mono BW.out.size))
  clear q EQ M1' BX
  go_wp2_with fail
  refine (HH.out _ M2.out).mono ?_
  rintro e W8 ⟨rfl, rfl⟩
  go_wp2_with fail
  go_ret
  exact ⟨rfl, BZ.out⟩

set_option maxRecDepth 100000 in
theorem lifted (os : Os) (started : os.Started) (H : Type) (enc : TypeId × Value → H) :
    ReturnsInHanded {} Try.checked os 5 .any (Rows.fnExactNodesSpec.pre6 enc Try.prog Try.f5 Rows.fnExactNodesRow.domain false) (Rows.fnExactNodesSpec.post enc Try.prog Try.f5 false true false false) := by
  refine returnsInHanded_of_change (C := Try.checked) own started (by kernel_rfl) Try.func5
    (ChangeSpec.witness6 (enc := enc) (C := Try.checked) false ⟨#[], #[.int .i64 0, .int .i64 0], []⟩ 8 (by kernel_rfl) (by kernel_rfl) (by kernel_rfl) (by kernel_rfl)) ?_
  intro W base args ds gs before hval0 hW hcnd _
  have hval : ∀ (j : Nat) t v, Try.f5.params[j]? = some t → args[j]? = some v → Value.okWide Try.prog W .any base t v := hval0
  have hW' := hW
  obtain ⟨p, q, hA0, hV, rfl, hfz, hnd⟩ := hW
  have hA : DataW.TrodAll enc Try.prog W 0 (fun _ => true) true Try.f5.params.toList args.toList ds p := hA0
  rw [Try.params5] at hA hval
  obtain ⟨v0, vs0, d0, ds0, p0, q0, hargs, rfl, rfl, h0, rst0⟩ := trodAll_cons hA
  obtain ⟨v1, vs1, d1, ds1, p1, q1, rfl, rfl, rfl, h1, rst1⟩ := trodAll_cons rst0
  obtain ⟨rfl, rfl, rfl⟩ := trodAll_nil rst1
  obtain rfl : args = #[v0, v1] := by cases args; simp_all
  obtain ⟨rfl, rfl⟩ := trodVars_none hV
  have k0 := h0
  have lt0 : ∀ x ∈ p0, x.block < W.heap.size := by obtain ⟨m, hm⟩ := k0; exact DataW.trod_lt m _ _ _ hm
  obtain ⟨a0, rfl, e0, _, w0⟩ := open_int Try.underlying3 (hval 0 3 v0 rfl rfl) h0
  have k1 := h1
  have lt1 : ∀ x ∈ p1, x.block < W.heap.size := by obtain ⟨m, hm⟩ := k1; exact DataW.trod_lt m _ _ _ hm
  obtain ⟨a1, rfl, e1, _, w1⟩ := open_int Try.underlying3 (hval 1 3 v1 rfl rfl) h1
  clear hA0 hval0
  refine (walk a0 w0 a1 w1 W).mono fun e W' ⟨he, bel⟩ => ?_
  subst he
  exact ⟨_, rfl, _, _, _, [], _, [], hW', trodAll_mk1 (shut_bool Try.underlying4 _), (trodAll_cons_mk (Below.trod laidOut (by kernel_rfl) (of_decide_eq_true (by kernel_rfl)) k0 bel lt0) (trodAll_cons_mk (Below.trod laidOut (by kernel_rfl) (of_decide_eq_true (by kernel_rfl)) k1 bel lt1) trodAll_mk0)), rfl, bel.frame _, fun h => by cases h⟩

theorem over : Rows.fnExactNodesRow.holds Try.pinned (OpenSpec.ofChange Rows.fnExactNodesSpec) :=
  OpenClaim.holds_of_wide 5 Try.f5 rfl rfl rfl rfl rfl rfl rfl ⟨rfl, rfl, rfl, rfl, rfl⟩ rfl rfl rfl rfl rfl (by kernel_rfl) Try.func5 (by kernel_rfl)
    (of_decide_eq_true (by kernel_rfl)) (by unfold Func.isWrapper; first | (rw [if_pos (by decide +kernel)]; kernel_rfl) | (rw [if_neg (by decide +kernel)]; exact ⟨rfl, rfl⟩))
    (fun os started H enc _ => lifted os started H enc)

theorem proved : Rows.FnExactNodesSaid := over
#print axioms proved
end Go.Proofs.Ytkllbolamgmmaaa.fnExactNodes
