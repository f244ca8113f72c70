/-
  Proved: whatever the arguments, 'FnExactJoint' returns true: the landed function answers as its model, and what came in reads as it did. No condition.
-/
import Derived.Test.YtbepgcdfdaeecacRows
import Derived.Test.YtbepgcdfdaeecacVl
import Derived.Test.YtbepgcdfdaeecacVp
import Derived.Test.YtbepgcdfdaeecacVs
import Derived.Test.YtbepgcdfdaeecacVq
import Derived.Test.YtbepgcdfdaeecacVo
import Derived.Test.YtbepgcdfdaeecacVm
import Derived.Test.YtbepgcdfdaeecacVn
import Derived.Test.YtbepgcdfdaeecacVt
import Derived.Test.YtbepgcdfdaeecacVv
import Derived.Test.YtbepgcdfdaeecacVc
import Derived.Test.YtbepgcdfdaeecacVj
import Derived.Test.YtbepgcdfdaeecacVk
import Derived.WalkKit
import Derived.ProofKit
import Derived.OpenShut
import Derived.ShutString
import Derived.ChangeOld
import Derived.Below
import Derived.Lib.SmallJoins
import Derived.OpenVars
import Derived.ChangeVars
import Derived.Deep.RegionHeld3
namespace Go.Proofs.Ytbepgcdfdaeecac.fnExactJoint
open Go.ChangeShapes Go.WideShapes Go.ChangeAt Go.RowKit Go.Joins
open Go.ChangeMaps (open_string shut_string)
set_option linter.unusedVariables false

theorem own : ownKnob Try.prog.godebug = none := by kernel_rfl
theorem laidOut : laidOutB Try.prog = true := by kernel_rfl

theorem walk (a0 : Option Addr) (r0 cap0 : Nat) (a1 : Option Addr) (r1 cap1 : Nat) (w : World) (w0 : Vl.Arg w a0 r0) (w1 : Vl.Arg w a1 r1) :
    Calls Try.prog 3 #[.slice a0 r0 cap0, .slice a1 r1 cap1] w fun e w' => e = .returned (.bool true) ∧ Below w.heap.size w w' := by
  obtain ⟨hr0, D0, hh0⟩ := w0
  have H0 := Vl.hide hh0
  clear hh0
  obtain ⟨hr1, D1, hh1⟩ := w1
  have H1 := Vl.hide hh1
  clear hh1
  have B0 := Vl.hide (Below.refl w.heap.size w)
  by_cases h20 : 1048576 < (r0 : Int)
  · go_enter Try.func3, Try.ntmps3
    go_wp2_with fail
    go_ret
    exact ⟨rfl, B0.out⟩
  have g20 : decide (1048576 < (r0 : Int)) = false := by rw [decide_eq_false_iff_not]; exact h20
  have lr0 : (r0 : Int) ≤ 1048576 := by omega
  clear h20 hr0
  by_cases h21 : 1048576 < (r1 : Int)
  · go_enter Try.func3, Try.ntmps3
    go_wp2_with fail
    go_ret
    exact ⟨rfl, B0.out⟩
  have g21 : decide (1048576 < (r1 : Int)) = false := by rw [decide_eq_false_iff_not]; exact h21
  have lr1 : (r1 : Int) ≤ 1048576 := by omega
  clear h21 hr1
  go_enter Try.func3, Try.ntmps3
  have lj : ((Vo.jn r0 r1 D0 D1 : Nat) : Int) ≤ 1048576 := by have := Vo.jn_le r0 r1 D0 D1; omega
  go_wp2_with fail
  refine (Vl.toIntS w.heap.size a0 r0 cap0 D0 _ (H0.out.below B0.out) B0.out.size lr0).mono ?_; rintro e W1 ⟨rfl, q1, t1, bb⟩
  have B1 := Vl.hide (B0.out.trans (Below.mono bb B0.out.size))
  have sz1 : w.heap.size ≤ W1.heap.size := by have qz := bb.size; (try simp only [World.size_alloc] at qz); (try simp only [World.size_alloc]); exact qz
  try clear u0 u1 u2 u3 v0 v1 v2 v3 z0 z1 z2 z3
  clear bb
  have qq : Vl.OwnL w.heap.size W1 (some ⟨w.heap.size, 0, none⟩) r0 D0 := .inr ⟨_, rfl, Nat.le_refl _, by have qz := q1; (try simp only [World.size_alloc] at qz); exact qz⟩
  clear q1
  have QA_1 := Vl.hide qq
  clear qq
  have UQA := Vl.hide (fun k q => QA_1.out.blk (b := k) q)
  go_wp2_with fail
  refine (Vl.toIntS w.heap.size a1 r1 cap1 D1 _ (H1.out.below B1.out) B1.out.size lr1).mono ?_; rintro e W2 ⟨rfl, q2, t2, bb⟩
  have B2 := Vl.hide (B1.out.trans (Below.mono bb B1.out.size))
  have sz2 : W1.heap.size ≤ W2.heap.size := by have qz := bb.size; (try simp only [World.size_alloc] at qz); (try simp only [World.size_alloc]); exact qz
  try clear u0 u1 u2 u3 v0 v1 v2 v3 z0 z1 z2 z3
  have QA_2 := Vl.hide (QA_1.out.below bb)
  clear bb
  have qq : Vl.OwnL W1.heap.size W2 (some ⟨W1.heap.size, 0, none⟩) r1 D1 := .inr ⟨_, rfl, Nat.le_refl _, by have qz := q2; (try simp only [World.size_alloc] at qz); exact qz⟩
  clear q2
  have QB_2 := Vl.hide qq
  clear qq
  have UQB := Vl.hide (fun k q => QB_2.out.blk (b := k) q)
  go_wp2_with fail
  refine (Vo.specJoint _ _ _ r0 r1 _ _ D0 D1 _ QA_2.out.ints QB_2.out.ints (Nat.le_refl _) lr0 lr1).mono ?_; rintro e W3 ⟨sa, sc, rfl, qS, bb⟩
  have B3 := Vl.hide (B2.out.trans (Below.mono bb B2.out.size))
  have sz3 : W2.heap.size ≤ W3.heap.size := by have qz := bb.size; (try simp only [World.size_alloc] at qz); (try simp only [World.size_alloc]); exact qz
  try clear u0 u1 u2 u3 v0 v1 v2 v3 z0 z1 z2 z3
  have QA_3 := Vl.hide (QA_2.out.below bb)
  have QB_3 := Vl.hide (QB_2.out.below bb)
  clear bb
  have QS_3 := Vl.hide qS
  clear qS
  have UQS := Vl.hide (fun k q => QS_3.out.blk (b := k) q)
  go_wp2_with fail
  refine (Vl.toIntS w.heap.size a0 r0 cap0 D0 _ (H0.out.below B3.out) B3.out.size lr0).mono ?_; rintro e W4 ⟨rfl, q4, t4, bb⟩
  have B4 := Vl.hide (B3.out.trans (Below.mono bb B3.out.size))
  have sz4 : W3.heap.size ≤ W4.heap.size := by have qz := bb.size; (try simp only [World.size_alloc] at qz); (try simp only [World.size_alloc]); exact qz
  try clear u0 u1 u2 u3 v0 v1 v2 v3 z0 z1 z2 z3
  have QS_4 := Vl.hide (QS_3.out.below bb)
  clear bb
  have qq : Vl.OwnL W3.heap.size W4 (some ⟨W3.heap.size, 0, none⟩) r0 D0 := .inr ⟨_, rfl, Nat.le_refl _, by have qz := q4; (try simp only [World.size_alloc] at qz); exact qz⟩
  clear q4
  have QX_4 := Vl.hide qq
  clear qq
  have UQX := Vl.hide (fun k q => QX_4.out.blk (b := k) q)
  go_wp2_with fail
  refine (Vl.toIntS w.heap.size a1 r1 cap1 D1 _ (H1.out.below B4.out) B4.out.size lr1).mono ?_; rintro e W5 ⟨rfl, q5, t5, bb⟩
  have B5 := Vl.hide (B4.out.trans (Below.mono bb B4.out.size))
  have sz5 : W4.heap.size ≤ W5.heap.size := by have qz := bb.size; (try simp only [World.size_alloc] at qz); (try simp only [World.size_alloc]); exact qz
  try clear u0 u1 u2 u3 v0 v1 v2 v3 z0 z1 z2 z3
  have QS_5 := Vl.hide (QS_4.out.below bb)
  have QX_5 := Vl.hide (QX_4.out.below bb)
  clear bb
  have qq : Vl.OwnL W4.heap.size W5 (some ⟨W4.heap.size, 0, none⟩) r1 D1 := .inr ⟨_, rfl, Nat.le_refl _, by have qz := q5; (try simp only [World.size_alloc] at qz); exact qz⟩
  clear q5
  have QY_5 := Vl.hide qq
  clear qq
  have UQY := Vl.hide (fun k q => QY_5.out.blk (b := k) q)
  go_wp2_with fail
  refine (Vo.joint _ _ _ r0 r1 _ _ D0 D1 _ QX_5.out.ints QY_5.out.ints (Nat.le_refl _) lr0 lr1 (fun h => by cases h) (fun h => by cases h)).mono ?_; rintro e W6 ⟨ga, gc, rfl, qg, bb⟩
  have B6 := Vl.hide (B5.out.trans (Below.mono bb B5.out.size))
  have sz6 : W5.heap.size ≤ W6.heap.size := by have qz := bb.size; (try simp only [World.size_alloc] at qz); (try simp only [World.size_alloc]); exact qz
  try clear u0 u1 u2 u3 v0 v1 v2 v3 z0 z1 z2 z3
  have QS_6 := Vl.hide (QS_5.out.below bb)
  have QX_6 := Vl.hide (QX_5.out.below bb)
  have QY_6 := Vl.hide (QY_5.out.below bb)
  clear bb
  have QG_6 := Vl.hide qg
  clear qg
  have UQG := Vl.hide (fun k q => QG_6.out.blk (b := k) q)
  go_wp2_with fail
  refine (Vl.eqIntS _ _ _ (Vo.jn r0 r1 D0 D1) gc sc (Vo.jt r0 r1 D0 D1) (Vo.jt r0 r1 D0 D1) _ QG_6.out.ints QS_6.out.ints (fun _ _ => rfl) lj).mono ?_; rintro e W7 ⟨rfl, bb⟩
  have B7 := Vl.hide (B6.out.trans (Below.mono bb B6.out.size))
  have sz7 : W6.heap.size ≤ W7.heap.size := by have qz := bb.size; (try simp only [World.size_alloc] at qz); (try simp only [World.size_alloc]); exact qz
  try clear u0 u1 u2 u3 v0 v1 v2 v3 z0 z1 z2 z3
  have QS_7 := Vl.hide (QS_6.out.below bb)
  have QX_7 := Vl.hide (QX_6.out.below bb)
  have QY_7 := Vl.hide (QY_6.out.below bb)
  have QG_7 := Vl.hide (QG_6.out.below bb)
  clear bb
  go_wp2_with fail
  refine (Vl.toIntS w.heap.size a0 r0 cap0 D0 _ (H0.out.below B7.out) B7.out.size lr0).mono ?_; rintro e W8 ⟨rfl, q8, t8, bb⟩
  have B8 := Vl.hide (B7.out.trans (Below.mono bb B7.out.size))
  have sz8 : W7.heap.size ≤ W8.heap.size := by have qz := bb.size; (try simp only [World.size_alloc] at qz); (try simp only [World.size_alloc]); exact qz
  try clear u0 u1 u2 u3 v0 v1 v2 v3 z0 z1 z2 z3
  have QS_8 := Vl.hide (QS_7.out.below bb)
  have QX_8 := Vl.hide (QX_7.out.below bb)
  have QY_8 := Vl.hide (QY_7.out.below bb)
  have QG_8 := Vl.hide (QG_7.out.below bb)
  clear bb
  have qq : Vl.OwnL W7.heap.size W8 (some ⟨W7.heap.size, 0, none⟩) r0 D0 := .inr ⟨_, rfl, Nat.le_refl _, by have qz := q8; (try simp only [World.size_alloc] at qz); exact qz⟩
  clear q8
  have QZ_8 := Vl.hide qq
  clear qq
  have UQZ := Vl.hide (fun k q => QZ_8.out.blk (b := k) q)
  go_wp2_with fail
  refine (Vl.eqIntS _ _ _ r0 r0 r0 D0 D0 _ QX_8.out.ints QZ_8.out.ints (fun _ _ => rfl) lr0).mono ?_; rintro e W9 ⟨rfl, bb⟩
  have B9 := Vl.hide (B8.out.trans (Below.mono bb B8.out.size))
  have sz9 : W8.heap.size ≤ W9.heap.size := by have qz := bb.size; (try simp only [World.size_alloc] at qz); (try simp only [World.size_alloc]); exact qz
  try clear u0 u1 u2 u3 v0 v1 v2 v3 z0 z1 z2 z3
  have QS_9 := Vl.hide (QS_8.out.below bb)
  have QX_9 := Vl.hide (QX_8.out.below bb)
  have QY_9 := Vl.hide (QY_8.out.below bb)
  have QG_9 := Vl.hide (QG_8.out.below bb)
  have QZ_9 := Vl.hide (QZ_8.out.below bb)
  clear bb
  go_wp2_with fail
  refine (Vl.toIntS w.heap.size a1 r1 cap1 D1 _ (H1.out.below B9.out) B9.out.size lr1).mono ?_; rintro e W10 ⟨rfl, q10, t10, bb⟩
  have B10 := Vl.hide (B9.out.trans (Below.mono bb B9.out.size))
  have sz10 : W9.heap.size ≤ W10.heap.size := by have qz := bb.size; (try simp only [World.size_alloc] at qz); (try simp only [World.size_alloc]); exact qz
  try clear u0 u1 u2 u3 v0 v1 v2 v3 z0 z1 z2 z3
  have QS_10 := Vl.hide (QS_9.out.below bb)
  have QX_10 := Vl.hide (QX_9.out.below bb)
  have QY_10 := Vl.hide (QY_9.out.below bb)
  have QG_10 := Vl.hide (QG_9.out.below bb)
  clear bb
  have qq : Vl.OwnL W9.heap.size W10 (some ⟨W9.heap.size, 0, none⟩) r1 D1 := .inr ⟨_, rfl, Nat.le_refl _, by have qz := q10; (try simp only [World.size_alloc] at qz); exact qz⟩
  clear q10
  have QV_10 := Vl.hide qq
  clear qq
  have UQV := Vl.hide (fun k q => QV_10.out.blk (b := k) q)
  go_wp2_with fail
  refine (Vl.eqIntS _ _ _ r1 r1 r1 D1 D1 _ QY_10.out.ints QV_10.out.ints (fun _ _ => rfl) lr1).mono ?_; rintro e W11 ⟨rfl, bb⟩
  have B11 := Vl.hide (B10.out.trans (Below.mono bb B10.out.size))
  have sz11 : W10.heap.size ≤ W11.heap.size := by have qz := bb.size; (try simp only [World.size_alloc] at qz); (try simp only [World.size_alloc]); exact qz
  try clear u0 u1 u2 u3 v0 v1 v2 v3 z0 z1 z2 z3
  have QS_11 := Vl.hide (QS_10.out.below bb)
  have QX_11 := Vl.hide (QX_10.out.below bb)
  have QY_11 := Vl.hide (QY_10.out.below bb)
  have QG_11 := Vl.hide (QG_10.out.below bb)
  have QV_11 := Vl.hide (QV_10.out.below bb)
  clear bb
  go_wp2_with fail
  refine (Vl.markIntS _ _ r0 r0 D0 1 _ QX_11.out lr0 (by omega) (by omega)).mono ?_; rintro e W12 ⟨rfl, qs, bb⟩
  have B12 := Vl.hide (B11.out.trans (Vl.Kept.below bb B11.out.size (fun k q => by have := UQX.out _ q; omega)))
  have sz12 : W11.heap.size ≤ W12.heap.size := by have qz := bb.size; (try simp only [World.size_alloc] at qz); (try simp only [World.size_alloc]); exact qz
  try clear u0 u1 u2 u3 v0 v1 v2 v3 z0 z1 z2 z3
  have QS_12 := Vl.hide (QS_11.out.kept bb (fun k q q' => by have := UQS.out _ q; have := UQX.out _ q'; omega))
  have QX_12 := Vl.hide qs
  have QY_12 := Vl.hide (QY_11.out.kept bb (fun k q q' => by have := UQY.out _ q; have := UQX.out _ q'; omega))
  have QG_12 := Vl.hide (QG_11.out.kept bb (fun k q q' => by have := UQG.out _ q; have := UQX.out _ q'; omega))
  clear bb
  clear qs
  go_wp2_with fail
  refine (Vl.markIntS _ _ r1 r1 D1 (1 + r0) _ QY_12.out lr1 (by omega) (by omega)).mono ?_; rintro e W13 ⟨rfl, qs, bb⟩
  have B13 := Vl.hide (B12.out.trans (Vl.Kept.below bb B12.out.size (fun k q => by have := UQY.out _ q; omega)))
  have sz13 : W12.heap.size ≤ W13.heap.size := by have qz := bb.size; (try simp only [World.size_alloc] at qz); (try simp only [World.size_alloc]); exact qz
  try clear u0 u1 u2 u3 v0 v1 v2 v3 z0 z1 z2 z3
  have QS_13 := Vl.hide (QS_12.out.kept bb (fun k q q' => by have := UQS.out _ q; have := UQY.out _ q'; omega))
  have QX_13 := Vl.hide (QX_12.out.kept bb (fun k q q' => by have := UQX.out _ q; have := UQY.out _ q'; omega))
  have QY_13 := Vl.hide qs
  have QG_13 := Vl.hide (QG_12.out.kept bb (fun k q q' => by have := UQG.out _ q; have := UQY.out _ q'; omega))
  clear bb
  clear qs
  have neg1 : decide ((1 : Int) + r0 + r1 < 0) = false := by rw [decide_eq_false_iff_not]; omega
  go_wp2_with fail
  refine (Vl.eqIntS _ _ _ (Vo.jn r0 r1 D0 D1) gc sc (Vo.jt r0 r1 D0 D1) (Vo.jt r0 r1 D0 D1) _ QG_13.out.ints QS_13.out.ints (fun _ _ => rfl) lj).mono ?_; rintro e W14 ⟨rfl, bb⟩
  have B14 := Vl.hide (B13.out.trans (Below.mono bb B13.out.size))
  have sz14 : W13.heap.size ≤ W14.heap.size := by have qz := bb.size; (try simp only [World.size_alloc] at qz); (try simp only [World.size_alloc]); exact qz
  try clear u0 u1 u2 u3 v0 v1 v2 v3 z0 z1 z2 z3
  have QS_14 := Vl.hide (QS_13.out.below bb)
  have QG_14 := Vl.hide (QG_13.out.below bb)
  clear bb
  go_wp2_with fail
  refine (Vl.markIntS _ _ (Vo.jn r0 r1 D0 D1) gc (Vo.jt r0 r1 D0 D1) 1 _ QG_14.out lj (by omega) (by omega)).mono ?_; rintro e W15 ⟨rfl, qs, bb⟩
  have B15 := Vl.hide (B14.out.trans (Vl.Kept.below bb B14.out.size (fun k q => by have := UQG.out _ q; omega)))
  have sz15 : W14.heap.size ≤ W15.heap.size := by have qz := bb.size; (try simp only [World.size_alloc] at qz); (try simp only [World.size_alloc]); exact qz
  try clear u0 u1 u2 u3 v0 v1 v2 v3 z0 z1 z2 z3
  have QS_15 := Vl.hide (QS_14.out.kept bb (fun k q q' => by have := UQS.out _ q; have := UQG.out _ q'; omega))
  have QG_15 := Vl.hide qs
  clear bb
  clear qs
  have neg2 : decide ((1 : Int) + (Vo.jn r0 r1 D0 D1 : Nat) < 0) = false := by rw [decide_eq_false_iff_not]; omega
  go_wp2_with fail
  refine (Vl.heldIntS _ _ (Vo.jn r0 r1 D0 D1) gc 1 _ QG_15.out.ints lj (by omega) (by omega)).mono ?_; rintro e w' ⟨rfl, hq⟩; have hq := hq.symm; subst hq
  go_wp2_with fail
  refine (Vl.toIntS w.heap.size a0 r0 cap0 D0 _ (H0.out.below B15.out) B15.out.size lr0).mono ?_; rintro e W16 ⟨rfl, q16, t16, bb⟩
  have B16 := Vl.hide (B15.out.trans (Below.mono bb B15.out.size))
  have sz16 : W15.heap.size ≤ W16.heap.size := by have qz := bb.size; (try simp only [World.size_alloc] at qz); (try simp only [World.size_alloc]); exact qz
  try clear u0 u1 u2 u3 v0 v1 v2 v3 z0 z1 z2 z3
  have QS_16 := Vl.hide (QS_15.out.below bb)
  have QG_16 := Vl.hide (QG_15.out.below bb)
  clear bb
  have qq : Vl.OwnL W15.heap.size W16 (some ⟨W15.heap.size, 0, none⟩) r0 D0 := .inr ⟨_, rfl, Nat.le_refl _, by have qz := q16; (try simp only [World.size_alloc] at qz); exact qz⟩
  clear q16
  have QM_16 := Vl.hide qq
  clear qq
  have UQM := Vl.hide (fun k q => QM_16.out.blk (b := k) q)
  go_wp2_with fail
  refine (Vl.toIntS w.heap.size a1 r1 cap1 D1 _ (H1.out.below B16.out) B16.out.size lr1).mono ?_; rintro e W17 ⟨rfl, q17, t17, bb⟩
  have B17 := Vl.hide (B16.out.trans (Below.mono bb B16.out.size))
  have sz17 : W16.heap.size ≤ W17.heap.size := by have qz := bb.size; (try simp only [World.size_alloc] at qz); (try simp only [World.size_alloc]); exact qz
  try clear u0 u1 u2 u3 v0 v1 v2 v3 z0 z1 z2 z3
  have QS_17 := Vl.hide (QS_16.out.below bb)
  have QG_17 := Vl.hide (QG_16.out.below bb)
  have QM_17 := Vl.hide (QM_16.out.below bb)
  clear bb
  have qq : Vl.OwnL W16.heap.size W17 (some ⟨W16.heap.size, 0, none⟩) r1 D1 := .inr ⟨_, rfl, Nat.le_refl _, by have qz := q17; (try simp only [World.size_alloc] at qz); exact qz⟩
  clear q17
  have QN_17 := Vl.hide qq
  clear qq
  have UQN := Vl.hide (fun k q => QN_17.out.blk (b := k) q)
  go_wp2_with fail
  refine (Vo.joint _ _ _ r0 r1 _ _ D0 D1 _ QM_17.out.ints QN_17.out.ints (Nat.le_refl _) lr0 lr1 (fun h => by cases h) (fun h => by cases h)).mono ?_; rintro e W18 ⟨ha, hc, rfl, qh, bb⟩
  have B18 := Vl.hide (B17.out.trans (Below.mono bb B17.out.size))
  have sz18 : W17.heap.size ≤ W18.heap.size := by have qz := bb.size; (try simp only [World.size_alloc] at qz); (try simp only [World.size_alloc]); exact qz
  try clear u0 u1 u2 u3 v0 v1 v2 v3 z0 z1 z2 z3
  have QS_18 := Vl.hide (QS_17.out.below bb)
  have QG_18 := Vl.hide (QG_17.out.below bb)
  have QM_18 := Vl.hide (QM_17.out.below bb)
  have QN_18 := Vl.hide (QN_17.out.below bb)
  clear bb
  have QH_18 := Vl.hide qh
  clear qh
  have UQH := Vl.hide (fun k q => QH_18.out.blk (b := k) q)
  go_wp2_with fail
  refine (Vl.eqIntS _ _ _ (Vo.jn r0 r1 D0 D1) hc sc (Vo.jt r0 r1 D0 D1) (Vo.jt r0 r1 D0 D1) _ QH_18.out.ints QS_18.out.ints (fun _ _ => rfl) lj).mono ?_; rintro e W19 ⟨rfl, bb⟩
  have B19 := Vl.hide (B18.out.trans (Below.mono bb B18.out.size))
  have sz19 : W18.heap.size ≤ W19.heap.size := by have qz := bb.size; (try simp only [World.size_alloc] at qz); (try simp only [World.size_alloc]); exact qz
  try clear u0 u1 u2 u3 v0 v1 v2 v3 z0 z1 z2 z3
  have QS_19 := Vl.hide (QS_18.out.below bb)
  have QG_19 := Vl.hide (QG_18.out.below bb)
  have QH_19 := Vl.hide (QH_18.out.below bb)
  clear bb
  go_wp2_with fail
  refine (Vl.heldIntS _ _ (Vo.jn r0 r1 D0 D1) gc 1 _ QG_19.out.ints lj (by omega) (by omega)).mono ?_; rintro e w' ⟨rfl, hq⟩; have hq := hq.symm; subst hq
  go_wp2_with fail
  go_ret
  exact ⟨rfl, B19.out⟩

set_option maxRecDepth 100000 in
theorem lifted (os : Os) (started : os.Started) (H : Type) (enc : TypeId × Value → H) :
    ReturnsInHanded {} Try.checked os 3 .any (Rows.fnExactJointSpec.pre6 enc Try.prog Try.f3 Rows.fnExactJointRow.domain false) (Rows.fnExactJointSpec.post enc Try.prog Try.f3 false true false false) := by
  refine returnsInHanded_of_change (C := Try.checked) own started (by kernel_rfl) Try.func3
    (ChangeSpec.witness6 (enc := enc) (C := Try.checked) false ⟨#[], #[.slice none 0 0, .slice none 0 0], []⟩ 8 (by kernel_rfl) (by kernel_rfl) (by kernel_rfl) (by kernel_rfl)) ?_
  intro W base args ds gs before hval0 hW hcnd _
  have hval : ∀ (j : Nat) t v, Try.f3.params[j]? = some t → args[j]? = some v → Value.okWide Try.prog W .any base t v := hval0
  have hW' := hW
  obtain ⟨p, q, hA0, hV, rfl, hfz, hnd⟩ := hW
  have hA : DataW.TrodAll enc Try.prog W 0 (fun _ => true) true Try.f3.params.toList args.toList ds p := hA0
  rw [Try.params3] at hA hval
  obtain ⟨v0, vs0, d0, ds0, p0, q0, hargs, rfl, rfl, h0, rst0⟩ := trodAll_cons hA
  obtain ⟨v1, vs1, d1, ds1, p1, q1, rfl, rfl, rfl, h1, rst1⟩ := trodAll_cons rst0
  obtain ⟨rfl, rfl, rfl⟩ := trodAll_nil rst1
  obtain rfl : args = #[v0, v1] := by cases args; simp_all
  obtain ⟨rfl, rfl⟩ := trodVars_none hV
  have k0 := h0
  have lt0 : ∀ x ∈ p0, x.block < W.heap.size := by obtain ⟨m, hm⟩ := k0; exact DataW.trod_lt m _ _ _ hm
  obtain ⟨a0, r0, cap0, rfl⟩ := okWide_slice Try.underlying22 (hval 0 22 v0 rfl rfl)
  have w0 : Vl.Arg W a0 r0 := Vl.arg_at h0
  have k1 := h1
  have lt1 : ∀ x ∈ p1, x.block < W.heap.size := by obtain ⟨m, hm⟩ := k1; exact DataW.trod_lt m _ _ _ hm
  obtain ⟨a1, r1, cap1, rfl⟩ := okWide_slice Try.underlying22 (hval 1 22 v1 rfl rfl)
  have w1 : Vl.Arg W a1 r1 := Vl.arg_at h1
  clear hA0 hval0
  refine (walk a0 r0 cap0 a1 r1 cap1 W w0 w1).mono fun e W' ⟨he, bel⟩ => ?_
  subst he
  exact ⟨_, rfl, _, _, _, [], _, [], hW', trodAll_mk1 (shut_bool Try.underlying4 _), (trodAll_cons_mk (Below.trod laidOut (by kernel_rfl) (of_decide_eq_true (by kernel_rfl)) k0 bel lt0) (trodAll_cons_mk (Below.trod laidOut (by kernel_rfl) (of_decide_eq_true (by kernel_rfl)) k1 bel lt1) trodAll_mk0)), rfl, bel.frame _, fun h => by cases h⟩

theorem over : Rows.fnExactJointRow.holds Try.pinned (OpenSpec.ofChange Rows.fnExactJointSpec) :=
  OpenClaim.holds_of_wide 3 Try.f3 rfl rfl rfl rfl rfl rfl rfl ⟨rfl, rfl, rfl, rfl, rfl⟩ rfl rfl rfl rfl rfl (by kernel_rfl) Try.func3 (by kernel_rfl)
    (of_decide_eq_true (by kernel_rfl)) (by unfold Func.isWrapper; first | (rw [if_pos (by decide +kernel)]; kernel_rfl) | (rw [if_neg (by decide +kernel)]; exact ⟨rfl, rfl⟩))
    (fun os started H enc _ => lifted os started H enc)

theorem proved : Rows.FnExactJointSaid := over
#print axioms proved
end Go.Proofs.Ytbepgcdfdaeecac.fnExactJoint
