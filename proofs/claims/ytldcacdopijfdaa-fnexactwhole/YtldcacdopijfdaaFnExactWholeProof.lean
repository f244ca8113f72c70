/-
  Proved: whatever the arguments, 'FnExactWhole' returns true: the landed function answers as its model, and what came in reads as it did. No condition.
-/
import Derived.Test.YtldcacdopijfdaaRows
import Derived.Test.YtldcacdopijfdaaVl
import Derived.Test.YtldcacdopijfdaaVp
import Derived.Test.YtldcacdopijfdaaVs
import Derived.Test.YtldcacdopijfdaaVq
import Derived.Test.YtldcacdopijfdaaVo
import Derived.Test.YtldcacdopijfdaaVm
import Derived.Test.YtldcacdopijfdaaVn
import Derived.Test.YtldcacdopijfdaaVt
import Derived.Test.YtldcacdopijfdaaVv
import Derived.Test.YtldcacdopijfdaaVc
import Derived.Test.YtldcacdopijfdaaVr
import Derived.Test.YtldcacdopijfdaaVw
import Derived.Test.YtldcacdopijfdaaVx
import Derived.Test.YtldcacdopijfdaaVy
import Derived.Test.YtldcacdopijfdaaVz
import Derived.Test.YtldcacdopijfdaaVac
import Derived.Test.YtldcacdopijfdaaVaf
import Derived.Test.YtldcacdopijfdaaVag
import Derived.Test.YtldcacdopijfdaaVah
import Derived.Test.YtldcacdopijfdaaVai
import Derived.Test.YtldcacdopijfdaaVaj
import Derived.WalkKit
import Derived.ProofKit
import Derived.OpenShut
import Derived.ShutString
import Derived.ChangeOld
import Derived.Below
import Derived.Lib.SmallJoins
import Derived.OpenVars
import Derived.ChangeVars
import Derived.Deep.RegionHeld3
namespace Go.Proofs.Ytldcacdopijfdaa.fnExactWhole
open Go.ChangeShapes Go.WideShapes Go.ChangeAt Go.RowKit Go.Joins
open Go.ChangeMaps (open_string shut_string)
set_option linter.unusedVariables false

theorem own : ownKnob Try.prog.godebug = none := by kernel_rfl
theorem laidOut : laidOutB Try.prog = true := by kernel_rfl

theorem walk (a0 : Option Addr) (r0 cap0 : Nat) (w : World) (w0 : Vl.Arg w a0 r0) :
    Calls Try.prog 3 #[.slice a0 r0 cap0] w fun e w' => e = .returned (.bool true) ∧ Below w.heap.size w w' := by
  obtain ⟨hr0, D0, hh0⟩ := w0
  have H0 := Vl.hide hh0
  clear hh0
  have B0 := Vl.hide (Below.refl w.heap.size w)
  by_cases h20 : 1048576 < (r0 : Int)
  · go_enter Try.func3, Try.ntmps3
    go_wp2_with fail
    go_ret
    exact ⟨rfl, B0.out⟩
  have g20 : decide (1048576 < (r0 : Int)) = false := by rw [decide_eq_false_iff_not]; exact h20
  have lr0 : (r0 : Int) ≤ 1048576 := by omega
  clear h20 hr0
  go_enter Try.func3, Try.ntmps3
  have lv : (((Vo.wholeV r0 D0).r : Nat) : Int) ≤ 1048576 := by have := (Vo.wholeV_le r0 D0).1; omega
  have lw : (((Vo.wholeV r0 D0).s : Nat) : Int) ≤ 1048576 := by have := (Vo.wholeV_le r0 D0).2; omega
  go_wp2_with fail
  refine (Vl.toIntS w.heap.size a0 r0 cap0 D0 _ (H0.out.below B0.out) B0.out.size lr0).mono ?_; rintro e W1 ⟨rfl, q1, t1, bb⟩
  have B1 := Vl.hide (B0.out.trans (Below.mono bb B0.out.size))
  have sz1 : w.heap.size ≤ W1.heap.size := by have qz := bb.size; (try simp only [World.size_alloc] at qz); (try simp only [World.size_alloc]); exact qz
  try clear u0 u1 u2 u3
  try clear v0 v1 v2 v3
  try clear z0 z1 z2 z3
  try clear p0 p1 p2 p3
  try clear fa0 fa1 fa2 fa3
  try clear fb0 fb1 fb2 fb3
  try clear fc0 fc1 fc2 fc3
  try clear fd0 fd1 fd2 fd3
  clear bb
  have qq : Vl.OwnL w.heap.size W1 (some ⟨w.heap.size, 0, none⟩) r0 D0 := .inr ⟨_, rfl, Nat.le_refl _, by have qz := q1; (try simp only [World.size_alloc] at qz); exact qz⟩
  clear q1
  have QA_1 := Vl.hide qq
  clear qq
  have uu := fun k q => QA_1.out.blk (b := k) q
  try simp only [World.size_alloc] at uu
  have UQA := Vl.hide uu
  clear uu
  go_wp2_with fail
  refine (Vo.specWhole _ _ r0 D0 _ QA_1.out.ints (Nat.le_refl _) lr0).mono ?_; rintro e W2 ⟨sa, sb, sc, sd, rfl, qs, bb⟩
  have B2 := Vl.hide (B1.out.trans (Below.mono bb B1.out.size))
  have sz2 : W1.heap.size ≤ W2.heap.size := by have qz := bb.size; (try simp only [World.size_alloc] at qz); (try simp only [World.size_alloc]); exact qz
  try clear u0 u1 u2 u3
  try clear v0 v1 v2 v3
  try clear z0 z1 z2 z3
  try clear p0 p1 p2 p3
  try clear fa0 fa1 fa2 fa3
  try clear fb0 fb1 fb2 fb3
  try clear fc0 fc1 fc2 fc3
  try clear fd0 fd1 fd2 fd3
  have QA_2 := Vl.hide (QA_1.out.below bb)
  clear bb
  have QS_2 := Vl.hide qs
  clear qs
  have uu := fun k q => QS_2.out.blk (k := k) q
  try simp only [World.size_alloc] at uu
  have UQS := Vl.hide uu
  clear uu
  have bb := (Below.refl W2.heap.size W2).alloc (Nat.le_refl _) (.cells #[.slice sa (Vo.wholeV r0 D0).r sc, .slice sb (Vo.wholeV r0 D0).s sd, .int .i64 (Vo.wholeV r0 D0).o, .int .i64 (Vo.wholeV r0 D0).n] 24)
  have S_3 := Vl.hide (Vo.box_new W2 (.slice sa (Vo.wholeV r0 D0).r sc) (.slice sb (Vo.wholeV r0 D0).s sd) (.int .i64 (Vo.wholeV r0 D0).o) (.int .i64 (Vo.wholeV r0 D0).n) 24)
  have B3 := Vl.hide (B2.out.trans (Below.mono bb B2.out.size))
  have sz3 : W2.heap.size ≤ (W2.alloc (.cells #[.slice sa (Vo.wholeV r0 D0).r sc, .slice sb (Vo.wholeV r0 D0).s sd, .int .i64 (Vo.wholeV r0 D0).o, .int .i64 (Vo.wholeV r0 D0).n] 24)).heap.size := by have qz := bb.size; (try simp only [World.size_alloc] at qz); (try simp only [World.size_alloc]); exact qz
  simp only [World.size_alloc] at sz3
  try clear u0 u1 u2 u3
  try clear v0 v1 v2 v3
  try clear z0 z1 z2 z3
  try clear p0 p1 p2 p3
  try clear fa0 fa1 fa2 fa3
  try clear fb0 fb1 fb2 fb3
  try clear fc0 fc1 fc2 fc3
  try clear fd0 fd1 fd2 fd3
  have QA_3 := Vl.hide (QA_2.out.below bb)
  have QS_3 := Vl.hide (QS_2.out.below bb)
  clear bb
  obtain ⟨u0, u1, u2, u3⟩ := S_3.out
  go_wp2_with fail
  refine (Vl.toIntS w.heap.size a0 r0 cap0 D0 _ (H0.out.below B3.out) B3.out.size lr0).mono ?_; rintro e W4 ⟨rfl, q4, t4, bb⟩
  have B4 := Vl.hide (B3.out.trans (Below.mono bb B3.out.size))
  have sz4 : (W2.heap.size + 1) ≤ W4.heap.size := by have qz := bb.size; (try simp only [World.size_alloc] at qz); (try simp only [World.size_alloc]); exact qz
  try clear u0 u1 u2 u3
  try clear v0 v1 v2 v3
  try clear z0 z1 z2 z3
  try clear p0 p1 p2 p3
  try clear fa0 fa1 fa2 fa3
  try clear fb0 fb1 fb2 fb3
  try clear fc0 fc1 fc2 fc3
  try clear fd0 fd1 fd2 fd3
  have QS_4 := Vl.hide (QS_3.out.below bb)
  have S_4 := Vl.hide (Vo.Box.below S_3.out bb (by first | omega | (simp; done) | (simp; omega)))
  obtain ⟨u0, u1, u2, u3⟩ := S_4.out
  clear bb
  have qq : Vl.OwnL (W2.heap.size + 1) W4 (some ⟨(W2.heap.size + 1), 0, none⟩) r0 D0 := .inr ⟨_, rfl, Nat.le_refl _, by have qz := q4; (try simp only [World.size_alloc] at qz); exact qz⟩
  clear q4
  have QX_4 := Vl.hide qq
  clear qq
  have uu := fun k q => QX_4.out.blk (b := k) q
  try simp only [World.size_alloc] at uu
  have UQX := Vl.hide uu
  clear uu
  go_wp2_with fail
  refine (Vo.whole _ _ r0 D0 _ QX_4.out.ints (Nat.le_refl _) lr0).mono ?_; rintro e W5 ⟨ga, gb, gc, gd, rfl, qg, bb⟩
  have B5 := Vl.hide (B4.out.trans (Below.mono bb B4.out.size))
  have sz5 : W4.heap.size ≤ W5.heap.size := by have qz := bb.size; (try simp only [World.size_alloc] at qz); (try simp only [World.size_alloc]); exact qz
  try clear u0 u1 u2 u3
  try clear v0 v1 v2 v3
  try clear z0 z1 z2 z3
  try clear p0 p1 p2 p3
  try clear fa0 fa1 fa2 fa3
  try clear fb0 fb1 fb2 fb3
  try clear fc0 fc1 fc2 fc3
  try clear fd0 fd1 fd2 fd3
  have QS_5 := Vl.hide (QS_4.out.below bb)
  have S_5 := Vl.hide (Vo.Box.below S_4.out bb (by first | omega | (simp; done) | (simp; omega)))
  have QX_5 := Vl.hide (QX_4.out.below bb)
  obtain ⟨u0, u1, u2, u3⟩ := S_5.out
  clear bb
  have QG_5 := Vl.hide qg
  clear qg
  have uu := fun k q => QG_5.out.blk (k := k) q
  try simp only [World.size_alloc] at uu
  have UQG := Vl.hide uu
  clear uu
  have bb := (Below.refl W5.heap.size W5).alloc (Nat.le_refl _) (.cells #[.slice ga (Vo.wholeV r0 D0).r gc, .slice gb (Vo.wholeV r0 D0).s gd, .int .i64 (Vo.wholeV r0 D0).o, .int .i64 (Vo.wholeV r0 D0).n] 24)
  have G_6 := Vl.hide (Vo.box_new W5 (.slice ga (Vo.wholeV r0 D0).r gc) (.slice gb (Vo.wholeV r0 D0).s gd) (.int .i64 (Vo.wholeV r0 D0).o) (.int .i64 (Vo.wholeV r0 D0).n) 24)
  have B6 := Vl.hide (B5.out.trans (Below.mono bb B5.out.size))
  have sz6 : W5.heap.size ≤ (W5.alloc (.cells #[.slice ga (Vo.wholeV r0 D0).r gc, .slice gb (Vo.wholeV r0 D0).s gd, .int .i64 (Vo.wholeV r0 D0).o, .int .i64 (Vo.wholeV r0 D0).n] 24)).heap.size := by have qz := bb.size; (try simp only [World.size_alloc] at qz); (try simp only [World.size_alloc]); exact qz
  simp only [World.size_alloc] at sz6
  try clear u0 u1 u2 u3
  try clear v0 v1 v2 v3
  try clear z0 z1 z2 z3
  try clear p0 p1 p2 p3
  try clear fa0 fa1 fa2 fa3
  try clear fb0 fb1 fb2 fb3
  try clear fc0 fc1 fc2 fc3
  try clear fd0 fd1 fd2 fd3
  have QS_6 := Vl.hide (QS_5.out.below bb)
  have S_6 := Vl.hide (Vo.Box.below S_5.out bb (by first | omega | (simp; done) | (simp; omega)))
  have QX_6 := Vl.hide (QX_5.out.below bb)
  have QG_6 := Vl.hide (QG_5.out.below bb)
  obtain ⟨u0, u1, u2, u3⟩ := S_6.out
  clear bb
  obtain ⟨v0, v1, v2, v3⟩ := G_6.out
  go_wp2_with fail
  refine (Vo.eqView _ _ _ _ _ (Vo.wholeV r0 D0).r (Vo.wholeV r0 D0).s gc gd sc sd (Vo.wholeV r0 D0).D (Vo.wholeV r0 D0).S (Vo.wholeV r0 D0).D (Vo.wholeV r0 D0).S (Vo.wholeV r0 D0).o (Vo.wholeV r0 D0).n _ (Nat.le_refl _) QG_6.out.d.ints QG_6.out.t.ints QS_6.out.d.ints QS_6.out.t.ints (fun _ _ => rfl) (fun _ _ => rfl) lv lw).mono ?_; rintro e W7 ⟨rfl, bb⟩
  have B7 := Vl.hide (B6.out.trans (Below.mono bb B6.out.size))
  have sz7 : (W5.heap.size + 1) ≤ W7.heap.size := by have qz := bb.size; (try simp only [World.size_alloc] at qz); (try simp only [World.size_alloc]); exact qz
  try clear u0 u1 u2 u3
  try clear v0 v1 v2 v3
  try clear z0 z1 z2 z3
  try clear p0 p1 p2 p3
  try clear fa0 fa1 fa2 fa3
  try clear fb0 fb1 fb2 fb3
  try clear fc0 fc1 fc2 fc3
  try clear fd0 fd1 fd2 fd3
  have QS_7 := Vl.hide (QS_6.out.below bb)
  have S_7 := Vl.hide (Vo.Box.below S_6.out bb (by first | omega | (simp; done) | (simp; omega)))
  have QX_7 := Vl.hide (QX_6.out.below bb)
  have QG_7 := Vl.hide (QG_6.out.below bb)
  have G_7 := Vl.hide (Vo.Box.below G_6.out bb (by first | omega | (simp; done) | (simp; omega)))
  obtain ⟨u0, u1, u2, u3⟩ := S_7.out
  obtain ⟨v0, v1, v2, v3⟩ := G_7.out
  clear bb
  go_wp2_with fail
  refine (Vl.toIntS w.heap.size a0 r0 cap0 D0 _ (H0.out.below B7.out) B7.out.size lr0).mono ?_; rintro e W8 ⟨rfl, q8, t8, bb⟩
  have B8 := Vl.hide (B7.out.trans (Below.mono bb B7.out.size))
  have sz8 : W7.heap.size ≤ W8.heap.size := by have qz := bb.size; (try simp only [World.size_alloc] at qz); (try simp only [World.size_alloc]); exact qz
  try clear u0 u1 u2 u3
  try clear v0 v1 v2 v3
  try clear z0 z1 z2 z3
  try clear p0 p1 p2 p3
  try clear fa0 fa1 fa2 fa3
  try clear fb0 fb1 fb2 fb3
  try clear fc0 fc1 fc2 fc3
  try clear fd0 fd1 fd2 fd3
  have QS_8 := Vl.hide (QS_7.out.below bb)
  have S_8 := Vl.hide (Vo.Box.below S_7.out bb (by first | omega | (simp; done) | (simp; omega)))
  have QX_8 := Vl.hide (QX_7.out.below bb)
  have QG_8 := Vl.hide (QG_7.out.below bb)
  have G_8 := Vl.hide (Vo.Box.below G_7.out bb (by first | omega | (simp; done) | (simp; omega)))
  obtain ⟨u0, u1, u2, u3⟩ := S_8.out
  obtain ⟨v0, v1, v2, v3⟩ := G_8.out
  clear bb
  have qq : Vl.OwnL W7.heap.size W8 (some ⟨W7.heap.size, 0, none⟩) r0 D0 := .inr ⟨_, rfl, Nat.le_refl _, by have qz := q8; (try simp only [World.size_alloc] at qz); exact qz⟩
  clear q8
  have QZ_8 := Vl.hide qq
  clear qq
  have uu := fun k q => QZ_8.out.blk (b := k) q
  try simp only [World.size_alloc] at uu
  have UQZ := Vl.hide uu
  clear uu
  go_wp2_with fail
  refine (Vl.eqIntS _ _ _ r0 r0 r0 D0 D0 _ QX_8.out.ints QZ_8.out.ints (fun _ _ => rfl) lr0).mono ?_; rintro e W9 ⟨rfl, bb⟩
  have B9 := Vl.hide (B8.out.trans (Below.mono bb B8.out.size))
  have sz9 : W8.heap.size ≤ W9.heap.size := by have qz := bb.size; (try simp only [World.size_alloc] at qz); (try simp only [World.size_alloc]); exact qz
  try clear u0 u1 u2 u3
  try clear v0 v1 v2 v3
  try clear z0 z1 z2 z3
  try clear p0 p1 p2 p3
  try clear fa0 fa1 fa2 fa3
  try clear fb0 fb1 fb2 fb3
  try clear fc0 fc1 fc2 fc3
  try clear fd0 fd1 fd2 fd3
  have QS_9 := Vl.hide (QS_8.out.below bb)
  have S_9 := Vl.hide (Vo.Box.below S_8.out bb (by first | omega | (simp; done) | (simp; omega)))
  have QX_9 := Vl.hide (QX_8.out.below bb)
  have QG_9 := Vl.hide (QG_8.out.below bb)
  have G_9 := Vl.hide (Vo.Box.below G_8.out bb (by first | omega | (simp; done) | (simp; omega)))
  have QZ_9 := Vl.hide (QZ_8.out.below bb)
  obtain ⟨u0, u1, u2, u3⟩ := S_9.out
  obtain ⟨v0, v1, v2, v3⟩ := G_9.out
  clear bb
  go_wp2_with fail
  refine (Vl.markIntS _ _ r0 r0 D0 1 _ QX_9.out lr0 (by omega) (by omega)).mono ?_; rintro e W10 ⟨rfl, qs, bb⟩
  have B10 := Vl.hide (B9.out.trans (Vl.Kept.below bb B9.out.size (fun k q => by have := UQX.out _ q; omega)))
  have sz10 : W9.heap.size ≤ W10.heap.size := by have qz := bb.size; (try simp only [World.size_alloc] at qz); (try simp only [World.size_alloc]); exact qz
  try clear u0 u1 u2 u3
  try clear v0 v1 v2 v3
  try clear z0 z1 z2 z3
  try clear p0 p1 p2 p3
  try clear fa0 fa1 fa2 fa3
  try clear fb0 fb1 fb2 fb3
  try clear fc0 fc1 fc2 fc3
  try clear fd0 fd1 fd2 fd3
  have QS_10 := Vl.hide (QS_9.out.kept bb (fun k q q' => by have := UQS.out _ q; have := UQX.out _ q'; omega))
  have S_10 := Vl.hide (Vo.Box.kept S_9.out bb (by omega) (fun q => by have := UQX.out _ q; omega))
  have QX_10 := Vl.hide qs
  have QG_10 := Vl.hide (QG_9.out.kept bb (fun k q q' => by have := UQG.out _ q; have := UQX.out _ q'; omega))
  have G_10 := Vl.hide (Vo.Box.kept G_9.out bb (by omega) (fun q => by have := UQX.out _ q; omega))
  obtain ⟨u0, u1, u2, u3⟩ := S_10.out
  obtain ⟨v0, v1, v2, v3⟩ := G_10.out
  clear bb
  clear qs
  have neg1 : decide ((1 : Int) + r0 < 0) = false := by rw [decide_eq_false_iff_not]; omega
  go_wp2_with fail
  refine (Vo.eqView _ _ _ _ _ (Vo.wholeV r0 D0).r (Vo.wholeV r0 D0).s gc gd sc sd (Vo.wholeV r0 D0).D (Vo.wholeV r0 D0).S (Vo.wholeV r0 D0).D (Vo.wholeV r0 D0).S (Vo.wholeV r0 D0).o (Vo.wholeV r0 D0).n _ (Nat.le_refl _) QG_10.out.d.ints QG_10.out.t.ints QS_10.out.d.ints QS_10.out.t.ints (fun _ _ => rfl) (fun _ _ => rfl) lv lw).mono ?_; rintro e W11 ⟨rfl, bb⟩
  have B11 := Vl.hide (B10.out.trans (Below.mono bb B10.out.size))
  have sz11 : W10.heap.size ≤ W11.heap.size := by have qz := bb.size; (try simp only [World.size_alloc] at qz); (try simp only [World.size_alloc]); exact qz
  try clear u0 u1 u2 u3
  try clear v0 v1 v2 v3
  try clear z0 z1 z2 z3
  try clear p0 p1 p2 p3
  try clear fa0 fa1 fa2 fa3
  try clear fb0 fb1 fb2 fb3
  try clear fc0 fc1 fc2 fc3
  try clear fd0 fd1 fd2 fd3
  have QS_11 := Vl.hide (QS_10.out.below bb)
  have S_11 := Vl.hide (Vo.Box.below S_10.out bb (by first | omega | (simp; done) | (simp; omega)))
  have QG_11 := Vl.hide (QG_10.out.below bb)
  have G_11 := Vl.hide (Vo.Box.below G_10.out bb (by first | omega | (simp; done) | (simp; omega)))
  obtain ⟨u0, u1, u2, u3⟩ := S_11.out
  obtain ⟨v0, v1, v2, v3⟩ := G_11.out
  clear bb
  go_wp2_with fail
  refine (Vo.markView _ _ _ (Vo.wholeV r0 D0).r (Vo.wholeV r0 D0).s gc gd (Vo.wholeV r0 D0).D (Vo.wholeV r0 D0).S (Vo.wholeV r0 D0).o (Vo.wholeV r0 D0).n 1 _ QG_11.out lv lw (by omega) (by omega)).mono ?_; rintro e W12 ⟨rfl, qs, bb⟩
  have B12 := Vl.hide (B11.out.trans (Vl.Kept.below bb B11.out.size (fun k q => by have := UQG.out _ q; omega)))
  have sz12 : W11.heap.size ≤ W12.heap.size := by have qz := bb.size; (try simp only [World.size_alloc] at qz); (try simp only [World.size_alloc]); exact qz
  try clear u0 u1 u2 u3
  try clear v0 v1 v2 v3
  try clear z0 z1 z2 z3
  try clear p0 p1 p2 p3
  try clear fa0 fa1 fa2 fa3
  try clear fb0 fb1 fb2 fb3
  try clear fc0 fc1 fc2 fc3
  try clear fd0 fd1 fd2 fd3
  have QS_12 := Vl.hide (QS_11.out.kept bb (fun k q q' => by have := UQS.out _ q; have := UQG.out _ q'; omega))
  have S_12 := Vl.hide (Vo.Box.kept S_11.out bb (by omega) (fun q => by have := UQG.out _ q; omega))
  have QG_12 := Vl.hide qs
  have G_12 := Vl.hide (Vo.Box.kept G_11.out bb (by omega) (fun q => by have := UQG.out _ q; omega))
  obtain ⟨u0, u1, u2, u3⟩ := S_12.out
  obtain ⟨v0, v1, v2, v3⟩ := G_12.out
  clear bb
  clear qs
  have neg2 : decide ((1 : Int) + ((Vo.wholeV r0 D0).r : Nat) + ((Vo.wholeV r0 D0).s : Nat) < 0) = false := by rw [decide_eq_false_iff_not]; omega
  go_wp2_with fail
  refine (Vo.heldView _ _ _ (Vo.wholeV r0 D0).r (Vo.wholeV r0 D0).s gc gd (Vo.wholeV r0 D0).o (Vo.wholeV r0 D0).n 1 _ QG_12.out lv lw (by omega) (by omega)).mono ?_; rintro e W13 ⟨rfl, bb⟩
  have B13 := Vl.hide (B12.out.trans (Below.mono bb B12.out.size))
  have sz13 : W12.heap.size ≤ W13.heap.size := by have qz := bb.size; (try simp only [World.size_alloc] at qz); (try simp only [World.size_alloc]); exact qz
  try clear u0 u1 u2 u3
  try clear v0 v1 v2 v3
  try clear z0 z1 z2 z3
  try clear p0 p1 p2 p3
  try clear fa0 fa1 fa2 fa3
  try clear fb0 fb1 fb2 fb3
  try clear fc0 fc1 fc2 fc3
  try clear fd0 fd1 fd2 fd3
  have QS_13 := Vl.hide (QS_12.out.below bb)
  have S_13 := Vl.hide (Vo.Box.below S_12.out bb (by first | omega | (simp; done) | (simp; omega)))
  have QG_13 := Vl.hide (QG_12.out.below bb)
  have G_13 := Vl.hide (Vo.Box.below G_12.out bb (by first | omega | (simp; done) | (simp; omega)))
  obtain ⟨u0, u1, u2, u3⟩ := S_13.out
  obtain ⟨v0, v1, v2, v3⟩ := G_13.out
  clear bb
  go_wp2_with fail
  refine (Vl.toIntS w.heap.size a0 r0 cap0 D0 _ (H0.out.below B13.out) B13.out.size lr0).mono ?_; rintro e W14 ⟨rfl, q14, t14, bb⟩
  have B14 := Vl.hide (B13.out.trans (Below.mono bb B13.out.size))
  have sz14 : W13.heap.size ≤ W14.heap.size := by have qz := bb.size; (try simp only [World.size_alloc] at qz); (try simp only [World.size_alloc]); exact qz
  try clear u0 u1 u2 u3
  try clear v0 v1 v2 v3
  try clear z0 z1 z2 z3
  try clear p0 p1 p2 p3
  try clear fa0 fa1 fa2 fa3
  try clear fb0 fb1 fb2 fb3
  try clear fc0 fc1 fc2 fc3
  try clear fd0 fd1 fd2 fd3
  have QS_14 := Vl.hide (QS_13.out.below bb)
  have S_14 := Vl.hide (Vo.Box.below S_13.out bb (by first | omega | (simp; done) | (simp; omega)))
  have QG_14 := Vl.hide (QG_13.out.below bb)
  have G_14 := Vl.hide (Vo.Box.below G_13.out bb (by first | omega | (simp; done) | (simp; omega)))
  obtain ⟨u0, u1, u2, u3⟩ := S_14.out
  obtain ⟨v0, v1, v2, v3⟩ := G_14.out
  clear bb
  have qq : Vl.OwnL W13.heap.size W14 (some ⟨W13.heap.size, 0, none⟩) r0 D0 := .inr ⟨_, rfl, Nat.le_refl _, by have qz := q14; (try simp only [World.size_alloc] at qz); exact qz⟩
  clear q14
  have QM_14 := Vl.hide qq
  clear qq
  have uu := fun k q => QM_14.out.blk (b := k) q
  try simp only [World.size_alloc] at uu
  have UQM := Vl.hide uu
  clear uu
  go_wp2_with fail
  refine (Vo.whole _ _ r0 D0 _ QM_14.out.ints (Nat.le_refl _) lr0).mono ?_; rintro e W15 ⟨ha, hb, hc, hd, rfl, qh, bb⟩
  have B15 := Vl.hide (B14.out.trans (Below.mono bb B14.out.size))
  have sz15 : W14.heap.size ≤ W15.heap.size := by have qz := bb.size; (try simp only [World.size_alloc] at qz); (try simp only [World.size_alloc]); exact qz
  try clear u0 u1 u2 u3
  try clear v0 v1 v2 v3
  try clear z0 z1 z2 z3
  try clear p0 p1 p2 p3
  try clear fa0 fa1 fa2 fa3
  try clear fb0 fb1 fb2 fb3
  try clear fc0 fc1 fc2 fc3
  try clear fd0 fd1 fd2 fd3
  have QS_15 := Vl.hide (QS_14.out.below bb)
  have S_15 := Vl.hide (Vo.Box.below S_14.out bb (by first | omega | (simp; done) | (simp; omega)))
  have QG_15 := Vl.hide (QG_14.out.below bb)
  have G_15 := Vl.hide (Vo.Box.below G_14.out bb (by first | omega | (simp; done) | (simp; omega)))
  have QM_15 := Vl.hide (QM_14.out.below bb)
  obtain ⟨u0, u1, u2, u3⟩ := S_15.out
  obtain ⟨v0, v1, v2, v3⟩ := G_15.out
  clear bb
  have QH_15 := Vl.hide qh
  clear qh
  have uu := fun k q => QH_15.out.blk (k := k) q
  try simp only [World.size_alloc] at uu
  have UQH := Vl.hide uu
  clear uu
  have bb := (Below.refl W15.heap.size W15).alloc (Nat.le_refl _) (.cells #[.slice ha (Vo.wholeV r0 D0).r hc, .slice hb (Vo.wholeV r0 D0).s hd, .int .i64 (Vo.wholeV r0 D0).o, .int .i64 (Vo.wholeV r0 D0).n] 24)
  have H_16 := Vl.hide (Vo.box_new W15 (.slice ha (Vo.wholeV r0 D0).r hc) (.slice hb (Vo.wholeV r0 D0).s hd) (.int .i64 (Vo.wholeV r0 D0).o) (.int .i64 (Vo.wholeV r0 D0).n) 24)
  have B16 := Vl.hide (B15.out.trans (Below.mono bb B15.out.size))
  have sz16 : W15.heap.size ≤ (W15.alloc (.cells #[.slice ha (Vo.wholeV r0 D0).r hc, .slice hb (Vo.wholeV r0 D0).s hd, .int .i64 (Vo.wholeV r0 D0).o, .int .i64 (Vo.wholeV r0 D0).n] 24)).heap.size := by have qz := bb.size; (try simp only [World.size_alloc] at qz); (try simp only [World.size_alloc]); exact qz
  simp only [World.size_alloc] at sz16
  try clear u0 u1 u2 u3
  try clear v0 v1 v2 v3
  try clear z0 z1 z2 z3
  try clear p0 p1 p2 p3
  try clear fa0 fa1 fa2 fa3
  try clear fb0 fb1 fb2 fb3
  try clear fc0 fc1 fc2 fc3
  try clear fd0 fd1 fd2 fd3
  have QS_16 := Vl.hide (QS_15.out.below bb)
  have S_16 := Vl.hide (Vo.Box.below S_15.out bb (by first | omega | (simp; done) | (simp; omega)))
  have QG_16 := Vl.hide (QG_15.out.below bb)
  have G_16 := Vl.hide (Vo.Box.below G_15.out bb (by first | omega | (simp; done) | (simp; omega)))
  have QM_16 := Vl.hide (QM_15.out.below bb)
  have QH_16 := Vl.hide (QH_15.out.below bb)
  obtain ⟨u0, u1, u2, u3⟩ := S_16.out
  obtain ⟨v0, v1, v2, v3⟩ := G_16.out
  clear bb
  obtain ⟨z0, z1, z2, z3⟩ := H_16.out
  go_wp2_with fail
  refine (Vo.eqView _ _ _ _ _ (Vo.wholeV r0 D0).r (Vo.wholeV r0 D0).s hc hd sc sd (Vo.wholeV r0 D0).D (Vo.wholeV r0 D0).S (Vo.wholeV r0 D0).D (Vo.wholeV r0 D0).S (Vo.wholeV r0 D0).o (Vo.wholeV r0 D0).n _ (Nat.le_refl _) QH_16.out.d.ints QH_16.out.t.ints QS_16.out.d.ints QS_16.out.t.ints (fun _ _ => rfl) (fun _ _ => rfl) lv lw).mono ?_; rintro e W17 ⟨rfl, bb⟩
  have B17 := Vl.hide (B16.out.trans (Below.mono bb B16.out.size))
  have sz17 : (W15.heap.size + 1) ≤ W17.heap.size := by have qz := bb.size; (try simp only [World.size_alloc] at qz); (try simp only [World.size_alloc]); exact qz
  try clear u0 u1 u2 u3
  try clear v0 v1 v2 v3
  try clear z0 z1 z2 z3
  try clear p0 p1 p2 p3
  try clear fa0 fa1 fa2 fa3
  try clear fb0 fb1 fb2 fb3
  try clear fc0 fc1 fc2 fc3
  try clear fd0 fd1 fd2 fd3
  have QS_17 := Vl.hide (QS_16.out.below bb)
  have S_17 := Vl.hide (Vo.Box.below S_16.out bb (by first | omega | (simp; done) | (simp; omega)))
  have QG_17 := Vl.hide (QG_16.out.below bb)
  have G_17 := Vl.hide (Vo.Box.below G_16.out bb (by first | omega | (simp; done) | (simp; omega)))
  have QH_17 := Vl.hide (QH_16.out.below bb)
  have H_17 := Vl.hide (Vo.Box.below H_16.out bb (by first | omega | (simp; done) | (simp; omega)))
  obtain ⟨u0, u1, u2, u3⟩ := S_17.out
  obtain ⟨v0, v1, v2, v3⟩ := G_17.out
  obtain ⟨z0, z1, z2, z3⟩ := H_17.out
  clear bb
  go_wp2_with fail
  refine (Vo.heldView _ _ _ (Vo.wholeV r0 D0).r (Vo.wholeV r0 D0).s gc gd (Vo.wholeV r0 D0).o (Vo.wholeV r0 D0).n 1 _ QG_17.out lv lw (by omega) (by omega)).mono ?_; rintro e W18 ⟨rfl, bb⟩
  have B18 := Vl.hide (B17.out.trans (Below.mono bb B17.out.size))
  have sz18 : W17.heap.size ≤ W18.heap.size := by have qz := bb.size; (try simp only [World.size_alloc] at qz); (try simp only [World.size_alloc]); exact qz
  try clear u0 u1 u2 u3
  try clear v0 v1 v2 v3
  try clear z0 z1 z2 z3
  try clear p0 p1 p2 p3
  try clear fa0 fa1 fa2 fa3
  try clear fb0 fb1 fb2 fb3
  try clear fc0 fc1 fc2 fc3
  try clear fd0 fd1 fd2 fd3
  have QS_18 := Vl.hide (QS_17.out.below bb)
  have S_18 := Vl.hide (Vo.Box.below S_17.out bb (by first | omega | (simp; done) | (simp; omega)))
  have QG_18 := Vl.hide (QG_17.out.below bb)
  have G_18 := Vl.hide (Vo.Box.below G_17.out bb (by first | omega | (simp; done) | (simp; omega)))
  have QH_18 := Vl.hide (QH_17.out.below bb)
  have H_18 := Vl.hide (Vo.Box.below H_17.out bb (by first | omega | (simp; done) | (simp; omega)))
  obtain ⟨u0, u1, u2, u3⟩ := S_18.out
  obtain ⟨v0, v1, v2, v3⟩ := G_18.out
  obtain ⟨z0, z1, z2, z3⟩ := H_18.out
  clear bb
  go_wp2_with fail
  go_ret
  exact ⟨rfl, B18.out⟩

set_option maxRecDepth 100000 in
theorem lifted (os : Os) (started : os.Started) (H : Type) (enc : TypeId × Value → H) :
    ReturnsInHanded {} Try.checked os 3 .any (Rows.fnExactWholeSpec.pre6 enc Try.prog Try.f3 Rows.fnExactWholeRow.domain false) (Rows.fnExactWholeSpec.post enc Try.prog Try.f3 false true false false) := by
  refine returnsInHanded_of_change (C := Try.checked) own started (by kernel_rfl) Try.func3
    (ChangeSpec.witness6 (enc := enc) (C := Try.checked) false ⟨#[], #[.slice none 0 0], []⟩ 8 (by kernel_rfl) (by kernel_rfl) (by kernel_rfl) (by kernel_rfl)) ?_
  intro W base args ds gs before hval0 hW hcnd _
  have hval : ∀ (j : Nat) t v, Try.f3.params[j]? = some t → args[j]? = some v → Value.okWide Try.prog W .any base t v := hval0
  have hW' := hW
  obtain ⟨p, q, hA0, hV, rfl, hfz, hnd⟩ := hW
  have hA : DataW.TrodAll enc Try.prog W 0 (fun _ => true) true Try.f3.params.toList args.toList ds p := hA0
  rw [Try.params3] at hA hval
  obtain ⟨v0, vs0, d0, ds0, p0, q0, hargs, rfl, rfl, h0, rst0⟩ := trodAll_cons hA
  obtain ⟨rfl, rfl, rfl⟩ := trodAll_nil rst0
  obtain rfl : args = #[v0] := by cases args; simp_all
  obtain ⟨rfl, rfl⟩ := trodVars_none hV
  have k0 := h0
  have lt0 : ∀ x ∈ p0, x.block < W.heap.size := by obtain ⟨m, hm⟩ := k0; exact DataW.trod_lt m _ _ _ hm
  obtain ⟨a0, r0, cap0, rfl⟩ := okWide_slice Try.underlying22 (hval 0 22 v0 rfl rfl)
  have w0 : Vl.Arg W a0 r0 := Vl.arg_at h0
  clear hA0 hval0
  refine (walk a0 r0 cap0 W w0).mono fun e W' ⟨he, bel⟩ => ?_
  subst he
  exact ⟨_, rfl, _, _, _, [], _, [], hW', trodAll_mk1 (shut_bool Try.underlying4 _), (trodAll_cons_mk (Below.trod laidOut (by kernel_rfl) (of_decide_eq_true (by kernel_rfl)) k0 bel lt0) trodAll_mk0), rfl, bel.frame _, fun h => by cases h⟩

theorem over : Rows.fnExactWholeRow.holds Try.pinned (OpenSpec.ofChange Rows.fnExactWholeSpec) :=
  OpenClaim.holds_of_wide 3 Try.f3 rfl rfl rfl rfl rfl rfl rfl ⟨rfl, rfl, rfl, rfl, rfl⟩ rfl rfl rfl rfl rfl (by kernel_rfl) Try.func3 (by kernel_rfl)
    (of_decide_eq_true (by kernel_rfl)) (by unfold Func.isWrapper; first | (rw [if_pos (by decide +kernel)]; kernel_rfl) | (rw [if_neg (by decide +kernel)]; exact ⟨rfl, rfl⟩))
    (fun os started H enc _ => lifted os started H enc)

theorem proved : Rows.FnExactWholeSaid := over
#print axioms proved
end Go.Proofs.Ytldcacdopijfdaa.fnExactWhole
