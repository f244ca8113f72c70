/-
  Proved: whatever the arguments, 'FnExactFold' returns true: the landed function answers as its model, and what came in reads as it did. No condition.
-/
import Derived.Test.YtldcacdopijfdabRows
import Derived.Test.YtldcacdopijfdabVl
import Derived.Test.YtldcacdopijfdabVp
import Derived.Test.YtldcacdopijfdabVs
import Derived.Test.YtldcacdopijfdabVq
import Derived.Test.YtldcacdopijfdabVo
import Derived.Test.YtldcacdopijfdabVm
import Derived.Test.YtldcacdopijfdabVn
import Derived.Test.YtldcacdopijfdabVt
import Derived.Test.YtldcacdopijfdabVv
import Derived.Test.YtldcacdopijfdabVr
import Derived.Test.YtldcacdopijfdabVw
import Derived.Test.YtldcacdopijfdabVx
import Derived.Test.YtldcacdopijfdabVy
import Derived.Test.YtldcacdopijfdabVz
import Derived.Test.YtldcacdopijfdabVc
import Derived.Test.YtldcacdopijfdabVac
import Derived.Test.YtldcacdopijfdabVad
import Derived.Test.YtldcacdopijfdabVaf
import Derived.Test.YtldcacdopijfdabVae
import Derived.Test.YtldcacdopijfdabUb
import Derived.Test.YtldcacdopijfdabVag
import Derived.Test.YtldcacdopijfdabLn
import Derived.Test.YtldcacdopijfdabUl
import Derived.Test.YtldcacdopijfdabTa
import Derived.Test.YtldcacdopijfdabTb
import Derived.Test.YtldcacdopijfdabNum
import Derived.Test.YtldcacdopijfdabBase
import Derived.Test.YtldcacdopijfdabTc
import Derived.Test.YtldcacdopijfdabTf
import Derived.Test.YtldcacdopijfdabTg
import Derived.Test.YtldcacdopijfdabTh
import Derived.Test.YtldcacdopijfdabTi
import Derived.Test.YtldcacdopijfdabTk
import Derived.Test.YtldcacdopijfdabTx
import Derived.Test.YtldcacdopijfdabVak
import Derived.Test.YtldcacdopijfdabVal
import Derived.Test.YtldcacdopijfdabVam
import Derived.Test.YtldcacdopijfdabVan
import Derived.Test.YtldcacdopijfdabVah
import Derived.Test.YtldcacdopijfdabVai
import Derived.Test.YtldcacdopijfdabVao
import Derived.Test.YtldcacdopijfdabVap
import Derived.Test.YtldcacdopijfdabVaq
import Derived.Test.YtldcacdopijfdabVar
import Derived.Test.YtldcacdopijfdabUw
import Derived.Test.YtldcacdopijfdabVas
import Derived.Test.YtldcacdopijfdabVaj
import Derived.Test.YtldcacdopijfdabEq
import Derived.Test.YtldcacdopijfdabUx
import Derived.Test.YtldcacdopijfdabTn
import Derived.Test.YtldcacdopijfdabUy
import Derived.Test.YtldcacdopijfdabTy
import Derived.Test.YtldcacdopijfdabUz
import Derived.WalkKit
import Derived.ProofKit
import Derived.OpenShut
import Derived.ShutString
import Derived.ChangeOld
import Derived.Below
import Derived.Lib.SmallJoins
import Derived.OpenVars
import Derived.ChangeVars
import Derived.Deep.RegionHeld3
namespace Go.Proofs.Ytldcacdopijfdab.fnExactFold
open Go.ChangeShapes Go.WideShapes Go.ChangeAt Go.RowKit Go.Joins
open Go.ChangeMaps (open_string shut_string)
set_option linter.unusedVariables false

theorem own : ownKnob Try.prog.godebug = none := by kernel_rfl
theorem laidOut : laidOutB Try.prog = true := by kernel_rfl

theorem walk (a0 : Option Addr) (r0 cap0 : Nat) (b0 : Option Addr) (s0 dap0 : Nat) (a1 : Int) (w1 : (Lit.int .i64 a1).wf = true) (a2 : Int) (w2 : (Lit.int .i64 a2).wf = true) (a3 : Int) (w3 : (Lit.int .i64 a3).wf = true) (w : World) (w0 : Vl.Arg w a0 r0) (y0 : Vl.Arg w b0 s0) :
    Calls Try.prog 4 #[.agg #[.slice a0 r0 cap0, .slice b0 s0 dap0], .int .i64 a1, .int .i64 a2, .int .i64 a3] w fun e w' => e = .returned (.bool true) ∧ Below w.heap.size w w' := by
  obtain ⟨hr0, D0, hh0⟩ := w0
  obtain ⟨hs0, S0, hk0⟩ := y0
  have H0 := Vl.hide hh0
  have K0 := Vl.hide hk0
  clear hh0 hk0
  have B0 := Vl.hide (Below.refl w.heap.size w)
  have bb := (Below.refl w.heap.size w).alloc (Nat.le_refl _) (.cells #[.slice a0 r0 cap0, .slice b0 s0 dap0] 33)
  have V0_1 := Vl.hide (Vo.bx_new w (.slice a0 r0 cap0) (.slice b0 s0 dap0) 33)
  have B1 := Vl.hide (B0.out.trans (Below.mono bb B0.out.size))
  have sz1 : w.heap.size ≤ (w.alloc (.cells #[.slice a0 r0 cap0, .slice b0 s0 dap0] 33)).heap.size := by have qz := bb.size; (try simp only [World.size_alloc] at qz); (try simp only [World.size_alloc]); exact qz
  simp only [World.size_alloc] at sz1
  try clear u0 u1 u2 u3
  try clear u0 u1
  try clear v0 v1 v2 v3
  try clear v0 v1
  try clear z0 z1 z2 z3
  try clear z0 z1
  try clear p0 p1 p2 p3
  try clear p0 p1
  try clear fa0 fa1 fa2 fa3
  try clear fa0 fa1
  try clear fb0 fb1 fb2 fb3
  try clear fb0 fb1
  try clear fc0 fc1 fc2 fc3
  try clear fc0 fc1
  try clear fd0 fd1 fd2 fd3
  try clear fd0 fd1
  clear bb
  obtain ⟨u0, u1⟩ := V0_1.out
  go_enter Try.func4, Try.ntmps4
  go_wp2_with fail
  refine (Vo.szTensor a0 b0 r0 s0 cap0 dap0 1048576 _ (by omega) (by omega) hr0 hs0).mono ?_; rintro e W2 ⟨x0, rfl, hx0, bb⟩
  have B2 := Vl.hide (B1.out.trans (Below.mono bb B1.out.size))
  have sz2 : (w.heap.size + 1) ≤ W2.heap.size := by have qz := bb.size; (try simp only [World.size_alloc] at qz); (try simp only [World.size_alloc]); exact qz
  try clear u0 u1 u2 u3
  try clear u0 u1
  try clear v0 v1 v2 v3
  try clear v0 v1
  try clear z0 z1 z2 z3
  try clear z0 z1
  try clear p0 p1 p2 p3
  try clear p0 p1
  try clear fa0 fa1 fa2 fa3
  try clear fa0 fa1
  try clear fb0 fb1 fb2 fb3
  try clear fb0 fb1
  try clear fc0 fc1 fc2 fc3
  try clear fc0 fc1
  try clear fd0 fd1 fd2 fd3
  try clear fd0 fd1
  have V0_2 := Vl.hide (Vo.Bx.below V0_1.out bb (by first | omega | (simp; done) | (simp; omega)))
  obtain ⟨u0, u1⟩ := V0_2.out
  clear bb
  by_cases hn0 : x0 < 0
  · clear hx0
    go_wp2_with fail
    go_ret
    exact ⟨rfl, B2.out⟩
  have hm0 : decide (x0 < 0) = false := by rw [decide_eq_false_iff_not]; exact hn0
  obtain ⟨lx0, lr0, ls0⟩ := hx0 (by omega)
  have lz0 : 0 ≤ x0 := by omega
  clear hn0 hx0 hr0 hs0
  have d1 : Vl.bd a1 := bounds_i64 w1
  have d2 : Vl.bd a2 := bounds_i64 w2
  have d3 : Vl.bd a3 := bounds_i64 w3
  have lv : (((Vo.foldP r0 s0 D0 S0 a1 a2 a3).r : Nat) : Int) ≤ 1048576 := by have := (Vo.foldP_le r0 s0 D0 S0 a1 a2 a3).1; omega
  have lw : (((Vo.foldP r0 s0 D0 S0 a1 a2 a3).s : Nat) : Int) ≤ 1048576 := by have := (Vo.foldP_le r0 s0 D0 S0 a1 a2 a3).2; omega
  have CS := Vl.hide (fun (B : Nat) (a b : Addr) (w : World) hB h h' => Vo.specFold B a (some b) r0 s0 r0 s0 D0 S0 a1 a2 a3 w hB h h' lr0 ls0 d3 d2)
  have CI := Vl.hide (fun (B : Nat) (a b : Addr) (w : World) hB h h' => Vo.foldF B (some a) (some b) r0 s0 r0 s0 D0 S0 a1 a2 a3 w hB h h' lr0 ls0 (Nat.le_refl _) d2 d3)
  obtain ⟨T, hT⟩ : ∃ T, (Vo.foldP r0 s0 D0 S0 a1 a2 a3) = T := ⟨_, rfl⟩
  rw [hT] at lv lw CS CI
  clear hT
  go_wp2_with fail
  refine (Vo.toTensor w.heap.size a0 b0 r0 s0 cap0 dap0 D0 S0 _ (H0.out.below B2.out) (K0.out.below B2.out) B2.out.size lr0 ls0).mono ?_; rintro e W3 ⟨ga, ga', rfl, q3, bb⟩
  have B3 := Vl.hide (B2.out.trans (Below.mono bb B2.out.size))
  have sz3 : W2.heap.size ≤ W3.heap.size := by have qz := bb.size; (try simp only [World.size_alloc] at qz); (try simp only [World.size_alloc]); exact qz
  try clear u0 u1 u2 u3
  try clear u0 u1
  try clear v0 v1 v2 v3
  try clear v0 v1
  try clear z0 z1 z2 z3
  try clear z0 z1
  try clear p0 p1 p2 p3
  try clear p0 p1
  try clear fa0 fa1 fa2 fa3
  try clear fa0 fa1
  try clear fb0 fb1 fb2 fb3
  try clear fb0 fb1
  try clear fc0 fc1 fc2 fc3
  try clear fc0 fc1
  try clear fd0 fd1 fd2 fd3
  try clear fd0 fd1
  have V0_3 := Vl.hide (Vo.Bx.below V0_2.out bb (by first | omega | (simp; done) | (simp; omega)))
  obtain ⟨u0, u1⟩ := V0_3.out
  clear bb
  have QA_3 := Vl.hide q3
  clear q3
  have uu := fun k q => QA_3.out.blk (k := k) q
  try simp only [World.size_alloc] at uu
  have UQA := Vl.hide uu
  clear uu
  go_wp2_with fail
  refine (CS.out _ _ _ _ (Nat.le_refl _) QA_3.out.d.ints QA_3.out.t.ints).mono ?_; rintro e W4 ⟨sa, sb, sc, sd, rfl, qs, bb⟩
  have B4 := Vl.hide (B3.out.trans (Below.mono bb B3.out.size))
  have sz4 : W3.heap.size ≤ W4.heap.size := by have qz := bb.size; (try simp only [World.size_alloc] at qz); (try simp only [World.size_alloc]); exact qz
  try clear u0 u1 u2 u3
  try clear u0 u1
  try clear v0 v1 v2 v3
  try clear v0 v1
  try clear z0 z1 z2 z3
  try clear z0 z1
  try clear p0 p1 p2 p3
  try clear p0 p1
  try clear fa0 fa1 fa2 fa3
  try clear fa0 fa1
  try clear fb0 fb1 fb2 fb3
  try clear fb0 fb1
  try clear fc0 fc1 fc2 fc3
  try clear fc0 fc1
  try clear fd0 fd1 fd2 fd3
  try clear fd0 fd1
  have V0_4 := Vl.hide (Vo.Bx.below V0_3.out bb (by first | omega | (simp; done) | (simp; omega)))
  have QA_4 := Vl.hide (QA_3.out.below bb)
  obtain ⟨u0, u1⟩ := V0_4.out
  clear bb
  have QS_4 := Vl.hide qs
  clear qs
  have uu := fun k q => QS_4.out.blk (k := k) q
  try simp only [World.size_alloc] at uu
  have UQS := Vl.hide uu
  clear uu
  have bb := (Below.refl W4.heap.size W4).alloc (Nat.le_refl _) (.cells #[.slice sa T.r sc, .slice sb T.s sd] 35)
  have S_5 := Vl.hide (Vo.bx_new W4 (.slice sa T.r sc) (.slice sb T.s sd) 35)
  have B5 := Vl.hide (B4.out.trans (Below.mono bb B4.out.size))
  have sz5 : W4.heap.size ≤ (W4.alloc (.cells #[.slice sa T.r sc, .slice sb T.s sd] 35)).heap.size := by have qz := bb.size; (try simp only [World.size_alloc] at qz); (try simp only [World.size_alloc]); exact qz
  simp only [World.size_alloc] at sz5
  try clear u0 u1 u2 u3
  try clear u0 u1
  try clear v0 v1 v2 v3
  try clear v0 v1
  try clear z0 z1 z2 z3
  try clear z0 z1
  try clear p0 p1 p2 p3
  try clear p0 p1
  try clear fa0 fa1 fa2 fa3
  try clear fa0 fa1
  try clear fb0 fb1 fb2 fb3
  try clear fb0 fb1
  try clear fc0 fc1 fc2 fc3
  try clear fc0 fc1
  try clear fd0 fd1 fd2 fd3
  try clear fd0 fd1
  have V0_5 := Vl.hide (Vo.Bx.below V0_4.out bb (by first | omega | (simp; done) | (simp; omega)))
  have QA_5 := Vl.hide (QA_4.out.below bb)
  have QS_5 := Vl.hide (QS_4.out.below bb)
  obtain ⟨u0, u1⟩ := V0_5.out
  clear bb
  obtain ⟨v0, v1⟩ := S_5.out
  go_wp2_with fail
  refine (Vo.toTensor w.heap.size a0 b0 r0 s0 cap0 dap0 D0 S0 _ (H0.out.below B5.out) (K0.out.below B5.out) B5.out.size lr0 ls0).mono ?_; rintro e W6 ⟨gx, gx', rfl, q6, bb⟩
  have B6 := Vl.hide (B5.out.trans (Below.mono bb B5.out.size))
  have sz6 : (W4.heap.size + 1) ≤ W6.heap.size := by have qz := bb.size; (try simp only [World.size_alloc] at qz); (try simp only [World.size_alloc]); exact qz
  try clear u0 u1 u2 u3
  try clear u0 u1
  try clear v0 v1 v2 v3
  try clear v0 v1
  try clear z0 z1 z2 z3
  try clear z0 z1
  try clear p0 p1 p2 p3
  try clear p0 p1
  try clear fa0 fa1 fa2 fa3
  try clear fa0 fa1
  try clear fb0 fb1 fb2 fb3
  try clear fb0 fb1
  try clear fc0 fc1 fc2 fc3
  try clear fc0 fc1
  try clear fd0 fd1 fd2 fd3
  try clear fd0 fd1
  have V0_6 := Vl.hide (Vo.Bx.below V0_5.out bb (by first | omega | (simp; done) | (simp; omega)))
  have QS_6 := Vl.hide (QS_5.out.below bb)
  have S_6 := Vl.hide (Vo.Bx.below S_5.out bb (by first | omega | (simp; done) | (simp; omega)))
  obtain ⟨u0, u1⟩ := V0_6.out
  obtain ⟨v0, v1⟩ := S_6.out
  clear bb
  have QX_6 := Vl.hide q6
  clear q6
  have uu := fun k q => QX_6.out.blk (k := k) q
  try simp only [World.size_alloc] at uu
  have UQX := Vl.hide uu
  clear uu
  have bb := (Below.refl W6.heap.size W6).alloc (Nat.le_refl _) (.cells #[.slice (some ⟨gx, 0, none⟩) r0 r0, .slice (some ⟨gx', 0, none⟩) s0 s0] 35)
  have X_7 := Vl.hide (Vo.bx_new W6 (.slice (some ⟨gx, 0, none⟩) r0 r0) (.slice (some ⟨gx', 0, none⟩) s0 s0) 35)
  have B7 := Vl.hide (B6.out.trans (Below.mono bb B6.out.size))
  have sz7 : W6.heap.size ≤ (W6.alloc (.cells #[.slice (some ⟨gx, 0, none⟩) r0 r0, .slice (some ⟨gx', 0, none⟩) s0 s0] 35)).heap.size := by have qz := bb.size; (try simp only [World.size_alloc] at qz); (try simp only [World.size_alloc]); exact qz
  simp only [World.size_alloc] at sz7
  try clear u0 u1 u2 u3
  try clear u0 u1
  try clear v0 v1 v2 v3
  try clear v0 v1
  try clear z0 z1 z2 z3
  try clear z0 z1
  try clear p0 p1 p2 p3
  try clear p0 p1
  try clear fa0 fa1 fa2 fa3
  try clear fa0 fa1
  try clear fb0 fb1 fb2 fb3
  try clear fb0 fb1
  try clear fc0 fc1 fc2 fc3
  try clear fc0 fc1
  try clear fd0 fd1 fd2 fd3
  try clear fd0 fd1
  have V0_7 := Vl.hide (Vo.Bx.below V0_6.out bb (by first | omega | (simp; done) | (simp; omega)))
  have QS_7 := Vl.hide (QS_6.out.below bb)
  have S_7 := Vl.hide (Vo.Bx.below S_6.out bb (by first | omega | (simp; done) | (simp; omega)))
  have QX_7 := Vl.hide (QX_6.out.below bb)
  obtain ⟨u0, u1⟩ := V0_7.out
  obtain ⟨v0, v1⟩ := S_7.out
  clear bb
  obtain ⟨z0, z1⟩ := X_7.out
  go_wp2_with fail
  refine (CI.out _ _ _ _ (Nat.le_refl _) QX_7.out.d.ints QX_7.out.t.ints).mono ?_; rintro e W8 ⟨ga, gb, gc, gd, rfl, qg, bb⟩
  have B8 := Vl.hide (B7.out.trans (Below.mono bb B7.out.size))
  have sz8 : (W6.heap.size + 1) ≤ W8.heap.size := by have qz := bb.size; (try simp only [World.size_alloc] at qz); (try simp only [World.size_alloc]); exact qz
  try clear u0 u1 u2 u3
  try clear u0 u1
  try clear v0 v1 v2 v3
  try clear v0 v1
  try clear z0 z1 z2 z3
  try clear z0 z1
  try clear p0 p1 p2 p3
  try clear p0 p1
  try clear fa0 fa1 fa2 fa3
  try clear fa0 fa1
  try clear fb0 fb1 fb2 fb3
  try clear fb0 fb1
  try clear fc0 fc1 fc2 fc3
  try clear fc0 fc1
  try clear fd0 fd1 fd2 fd3
  try clear fd0 fd1
  have V0_8 := Vl.hide (Vo.Bx.below V0_7.out bb (by first | omega | (simp; done) | (simp; omega)))
  have QS_8 := Vl.hide (QS_7.out.below bb)
  have S_8 := Vl.hide (Vo.Bx.below S_7.out bb (by first | omega | (simp; done) | (simp; omega)))
  have QX_8 := Vl.hide (QX_7.out.below bb)
  have X_8 := Vl.hide (Vo.Bx.below X_7.out bb (by first | omega | (simp; done) | (simp; omega)))
  obtain ⟨u0, u1⟩ := V0_8.out
  obtain ⟨v0, v1⟩ := S_8.out
  obtain ⟨z0, z1⟩ := X_8.out
  clear bb
  have QG_8 := Vl.hide qg
  clear qg
  have uu := fun k q => QG_8.out.blk (k := k) q
  try simp only [World.size_alloc] at uu
  have UQG := Vl.hide uu
  clear uu
  have bb := (Below.refl W8.heap.size W8).alloc (Nat.le_refl _) (.cells #[.slice ga T.r gc, .slice gb T.s gd] 35)
  have G_9 := Vl.hide (Vo.bx_new W8 (.slice ga T.r gc) (.slice gb T.s gd) 35)
  have B9 := Vl.hide (B8.out.trans (Below.mono bb B8.out.size))
  have sz9 : W8.heap.size ≤ (W8.alloc (.cells #[.slice ga T.r gc, .slice gb T.s gd] 35)).heap.size := by have qz := bb.size; (try simp only [World.size_alloc] at qz); (try simp only [World.size_alloc]); exact qz
  simp only [World.size_alloc] at sz9
  try clear u0 u1 u2 u3
  try clear u0 u1
  try clear v0 v1 v2 v3
  try clear v0 v1
  try clear z0 z1 z2 z3
  try clear z0 z1
  try clear p0 p1 p2 p3
  try clear p0 p1
  try clear fa0 fa1 fa2 fa3
  try clear fa0 fa1
  try clear fb0 fb1 fb2 fb3
  try clear fb0 fb1
  try clear fc0 fc1 fc2 fc3
  try clear fc0 fc1
  try clear fd0 fd1 fd2 fd3
  try clear fd0 fd1
  have V0_9 := Vl.hide (Vo.Bx.below V0_8.out bb (by first | omega | (simp; done) | (simp; omega)))
  have QS_9 := Vl.hide (QS_8.out.below bb)
  have S_9 := Vl.hide (Vo.Bx.below S_8.out bb (by first | omega | (simp; done) | (simp; omega)))
  have QX_9 := Vl.hide (QX_8.out.below bb)
  have X_9 := Vl.hide (Vo.Bx.below X_8.out bb (by first | omega | (simp; done) | (simp; omega)))
  have QG_9 := Vl.hide (QG_8.out.below bb)
  obtain ⟨u0, u1⟩ := V0_9.out
  obtain ⟨v0, v1⟩ := S_9.out
  obtain ⟨z0, z1⟩ := X_9.out
  clear bb
  obtain ⟨p0, p1⟩ := G_9.out
  go_wp2_with fail
  refine (Vo.eqTensor _ _ _ _ _ T.r T.s gc gd sc sd T.D T.S T.D T.S _ (Nat.le_refl _) QG_9.out.d.ints QG_9.out.t.ints QS_9.out.d.ints QS_9.out.t.ints (fun _ _ => rfl) (fun _ _ => rfl) lv lw).mono ?_; rintro e W10 ⟨rfl, bb⟩
  have B10 := Vl.hide (B9.out.trans (Below.mono bb B9.out.size))
  have sz10 : (W8.heap.size + 1) ≤ W10.heap.size := by have qz := bb.size; (try simp only [World.size_alloc] at qz); (try simp only [World.size_alloc]); exact qz
  try clear u0 u1 u2 u3
  try clear u0 u1
  try clear v0 v1 v2 v3
  try clear v0 v1
  try clear z0 z1 z2 z3
  try clear z0 z1
  try clear p0 p1 p2 p3
  try clear p0 p1
  try clear fa0 fa1 fa2 fa3
  try clear fa0 fa1
  try clear fb0 fb1 fb2 fb3
  try clear fb0 fb1
  try clear fc0 fc1 fc2 fc3
  try clear fc0 fc1
  try clear fd0 fd1 fd2 fd3
  try clear fd0 fd1
  have V0_10 := Vl.hide (Vo.Bx.below V0_9.out bb (by first | omega | (simp; done) | (simp; omega)))
  have QS_10 := Vl.hide (QS_9.out.below bb)
  have S_10 := Vl.hide (Vo.Bx.below S_9.out bb (by first | omega | (simp; done) | (simp; omega)))
  have QX_10 := Vl.hide (QX_9.out.below bb)
  have X_10 := Vl.hide (Vo.Bx.below X_9.out bb (by first | omega | (simp; done) | (simp; omega)))
  have QG_10 := Vl.hide (QG_9.out.below bb)
  have G_10 := Vl.hide (Vo.Bx.below G_9.out bb (by first | omega | (simp; done) | (simp; omega)))
  obtain ⟨u0, u1⟩ := V0_10.out
  obtain ⟨v0, v1⟩ := S_10.out
  obtain ⟨z0, z1⟩ := X_10.out
  obtain ⟨p0, p1⟩ := G_10.out
  clear bb
  have HT := Vl.hide (fun (W : World) (hW : Below W10.heap.size W10 W) => Vo.toTensor w.heap.size a0 b0 r0 s0 cap0 dap0 D0 S0 W (H0.out.below (B10.out.trans (hW.mono B10.out.size))) (K0.out.below (B10.out.trans (hW.mono B10.out.size))) (Nat.le_trans B10.out.size hW.size) lr0 ls0)
  have HE := Vl.hide (fun (W : World) (hW : Below W10.heap.size W10 W) (g5 g6 : Nat) (B : Nat) (q : Vo.VOwn B W (some ⟨g5, 0, none⟩) (some ⟨g6, 0, none⟩) r0 s0 D0 S0) => Vo.eqTensor W.heap.size (some ⟨gx, 0, none⟩) (some ⟨gx', 0, none⟩) (some ⟨g5, 0, none⟩) (some ⟨g6, 0, none⟩) r0 s0 r0 s0 r0 s0 D0 S0 D0 S0 W (Nat.le_refl _) (QX_10.out.below hW).d.ints (QX_10.out.below hW).t.ints q.d.ints q.t.ints (fun _ _ => rfl) (fun _ _ => rfl) lr0 ls0)
  go_wp2_with fail
  go_region_held3 (fun w' => w'.cell? ⟨W6.heap.size, 0, none⟩ = some (.slice (some ⟨gx, 0, none⟩) r0 r0) ∧ w'.cell? ⟨W6.heap.size, 1, none⟩ = some (.slice (some ⟨gx', 0, none⟩) s0 s0) ∧ w'.cell? ⟨w.heap.size, 0, none⟩ = some (.slice a0 r0 cap0) ∧ w'.cell? ⟨w.heap.size, 1, none⟩ = some (.slice b0 s0 dap0))
    ((try dsimp only) <;> (repeat' apply And.intro) <;> (repeat (first | with_reducible assumption | with_reducible apply Vo.drew_old | (with_reducible apply Vo.below_old; (focus (with_reducible assumption))))))
    (first
      | (go_at_call 15
         refine (HT.out _ (by exact (Below.refl _ _).drew)).mono ?_
         rintro e wA ⟨g5, g6, rfl, qA, bA⟩)
      | (go_at_call 17
         refine (HE.out _ (by exact (Below.refl _ W10).drew.trans bA) g5 g6 _ qA).mono ?_
         rintro e wB11 ⟨rfl, bB⟩))
  have bb : Below W10.heap.size W10 wB11 := ((Below.refl _ W10).drew.trans bA).trans (bB.mono (Nat.le_trans (Nat.le_refl _) bA.size))
  clear bA bB qA HT HE
  have B11 := Vl.hide (B10.out.trans (Below.mono bb B10.out.size))
  have sz11 : W10.heap.size ≤ wB11.heap.size := by have qz := bb.size; (try simp only [World.size_alloc] at qz); (try simp only [World.size_alloc]); exact qz
  try clear u0 u1 u2 u3
  try clear u0 u1
  try clear v0 v1 v2 v3
  try clear v0 v1
  try clear z0 z1 z2 z3
  try clear z0 z1
  try clear p0 p1 p2 p3
  try clear p0 p1
  try clear fa0 fa1 fa2 fa3
  try clear fa0 fa1
  try clear fb0 fb1 fb2 fb3
  try clear fb0 fb1
  try clear fc0 fc1 fc2 fc3
  try clear fc0 fc1
  try clear fd0 fd1 fd2 fd3
  try clear fd0 fd1
  have V0_11 := Vl.hide (Vo.Bx.below V0_10.out bb (by first | omega | (simp; done) | (simp; omega)))
  have QS_11 := Vl.hide (QS_10.out.below bb)
  have S_11 := Vl.hide (Vo.Bx.below S_10.out bb (by first | omega | (simp; done) | (simp; omega)))
  have QX_11 := Vl.hide (QX_10.out.below bb)
  have X_11 := Vl.hide (Vo.Bx.below X_10.out bb (by first | omega | (simp; done) | (simp; omega)))
  have QG_11 := Vl.hide (QG_10.out.below bb)
  have G_11 := Vl.hide (Vo.Bx.below G_10.out bb (by first | omega | (simp; done) | (simp; omega)))
  obtain ⟨u0, u1⟩ := V0_11.out
  obtain ⟨v0, v1⟩ := S_11.out
  obtain ⟨z0, z1⟩ := X_11.out
  obtain ⟨p0, p1⟩ := G_11.out
  clear bb
  go_wp2_with fail
  refine (Vo.markTensor _ _ _ r0 s0 r0 s0 D0 S0 1 _ QX_11.out lr0 ls0 (by omega) (by omega)).mono ?_; rintro e W12 ⟨rfl, qs, bb⟩
  have B12 := Vl.hide (B11.out.trans (Vl.Kept.below bb B11.out.size (fun k q => by have := UQX.out _ q; omega)))
  have sz12 : wB11.heap.size ≤ W12.heap.size := by have qz := bb.size; (try simp only [World.size_alloc] at qz); (try simp only [World.size_alloc]); exact qz
  try clear u0 u1 u2 u3
  try clear u0 u1
  try clear v0 v1 v2 v3
  try clear v0 v1
  try clear z0 z1 z2 z3
  try clear z0 z1
  try clear p0 p1 p2 p3
  try clear p0 p1
  try clear fa0 fa1 fa2 fa3
  try clear fa0 fa1
  try clear fb0 fb1 fb2 fb3
  try clear fb0 fb1
  try clear fc0 fc1 fc2 fc3
  try clear fc0 fc1
  try clear fd0 fd1 fd2 fd3
  try clear fd0 fd1
  have V0_12 := Vl.hide (Vo.Bx.kept V0_11.out bb (by omega) (fun q => by have := UQX.out _ q; omega))
  have QS_12 := Vl.hide (QS_11.out.kept bb (fun k q q' => by have := UQS.out _ q; have := UQX.out _ q'; omega))
  have S_12 := Vl.hide (Vo.Bx.kept S_11.out bb (by omega) (fun q => by have := UQX.out _ q; omega))
  have QX_12 := Vl.hide qs
  have X_12 := Vl.hide (Vo.Bx.kept X_11.out bb (by omega) (fun q => by have := UQX.out _ q; omega))
  have QG_12 := Vl.hide (QG_11.out.kept bb (fun k q q' => by have := UQG.out _ q; have := UQX.out _ q'; omega))
  have G_12 := Vl.hide (Vo.Bx.kept G_11.out bb (by omega) (fun q => by have := UQX.out _ q; omega))
  obtain ⟨u0, u1⟩ := V0_12.out
  obtain ⟨v0, v1⟩ := S_12.out
  obtain ⟨z0, z1⟩ := X_12.out
  obtain ⟨p0, p1⟩ := G_12.out
  clear bb
  clear qs
  have neg1 : decide ((1 : Int) + r0 + s0 < 0) = false := by rw [decide_eq_false_iff_not]; omega
  go_wp2_with fail
  refine (Vo.eqTensor _ _ _ _ _ T.r T.s gc gd sc sd T.D T.S T.D T.S _ (Nat.le_refl _) QG_12.out.d.ints QG_12.out.t.ints QS_12.out.d.ints QS_12.out.t.ints (fun _ _ => rfl) (fun _ _ => rfl) lv lw).mono ?_; rintro e W13 ⟨rfl, bb⟩
  have B13 := Vl.hide (B12.out.trans (Below.mono bb B12.out.size))
  have sz13 : W12.heap.size ≤ W13.heap.size := by have qz := bb.size; (try simp only [World.size_alloc] at qz); (try simp only [World.size_alloc]); exact qz
  try clear u0 u1 u2 u3
  try clear u0 u1
  try clear v0 v1 v2 v3
  try clear v0 v1
  try clear z0 z1 z2 z3
  try clear z0 z1
  try clear p0 p1 p2 p3
  try clear p0 p1
  try clear fa0 fa1 fa2 fa3
  try clear fa0 fa1
  try clear fb0 fb1 fb2 fb3
  try clear fb0 fb1
  try clear fc0 fc1 fc2 fc3
  try clear fc0 fc1
  try clear fd0 fd1 fd2 fd3
  try clear fd0 fd1
  have V0_13 := Vl.hide (Vo.Bx.below V0_12.out bb (by first | omega | (simp; done) | (simp; omega)))
  have QS_13 := Vl.hide (QS_12.out.below bb)
  have S_13 := Vl.hide (Vo.Bx.below S_12.out bb (by first | omega | (simp; done) | (simp; omega)))
  have QG_13 := Vl.hide (QG_12.out.below bb)
  have G_13 := Vl.hide (Vo.Bx.below G_12.out bb (by first | omega | (simp; done) | (simp; omega)))
  obtain ⟨u0, u1⟩ := V0_13.out
  obtain ⟨v0, v1⟩ := S_13.out
  obtain ⟨z0, z1⟩ := G_13.out
  clear bb
  go_wp2_with fail
  refine (Vo.markTensor _ _ _ T.r T.s gc gd T.D T.S 1 _ QG_13.out lv lw (by omega) (by omega)).mono ?_; rintro e W14 ⟨rfl, qs, bb⟩
  have B14 := Vl.hide (B13.out.trans (Vl.Kept.below bb B13.out.size (fun k q => by have := UQG.out _ q; omega)))
  have sz14 : W13.heap.size ≤ W14.heap.size := by have qz := bb.size; (try simp only [World.size_alloc] at qz); (try simp only [World.size_alloc]); exact qz
  try clear u0 u1 u2 u3
  try clear u0 u1
  try clear v0 v1 v2 v3
  try clear v0 v1
  try clear z0 z1 z2 z3
  try clear z0 z1
  try clear p0 p1 p2 p3
  try clear p0 p1
  try clear fa0 fa1 fa2 fa3
  try clear fa0 fa1
  try clear fb0 fb1 fb2 fb3
  try clear fb0 fb1
  try clear fc0 fc1 fc2 fc3
  try clear fc0 fc1
  try clear fd0 fd1 fd2 fd3
  try clear fd0 fd1
  have V0_14 := Vl.hide (Vo.Bx.kept V0_13.out bb (by omega) (fun q => by have := UQG.out _ q; omega))
  have QS_14 := Vl.hide (QS_13.out.kept bb (fun k q q' => by have := UQS.out _ q; have := UQG.out _ q'; omega))
  have S_14 := Vl.hide (Vo.Bx.kept S_13.out bb (by omega) (fun q => by have := UQG.out _ q; omega))
  have QG_14 := Vl.hide qs
  have G_14 := Vl.hide (Vo.Bx.kept G_13.out bb (by omega) (fun q => by have := UQG.out _ q; omega))
  obtain ⟨u0, u1⟩ := V0_14.out
  obtain ⟨v0, v1⟩ := S_14.out
  obtain ⟨z0, z1⟩ := G_14.out
  clear bb
  clear qs
  have neg2 : decide ((1 : Int) + (T.r : Nat) + (T.s : Nat) < 0) = false := by rw [decide_eq_false_iff_not]; omega
  go_wp2_with fail
  refine (Vo.heldTensor _ _ _ T.r T.s gc gd 1 _ QG_14.out lv lw (by omega) (by omega)).mono ?_; rintro e W15 ⟨rfl, bb⟩
  have B15 := Vl.hide (B14.out.trans (Below.mono bb B14.out.size))
  have sz15 : W14.heap.size ≤ W15.heap.size := by have qz := bb.size; (try simp only [World.size_alloc] at qz); (try simp only [World.size_alloc]); exact qz
  try clear u0 u1 u2 u3
  try clear u0 u1
  try clear v0 v1 v2 v3
  try clear v0 v1
  try clear z0 z1 z2 z3
  try clear z0 z1
  try clear p0 p1 p2 p3
  try clear p0 p1
  try clear fa0 fa1 fa2 fa3
  try clear fa0 fa1
  try clear fb0 fb1 fb2 fb3
  try clear fb0 fb1
  try clear fc0 fc1 fc2 fc3
  try clear fc0 fc1
  try clear fd0 fd1 fd2 fd3
  try clear fd0 fd1
  have V0_15 := Vl.hide (Vo.Bx.below V0_14.out bb (by first | omega | (simp; done) | (simp; omega)))
  have QS_15 := Vl.hide (QS_14.out.below bb)
  have S_15 := Vl.hide (Vo.Bx.below S_14.out bb (by first | omega | (simp; done) | (simp; omega)))
  have QG_15 := Vl.hide (QG_14.out.below bb)
  have G_15 := Vl.hide (Vo.Bx.below G_14.out bb (by first | omega | (simp; done) | (simp; omega)))
  obtain ⟨u0, u1⟩ := V0_15.out
  obtain ⟨v0, v1⟩ := S_15.out
  obtain ⟨z0, z1⟩ := G_15.out
  clear bb
  go_wp2_with fail
  refine (Vo.toTensor w.heap.size a0 b0 r0 s0 cap0 dap0 D0 S0 _ (H0.out.below B15.out) (K0.out.below B15.out) B15.out.size lr0 ls0).mono ?_; rintro e W16 ⟨gm, gm', rfl, q16, bb⟩
  have B16 := Vl.hide (B15.out.trans (Below.mono bb B15.out.size))
  have sz16 : W15.heap.size ≤ W16.heap.size := by have qz := bb.size; (try simp only [World.size_alloc] at qz); (try simp only [World.size_alloc]); exact qz
  try clear u0 u1 u2 u3
  try clear u0 u1
  try clear v0 v1 v2 v3
  try clear v0 v1
  try clear z0 z1 z2 z3
  try clear z0 z1
  try clear p0 p1 p2 p3
  try clear p0 p1
  try clear fa0 fa1 fa2 fa3
  try clear fa0 fa1
  try clear fb0 fb1 fb2 fb3
  try clear fb0 fb1
  try clear fc0 fc1 fc2 fc3
  try clear fc0 fc1
  try clear fd0 fd1 fd2 fd3
  try clear fd0 fd1
  have V0_16 := Vl.hide (Vo.Bx.below V0_15.out bb (by first | omega | (simp; done) | (simp; omega)))
  have QS_16 := Vl.hide (QS_15.out.below bb)
  have S_16 := Vl.hide (Vo.Bx.below S_15.out bb (by first | omega | (simp; done) | (simp; omega)))
  have QG_16 := Vl.hide (QG_15.out.below bb)
  have G_16 := Vl.hide (Vo.Bx.below G_15.out bb (by first | omega | (simp; done) | (simp; omega)))
  obtain ⟨u0, u1⟩ := V0_16.out
  obtain ⟨v0, v1⟩ := S_16.out
  obtain ⟨z0, z1⟩ := G_16.out
  clear bb
  have QM_16 := Vl.hide q16
  clear q16
  have uu := fun k q => QM_16.out.blk (k := k) q
  try simp only [World.size_alloc] at uu
  have UQM := Vl.hide uu
  clear uu
  go_wp2_with fail
  refine (CI.out _ _ _ _ (Nat.le_refl _) QM_16.out.d.ints QM_16.out.t.ints).mono ?_; rintro e W17 ⟨ha, hb, hc, hd, rfl, qh, bb⟩
  have B17 := Vl.hide (B16.out.trans (Below.mono bb B16.out.size))
  have sz17 : W16.heap.size ≤ W17.heap.size := by have qz := bb.size; (try simp only [World.size_alloc] at qz); (try simp only [World.size_alloc]); exact qz
  try clear u0 u1 u2 u3
  try clear u0 u1
  try clear v0 v1 v2 v3
  try clear v0 v1
  try clear z0 z1 z2 z3
  try clear z0 z1
  try clear p0 p1 p2 p3
  try clear p0 p1
  try clear fa0 fa1 fa2 fa3
  try clear fa0 fa1
  try clear fb0 fb1 fb2 fb3
  try clear fb0 fb1
  try clear fc0 fc1 fc2 fc3
  try clear fc0 fc1
  try clear fd0 fd1 fd2 fd3
  try clear fd0 fd1
  have V0_17 := Vl.hide (Vo.Bx.below V0_16.out bb (by first | omega | (simp; done) | (simp; omega)))
  have QS_17 := Vl.hide (QS_16.out.below bb)
  have S_17 := Vl.hide (Vo.Bx.below S_16.out bb (by first | omega | (simp; done) | (simp; omega)))
  have QG_17 := Vl.hide (QG_16.out.below bb)
  have G_17 := Vl.hide (Vo.Bx.below G_16.out bb (by first | omega | (simp; done) | (simp; omega)))
  have QM_17 := Vl.hide (QM_16.out.below bb)
  obtain ⟨u0, u1⟩ := V0_17.out
  obtain ⟨v0, v1⟩ := S_17.out
  obtain ⟨z0, z1⟩ := G_17.out
  clear bb
  have QH_17 := Vl.hide qh
  clear qh
  have uu := fun k q => QH_17.out.blk (k := k) q
  try simp only [World.size_alloc] at uu
  have UQH := Vl.hide uu
  clear uu
  have bb := (Below.refl W17.heap.size W17).alloc (Nat.le_refl _) (.cells #[.slice ha T.r hc, .slice hb T.s hd] 35)
  have H_18 := Vl.hide (Vo.bx_new W17 (.slice ha T.r hc) (.slice hb T.s hd) 35)
  have B18 := Vl.hide (B17.out.trans (Below.mono bb B17.out.size))
  have sz18 : W17.heap.size ≤ (W17.alloc (.cells #[.slice ha T.r hc, .slice hb T.s hd] 35)).heap.size := by have qz := bb.size; (try simp only [World.size_alloc] at qz); (try simp only [World.size_alloc]); exact qz
  simp only [World.size_alloc] at sz18
  try clear u0 u1 u2 u3
  try clear u0 u1
  try clear v0 v1 v2 v3
  try clear v0 v1
  try clear z0 z1 z2 z3
  try clear z0 z1
  try clear p0 p1 p2 p3
  try clear p0 p1
  try clear fa0 fa1 fa2 fa3
  try clear fa0 fa1
  try clear fb0 fb1 fb2 fb3
  try clear fb0 fb1
  try clear fc0 fc1 fc2 fc3
  try clear fc0 fc1
  try clear fd0 fd1 fd2 fd3
  try clear fd0 fd1
  have V0_18 := Vl.hide (Vo.Bx.below V0_17.out bb (by first | omega | (simp; done) | (simp; omega)))
  have QS_18 := Vl.hide (QS_17.out.below bb)
  have S_18 := Vl.hide (Vo.Bx.below S_17.out bb (by first | omega | (simp; done) | (simp; omega)))
  have QG_18 := Vl.hide (QG_17.out.below bb)
  have G_18 := Vl.hide (Vo.Bx.below G_17.out bb (by first | omega | (simp; done) | (simp; omega)))
  have QM_18 := Vl.hide (QM_17.out.below bb)
  have QH_18 := Vl.hide (QH_17.out.below bb)
  obtain ⟨u0, u1⟩ := V0_18.out
  obtain ⟨v0, v1⟩ := S_18.out
  obtain ⟨z0, z1⟩ := G_18.out
  clear bb
  obtain ⟨p0, p1⟩ := H_18.out
  go_wp2_with fail
  refine (Vo.eqTensor _ _ _ _ _ T.r T.s hc hd sc sd T.D T.S T.D T.S _ (Nat.le_refl _) QH_18.out.d.ints QH_18.out.t.ints QS_18.out.d.ints QS_18.out.t.ints (fun _ _ => rfl) (fun _ _ => rfl) lv lw).mono ?_; rintro e W19 ⟨rfl, bb⟩
  have B19 := Vl.hide (B18.out.trans (Below.mono bb B18.out.size))
  have sz19 : (W17.heap.size + 1) ≤ W19.heap.size := by have qz := bb.size; (try simp only [World.size_alloc] at qz); (try simp only [World.size_alloc]); exact qz
  try clear u0 u1 u2 u3
  try clear u0 u1
  try clear v0 v1 v2 v3
  try clear v0 v1
  try clear z0 z1 z2 z3
  try clear z0 z1
  try clear p0 p1 p2 p3
  try clear p0 p1
  try clear fa0 fa1 fa2 fa3
  try clear fa0 fa1
  try clear fb0 fb1 fb2 fb3
  try clear fb0 fb1
  try clear fc0 fc1 fc2 fc3
  try clear fc0 fc1
  try clear fd0 fd1 fd2 fd3
  try clear fd0 fd1
  have V0_19 := Vl.hide (Vo.Bx.below V0_18.out bb (by first | omega | (simp; done) | (simp; omega)))
  have QS_19 := Vl.hide (QS_18.out.below bb)
  have S_19 := Vl.hide (Vo.Bx.below S_18.out bb (by first | omega | (simp; done) | (simp; omega)))
  have QG_19 := Vl.hide (QG_18.out.below bb)
  have G_19 := Vl.hide (Vo.Bx.below G_18.out bb (by first | omega | (simp; done) | (simp; omega)))
  have QH_19 := Vl.hide (QH_18.out.below bb)
  have H_19 := Vl.hide (Vo.Bx.below H_18.out bb (by first | omega | (simp; done) | (simp; omega)))
  obtain ⟨u0, u1⟩ := V0_19.out
  obtain ⟨v0, v1⟩ := S_19.out
  obtain ⟨z0, z1⟩ := G_19.out
  obtain ⟨p0, p1⟩ := H_19.out
  clear bb
  go_wp2_with fail
  refine (Vo.heldTensor _ _ _ T.r T.s gc gd 1 _ QG_19.out lv lw (by omega) (by omega)).mono ?_; rintro e W20 ⟨rfl, bb⟩
  have B20 := Vl.hide (B19.out.trans (Below.mono bb B19.out.size))
  have sz20 : W19.heap.size ≤ W20.heap.size := by have qz := bb.size; (try simp only [World.size_alloc] at qz); (try simp only [World.size_alloc]); exact qz
  try clear u0 u1 u2 u3
  try clear u0 u1
  try clear v0 v1 v2 v3
  try clear v0 v1
  try clear z0 z1 z2 z3
  try clear z0 z1
  try clear p0 p1 p2 p3
  try clear p0 p1
  try clear fa0 fa1 fa2 fa3
  try clear fa0 fa1
  try clear fb0 fb1 fb2 fb3
  try clear fb0 fb1
  try clear fc0 fc1 fc2 fc3
  try clear fc0 fc1
  try clear fd0 fd1 fd2 fd3
  try clear fd0 fd1
  have V0_20 := Vl.hide (Vo.Bx.below V0_19.out bb (by first | omega | (simp; done) | (simp; omega)))
  have QS_20 := Vl.hide (QS_19.out.below bb)
  have S_20 := Vl.hide (Vo.Bx.below S_19.out bb (by first | omega | (simp; done) | (simp; omega)))
  have QG_20 := Vl.hide (QG_19.out.below bb)
  have G_20 := Vl.hide (Vo.Bx.below G_19.out bb (by first | omega | (simp; done) | (simp; omega)))
  have QH_20 := Vl.hide (QH_19.out.below bb)
  have H_20 := Vl.hide (Vo.Bx.below H_19.out bb (by first | omega | (simp; done) | (simp; omega)))
  obtain ⟨u0, u1⟩ := V0_20.out
  obtain ⟨v0, v1⟩ := S_20.out
  obtain ⟨z0, z1⟩ := G_20.out
  obtain ⟨p0, p1⟩ := H_20.out
  clear bb
  go_wp2_with fail
  go_ret
  exact ⟨rfl, B20.out⟩

set_option maxRecDepth 100000 in
theorem lifted (os : Os) (started : os.Started) (H : Type) (enc : TypeId × Value → H) :
    ReturnsInHanded {} Try.checked os 4 .any (Rows.fnExactFoldSpec.pre6 enc Try.prog Try.f4 Rows.fnExactFoldRow.domain false) (Rows.fnExactFoldSpec.post enc Try.prog Try.f4 false true false false) := by
  refine returnsInHanded_of_change (C := Try.checked) own started (by kernel_rfl) Try.func4
    (ChangeSpec.witness6 (enc := enc) (C := Try.checked) false ⟨#[], #[.agg #[.slice none 0 0, .slice none 0 0], .int .i64 0, .int .i64 0, .int .i64 0], []⟩ 8 (by kernel_rfl) (by kernel_rfl) (by kernel_rfl) (by kernel_rfl)) ?_
  intro W base args ds gs before hval0 hW hcnd _
  have hval : ∀ (j : Nat) t v, Try.f4.params[j]? = some t → args[j]? = some v → Value.okWide Try.prog W .any base t v := hval0
  have hW' := hW
  obtain ⟨p, q, hA0, hV, rfl, hfz, hnd⟩ := hW
  have hA : DataW.TrodAll enc Try.prog W 0 (fun _ => true) true Try.f4.params.toList args.toList ds p := hA0
  rw [Try.params4] at hA hval
  obtain ⟨v0, vs0, d0, ds0, p0, q0, hargs, rfl, rfl, h0, rst0⟩ := trodAll_cons hA
  obtain ⟨v1, vs1, d1, ds1, p1, q1, rfl, rfl, rfl, h1, rst1⟩ := trodAll_cons rst0
  obtain ⟨v2, vs2, d2, ds2, p2, q2, rfl, rfl, rfl, h2, rst2⟩ := trodAll_cons rst1
  obtain ⟨v3, vs3, d3, ds3, p3, q3, rfl, rfl, rfl, h3, rst3⟩ := trodAll_cons rst2
  obtain ⟨rfl, rfl, rfl⟩ := trodAll_nil rst3
  obtain rfl : args = #[v0, v1, v2, v3] := by cases args; simp_all
  obtain ⟨rfl, rfl⟩ := trodVars_none hV
  have k0 := h0
  have lt0 : ∀ x ∈ p0, x.block < W.heap.size := by obtain ⟨m, hm⟩ := k0; exact DataW.trod_lt m _ _ _ hm
  obtain ⟨c00, c01, u00, u01, m0, rfl, _, _, hy00, hy01⟩ := open_agg2 Try.underlying33 (by kernel_rfl) (by kernel_rfl) (hval 0 33 v0 rfl rfl) h0
  obtain ⟨a0, r0, cap0, rfl, w0⟩ := Vl.arg_of hy00
  obtain ⟨b0, s0, dap0, rfl, y0⟩ := Vl.arg_of hy01
  have k1 := h1
  have lt1 : ∀ x ∈ p1, x.block < W.heap.size := by obtain ⟨m, hm⟩ := k1; exact DataW.trod_lt m _ _ _ hm
  obtain ⟨a1, rfl, e1, _, w1⟩ := open_int Try.underlying3 (hval 1 3 v1 rfl rfl) h1
  have k2 := h2
  have lt2 : ∀ x ∈ p2, x.block < W.heap.size := by obtain ⟨m, hm⟩ := k2; exact DataW.trod_lt m _ _ _ hm
  obtain ⟨a2, rfl, e2, _, w2⟩ := open_int Try.underlying3 (hval 2 3 v2 rfl rfl) h2
  have k3 := h3
  have lt3 : ∀ x ∈ p3, x.block < W.heap.size := by obtain ⟨m, hm⟩ := k3; exact DataW.trod_lt m _ _ _ hm
  obtain ⟨a3, rfl, e3, _, w3⟩ := open_int Try.underlying3 (hval 3 3 v3 rfl rfl) h3
  clear hA0 hval0
  refine (walk a0 r0 cap0 b0 s0 dap0 a1 w1 a2 w2 a3 w3 W w0 y0).mono fun e W' ⟨he, bel⟩ => ?_
  subst he
  exact ⟨_, rfl, _, _, _, [], _, [], hW', trodAll_mk1 (shut_bool Try.underlying4 _), (trodAll_cons_mk (Below.trod laidOut (by kernel_rfl) (of_decide_eq_true (by kernel_rfl)) k0 bel lt0) (trodAll_cons_mk (Below.trod laidOut (by kernel_rfl) (of_decide_eq_true (by kernel_rfl)) k1 bel lt1) (trodAll_cons_mk (Below.trod laidOut (by kernel_rfl) (of_decide_eq_true (by kernel_rfl)) k2 bel lt2) (trodAll_cons_mk (Below.trod laidOut (by kernel_rfl) (of_decide_eq_true (by kernel_rfl)) k3 bel lt3) trodAll_mk0)))), rfl, bel.frame _, fun h => by cases h⟩

theorem over : Rows.fnExactFoldRow.holds Try.pinned (OpenSpec.ofChange Rows.fnExactFoldSpec) :=
  OpenClaim.holds_of_wide 4 Try.f4 rfl rfl rfl rfl rfl rfl rfl ⟨rfl, rfl, rfl, rfl, rfl⟩ rfl rfl rfl rfl rfl (by kernel_rfl) Try.func4 (by kernel_rfl)
    (of_decide_eq_true (by kernel_rfl)) (by unfold Func.isWrapper; first | (rw [if_pos (by decide +kernel)]; kernel_rfl) | (rw [if_neg (by decide +kernel)]; exact ⟨rfl, rfl⟩))
    (fun os started H enc _ => lifted os started H enc)

theorem proved : Rows.FnExactFoldSaid := over
#print axioms proved
end Go.Proofs.Ytldcacdopijfdab.fnExactFold
