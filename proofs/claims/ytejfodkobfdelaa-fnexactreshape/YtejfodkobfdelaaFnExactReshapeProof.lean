/-
  Proved: whatever the arguments, 'FnExactReshape' returns true: the landed function answers as its model, and what came in reads as it did. No condition.
-/
import Derived.Test.YtejfodkobfdelaaRows
import Derived.Test.YtejfodkobfdelaaVl
import Derived.Test.YtejfodkobfdelaaVp
import Derived.Test.YtejfodkobfdelaaVs
import Derived.Test.YtejfodkobfdelaaVq
import Derived.Test.YtejfodkobfdelaaVo
import Derived.Test.YtejfodkobfdelaaVm
import Derived.Test.YtejfodkobfdelaaVn
import Derived.Test.YtejfodkobfdelaaVt
import Derived.Test.YtejfodkobfdelaaVv
import Derived.Test.YtejfodkobfdelaaVc
import Derived.Test.YtejfodkobfdelaaVr
import Derived.Test.YtejfodkobfdelaaVw
import Derived.Test.YtejfodkobfdelaaVx
import Derived.Test.YtejfodkobfdelaaVy
import Derived.Test.YtejfodkobfdelaaVz
import Derived.Test.YtejfodkobfdelaaVac
import Derived.Test.YtejfodkobfdelaaVad
import Derived.Test.YtejfodkobfdelaaVaf
import Derived.Test.YtejfodkobfdelaaVag
import Derived.Test.YtejfodkobfdelaaVah
import Derived.Test.YtejfodkobfdelaaVai
import Derived.Test.YtejfodkobfdelaaVaj
import Derived.Test.YtejfodkobfdelaaVae
import Derived.Test.YtejfodkobfdelaaVak
import Derived.Test.YtejfodkobfdelaaVal
import Derived.Test.YtejfodkobfdelaaVam
import Derived.Test.YtejfodkobfdelaaVan
import Derived.Test.YtejfodkobfdelaaVao
import Derived.Test.YtejfodkobfdelaaVap
import Derived.Test.YtejfodkobfdelaaVaq
import Derived.Test.YtejfodkobfdelaaVar
import Derived.Test.YtejfodkobfdelaaVas
import Derived.Test.YtejfodkobfdelaaVat
import Derived.Test.YtejfodkobfdelaaUb
import Derived.Test.YtejfodkobfdelaaUc
import Derived.Test.YtejfodkobfdelaaUd
import Derived.Test.YtejfodkobfdelaaUe
import Derived.Test.YtejfodkobfdelaaUf
import Derived.Test.YtejfodkobfdelaaEq
import Derived.Test.YtejfodkobfdelaaUi
import Derived.Test.YtejfodkobfdelaaUj
import Derived.WalkKit
import Derived.ProofKit
import Derived.OpenShut
import Derived.ShutString
import Derived.ChangeOld
import Derived.Below
import Derived.Lib.SmallJoins
import Derived.OpenVars
import Derived.ChangeVars
import Derived.Deep.RegionHeld3
namespace Go.Proofs.Ytejfodkobfdelaa.fnExactReshape
open Go.ChangeShapes Go.WideShapes Go.ChangeAt Go.RowKit Go.Joins
open Go.ChangeMaps (open_string shut_string)
set_option linter.unusedVariables false

theorem own : ownKnob Try.prog.godebug = none := by kernel_rfl
theorem laidOut : laidOutB Try.prog = true := by kernel_rfl

theorem walk (a0 : Option Addr) (r0 cap0 : Nat) (b0 : Option Addr) (s0 dap0 : Nat) (o0 n0 : Int) (wo0 : (Lit.int .i64 o0).wf = true) (wn0 : (Lit.int .i64 n0).wf = true) (a1 : Option Addr) (r1 cap1 : Nat) (w : World) (w0 : Vl.Arg w a0 r0) (y0 : Vl.Arg w b0 s0) (w1 : Vl.Arg w a1 r1) :
    Calls Try.prog 3 #[.agg #[.slice a0 r0 cap0, .slice b0 s0 dap0, .int .i64 o0, .int .i64 n0], .slice a1 r1 cap1] w fun e w' => e = .returned (.bool true) ∧ Below w.heap.size w w' := by
  obtain ⟨hr0, D0, hh0⟩ := w0
  obtain ⟨hs0, S0, hk0⟩ := y0
  have H0 := Vl.hide hh0
  have K0 := Vl.hide hk0
  clear hh0 hk0
  obtain ⟨hr1, D1, hh1⟩ := w1
  have H1 := Vl.hide hh1
  clear hh1
  have B0 := Vl.hide (Below.refl w.heap.size w)
  have bb := (Below.refl w.heap.size w).alloc (Nat.le_refl _) (.cells #[.slice a0 r0 cap0, .slice b0 s0 dap0, .int .i64 o0, .int .i64 n0] 24)
  have V0_1 := Vl.hide (Vo.box_new w (.slice a0 r0 cap0) (.slice b0 s0 dap0) (.int .i64 o0) (.int .i64 n0) 24)
  have B1 := Vl.hide (B0.out.trans (Below.mono bb B0.out.size))
  have sz1 : w.heap.size ≤ (w.alloc (.cells #[.slice a0 r0 cap0, .slice b0 s0 dap0, .int .i64 o0, .int .i64 n0] 24)).heap.size := by have qz := bb.size; (try simp only [World.size_alloc] at qz); (try simp only [World.size_alloc]); exact qz
  simp only [World.size_alloc] at sz1
  try clear u0 u1 u2 u3
  try clear v0 v1 v2 v3
  try clear z0 z1 z2 z3
  try clear p0 p1 p2 p3
  try clear fa0 fa1 fa2 fa3
  try clear fb0 fb1 fb2 fb3
  try clear fc0 fc1 fc2 fc3
  try clear fd0 fd1 fd2 fd3
  clear bb
  obtain ⟨u0, u1, u2, u3⟩ := V0_1.out
  by_cases h21 : 1048576 < (r1 : Int)
  · go_enter Try.func3, Try.ntmps3
    go_wp2_with fail
    go_ret
    exact ⟨rfl, B1.out⟩
  have g21 : decide (1048576 < (r1 : Int)) = false := by rw [decide_eq_false_iff_not]; exact h21
  have lr1 : (r1 : Int) ≤ 1048576 := by omega
  clear h21 hr1
  go_enter Try.func3, Try.ntmps3
  go_wp2_with fail
  refine (Vo.szView a0 b0 r0 s0 cap0 dap0 o0 n0 1048576 _ (by omega) (by omega) hr0 hs0).mono ?_; rintro e W2 ⟨x0, rfl, hx0, bb⟩
  have B2 := Vl.hide (B1.out.trans (Below.mono bb B1.out.size))
  have sz2 : (w.heap.size + 1) ≤ W2.heap.size := by have qz := bb.size; (try simp only [World.size_alloc] at qz); (try simp only [World.size_alloc]); exact qz
  try clear u0 u1 u2 u3
  try clear v0 v1 v2 v3
  try clear z0 z1 z2 z3
  try clear p0 p1 p2 p3
  try clear fa0 fa1 fa2 fa3
  try clear fb0 fb1 fb2 fb3
  try clear fc0 fc1 fc2 fc3
  try clear fd0 fd1 fd2 fd3
  have V0_2 := Vl.hide (Vo.Box.below V0_1.out bb (by first | omega | (simp; done) | (simp; omega)))
  obtain ⟨u0, u1, u2, u3⟩ := V0_2.out
  clear bb
  by_cases hn0 : x0 < 0
  · clear hx0
    go_wp2_with fail
    go_ret
    exact ⟨rfl, B2.out⟩
  have hm0 : decide (x0 < 0) = false := by rw [decide_eq_false_iff_not]; exact hn0
  obtain ⟨lx0, lr0, ls0⟩ := hx0 (by omega)
  have lz0 : 0 ≤ x0 := by omega
  clear hn0 hx0 hr0 hs0
  have lv : (((Vo.turnedV r0 s0 D0 S0 o0 n0 (Vo.rshV r0 r1 D0 S0 D1 o0 n0)).r : Nat) : Int) ≤ 1048576 := by have := (Vo.turned_le2 r0 s0 D0 S0 o0 n0 (Vo.rshV r0 r1 D0 S0 D1 o0 n0)).1; have := (Vo.rshV_le r0 r1 D0 S0 D1 o0 n0).1; omega
  have lw : (((Vo.turnedV r0 s0 D0 S0 o0 n0 (Vo.rshV r0 r1 D0 S0 D1 o0 n0)).s : Nat) : Int) ≤ 1048576 := by have := (Vo.turned_le2 r0 s0 D0 S0 o0 n0 (Vo.rshV r0 r1 D0 S0 D1 o0 n0)).2; have := (Vo.rshV_le r0 r1 D0 S0 D1 o0 n0).2; omega
  have CS := Vl.hide (fun (B : Nat) (a b c : Addr) (cap dap : Nat) (w : World) hB h h' hI => Vo.specReshape B (some a) (some b) c r0 s0 r1 cap dap D0 S0 D1 o0 n0 w hB h h' hI lr0 ls0 lr1)
  have CI := Vl.hide (fun (B : Nat) (a b c : Addr) (cap dap : Nat) (w : World) hB h h' hI => Vo.reshapeF B (some a) (some b) c r0 s0 r1 cap dap D0 S0 D1 o0 n0 w hB h h' hI lr0 ls0 lr1 (fun e => by cases e) (fun e => by cases e))
  obtain ⟨T, hT⟩ : ∃ T, (Vo.turnedV r0 s0 D0 S0 o0 n0 (Vo.rshV r0 r1 D0 S0 D1 o0 n0)) = T := ⟨_, rfl⟩
  rw [hT] at lv lw CS CI
  clear hT
  go_wp2_with fail
  refine (Vo.toView w.heap.size a0 b0 r0 s0 cap0 dap0 D0 S0 o0 n0 _ (H0.out.below B2.out) (K0.out.below B2.out) B2.out.size lr0 ls0).mono ?_; rintro e W3 ⟨ga, ga', rfl, q3, bb⟩
  have B3 := Vl.hide (B2.out.trans (Below.mono bb B2.out.size))
  have sz3 : W2.heap.size ≤ W3.heap.size := by have qz := bb.size; (try simp only [World.size_alloc] at qz); (try simp only [World.size_alloc]); exact qz
  try clear u0 u1 u2 u3
  try clear v0 v1 v2 v3
  try clear z0 z1 z2 z3
  try clear p0 p1 p2 p3
  try clear fa0 fa1 fa2 fa3
  try clear fb0 fb1 fb2 fb3
  try clear fc0 fc1 fc2 fc3
  try clear fd0 fd1 fd2 fd3
  have V0_3 := Vl.hide (Vo.Box.below V0_2.out bb (by first | omega | (simp; done) | (simp; omega)))
  obtain ⟨u0, u1, u2, u3⟩ := V0_3.out
  clear bb
  have QA_3 := Vl.hide q3
  clear q3
  have uu := fun k q => QA_3.out.blk (k := k) q
  try simp only [World.size_alloc] at uu
  have UQA := Vl.hide uu
  clear uu
  go_wp2_with fail
  refine (Vl.toIntS w.heap.size a1 r1 cap1 D1 _ (H1.out.below B3.out) B3.out.size lr1).mono ?_; rintro e W4 ⟨rfl, q4, t4, bb⟩
  have B4 := Vl.hide (B3.out.trans (Below.mono bb B3.out.size))
  have sz4 : W3.heap.size ≤ W4.heap.size := by have qz := bb.size; (try simp only [World.size_alloc] at qz); (try simp only [World.size_alloc]); exact qz
  try clear u0 u1 u2 u3
  try clear v0 v1 v2 v3
  try clear z0 z1 z2 z3
  try clear p0 p1 p2 p3
  try clear fa0 fa1 fa2 fa3
  try clear fb0 fb1 fb2 fb3
  try clear fc0 fc1 fc2 fc3
  try clear fd0 fd1 fd2 fd3
  have V0_4 := Vl.hide (Vo.Box.below V0_3.out bb (by first | omega | (simp; done) | (simp; omega)))
  have QA_4 := Vl.hide (QA_3.out.below bb)
  obtain ⟨u0, u1, u2, u3⟩ := V0_4.out
  clear bb
  have qq : Vl.OwnL W3.heap.size W4 (some ⟨W3.heap.size, 0, none⟩) r1 D1 := .inr ⟨_, rfl, Nat.le_refl _, by have qz := q4; (try simp only [World.size_alloc] at qz); exact qz⟩
  clear q4
  have QB_4 := Vl.hide qq
  clear qq
  have uu := fun k q => QB_4.out.blk (b := k) q
  try simp only [World.size_alloc] at uu
  have UQB := Vl.hide uu
  clear uu
  go_wp2_with fail
  refine (CS.out _ _ _ _ _ _ _ (Nat.le_refl _) QA_4.out.d.ints QA_4.out.t.ints QB_4.out.ints).mono ?_; rintro e W5 ⟨sa, sb, sc, sd, rfl, qs, bb⟩
  have B5 := Vl.hide (B4.out.trans (Below.mono bb B4.out.size))
  have sz5 : W4.heap.size ≤ W5.heap.size := by have qz := bb.size; (try simp only [World.size_alloc] at qz); (try simp only [World.size_alloc]); exact qz
  try clear u0 u1 u2 u3
  try clear v0 v1 v2 v3
  try clear z0 z1 z2 z3
  try clear p0 p1 p2 p3
  try clear fa0 fa1 fa2 fa3
  try clear fb0 fb1 fb2 fb3
  try clear fc0 fc1 fc2 fc3
  try clear fd0 fd1 fd2 fd3
  have V0_5 := Vl.hide (Vo.Box.below V0_4.out bb (by first | omega | (simp; done) | (simp; omega)))
  have QA_5 := Vl.hide (QA_4.out.below bb)
  have QB_5 := Vl.hide (QB_4.out.below bb)
  obtain ⟨u0, u1, u2, u3⟩ := V0_5.out
  clear bb
  have QS_5 := Vl.hide qs
  clear qs
  have uu := fun k q => QS_5.out.blk (k := k) q
  try simp only [World.size_alloc] at uu
  have UQS := Vl.hide uu
  clear uu
  have bb := (Below.refl W5.heap.size W5).alloc (Nat.le_refl _) (.cells #[.slice sa T.r sc, .slice sb T.s sd, .int .i64 T.o, .int .i64 T.n] 26)
  have S_6 := Vl.hide (Vo.box_new W5 (.slice sa T.r sc) (.slice sb T.s sd) (.int .i64 T.o) (.int .i64 T.n) 26)
  have B6 := Vl.hide (B5.out.trans (Below.mono bb B5.out.size))
  have sz6 : W5.heap.size ≤ (W5.alloc (.cells #[.slice sa T.r sc, .slice sb T.s sd, .int .i64 T.o, .int .i64 T.n] 26)).heap.size := by have qz := bb.size; (try simp only [World.size_alloc] at qz); (try simp only [World.size_alloc]); exact qz
  simp only [World.size_alloc] at sz6
  try clear u0 u1 u2 u3
  try clear v0 v1 v2 v3
  try clear z0 z1 z2 z3
  try clear p0 p1 p2 p3
  try clear fa0 fa1 fa2 fa3
  try clear fb0 fb1 fb2 fb3
  try clear fc0 fc1 fc2 fc3
  try clear fd0 fd1 fd2 fd3
  have V0_6 := Vl.hide (Vo.Box.below V0_5.out bb (by first | omega | (simp; done) | (simp; omega)))
  have QA_6 := Vl.hide (QA_5.out.below bb)
  have QB_6 := Vl.hide (QB_5.out.below bb)
  have QS_6 := Vl.hide (QS_5.out.below bb)
  obtain ⟨u0, u1, u2, u3⟩ := V0_6.out
  clear bb
  obtain ⟨v0, v1, v2, v3⟩ := S_6.out
  go_wp2_with fail
  refine (Vo.toView w.heap.size a0 b0 r0 s0 cap0 dap0 D0 S0 o0 n0 _ (H0.out.below B6.out) (K0.out.below B6.out) B6.out.size lr0 ls0).mono ?_; rintro e W7 ⟨gx, gx', rfl, q7, bb⟩
  have B7 := Vl.hide (B6.out.trans (Below.mono bb B6.out.size))
  have sz7 : (W5.heap.size + 1) ≤ W7.heap.size := by have qz := bb.size; (try simp only [World.size_alloc] at qz); (try simp only [World.size_alloc]); exact qz
  try clear u0 u1 u2 u3
  try clear v0 v1 v2 v3
  try clear z0 z1 z2 z3
  try clear p0 p1 p2 p3
  try clear fa0 fa1 fa2 fa3
  try clear fb0 fb1 fb2 fb3
  try clear fc0 fc1 fc2 fc3
  try clear fd0 fd1 fd2 fd3
  have V0_7 := Vl.hide (Vo.Box.below V0_6.out bb (by first | omega | (simp; done) | (simp; omega)))
  have QS_7 := Vl.hide (QS_6.out.below bb)
  have S_7 := Vl.hide (Vo.Box.below S_6.out bb (by first | omega | (simp; done) | (simp; omega)))
  obtain ⟨u0, u1, u2, u3⟩ := V0_7.out
  obtain ⟨v0, v1, v2, v3⟩ := S_7.out
  clear bb
  have QX_7 := Vl.hide q7
  clear q7
  have uu := fun k q => QX_7.out.blk (k := k) q
  try simp only [World.size_alloc] at uu
  have UQX := Vl.hide uu
  clear uu
  have bb := (Below.refl W7.heap.size W7).alloc (Nat.le_refl _) (.cells #[.slice (some ⟨gx, 0, none⟩) r0 r0, .slice (some ⟨gx', 0, none⟩) s0 s0, .int .i64 o0, .int .i64 n0] 26)
  have X_8 := Vl.hide (Vo.box_new W7 (.slice (some ⟨gx, 0, none⟩) r0 r0) (.slice (some ⟨gx', 0, none⟩) s0 s0) (.int .i64 o0) (.int .i64 n0) 26)
  have B8 := Vl.hide (B7.out.trans (Below.mono bb B7.out.size))
  have sz8 : W7.heap.size ≤ (W7.alloc (.cells #[.slice (some ⟨gx, 0, none⟩) r0 r0, .slice (some ⟨gx', 0, none⟩) s0 s0, .int .i64 o0, .int .i64 n0] 26)).heap.size := by have qz := bb.size; (try simp only [World.size_alloc] at qz); (try simp only [World.size_alloc]); exact qz
  simp only [World.size_alloc] at sz8
  try clear u0 u1 u2 u3
  try clear v0 v1 v2 v3
  try clear z0 z1 z2 z3
  try clear p0 p1 p2 p3
  try clear fa0 fa1 fa2 fa3
  try clear fb0 fb1 fb2 fb3
  try clear fc0 fc1 fc2 fc3
  try clear fd0 fd1 fd2 fd3
  have V0_8 := Vl.hide (Vo.Box.below V0_7.out bb (by first | omega | (simp; done) | (simp; omega)))
  have QS_8 := Vl.hide (QS_7.out.below bb)
  have S_8 := Vl.hide (Vo.Box.below S_7.out bb (by first | omega | (simp; done) | (simp; omega)))
  have QX_8 := Vl.hide (QX_7.out.below bb)
  obtain ⟨u0, u1, u2, u3⟩ := V0_8.out
  obtain ⟨v0, v1, v2, v3⟩ := S_8.out
  clear bb
  obtain ⟨z0, z1, z2, z3⟩ := X_8.out
  go_wp2_with fail
  refine (Vl.toIntS w.heap.size a1 r1 cap1 D1 _ (H1.out.below B8.out) B8.out.size lr1).mono ?_; rintro e W9 ⟨rfl, q9, t9, bb⟩
  have B9 := Vl.hide (B8.out.trans (Below.mono bb B8.out.size))
  have sz9 : (W7.heap.size + 1) ≤ W9.heap.size := by have qz := bb.size; (try simp only [World.size_alloc] at qz); (try simp only [World.size_alloc]); exact qz
  try clear u0 u1 u2 u3
  try clear v0 v1 v2 v3
  try clear z0 z1 z2 z3
  try clear p0 p1 p2 p3
  try clear fa0 fa1 fa2 fa3
  try clear fb0 fb1 fb2 fb3
  try clear fc0 fc1 fc2 fc3
  try clear fd0 fd1 fd2 fd3
  have V0_9 := Vl.hide (Vo.Box.below V0_8.out bb (by first | omega | (simp; done) | (simp; omega)))
  have QS_9 := Vl.hide (QS_8.out.below bb)
  have S_9 := Vl.hide (Vo.Box.below S_8.out bb (by first | omega | (simp; done) | (simp; omega)))
  have QX_9 := Vl.hide (QX_8.out.below bb)
  have X_9 := Vl.hide (Vo.Box.below X_8.out bb (by first | omega | (simp; done) | (simp; omega)))
  obtain ⟨u0, u1, u2, u3⟩ := V0_9.out
  obtain ⟨v0, v1, v2, v3⟩ := S_9.out
  obtain ⟨z0, z1, z2, z3⟩ := X_9.out
  clear bb
  have qq : Vl.OwnL (W7.heap.size + 1) W9 (some ⟨(W7.heap.size + 1), 0, none⟩) r1 D1 := .inr ⟨_, rfl, Nat.le_refl _, by have qz := q9; (try simp only [World.size_alloc] at qz); exact qz⟩
  clear q9
  have QY_9 := Vl.hide qq
  clear qq
  have uu := fun k q => QY_9.out.blk (b := k) q
  try simp only [World.size_alloc] at uu
  have UQY := Vl.hide uu
  clear uu
  go_wp2_with fail
  refine (CI.out _ _ _ _ _ _ _ (Nat.le_refl _) QX_9.out.d.ints QX_9.out.t.ints QY_9.out.ints).mono ?_; rintro e W10 ⟨ga, gb, gc, gd, rfl, qg, bb⟩
  have B10 := Vl.hide (B9.out.trans (Below.mono bb B9.out.size))
  have sz10 : W9.heap.size ≤ W10.heap.size := by have qz := bb.size; (try simp only [World.size_alloc] at qz); (try simp only [World.size_alloc]); exact qz
  try clear u0 u1 u2 u3
  try clear v0 v1 v2 v3
  try clear z0 z1 z2 z3
  try clear p0 p1 p2 p3
  try clear fa0 fa1 fa2 fa3
  try clear fb0 fb1 fb2 fb3
  try clear fc0 fc1 fc2 fc3
  try clear fd0 fd1 fd2 fd3
  have V0_10 := Vl.hide (Vo.Box.below V0_9.out bb (by first | omega | (simp; done) | (simp; omega)))
  have QS_10 := Vl.hide (QS_9.out.below bb)
  have S_10 := Vl.hide (Vo.Box.below S_9.out bb (by first | omega | (simp; done) | (simp; omega)))
  have QX_10 := Vl.hide (QX_9.out.below bb)
  have X_10 := Vl.hide (Vo.Box.below X_9.out bb (by first | omega | (simp; done) | (simp; omega)))
  have QY_10 := Vl.hide (QY_9.out.below bb)
  obtain ⟨u0, u1, u2, u3⟩ := V0_10.out
  obtain ⟨v0, v1, v2, v3⟩ := S_10.out
  obtain ⟨z0, z1, z2, z3⟩ := X_10.out
  clear bb
  have QG_10 := Vl.hide qg
  clear qg
  have uu := fun k q => QG_10.out.blk (k := k) q
  try simp only [World.size_alloc] at uu
  have UQG := Vl.hide uu
  clear uu
  have bb := (Below.refl W10.heap.size W10).alloc (Nat.le_refl _) (.cells #[.slice ga T.r gc, .slice gb T.s gd, .int .i64 T.o, .int .i64 T.n] 26)
  have G_11 := Vl.hide (Vo.box_new W10 (.slice ga T.r gc) (.slice gb T.s gd) (.int .i64 T.o) (.int .i64 T.n) 26)
  have B11 := Vl.hide (B10.out.trans (Below.mono bb B10.out.size))
  have sz11 : W10.heap.size ≤ (W10.alloc (.cells #[.slice ga T.r gc, .slice gb T.s gd, .int .i64 T.o, .int .i64 T.n] 26)).heap.size := by have qz := bb.size; (try simp only [World.size_alloc] at qz); (try simp only [World.size_alloc]); exact qz
  simp only [World.size_alloc] at sz11
  try clear u0 u1 u2 u3
  try clear v0 v1 v2 v3
  try clear z0 z1 z2 z3
  try clear p0 p1 p2 p3
  try clear fa0 fa1 fa2 fa3
  try clear fb0 fb1 fb2 fb3
  try clear fc0 fc1 fc2 fc3
  try clear fd0 fd1 fd2 fd3
  have V0_11 := Vl.hide (Vo.Box.below V0_10.out bb (by first | omega | (simp; done) | (simp; omega)))
  have QS_11 := Vl.hide (QS_10.out.below bb)
  have S_11 := Vl.hide (Vo.Box.below S_10.out bb (by first | omega | (simp; done) | (simp; omega)))
  have QX_11 := Vl.hide (QX_10.out.below bb)
  have X_11 := Vl.hide (Vo.Box.below X_10.out bb (by first | omega | (simp; done) | (simp; omega)))
  have QY_11 := Vl.hide (QY_10.out.below bb)
  have QG_11 := Vl.hide (QG_10.out.below bb)
  obtain ⟨u0, u1, u2, u3⟩ := V0_11.out
  obtain ⟨v0, v1, v2, v3⟩ := S_11.out
  obtain ⟨z0, z1, z2, z3⟩ := X_11.out
  clear bb
  obtain ⟨p0, p1, p2, p3⟩ := G_11.out
  go_wp2_with fail
  refine (Vo.eqView _ _ _ _ _ T.r T.s gc gd sc sd T.D T.S T.D T.S T.o T.n _ (Nat.le_refl _) QG_11.out.d.ints QG_11.out.t.ints QS_11.out.d.ints QS_11.out.t.ints (fun _ _ => rfl) (fun _ _ => rfl) lv lw).mono ?_; rintro e W12 ⟨rfl, bb⟩
  have B12 := Vl.hide (B11.out.trans (Below.mono bb B11.out.size))
  have sz12 : (W10.heap.size + 1) ≤ W12.heap.size := by have qz := bb.size; (try simp only [World.size_alloc] at qz); (try simp only [World.size_alloc]); exact qz
  try clear u0 u1 u2 u3
  try clear v0 v1 v2 v3
  try clear z0 z1 z2 z3
  try clear p0 p1 p2 p3
  try clear fa0 fa1 fa2 fa3
  try clear fb0 fb1 fb2 fb3
  try clear fc0 fc1 fc2 fc3
  try clear fd0 fd1 fd2 fd3
  have V0_12 := Vl.hide (Vo.Box.below V0_11.out bb (by first | omega | (simp; done) | (simp; omega)))
  have QS_12 := Vl.hide (QS_11.out.below bb)
  have S_12 := Vl.hide (Vo.Box.below S_11.out bb (by first | omega | (simp; done) | (simp; omega)))
  have QX_12 := Vl.hide (QX_11.out.below bb)
  have X_12 := Vl.hide (Vo.Box.below X_11.out bb (by first | omega | (simp; done) | (simp; omega)))
  have QY_12 := Vl.hide (QY_11.out.below bb)
  have QG_12 := Vl.hide (QG_11.out.below bb)
  have G_12 := Vl.hide (Vo.Box.below G_11.out bb (by first | omega | (simp; done) | (simp; omega)))
  obtain ⟨u0, u1, u2, u3⟩ := V0_12.out
  obtain ⟨v0, v1, v2, v3⟩ := S_12.out
  obtain ⟨z0, z1, z2, z3⟩ := X_12.out
  obtain ⟨p0, p1, p2, p3⟩ := G_12.out
  clear bb
  have HT := Vl.hide (fun (W : World) (hW : Below W12.heap.size W12 W) => Vo.toView w.heap.size a0 b0 r0 s0 cap0 dap0 D0 S0 o0 n0 W (H0.out.below (B12.out.trans (hW.mono B12.out.size))) (K0.out.below (B12.out.trans (hW.mono B12.out.size))) (Nat.le_trans B12.out.size hW.size) lr0 ls0)
  have HE := Vl.hide (fun (W : World) (hW : Below W12.heap.size W12 W) (g5 g6 : Nat) (B : Nat) (q : Vo.VOwn B W (some ⟨g5, 0, none⟩) (some ⟨g6, 0, none⟩) r0 s0 D0 S0) => Vo.eqView W.heap.size (some ⟨gx, 0, none⟩) (some ⟨gx', 0, none⟩) (some ⟨g5, 0, none⟩) (some ⟨g6, 0, none⟩) r0 s0 r0 s0 r0 s0 D0 S0 D0 S0 o0 n0 W (Nat.le_refl _) (QX_12.out.below hW).d.ints (QX_12.out.below hW).t.ints q.d.ints q.t.ints (fun _ _ => rfl) (fun _ _ => rfl) lr0 ls0)
  go_wp2_with fail
  go_region_held3 (fun w' => w'.cell? ⟨W7.heap.size, 0, none⟩ = some (.slice (some ⟨gx, 0, none⟩) r0 r0) ∧ w'.cell? ⟨W7.heap.size, 1, none⟩ = some (.slice (some ⟨gx', 0, none⟩) s0 s0) ∧ w'.cell? ⟨W7.heap.size, 2, none⟩ = some (.int .i64 o0) ∧ w'.cell? ⟨W7.heap.size, 3, none⟩ = some (.int .i64 n0) ∧ w'.cell? ⟨w.heap.size, 0, none⟩ = some (.slice a0 r0 cap0) ∧ w'.cell? ⟨w.heap.size, 1, none⟩ = some (.slice b0 s0 dap0) ∧ w'.cell? ⟨w.heap.size, 2, none⟩ = some (.int .i64 o0) ∧ w'.cell? ⟨w.heap.size, 3, none⟩ = some (.int .i64 n0))
    ((try dsimp only) <;> (repeat' apply And.intro) <;> (repeat (first | with_reducible assumption | with_reducible apply Vo.drew_old | (with_reducible apply Vo.below_old; (focus (with_reducible assumption))))))
    (first
      | (go_at_call 7
         refine (HT.out _ (by exact (Below.refl _ _).drew)).mono ?_
         rintro e wA ⟨g5, g6, rfl, qA, bA⟩)
      | (go_at_call 10
         refine (HE.out _ (by exact (Below.refl _ W12).drew.trans bA) g5 g6 _ qA).mono ?_
         rintro e wB13 ⟨rfl, bB⟩))
  have bb : Below W12.heap.size W12 wB13 := ((Below.refl _ W12).drew.trans bA).trans (bB.mono (Nat.le_trans (Nat.le_refl _) bA.size))
  clear bA bB qA HT HE
  have B13 := Vl.hide (B12.out.trans (Below.mono bb B12.out.size))
  have sz13 : W12.heap.size ≤ wB13.heap.size := by have qz := bb.size; (try simp only [World.size_alloc] at qz); (try simp only [World.size_alloc]); exact qz
  try clear u0 u1 u2 u3
  try clear v0 v1 v2 v3
  try clear z0 z1 z2 z3
  try clear p0 p1 p2 p3
  try clear fa0 fa1 fa2 fa3
  try clear fb0 fb1 fb2 fb3
  try clear fc0 fc1 fc2 fc3
  try clear fd0 fd1 fd2 fd3
  have V0_13 := Vl.hide (Vo.Box.below V0_12.out bb (by first | omega | (simp; done) | (simp; omega)))
  have QS_13 := Vl.hide (QS_12.out.below bb)
  have S_13 := Vl.hide (Vo.Box.below S_12.out bb (by first | omega | (simp; done) | (simp; omega)))
  have QX_13 := Vl.hide (QX_12.out.below bb)
  have X_13 := Vl.hide (Vo.Box.below X_12.out bb (by first | omega | (simp; done) | (simp; omega)))
  have QY_13 := Vl.hide (QY_12.out.below bb)
  have QG_13 := Vl.hide (QG_12.out.below bb)
  have G_13 := Vl.hide (Vo.Box.below G_12.out bb (by first | omega | (simp; done) | (simp; omega)))
  obtain ⟨u0, u1, u2, u3⟩ := V0_13.out
  obtain ⟨v0, v1, v2, v3⟩ := S_13.out
  obtain ⟨z0, z1, z2, z3⟩ := X_13.out
  obtain ⟨p0, p1, p2, p3⟩ := G_13.out
  clear bb
  go_wp2_with fail
  refine (Vl.toIntS w.heap.size a1 r1 cap1 D1 _ (H1.out.below B13.out) B13.out.size lr1).mono ?_; rintro e W14 ⟨rfl, q14, t14, bb⟩
  have B14 := Vl.hide (B13.out.trans (Below.mono bb B13.out.size))
  have sz14 : wB13.heap.size ≤ W14.heap.size := by have qz := bb.size; (try simp only [World.size_alloc] at qz); (try simp only [World.size_alloc]); exact qz
  try clear u0 u1 u2 u3
  try clear v0 v1 v2 v3
  try clear z0 z1 z2 z3
  try clear p0 p1 p2 p3
  try clear fa0 fa1 fa2 fa3
  try clear fb0 fb1 fb2 fb3
  try clear fc0 fc1 fc2 fc3
  try clear fd0 fd1 fd2 fd3
  have V0_14 := Vl.hide (Vo.Box.below V0_13.out bb (by first | omega | (simp; done) | (simp; omega)))
  have QS_14 := Vl.hide (QS_13.out.below bb)
  have S_14 := Vl.hide (Vo.Box.below S_13.out bb (by first | omega | (simp; done) | (simp; omega)))
  have QX_14 := Vl.hide (QX_13.out.below bb)
  have X_14 := Vl.hide (Vo.Box.below X_13.out bb (by first | omega | (simp; done) | (simp; omega)))
  have QY_14 := Vl.hide (QY_13.out.below bb)
  have QG_14 := Vl.hide (QG_13.out.below bb)
  have G_14 := Vl.hide (Vo.Box.below G_13.out bb (by first | omega | (simp; done) | (simp; omega)))
  obtain ⟨u0, u1, u2, u3⟩ := V0_14.out
  obtain ⟨v0, v1, v2, v3⟩ := S_14.out
  obtain ⟨z0, z1, z2, z3⟩ := X_14.out
  obtain ⟨p0, p1, p2, p3⟩ := G_14.out
  clear bb
  have qq : Vl.OwnL wB13.heap.size W14 (some ⟨wB13.heap.size, 0, none⟩) r1 D1 := .inr ⟨_, rfl, Nat.le_refl _, by have qz := q14; (try simp only [World.size_alloc] at qz); exact qz⟩
  clear q14
  have QZ_14 := Vl.hide qq
  clear qq
  have uu := fun k q => QZ_14.out.blk (b := k) q
  try simp only [World.size_alloc] at uu
  have UQZ := Vl.hide uu
  clear uu
  go_wp2_with fail
  refine (Vl.eqIntS _ _ _ r1 r1 r1 D1 D1 _ QY_14.out.ints QZ_14.out.ints (fun _ _ => rfl) lr1).mono ?_; rintro e W15 ⟨rfl, bb⟩
  have B15 := Vl.hide (B14.out.trans (Below.mono bb B14.out.size))
  have sz15 : W14.heap.size ≤ W15.heap.size := by have qz := bb.size; (try simp only [World.size_alloc] at qz); (try simp only [World.size_alloc]); exact qz
  try clear u0 u1 u2 u3
  try clear v0 v1 v2 v3
  try clear z0 z1 z2 z3
  try clear p0 p1 p2 p3
  try clear fa0 fa1 fa2 fa3
  try clear fb0 fb1 fb2 fb3
  try clear fc0 fc1 fc2 fc3
  try clear fd0 fd1 fd2 fd3
  have V0_15 := Vl.hide (Vo.Box.below V0_14.out bb (by first | omega | (simp; done) | (simp; omega)))
  have QS_15 := Vl.hide (QS_14.out.below bb)
  have S_15 := Vl.hide (Vo.Box.below S_14.out bb (by first | omega | (simp; done) | (simp; omega)))
  have QX_15 := Vl.hide (QX_14.out.below bb)
  have X_15 := Vl.hide (Vo.Box.below X_14.out bb (by first | omega | (simp; done) | (simp; omega)))
  have QY_15 := Vl.hide (QY_14.out.below bb)
  have QG_15 := Vl.hide (QG_14.out.below bb)
  have G_15 := Vl.hide (Vo.Box.below G_14.out bb (by first | omega | (simp; done) | (simp; omega)))
  have QZ_15 := Vl.hide (QZ_14.out.below bb)
  obtain ⟨u0, u1, u2, u3⟩ := V0_15.out
  obtain ⟨v0, v1, v2, v3⟩ := S_15.out
  obtain ⟨z0, z1, z2, z3⟩ := X_15.out
  obtain ⟨p0, p1, p2, p3⟩ := G_15.out
  clear bb
  go_wp2_with fail
  refine (Vo.markView _ _ _ r0 s0 r0 s0 D0 S0 o0 n0 1 _ QX_15.out lr0 ls0 (by omega) (by omega)).mono ?_; rintro e W16 ⟨rfl, qs, bb⟩
  have B16 := Vl.hide (B15.out.trans (Vl.Kept.below bb B15.out.size (fun k q => by have := UQX.out _ q; omega)))
  have sz16 : W15.heap.size ≤ W16.heap.size := by have qz := bb.size; (try simp only [World.size_alloc] at qz); (try simp only [World.size_alloc]); exact qz
  try clear u0 u1 u2 u3
  try clear v0 v1 v2 v3
  try clear z0 z1 z2 z3
  try clear p0 p1 p2 p3
  try clear fa0 fa1 fa2 fa3
  try clear fb0 fb1 fb2 fb3
  try clear fc0 fc1 fc2 fc3
  try clear fd0 fd1 fd2 fd3
  have V0_16 := Vl.hide (Vo.Box.kept V0_15.out bb (by omega) (fun q => by have := UQX.out _ q; omega))
  have QS_16 := Vl.hide (QS_15.out.kept bb (fun k q q' => by have := UQS.out _ q; have := UQX.out _ q'; omega))
  have S_16 := Vl.hide (Vo.Box.kept S_15.out bb (by omega) (fun q => by have := UQX.out _ q; omega))
  have QX_16 := Vl.hide qs
  have X_16 := Vl.hide (Vo.Box.kept X_15.out bb (by omega) (fun q => by have := UQX.out _ q; omega))
  have QY_16 := Vl.hide (QY_15.out.kept bb (fun k q q' => by have := UQY.out _ q; have := UQX.out _ q'; omega))
  have QG_16 := Vl.hide (QG_15.out.kept bb (fun k q q' => by have := UQG.out _ q; have := UQX.out _ q'; omega))
  have G_16 := Vl.hide (Vo.Box.kept G_15.out bb (by omega) (fun q => by have := UQX.out _ q; omega))
  obtain ⟨u0, u1, u2, u3⟩ := V0_16.out
  obtain ⟨v0, v1, v2, v3⟩ := S_16.out
  obtain ⟨z0, z1, z2, z3⟩ := X_16.out
  obtain ⟨p0, p1, p2, p3⟩ := G_16.out
  clear bb
  clear qs
  go_wp2_with fail
  refine (Vl.markIntS _ _ r1 r1 D1 (1 + r0 + s0) _ QY_16.out lr1 (by omega) (by omega)).mono ?_; rintro e W17 ⟨rfl, qs, bb⟩
  have B17 := Vl.hide (B16.out.trans (Vl.Kept.below bb B16.out.size (fun k q => by have := UQY.out _ q; omega)))
  have sz17 : W16.heap.size ≤ W17.heap.size := by have qz := bb.size; (try simp only [World.size_alloc] at qz); (try simp only [World.size_alloc]); exact qz
  try clear u0 u1 u2 u3
  try clear v0 v1 v2 v3
  try clear z0 z1 z2 z3
  try clear p0 p1 p2 p3
  try clear fa0 fa1 fa2 fa3
  try clear fb0 fb1 fb2 fb3
  try clear fc0 fc1 fc2 fc3
  try clear fd0 fd1 fd2 fd3
  have V0_17 := Vl.hide (Vo.Box.kept V0_16.out bb (by omega) (fun q => by have := UQY.out _ q; omega))
  have QS_17 := Vl.hide (QS_16.out.kept bb (fun k q q' => by have := UQS.out _ q; have := UQY.out _ q'; omega))
  have S_17 := Vl.hide (Vo.Box.kept S_16.out bb (by omega) (fun q => by have := UQY.out _ q; omega))
  have QY_17 := Vl.hide qs
  have QG_17 := Vl.hide (QG_16.out.kept bb (fun k q q' => by have := UQG.out _ q; have := UQY.out _ q'; omega))
  have G_17 := Vl.hide (Vo.Box.kept G_16.out bb (by omega) (fun q => by have := UQY.out _ q; omega))
  obtain ⟨u0, u1, u2, u3⟩ := V0_17.out
  obtain ⟨v0, v1, v2, v3⟩ := S_17.out
  obtain ⟨z0, z1, z2, z3⟩ := G_17.out
  clear bb
  clear qs
  have neg1 : decide ((1 : Int) + r0 + s0 + r1 < 0) = false := by rw [decide_eq_false_iff_not]; omega
  go_wp2_with fail
  refine (Vo.eqView _ _ _ _ _ T.r T.s gc gd sc sd T.D T.S T.D T.S T.o T.n _ (Nat.le_refl _) QG_17.out.d.ints QG_17.out.t.ints QS_17.out.d.ints QS_17.out.t.ints (fun _ _ => rfl) (fun _ _ => rfl) lv lw).mono ?_; rintro e W18 ⟨rfl, bb⟩
  have B18 := Vl.hide (B17.out.trans (Below.mono bb B17.out.size))
  have sz18 : W17.heap.size ≤ W18.heap.size := by have qz := bb.size; (try simp only [World.size_alloc] at qz); (try simp only [World.size_alloc]); exact qz
  try clear u0 u1 u2 u3
  try clear v0 v1 v2 v3
  try clear z0 z1 z2 z3
  try clear p0 p1 p2 p3
  try clear fa0 fa1 fa2 fa3
  try clear fb0 fb1 fb2 fb3
  try clear fc0 fc1 fc2 fc3
  try clear fd0 fd1 fd2 fd3
  have V0_18 := Vl.hide (Vo.Box.below V0_17.out bb (by first | omega | (simp; done) | (simp; omega)))
  have QS_18 := Vl.hide (QS_17.out.below bb)
  have S_18 := Vl.hide (Vo.Box.below S_17.out bb (by first | omega | (simp; done) | (simp; omega)))
  have QG_18 := Vl.hide (QG_17.out.below bb)
  have G_18 := Vl.hide (Vo.Box.below G_17.out bb (by first | omega | (simp; done) | (simp; omega)))
  obtain ⟨u0, u1, u2, u3⟩ := V0_18.out
  obtain ⟨v0, v1, v2, v3⟩ := S_18.out
  obtain ⟨z0, z1, z2, z3⟩ := G_18.out
  clear bb
  go_wp2_with fail
  refine (Vo.markView _ _ _ T.r T.s gc gd T.D T.S T.o T.n 1 _ QG_18.out lv lw (by omega) (by omega)).mono ?_; rintro e W19 ⟨rfl, qs, bb⟩
  have B19 := Vl.hide (B18.out.trans (Vl.Kept.below bb B18.out.size (fun k q => by have := UQG.out _ q; omega)))
  have sz19 : W18.heap.size ≤ W19.heap.size := by have qz := bb.size; (try simp only [World.size_alloc] at qz); (try simp only [World.size_alloc]); exact qz
  try clear u0 u1 u2 u3
  try clear v0 v1 v2 v3
  try clear z0 z1 z2 z3
  try clear p0 p1 p2 p3
  try clear fa0 fa1 fa2 fa3
  try clear fb0 fb1 fb2 fb3
  try clear fc0 fc1 fc2 fc3
  try clear fd0 fd1 fd2 fd3
  have V0_19 := Vl.hide (Vo.Box.kept V0_18.out bb (by omega) (fun q => by have := UQG.out _ q; omega))
  have QS_19 := Vl.hide (QS_18.out.kept bb (fun k q q' => by have := UQS.out _ q; have := UQG.out _ q'; omega))
  have S_19 := Vl.hide (Vo.Box.kept S_18.out bb (by omega) (fun q => by have := UQG.out _ q; omega))
  have QG_19 := Vl.hide qs
  have G_19 := Vl.hide (Vo.Box.kept G_18.out bb (by omega) (fun q => by have := UQG.out _ q; omega))
  obtain ⟨u0, u1, u2, u3⟩ := V0_19.out
  obtain ⟨v0, v1, v2, v3⟩ := S_19.out
  obtain ⟨z0, z1, z2, z3⟩ := G_19.out
  clear bb
  clear qs
  have neg2 : decide ((1 : Int) + (T.r : Nat) + (T.s : Nat) < 0) = false := by rw [decide_eq_false_iff_not]; omega
  go_wp2_with fail
  refine (Vo.heldView _ _ _ T.r T.s gc gd T.o T.n 1 _ QG_19.out lv lw (by omega) (by omega)).mono ?_; rintro e W20 ⟨rfl, bb⟩
  have B20 := Vl.hide (B19.out.trans (Below.mono bb B19.out.size))
  have sz20 : W19.heap.size ≤ W20.heap.size := by have qz := bb.size; (try simp only [World.size_alloc] at qz); (try simp only [World.size_alloc]); exact qz
  try clear u0 u1 u2 u3
  try clear v0 v1 v2 v3
  try clear z0 z1 z2 z3
  try clear p0 p1 p2 p3
  try clear fa0 fa1 fa2 fa3
  try clear fb0 fb1 fb2 fb3
  try clear fc0 fc1 fc2 fc3
  try clear fd0 fd1 fd2 fd3
  have V0_20 := Vl.hide (Vo.Box.below V0_19.out bb (by first | omega | (simp; done) | (simp; omega)))
  have QS_20 := Vl.hide (QS_19.out.below bb)
  have S_20 := Vl.hide (Vo.Box.below S_19.out bb (by first | omega | (simp; done) | (simp; omega)))
  have QG_20 := Vl.hide (QG_19.out.below bb)
  have G_20 := Vl.hide (Vo.Box.below G_19.out bb (by first | omega | (simp; done) | (simp; omega)))
  obtain ⟨u0, u1, u2, u3⟩ := V0_20.out
  obtain ⟨v0, v1, v2, v3⟩ := S_20.out
  obtain ⟨z0, z1, z2, z3⟩ := G_20.out
  clear bb
  go_wp2_with fail
  refine (Vo.toView w.heap.size a0 b0 r0 s0 cap0 dap0 D0 S0 o0 n0 _ (H0.out.below B20.out) (K0.out.below B20.out) B20.out.size lr0 ls0).mono ?_; rintro e W21 ⟨gm, gm', rfl, q21, bb⟩
  have B21 := Vl.hide (B20.out.trans (Below.mono bb B20.out.size))
  have sz21 : W20.heap.size ≤ W21.heap.size := by have qz := bb.size; (try simp only [World.size_alloc] at qz); (try simp only [World.size_alloc]); exact qz
  try clear u0 u1 u2 u3
  try clear v0 v1 v2 v3
  try clear z0 z1 z2 z3
  try clear p0 p1 p2 p3
  try clear fa0 fa1 fa2 fa3
  try clear fb0 fb1 fb2 fb3
  try clear fc0 fc1 fc2 fc3
  try clear fd0 fd1 fd2 fd3
  have V0_21 := Vl.hide (Vo.Box.below V0_20.out bb (by first | omega | (simp; done) | (simp; omega)))
  have QS_21 := Vl.hide (QS_20.out.below bb)
  have S_21 := Vl.hide (Vo.Box.below S_20.out bb (by first | omega | (simp; done) | (simp; omega)))
  have QG_21 := Vl.hide (QG_20.out.below bb)
  have G_21 := Vl.hide (Vo.Box.below G_20.out bb (by first | omega | (simp; done) | (simp; omega)))
  obtain ⟨u0, u1, u2, u3⟩ := V0_21.out
  obtain ⟨v0, v1, v2, v3⟩ := S_21.out
  obtain ⟨z0, z1, z2, z3⟩ := G_21.out
  clear bb
  have QM_21 := Vl.hide q21
  clear q21
  have uu := fun k q => QM_21.out.blk (k := k) q
  try simp only [World.size_alloc] at uu
  have UQM := Vl.hide uu
  clear uu
  go_wp2_with fail
  refine (Vl.toIntS w.heap.size a1 r1 cap1 D1 _ (H1.out.below B21.out) B21.out.size lr1).mono ?_; rintro e W22 ⟨rfl, q22, t22, bb⟩
  have B22 := Vl.hide (B21.out.trans (Below.mono bb B21.out.size))
  have sz22 : W21.heap.size ≤ W22.heap.size := by have qz := bb.size; (try simp only [World.size_alloc] at qz); (try simp only [World.size_alloc]); exact qz
  try clear u0 u1 u2 u3
  try clear v0 v1 v2 v3
  try clear z0 z1 z2 z3
  try clear p0 p1 p2 p3
  try clear fa0 fa1 fa2 fa3
  try clear fb0 fb1 fb2 fb3
  try clear fc0 fc1 fc2 fc3
  try clear fd0 fd1 fd2 fd3
  have V0_22 := Vl.hide (Vo.Box.below V0_21.out bb (by first | omega | (simp; done) | (simp; omega)))
  have QS_22 := Vl.hide (QS_21.out.below bb)
  have S_22 := Vl.hide (Vo.Box.below S_21.out bb (by first | omega | (simp; done) | (simp; omega)))
  have QG_22 := Vl.hide (QG_21.out.below bb)
  have G_22 := Vl.hide (Vo.Box.below G_21.out bb (by first | omega | (simp; done) | (simp; omega)))
  have QM_22 := Vl.hide (QM_21.out.below bb)
  obtain ⟨u0, u1, u2, u3⟩ := V0_22.out
  obtain ⟨v0, v1, v2, v3⟩ := S_22.out
  obtain ⟨z0, z1, z2, z3⟩ := G_22.out
  clear bb
  have qq : Vl.OwnL W21.heap.size W22 (some ⟨W21.heap.size, 0, none⟩) r1 D1 := .inr ⟨_, rfl, Nat.le_refl _, by have qz := q22; (try simp only [World.size_alloc] at qz); exact qz⟩
  clear q22
  have QN_22 := Vl.hide qq
  clear qq
  have uu := fun k q => QN_22.out.blk (b := k) q
  try simp only [World.size_alloc] at uu
  have UQN := Vl.hide uu
  clear uu
  go_wp2_with fail
  refine (CI.out _ _ _ _ _ _ _ (Nat.le_refl _) QM_22.out.d.ints QM_22.out.t.ints QN_22.out.ints).mono ?_; rintro e W23 ⟨ha, hb, hc, hd, rfl, qh, bb⟩
  have B23 := Vl.hide (B22.out.trans (Below.mono bb B22.out.size))
  have sz23 : W22.heap.size ≤ W23.heap.size := by have qz := bb.size; (try simp only [World.size_alloc] at qz); (try simp only [World.size_alloc]); exact qz
  try clear u0 u1 u2 u3
  try clear v0 v1 v2 v3
  try clear z0 z1 z2 z3
  try clear p0 p1 p2 p3
  try clear fa0 fa1 fa2 fa3
  try clear fb0 fb1 fb2 fb3
  try clear fc0 fc1 fc2 fc3
  try clear fd0 fd1 fd2 fd3
  have V0_23 := Vl.hide (Vo.Box.below V0_22.out bb (by first | omega | (simp; done) | (simp; omega)))
  have QS_23 := Vl.hide (QS_22.out.below bb)
  have S_23 := Vl.hide (Vo.Box.below S_22.out bb (by first | omega | (simp; done) | (simp; omega)))
  have QG_23 := Vl.hide (QG_22.out.below bb)
  have G_23 := Vl.hide (Vo.Box.below G_22.out bb (by first | omega | (simp; done) | (simp; omega)))
  have QM_23 := Vl.hide (QM_22.out.below bb)
  have QN_23 := Vl.hide (QN_22.out.below bb)
  obtain ⟨u0, u1, u2, u3⟩ := V0_23.out
  obtain ⟨v0, v1, v2, v3⟩ := S_23.out
  obtain ⟨z0, z1, z2, z3⟩ := G_23.out
  clear bb
  have QH_23 := Vl.hide qh
  clear qh
  have uu := fun k q => QH_23.out.blk (k := k) q
  try simp only [World.size_alloc] at uu
  have UQH := Vl.hide uu
  clear uu
  have bb := (Below.refl W23.heap.size W23).alloc (Nat.le_refl _) (.cells #[.slice ha T.r hc, .slice hb T.s hd, .int .i64 T.o, .int .i64 T.n] 26)
  have H_24 := Vl.hide (Vo.box_new W23 (.slice ha T.r hc) (.slice hb T.s hd) (.int .i64 T.o) (.int .i64 T.n) 26)
  have B24 := Vl.hide (B23.out.trans (Below.mono bb B23.out.size))
  have sz24 : W23.heap.size ≤ (W23.alloc (.cells #[.slice ha T.r hc, .slice hb T.s hd, .int .i64 T.o, .int .i64 T.n] 26)).heap.size := by have qz := bb.size; (try simp only [World.size_alloc] at qz); (try simp only [World.size_alloc]); exact qz
  simp only [World.size_alloc] at sz24
  try clear u0 u1 u2 u3
  try clear v0 v1 v2 v3
  try clear z0 z1 z2 z3
  try clear p0 p1 p2 p3
  try clear fa0 fa1 fa2 fa3
  try clear fb0 fb1 fb2 fb3
  try clear fc0 fc1 fc2 fc3
  try clear fd0 fd1 fd2 fd3
  have V0_24 := Vl.hide (Vo.Box.below V0_23.out bb (by first | omega | (simp; done) | (simp; omega)))
  have QS_24 := Vl.hide (QS_23.out.below bb)
  have S_24 := Vl.hide (Vo.Box.below S_23.out bb (by first | omega | (simp; done) | (simp; omega)))
  have QG_24 := Vl.hide (QG_23.out.below bb)
  have G_24 := Vl.hide (Vo.Box.below G_23.out bb (by first | omega | (simp; done) | (simp; omega)))
  have QM_24 := Vl.hide (QM_23.out.below bb)
  have QN_24 := Vl.hide (QN_23.out.below bb)
  have QH_24 := Vl.hide (QH_23.out.below bb)
  obtain ⟨u0, u1, u2, u3⟩ := V0_24.out
  obtain ⟨v0, v1, v2, v3⟩ := S_24.out
  obtain ⟨z0, z1, z2, z3⟩ := G_24.out
  clear bb
  obtain ⟨p0, p1, p2, p3⟩ := H_24.out
  go_wp2_with fail
  refine (Vo.eqView _ _ _ _ _ T.r T.s hc hd sc sd T.D T.S T.D T.S T.o T.n _ (Nat.le_refl _) QH_24.out.d.ints QH_24.out.t.ints QS_24.out.d.ints QS_24.out.t.ints (fun _ _ => rfl) (fun _ _ => rfl) lv lw).mono ?_; rintro e W25 ⟨rfl, bb⟩
  have B25 := Vl.hide (B24.out.trans (Below.mono bb B24.out.size))
  have sz25 : (W23.heap.size + 1) ≤ W25.heap.size := by have qz := bb.size; (try simp only [World.size_alloc] at qz); (try simp only [World.size_alloc]); exact qz
  try clear u0 u1 u2 u3
  try clear v0 v1 v2 v3
  try clear z0 z1 z2 z3
  try clear p0 p1 p2 p3
  try clear fa0 fa1 fa2 fa3
  try clear fb0 fb1 fb2 fb3
  try clear fc0 fc1 fc2 fc3
  try clear fd0 fd1 fd2 fd3
  have V0_25 := Vl.hide (Vo.Box.below V0_24.out bb (by first | omega | (simp; done) | (simp; omega)))
  have QS_25 := Vl.hide (QS_24.out.below bb)
  have S_25 := Vl.hide (Vo.Box.below S_24.out bb (by first | omega | (simp; done) | (simp; omega)))
  have QG_25 := Vl.hide (QG_24.out.below bb)
  have G_25 := Vl.hide (Vo.Box.below G_24.out bb (by first | omega | (simp; done) | (simp; omega)))
  have QH_25 := Vl.hide (QH_24.out.below bb)
  have H_25 := Vl.hide (Vo.Box.below H_24.out bb (by first | omega | (simp; done) | (simp; omega)))
  obtain ⟨u0, u1, u2, u3⟩ := V0_25.out
  obtain ⟨v0, v1, v2, v3⟩ := S_25.out
  obtain ⟨z0, z1, z2, z3⟩ := G_25.out
  obtain ⟨p0, p1, p2, p3⟩ := H_25.out
  clear bb
  go_wp2_with fail
  refine (Vo.heldView _ _ _ T.r T.s gc gd T.o T.n 1 _ QG_25.out lv lw (by omega) (by omega)).mono ?_; rintro e W26 ⟨rfl, bb⟩
  have B26 := Vl.hide (B25.out.trans (Below.mono bb B25.out.size))
  have sz26 : W25.heap.size ≤ W26.heap.size := by have qz := bb.size; (try simp only [World.size_alloc] at qz); (try simp only [World.size_alloc]); exact qz
  try clear u0 u1 u2 u3
  try clear v0 v1 v2 v3
  try clear z0 z1 z2 z3
  try clear p0 p1 p2 p3
  try clear fa0 fa1 fa2 fa3
  try clear fb0 fb1 fb2 fb3
  try clear fc0 fc1 fc2 fc3
  try clear fd0 fd1 fd2 fd3
  have V0_26 := Vl.hide (Vo.Box.below V0_25.out bb (by first | omega | (simp; done) | (simp; omega)))
  have QS_26 := Vl.hide (QS_25.out.below bb)
  have S_26 := Vl.hide (Vo.Box.below S_25.out bb (by first | omega | (simp; done) | (simp; omega)))
  have QG_26 := Vl.hide (QG_25.out.below bb)
  have G_26 := Vl.hide (Vo.Box.below G_25.out bb (by first | omega | (simp; done) | (simp; omega)))
  have QH_26 := Vl.hide (QH_25.out.below bb)
  have H_26 := Vl.hide (Vo.Box.below H_25.out bb (by first | omega | (simp; done) | (simp; omega)))
  obtain ⟨u0, u1, u2, u3⟩ := V0_26.out
  obtain ⟨v0, v1, v2, v3⟩ := S_26.out
  obtain ⟨z0, z1, z2, z3⟩ := G_26.out
  obtain ⟨p0, p1, p2, p3⟩ := H_26.out
  clear bb
  go_wp2_with fail
  go_ret
  exact ⟨rfl, B26.out⟩

set_option maxRecDepth 100000 in
theorem lifted (os : Os) (started : os.Started) (H : Type) (enc : TypeId × Value → H) :
    ReturnsInHanded {} Try.checked os 3 .any (Rows.fnExactReshapeSpec.pre6 enc Try.prog Try.f3 Rows.fnExactReshapeRow.domain false) (Rows.fnExactReshapeSpec.post enc Try.prog Try.f3 false true false false) := by
  refine returnsInHanded_of_change (C := Try.checked) own started (by kernel_rfl) Try.func3
    (ChangeSpec.witness6 (enc := enc) (C := Try.checked) false ⟨#[], #[.agg #[.slice none 0 0, .slice none 0 0, .int .i64 0, .int .i64 0], .slice none 0 0], []⟩ 8 (by kernel_rfl) (by kernel_rfl) (by kernel_rfl) (by kernel_rfl)) ?_
  intro W base args ds gs before hval0 hW hcnd _
  have hval : ∀ (j : Nat) t v, Try.f3.params[j]? = some t → args[j]? = some v → Value.okWide Try.prog W .any base t v := hval0
  have hW' := hW
  obtain ⟨p, q, hA0, hV, rfl, hfz, hnd⟩ := hW
  have hA : DataW.TrodAll enc Try.prog W 0 (fun _ => true) true Try.f3.params.toList args.toList ds p := hA0
  rw [Try.params3] at hA hval
  obtain ⟨v0, vs0, d0, ds0, p0, q0, hargs, rfl, rfl, h0, rst0⟩ := trodAll_cons hA
  obtain ⟨v1, vs1, d1, ds1, p1, q1, rfl, rfl, rfl, h1, rst1⟩ := trodAll_cons rst0
  obtain ⟨rfl, rfl, rfl⟩ := trodAll_nil rst1
  obtain rfl : args = #[v0, v1] := by cases args; simp_all
  obtain ⟨rfl, rfl⟩ := trodVars_none hV
  have k0 := h0
  have lt0 : ∀ x ∈ p0, x.block < W.heap.size := by obtain ⟨m, hm⟩ := k0; exact DataW.trod_lt m _ _ _ hm
  obtain ⟨c00, c01, c02, c03, u00, u01, u02, u03, m0, rfl, _, _, hy00, hy01, hy02, hy03⟩ := open_agg4 Try.underlying24 (by kernel_rfl) (by kernel_rfl) (hval 0 24 v0 rfl rfl) h0
  obtain ⟨a0, r0, cap0, rfl, w0⟩ := Vl.arg_of hy00
  obtain ⟨b0, s0, dap0, rfl, y0⟩ := Vl.arg_of hy01
  obtain ⟨o0, e02, _, wo0⟩ := DataW.trod_int Try.underlying3 hy02
  obtain ⟨n0, e03, _, wn0⟩ := DataW.trod_int Try.underlying3 hy03
  simp at e02 e03
  subst e02 e03
  have k1 := h1
  have lt1 : ∀ x ∈ p1, x.block < W.heap.size := by obtain ⟨m, hm⟩ := k1; exact DataW.trod_lt m _ _ _ hm
  obtain ⟨a1, r1, cap1, rfl⟩ := okWide_slice Try.underlying22 (hval 1 22 v1 rfl rfl)
  have w1 : Vl.Arg W a1 r1 := Vl.arg_at h1
  clear hA0 hval0
  refine (walk a0 r0 cap0 b0 s0 dap0 o0 n0 wo0 wn0 a1 r1 cap1 W w0 y0 w1).mono fun e W' ⟨he, bel⟩ => ?_
  subst he
  exact ⟨_, rfl, _, _, _, [], _, [], hW', trodAll_mk1 (shut_bool Try.underlying4 _), (trodAll_cons_mk (Below.trod laidOut (by kernel_rfl) (of_decide_eq_true (by kernel_rfl)) k0 bel lt0) (trodAll_cons_mk (Below.trod laidOut (by kernel_rfl) (of_decide_eq_true (by kernel_rfl)) k1 bel lt1) trodAll_mk0)), rfl, bel.frame _, fun h => by cases h⟩

theorem over : Rows.fnExactReshapeRow.holds Try.pinned (OpenSpec.ofChange Rows.fnExactReshapeSpec) :=
  OpenClaim.holds_of_wide 3 Try.f3 rfl rfl rfl rfl rfl rfl rfl ⟨rfl, rfl, rfl, rfl, rfl⟩ rfl rfl rfl rfl rfl (by kernel_rfl) Try.func3 (by kernel_rfl)
    (of_decide_eq_true (by kernel_rfl)) (by unfold Func.isWrapper; first | (rw [if_pos (by decide +kernel)]; kernel_rfl) | (rw [if_neg (by decide +kernel)]; exact ⟨rfl, rfl⟩))
    (fun os started H enc _ => lifted os started H enc)

theorem proved : Rows.FnExactReshapeSaid := over
#print axioms proved
end Go.Proofs.Ytejfodkobfdelaa.fnExactReshape
