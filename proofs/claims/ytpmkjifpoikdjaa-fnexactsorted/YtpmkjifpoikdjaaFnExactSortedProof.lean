/-
  Proved: whatever the arguments, 'FnExactSorted' returns true: the landed function answers as its model, and what came in reads as it did. No condition.
-/
import Derived.Test.YtpmkjifpoikdjaaRows
import Derived.Test.YtpmkjifpoikdjaaVl
import Derived.Test.YtpmkjifpoikdjaaVp
import Derived.Test.YtpmkjifpoikdjaaVs
import Derived.Test.YtpmkjifpoikdjaaVq
import Derived.Test.YtpmkjifpoikdjaaVo
import Derived.Test.YtpmkjifpoikdjaaVm
import Derived.Test.YtpmkjifpoikdjaaVn
import Derived.Test.YtpmkjifpoikdjaaVt
import Derived.Test.YtpmkjifpoikdjaaVv
import Derived.Test.YtpmkjifpoikdjaaVc
import Derived.Test.YtpmkjifpoikdjaaVr
import Derived.Test.YtpmkjifpoikdjaaVw
import Derived.Test.YtpmkjifpoikdjaaVx
import Derived.Test.YtpmkjifpoikdjaaVy
import Derived.Test.YtpmkjifpoikdjaaVz
import Derived.Test.YtpmkjifpoikdjaaVac
import Derived.Test.YtpmkjifpoikdjaaVaf
import Derived.Test.YtpmkjifpoikdjaaVag
import Derived.Test.YtpmkjifpoikdjaaLn
import Derived.Test.YtpmkjifpoikdjaaTa
import Derived.Test.YtpmkjifpoikdjaaTb
import Derived.Test.YtpmkjifpoikdjaaNum
import Derived.Test.YtpmkjifpoikdjaaBase
import Derived.Test.YtpmkjifpoikdjaaTc
import Derived.Test.YtpmkjifpoikdjaaTf
import Derived.Test.YtpmkjifpoikdjaaTg
import Derived.Test.YtpmkjifpoikdjaaTh
import Derived.Test.YtpmkjifpoikdjaaTi
import Derived.Test.YtpmkjifpoikdjaaPow
import Derived.Test.YtpmkjifpoikdjaaSo
import Derived.Test.YtpmkjifpoikdjaaSp
import Derived.Test.YtpmkjifpoikdjaaSq
import Derived.Test.YtpmkjifpoikdjaaSr
import Derived.Test.YtpmkjifpoikdjaaSs
import Derived.Test.YtpmkjifpoikdjaaSt
import Derived.Test.YtpmkjifpoikdjaaSu
import Derived.Test.YtpmkjifpoikdjaaSv
import Derived.Test.YtpmkjifpoikdjaaSw
import Derived.Test.YtpmkjifpoikdjaaSx
import Derived.Test.YtpmkjifpoikdjaaSy
import Derived.Test.YtpmkjifpoikdjaaSz
import Derived.Test.YtpmkjifpoikdjaaGa
import Derived.Test.YtpmkjifpoikdjaaGb
import Derived.Test.YtpmkjifpoikdjaaGc
import Derived.Test.YtpmkjifpoikdjaaTk
import Derived.Test.YtpmkjifpoikdjaaTx
import Derived.Test.YtpmkjifpoikdjaaTy
import Derived.Test.YtpmkjifpoikdjaaQt
import Derived.Test.YtpmkjifpoikdjaaGd
import Derived.Test.YtpmkjifpoikdjaaGe
import Derived.WalkKit
import Derived.ProofKit
import Derived.OpenShut
import Derived.ShutString
import Derived.ChangeOld
import Derived.Below
import Derived.Lib.SmallJoins
import Derived.OpenVars
import Derived.ChangeVars
import Derived.Deep.RegionHeld3
namespace Go.Proofs.Ytpmkjifpoikdjaa.fnExactSorted
open Go.ChangeShapes Go.WideShapes Go.ChangeAt Go.RowKit Go.Joins
open Go.ChangeMaps (open_string shut_string)
set_option linter.unusedVariables false
set_option linter.unusedSimpArgs false

theorem own : ownKnob Try.prog.godebug = none := by kernel_rfl
theorem laidOut : laidOutB Try.prog = true := by kernel_rfl

set_option maxRecDepth 100000 in
set_option maxHeartbeats 4000000 in
theorem walk (a0 : Option Addr) (r0 cap0 : Nat) (b0 : Option Addr) (s0 dap0 : Nat) (a1 : Int) (w1 : (Lit.int .i64 a1).wf = true) (w : World) (w0 : Vl.Arg w a0 r0) (y0 : Vl.Arg w b0 s0) :
    Calls Try.prog 4 #[.agg #[.slice a0 r0 cap0, .slice b0 s0 dap0], .int .i64 a1] w fun e w' => e = .returned (.bool true) ∧ Below w.heap.size w w' := by
  obtain ⟨hr0, D0, hh0⟩ := w0
  obtain ⟨hs0, S0, hk0⟩ := y0
  have H0 := Vl.hide hh0
  have K0 := Vl.hide hk0
  clear hh0 hk0
  have B0 := Vl.hide (Below.refl w.heap.size w)
  have bb := (Below.refl w.heap.size w).alloc (Nat.le_refl _) (.cells #[.slice a0 r0 cap0, .slice b0 s0 dap0] 35)
  have V0_1 := Vl.hide (Vo.bx_new w (.slice a0 r0 cap0) (.slice b0 s0 dap0) 35)
  have B1 := Vl.hide (B0.out.trans (Below.mono bb B0.out.size))
  have sz1 : w.heap.size ≤ (w.alloc (.cells #[.slice a0 r0 cap0, .slice b0 s0 dap0] 35)).heap.size := by have qz := bb.size; (try simp only [World.size_alloc] at qz); (try simp only [World.size_alloc]); exact qz
  simp only [World.size_alloc] at sz1
  try clear u0 u1 u2 u3
  try clear u0 u1
  try clear v0 v1 v2 v3
  try clear v0 v1
  try clear z0 z1 z2 z3
  try clear z0 z1
  try clear p0 p1 p2 p3
  try clear p0 p1
  try clear fa0 fa1 fa2 fa3
  try clear fa0 fa1
  try clear fb0 fb1 fb2 fb3
  try clear fb0 fb1
  try clear fc0 fc1 fc2 fc3
  try clear fc0 fc1
  try clear fd0 fd1 fd2 fd3
  try clear fd0 fd1
  clear bb
  obtain ⟨u0, u1⟩ := V0_1.out
  go_enter Try.func4, Try.ntmps4
  go_wp2_with fail
  refine (Vo.szTensor a0 b0 r0 s0 cap0 dap0 1048576 _ (by omega) (by omega) hr0 hs0).mono ?_; rintro e W2 ⟨x0, rfl, hx0, bb⟩
  have B2 := Vl.hide (B1.out.trans (Below.mono bb B1.out.size))
  have sz2 : (w.heap.size + 1) ≤ W2.heap.size := by have qz := bb.size; (try simp only [World.size_alloc] at qz); (try simp only [World.size_alloc]); exact qz
  try clear u0 u1 u2 u3
  try clear u0 u1
  try clear v0 v1 v2 v3
  try clear v0 v1
  try clear z0 z1 z2 z3
  try clear z0 z1
  try clear p0 p1 p2 p3
  try clear p0 p1
  try clear fa0 fa1 fa2 fa3
  try clear fa0 fa1
  try clear fb0 fb1 fb2 fb3
  try clear fb0 fb1
  try clear fc0 fc1 fc2 fc3
  try clear fc0 fc1
  try clear fd0 fd1 fd2 fd3
  try clear fd0 fd1
  have V0_2 := Vl.hide (Vo.Bx.below V0_1.out bb (by first | omega | (simp; done) | (simp; omega)))
  obtain ⟨u0, u1⟩ := V0_2.out
  clear bb
  by_cases hn0 : x0 < 0
  · clear hx0
    go_wp2_with fail
    go_ret
    exact ⟨rfl, B2.out⟩
  have hm0 : decide (x0 < 0) = false := by rw [decide_eq_false_iff_not]; exact hn0
  obtain ⟨lx0, lr0, ls0⟩ := hx0 (by omega)
  have lz0 : 0 ≤ x0 := by omega
  clear hn0 hx0 hr0 hs0
  have d1 : Vl.bd a1 := bounds_i64 w1
  have CS := Vl.hide (fun (B : Nat) (a b : Addr) (w : World) hB h h' => Vo.specSorted B a (some b) r0 s0 r0 s0 D0 S0 a1 w hB h h' lr0 ls0)
  have CI := Vl.hide (fun (B : Nat) (a b : Addr) (w : World) hB h h' => Vo.sortedF B (some a) (some b) r0 s0 r0 s0 D0 S0 a1 w hB h h' lr0 ls0 (Nat.le_refl _))
  have lv : (((Vo.lineP r0 s0 D0 S0 a1 (Vo.lenA r0 s0 D0 S0 a1) (Vo.nuG (Vo.lenA r0 s0 D0 S0 a1).toNat)).r : Nat) : Int) ≤ 1048576 := by have := (Vo.lineP_six r0 s0 D0 S0 a1 (Vo.lenA r0 s0 D0 S0 a1) (Vo.nuG (Vo.lenA r0 s0 D0 S0 a1).toNat)).1; omega
  have lw : (((Vo.lineP r0 s0 D0 S0 a1 (Vo.lenA r0 s0 D0 S0 a1) (Vo.nuG (Vo.lenA r0 s0 D0 S0 a1).toNat)).s : Nat) : Int) ≤ 1048576 := by have := (Vo.lineP_six r0 s0 D0 S0 a1 (Vo.lenA r0 s0 D0 S0 a1) (Vo.nuG (Vo.lenA r0 s0 D0 S0 a1).toNat)).2; omega
  have lu : (1 : Int) + (((Vo.lineP r0 s0 D0 S0 a1 (Vo.lenA r0 s0 D0 S0 a1) (Vo.nuG (Vo.lenA r0 s0 D0 S0 a1).toNat)).r : Nat) : Int) + (((Vo.lineP r0 s0 D0 S0 a1 (Vo.lenA r0 s0 D0 S0 a1) (Vo.nuG (Vo.lenA r0 s0 D0 S0 a1).toNat)).s : Nat) : Int) ≤ 1048576 := by have := (Vo.lineP_six r0 s0 D0 S0 a1 (Vo.lenA r0 s0 D0 S0 a1) (Vo.nuG (Vo.lenA r0 s0 D0 S0 a1).toNat)).1; have := (Vo.lineP_six r0 s0 D0 S0 a1 (Vo.lenA r0 s0 D0 S0 a1) (Vo.nuG (Vo.lenA r0 s0 D0 S0 a1).toNat)).2; omega
  obtain ⟨T, hT⟩ : ∃ T, (Vo.lineP r0 s0 D0 S0 a1 (Vo.lenA r0 s0 D0 S0 a1) (Vo.nuG (Vo.lenA r0 s0 D0 S0 a1).toNat)) = T := ⟨_, rfl⟩
  rw [hT] at lv lw lu CS CI
  clear hT
  have lv2 : (((Vo.lineP r0 s0 D0 S0 a1 (Vo.lenA r0 s0 D0 S0 a1) (Vo.plG (Vo.lenA r0 s0 D0 S0 a1).toNat)).r : Nat) : Int) ≤ 1048576 := by have := (Vo.lineP_six r0 s0 D0 S0 a1 (Vo.lenA r0 s0 D0 S0 a1) (Vo.plG (Vo.lenA r0 s0 D0 S0 a1).toNat)).1; omega
  have lw2 : (((Vo.lineP r0 s0 D0 S0 a1 (Vo.lenA r0 s0 D0 S0 a1) (Vo.plG (Vo.lenA r0 s0 D0 S0 a1).toNat)).s : Nat) : Int) ≤ 1048576 := by have := (Vo.lineP_six r0 s0 D0 S0 a1 (Vo.lenA r0 s0 D0 S0 a1) (Vo.plG (Vo.lenA r0 s0 D0 S0 a1).toNat)).2; omega
  have lu2 : (1 : Int) + (((Vo.lineP r0 s0 D0 S0 a1 (Vo.lenA r0 s0 D0 S0 a1) (Vo.plG (Vo.lenA r0 s0 D0 S0 a1).toNat)).r : Nat) : Int) + (((Vo.lineP r0 s0 D0 S0 a1 (Vo.lenA r0 s0 D0 S0 a1) (Vo.plG (Vo.lenA r0 s0 D0 S0 a1).toNat)).s : Nat) : Int) ≤ 1048576 := by have := (Vo.lineP_six r0 s0 D0 S0 a1 (Vo.lenA r0 s0 D0 S0 a1) (Vo.plG (Vo.lenA r0 s0 D0 S0 a1).toNat)).1; have := (Vo.lineP_six r0 s0 D0 S0 a1 (Vo.lenA r0 s0 D0 S0 a1) (Vo.plG (Vo.lenA r0 s0 D0 S0 a1).toNat)).2; omega
  obtain ⟨T2, hT⟩ : ∃ T, (Vo.lineP r0 s0 D0 S0 a1 (Vo.lenA r0 s0 D0 S0 a1) (Vo.plG (Vo.lenA r0 s0 D0 S0 a1).toNat)) = T := ⟨_, rfl⟩
  rw [hT] at lv2 lw2 lu2 CS CI
  clear hT
  go_wp2_with fail
  refine (Vo.toTensor w.heap.size a0 b0 r0 s0 cap0 dap0 D0 S0 _ (H0.out.below B2.out) (K0.out.below B2.out) B2.out.size lr0 ls0).mono ?_; rintro e W3 ⟨ga, ga', rfl, q3, bb⟩
  have B3 := Vl.hide (B2.out.trans (Below.mono bb B2.out.size))
  have sz3 : W2.heap.size ≤ W3.heap.size := by have qz := bb.size; (try simp only [World.size_alloc] at qz); (try simp only [World.size_alloc]); exact qz
  try clear u0 u1 u2 u3
  try clear u0 u1
  try clear v0 v1 v2 v3
  try clear v0 v1
  try clear z0 z1 z2 z3
  try clear z0 z1
  try clear p0 p1 p2 p3
  try clear p0 p1
  try clear fa0 fa1 fa2 fa3
  try clear fa0 fa1
  try clear fb0 fb1 fb2 fb3
  try clear fb0 fb1
  try clear fc0 fc1 fc2 fc3
  try clear fc0 fc1
  try clear fd0 fd1 fd2 fd3
  try clear fd0 fd1
  have V0_3 := Vl.hide (Vo.Bx.below V0_2.out bb (by first | omega | (simp; done) | (simp; omega)))
  obtain ⟨u0, u1⟩ := V0_3.out
  clear bb
  have QA_3 := Vl.hide q3
  clear q3
  have uu := fun k q => QA_3.out.blk (k := k) q
  try simp only [World.size_alloc] at uu
  have UQA := Vl.hide uu
  clear uu
  go_wp2_with fail
  refine (CS.out _ _ _ _ (Nat.le_refl _) QA_3.out.d.ints QA_3.out.t.ints).mono ?_; rintro e W4 ⟨sa, sb, sc, sd, sa2, sb2, sc2, sd2, rfl, qs, qs2, aps, bb⟩
  have B4 := Vl.hide (B3.out.trans (Below.mono bb B3.out.size))
  have sz4 : W3.heap.size ≤ W4.heap.size := by have qz := bb.size; (try simp only [World.size_alloc] at qz); (try simp only [World.size_alloc]); exact qz
  try clear u0 u1 u2 u3
  try clear u0 u1
  try clear v0 v1 v2 v3
  try clear v0 v1
  try clear z0 z1 z2 z3
  try clear z0 z1
  try clear p0 p1 p2 p3
  try clear p0 p1
  try clear fa0 fa1 fa2 fa3
  try clear fa0 fa1
  try clear fb0 fb1 fb2 fb3
  try clear fb0 fb1
  try clear fc0 fc1 fc2 fc3
  try clear fc0 fc1
  try clear fd0 fd1 fd2 fd3
  try clear fd0 fd1
  have V0_4 := Vl.hide (Vo.Bx.below V0_3.out bb (by first | omega | (simp; done) | (simp; omega)))
  have QA_4 := Vl.hide (QA_3.out.below bb)
  obtain ⟨u0, u1⟩ := V0_4.out
  clear bb
  have APs := Vl.hide aps
  clear aps
  have QS_4 := Vl.hide qs
  clear qs
  have uu := fun k q => QS_4.out.blk (k := k) q
  try simp only [World.size_alloc] at uu
  have UQS := Vl.hide uu
  clear uu
  have QS2_4 := Vl.hide qs2
  clear qs2
  have uu := fun k q => QS2_4.out.blk (k := k) q
  try simp only [World.size_alloc] at uu
  have UQS2 := Vl.hide uu
  clear uu
  have bb := (Below.refl W4.heap.size W4).alloc (Nat.le_refl _) (.cells #[.slice sa T.r sc, .slice sb T.s sd] 37)
  have S_5 := Vl.hide (Vo.bx_new W4 (.slice sa T.r sc) (.slice sb T.s sd) 37)
  have B5 := Vl.hide (B4.out.trans (Below.mono bb B4.out.size))
  have sz5 : W4.heap.size ≤ (W4.alloc (.cells #[.slice sa T.r sc, .slice sb T.s sd] 37)).heap.size := by have qz := bb.size; (try simp only [World.size_alloc] at qz); (try simp only [World.size_alloc]); exact qz
  simp only [World.size_alloc] at sz5
  try clear u0 u1 u2 u3
  try clear u0 u1
  try clear v0 v1 v2 v3
  try clear v0 v1
  try clear z0 z1 z2 z3
  try clear z0 z1
  try clear p0 p1 p2 p3
  try clear p0 p1
  try clear fa0 fa1 fa2 fa3
  try clear fa0 fa1
  try clear fb0 fb1 fb2 fb3
  try clear fb0 fb1
  try clear fc0 fc1 fc2 fc3
  try clear fc0 fc1
  try clear fd0 fd1 fd2 fd3
  try clear fd0 fd1
  have V0_5 := Vl.hide (Vo.Bx.below V0_4.out bb (by first | omega | (simp; done) | (simp; omega)))
  have QA_5 := Vl.hide (QA_4.out.below bb)
  have QS_5 := Vl.hide (QS_4.out.below bb)
  have QS2_5 := Vl.hide (QS2_4.out.below bb)
  obtain ⟨u0, u1⟩ := V0_5.out
  clear bb
  obtain ⟨v0, v1⟩ := S_5.out
  have bb := (Below.refl (W4.alloc (.cells #[.slice sa T.r sc, .slice sb T.s sd] 37)).heap.size (W4.alloc (.cells #[.slice sa T.r sc, .slice sb T.s sd] 37))).alloc (Nat.le_refl _) (.cells #[.slice sa2 T2.r sc2, .slice sb2 T2.s sd2] 37)
  have S2_6 := Vl.hide (Vo.bx_new (W4.alloc (.cells #[.slice sa T.r sc, .slice sb T.s sd] 37)) (.slice sa2 T2.r sc2) (.slice sb2 T2.s sd2) 37)
  simp only [World.size_alloc] at S2_6
  have B6 := Vl.hide (B5.out.trans (Below.mono bb B5.out.size))
  have sz6 : (W4.heap.size + 1) ≤ ((W4.alloc (.cells #[.slice sa T.r sc, .slice sb T.s sd] 37)).alloc (.cells #[.slice sa2 T2.r sc2, .slice sb2 T2.s sd2] 37)).heap.size := by have qz := bb.size; (try simp only [World.size_alloc] at qz); (try simp only [World.size_alloc]); exact qz
  simp only [World.size_alloc] at sz6
  try clear u0 u1 u2 u3
  try clear u0 u1
  try clear v0 v1 v2 v3
  try clear v0 v1
  try clear z0 z1 z2 z3
  try clear z0 z1
  try clear p0 p1 p2 p3
  try clear p0 p1
  try clear fa0 fa1 fa2 fa3
  try clear fa0 fa1
  try clear fb0 fb1 fb2 fb3
  try clear fb0 fb1
  try clear fc0 fc1 fc2 fc3
  try clear fc0 fc1
  try clear fd0 fd1 fd2 fd3
  try clear fd0 fd1
  have V0_6 := Vl.hide (Vo.Bx.below V0_5.out bb (by first | omega | (simp; done) | (simp; omega)))
  have QA_6 := Vl.hide (QA_5.out.below bb)
  have QS_6 := Vl.hide (QS_5.out.below bb)
  have QS2_6 := Vl.hide (QS2_5.out.below bb)
  have S_6 := Vl.hide (Vo.Bx.below S_5.out bb (by first | omega | (simp; done) | (simp; omega)))
  obtain ⟨u0, u1⟩ := V0_6.out
  obtain ⟨v0, v1⟩ := S_6.out
  clear bb
  obtain ⟨z0, z1⟩ := S2_6.out
  go_wp2_with fail
  refine (Vo.toTensor w.heap.size a0 b0 r0 s0 cap0 dap0 D0 S0 _ (H0.out.below B6.out) (K0.out.below B6.out) B6.out.size lr0 ls0).mono ?_; rintro e W7 ⟨gx, gx', rfl, q7, bb⟩
  have B7 := Vl.hide (B6.out.trans (Below.mono bb B6.out.size))
  have sz7 : ((W4.heap.size + 1) + 1) ≤ W7.heap.size := by have qz := bb.size; (try simp only [World.size_alloc] at qz); (try simp only [World.size_alloc]); exact qz
  try clear u0 u1 u2 u3
  try clear u0 u1
  try clear v0 v1 v2 v3
  try clear v0 v1
  try clear z0 z1 z2 z3
  try clear z0 z1
  try clear p0 p1 p2 p3
  try clear p0 p1
  try clear fa0 fa1 fa2 fa3
  try clear fa0 fa1
  try clear fb0 fb1 fb2 fb3
  try clear fb0 fb1
  try clear fc0 fc1 fc2 fc3
  try clear fc0 fc1
  try clear fd0 fd1 fd2 fd3
  try clear fd0 fd1
  have V0_7 := Vl.hide (Vo.Bx.below V0_6.out bb (by first | omega | (simp; done) | (simp; omega)))
  have QS_7 := Vl.hide (QS_6.out.below bb)
  have QS2_7 := Vl.hide (QS2_6.out.below bb)
  have S_7 := Vl.hide (Vo.Bx.below S_6.out bb (by first | omega | (simp; done) | (simp; omega)))
  have S2_7 := Vl.hide (Vo.Bx.below S2_6.out bb (by first | omega | (simp; done) | (simp; omega)))
  obtain ⟨u0, u1⟩ := V0_7.out
  obtain ⟨v0, v1⟩ := S_7.out
  obtain ⟨z0, z1⟩ := S2_7.out
  clear bb
  have QX_7 := Vl.hide q7
  clear q7
  have uu := fun k q => QX_7.out.blk (k := k) q
  try simp only [World.size_alloc] at uu
  have UQX := Vl.hide uu
  clear uu
  have bb := (Below.refl W7.heap.size W7).alloc (Nat.le_refl _) (.cells #[.slice (some ⟨gx, 0, none⟩) r0 r0, .slice (some ⟨gx', 0, none⟩) s0 s0] 37)
  have X_8 := Vl.hide (Vo.bx_new W7 (.slice (some ⟨gx, 0, none⟩) r0 r0) (.slice (some ⟨gx', 0, none⟩) s0 s0) 37)
  have B8 := Vl.hide (B7.out.trans (Below.mono bb B7.out.size))
  have sz8 : W7.heap.size ≤ (W7.alloc (.cells #[.slice (some ⟨gx, 0, none⟩) r0 r0, .slice (some ⟨gx', 0, none⟩) s0 s0] 37)).heap.size := by have qz := bb.size; (try simp only [World.size_alloc] at qz); (try simp only [World.size_alloc]); exact qz
  simp only [World.size_alloc] at sz8
  try clear u0 u1 u2 u3
  try clear u0 u1
  try clear v0 v1 v2 v3
  try clear v0 v1
  try clear z0 z1 z2 z3
  try clear z0 z1
  try clear p0 p1 p2 p3
  try clear p0 p1
  try clear fa0 fa1 fa2 fa3
  try clear fa0 fa1
  try clear fb0 fb1 fb2 fb3
  try clear fb0 fb1
  try clear fc0 fc1 fc2 fc3
  try clear fc0 fc1
  try clear fd0 fd1 fd2 fd3
  try clear fd0 fd1
  have V0_8 := Vl.hide (Vo.Bx.below V0_7.out bb (by first | omega | (simp; done) | (simp; omega)))
  have QS_8 := Vl.hide (QS_7.out.below bb)
  have QS2_8 := Vl.hide (QS2_7.out.below bb)
  have S_8 := Vl.hide (Vo.Bx.below S_7.out bb (by first | omega | (simp; done) | (simp; omega)))
  have S2_8 := Vl.hide (Vo.Bx.below S2_7.out bb (by first | omega | (simp; done) | (simp; omega)))
  have QX_8 := Vl.hide (QX_7.out.below bb)
  obtain ⟨u0, u1⟩ := V0_8.out
  obtain ⟨v0, v1⟩ := S_8.out
  obtain ⟨z0, z1⟩ := S2_8.out
  clear bb
  obtain ⟨p0, p1⟩ := X_8.out
  go_wp2_with fail
  refine (CI.out _ _ _ _ (Nat.le_refl _) QX_8.out.d.ints QX_8.out.t.ints).mono ?_; rintro e W9 ⟨ga, gb, gc, gd, ga2, gb2, gc2, gd2, rfl, qg, qg2, apg, bb⟩
  have B9 := Vl.hide (B8.out.trans (Below.mono bb B8.out.size))
  have sz9 : (W7.heap.size + 1) ≤ W9.heap.size := by have qz := bb.size; (try simp only [World.size_alloc] at qz); (try simp only [World.size_alloc]); exact qz
  try clear u0 u1 u2 u3
  try clear u0 u1
  try clear v0 v1 v2 v3
  try clear v0 v1
  try clear z0 z1 z2 z3
  try clear z0 z1
  try clear p0 p1 p2 p3
  try clear p0 p1
  try clear fa0 fa1 fa2 fa3
  try clear fa0 fa1
  try clear fb0 fb1 fb2 fb3
  try clear fb0 fb1
  try clear fc0 fc1 fc2 fc3
  try clear fc0 fc1
  try clear fd0 fd1 fd2 fd3
  try clear fd0 fd1
  have V0_9 := Vl.hide (Vo.Bx.below V0_8.out bb (by first | omega | (simp; done) | (simp; omega)))
  have QS_9 := Vl.hide (QS_8.out.below bb)
  have QS2_9 := Vl.hide (QS2_8.out.below bb)
  have S_9 := Vl.hide (Vo.Bx.below S_8.out bb (by first | omega | (simp; done) | (simp; omega)))
  have S2_9 := Vl.hide (Vo.Bx.below S2_8.out bb (by first | omega | (simp; done) | (simp; omega)))
  have QX_9 := Vl.hide (QX_8.out.below bb)
  have X_9 := Vl.hide (Vo.Bx.below X_8.out bb (by first | omega | (simp; done) | (simp; omega)))
  obtain ⟨u0, u1⟩ := V0_9.out
  obtain ⟨v0, v1⟩ := S_9.out
  obtain ⟨z0, z1⟩ := S2_9.out
  obtain ⟨p0, p1⟩ := X_9.out
  clear bb
  have APg := Vl.hide apg
  clear apg
  have QG_9 := Vl.hide qg
  clear qg
  have uu := fun k q => QG_9.out.blk (k := k) q
  try simp only [World.size_alloc] at uu
  have UQG := Vl.hide uu
  clear uu
  have QG2_9 := Vl.hide qg2
  clear qg2
  have uu := fun k q => QG2_9.out.blk (k := k) q
  try simp only [World.size_alloc] at uu
  have UQG2 := Vl.hide uu
  clear uu
  have bb := (Below.refl W9.heap.size W9).alloc (Nat.le_refl _) (.cells #[.slice ga T.r gc, .slice gb T.s gd] 37)
  have G_10 := Vl.hide (Vo.bx_new W9 (.slice ga T.r gc) (.slice gb T.s gd) 37)
  have B10 := Vl.hide (B9.out.trans (Below.mono bb B9.out.size))
  have sz10 : W9.heap.size ≤ (W9.alloc (.cells #[.slice ga T.r gc, .slice gb T.s gd] 37)).heap.size := by have qz := bb.size; (try simp only [World.size_alloc] at qz); (try simp only [World.size_alloc]); exact qz
  simp only [World.size_alloc] at sz10
  try clear u0 u1 u2 u3
  try clear u0 u1
  try clear v0 v1 v2 v3
  try clear v0 v1
  try clear z0 z1 z2 z3
  try clear z0 z1
  try clear p0 p1 p2 p3
  try clear p0 p1
  try clear fa0 fa1 fa2 fa3
  try clear fa0 fa1
  try clear fb0 fb1 fb2 fb3
  try clear fb0 fb1
  try clear fc0 fc1 fc2 fc3
  try clear fc0 fc1
  try clear fd0 fd1 fd2 fd3
  try clear fd0 fd1
  have V0_10 := Vl.hide (Vo.Bx.below V0_9.out bb (by first | omega | (simp; done) | (simp; omega)))
  have QS_10 := Vl.hide (QS_9.out.below bb)
  have QS2_10 := Vl.hide (QS2_9.out.below bb)
  have S_10 := Vl.hide (Vo.Bx.below S_9.out bb (by first | omega | (simp; done) | (simp; omega)))
  have S2_10 := Vl.hide (Vo.Bx.below S2_9.out bb (by first | omega | (simp; done) | (simp; omega)))
  have QX_10 := Vl.hide (QX_9.out.below bb)
  have X_10 := Vl.hide (Vo.Bx.below X_9.out bb (by first | omega | (simp; done) | (simp; omega)))
  have QG_10 := Vl.hide (QG_9.out.below bb)
  have QG2_10 := Vl.hide (QG2_9.out.below bb)
  obtain ⟨u0, u1⟩ := V0_10.out
  obtain ⟨v0, v1⟩ := S_10.out
  obtain ⟨z0, z1⟩ := S2_10.out
  obtain ⟨p0, p1⟩ := X_10.out
  clear bb
  obtain ⟨fa0, fa1⟩ := G_10.out
  have bb := (Below.refl (W9.alloc (.cells #[.slice ga T.r gc, .slice gb T.s gd] 37)).heap.size (W9.alloc (.cells #[.slice ga T.r gc, .slice gb T.s gd] 37))).alloc (Nat.le_refl _) (.cells #[.slice ga2 T2.r gc2, .slice gb2 T2.s gd2] 37)
  have G2_11 := Vl.hide (Vo.bx_new (W9.alloc (.cells #[.slice ga T.r gc, .slice gb T.s gd] 37)) (.slice ga2 T2.r gc2) (.slice gb2 T2.s gd2) 37)
  simp only [World.size_alloc] at G2_11
  have B11 := Vl.hide (B10.out.trans (Below.mono bb B10.out.size))
  have sz11 : (W9.heap.size + 1) ≤ ((W9.alloc (.cells #[.slice ga T.r gc, .slice gb T.s gd] 37)).alloc (.cells #[.slice ga2 T2.r gc2, .slice gb2 T2.s gd2] 37)).heap.size := by have qz := bb.size; (try simp only [World.size_alloc] at qz); (try simp only [World.size_alloc]); exact qz
  simp only [World.size_alloc] at sz11
  try clear u0 u1 u2 u3
  try clear u0 u1
  try clear v0 v1 v2 v3
  try clear v0 v1
  try clear z0 z1 z2 z3
  try clear z0 z1
  try clear p0 p1 p2 p3
  try clear p0 p1
  try clear fa0 fa1 fa2 fa3
  try clear fa0 fa1
  try clear fb0 fb1 fb2 fb3
  try clear fb0 fb1
  try clear fc0 fc1 fc2 fc3
  try clear fc0 fc1
  try clear fd0 fd1 fd2 fd3
  try clear fd0 fd1
  have V0_11 := Vl.hide (Vo.Bx.below V0_10.out bb (by first | omega | (simp; done) | (simp; omega)))
  have QS_11 := Vl.hide (QS_10.out.below bb)
  have QS2_11 := Vl.hide (QS2_10.out.below bb)
  have S_11 := Vl.hide (Vo.Bx.below S_10.out bb (by first | omega | (simp; done) | (simp; omega)))
  have S2_11 := Vl.hide (Vo.Bx.below S2_10.out bb (by first | omega | (simp; done) | (simp; omega)))
  have QX_11 := Vl.hide (QX_10.out.below bb)
  have X_11 := Vl.hide (Vo.Bx.below X_10.out bb (by first | omega | (simp; done) | (simp; omega)))
  have QG_11 := Vl.hide (QG_10.out.below bb)
  have QG2_11 := Vl.hide (QG2_10.out.below bb)
  have G_11 := Vl.hide (Vo.Bx.below G_10.out bb (by first | omega | (simp; done) | (simp; omega)))
  obtain ⟨u0, u1⟩ := V0_11.out
  obtain ⟨v0, v1⟩ := S_11.out
  obtain ⟨z0, z1⟩ := S2_11.out
  obtain ⟨p0, p1⟩ := X_11.out
  obtain ⟨fa0, fa1⟩ := G_11.out
  clear bb
  obtain ⟨fb0, fb1⟩ := G2_11.out
  go_wp2_with fail
  refine (Vo.eqTensor _ _ _ _ _ T.r T.s gc gd sc sd T.D T.S T.D T.S _ (Nat.le_refl _) QG_11.out.d.ints QG_11.out.t.ints QS_11.out.d.ints QS_11.out.t.ints (fun _ _ => rfl) (fun _ _ => rfl) lv lw).mono ?_; rintro e W12 ⟨rfl, bb⟩
  have B12 := Vl.hide (B11.out.trans (Below.mono bb B11.out.size))
  have sz12 : ((W9.heap.size + 1) + 1) ≤ W12.heap.size := by have qz := bb.size; (try simp only [World.size_alloc] at qz); (try simp only [World.size_alloc]); exact qz
  try clear u0 u1 u2 u3
  try clear u0 u1
  try clear v0 v1 v2 v3
  try clear v0 v1
  try clear z0 z1 z2 z3
  try clear z0 z1
  try clear p0 p1 p2 p3
  try clear p0 p1
  try clear fa0 fa1 fa2 fa3
  try clear fa0 fa1
  try clear fb0 fb1 fb2 fb3
  try clear fb0 fb1
  try clear fc0 fc1 fc2 fc3
  try clear fc0 fc1
  try clear fd0 fd1 fd2 fd3
  try clear fd0 fd1
  have V0_12 := Vl.hide (Vo.Bx.below V0_11.out bb (by first | omega | (simp; done) | (simp; omega)))
  have QS_12 := Vl.hide (QS_11.out.below bb)
  have QS2_12 := Vl.hide (QS2_11.out.below bb)
  have S_12 := Vl.hide (Vo.Bx.below S_11.out bb (by first | omega | (simp; done) | (simp; omega)))
  have S2_12 := Vl.hide (Vo.Bx.below S2_11.out bb (by first | omega | (simp; done) | (simp; omega)))
  have QX_12 := Vl.hide (QX_11.out.below bb)
  have X_12 := Vl.hide (Vo.Bx.below X_11.out bb (by first | omega | (simp; done) | (simp; omega)))
  have QG_12 := Vl.hide (QG_11.out.below bb)
  have QG2_12 := Vl.hide (QG2_11.out.below bb)
  have G_12 := Vl.hide (Vo.Bx.below G_11.out bb (by first | omega | (simp; done) | (simp; omega)))
  have G2_12 := Vl.hide (Vo.Bx.below G2_11.out bb (by first | omega | (simp; done) | (simp; omega)))
  obtain ⟨u0, u1⟩ := V0_12.out
  obtain ⟨v0, v1⟩ := S_12.out
  obtain ⟨z0, z1⟩ := S2_12.out
  obtain ⟨p0, p1⟩ := X_12.out
  obtain ⟨fa0, fa1⟩ := G_12.out
  obtain ⟨fb0, fb1⟩ := G2_12.out
  clear bb
  go_wp2_with fail
  refine (Vo.eqTensor _ _ _ _ _ T2.r T2.s gc2 gd2 sc2 sd2 T2.D T2.S T2.D T2.S _ (Nat.le_refl _) QG2_12.out.d.ints QG2_12.out.t.ints QS2_12.out.d.ints QS2_12.out.t.ints (fun _ _ => rfl) (fun _ _ => rfl) lv2 lw2).mono ?_; rintro e W13 ⟨rfl, bb⟩
  have B13 := Vl.hide (B12.out.trans (Below.mono bb B12.out.size))
  have sz13 : W12.heap.size ≤ W13.heap.size := by have qz := bb.size; (try simp only [World.size_alloc] at qz); (try simp only [World.size_alloc]); exact qz
  try clear u0 u1 u2 u3
  try clear u0 u1
  try clear v0 v1 v2 v3
  try clear v0 v1
  try clear z0 z1 z2 z3
  try clear z0 z1
  try clear p0 p1 p2 p3
  try clear p0 p1
  try clear fa0 fa1 fa2 fa3
  try clear fa0 fa1
  try clear fb0 fb1 fb2 fb3
  try clear fb0 fb1
  try clear fc0 fc1 fc2 fc3
  try clear fc0 fc1
  try clear fd0 fd1 fd2 fd3
  try clear fd0 fd1
  have V0_13 := Vl.hide (Vo.Bx.below V0_12.out bb (by first | omega | (simp; done) | (simp; omega)))
  have QS_13 := Vl.hide (QS_12.out.below bb)
  have QS2_13 := Vl.hide (QS2_12.out.below bb)
  have S_13 := Vl.hide (Vo.Bx.below S_12.out bb (by first | omega | (simp; done) | (simp; omega)))
  have S2_13 := Vl.hide (Vo.Bx.below S2_12.out bb (by first | omega | (simp; done) | (simp; omega)))
  have QX_13 := Vl.hide (QX_12.out.below bb)
  have X_13 := Vl.hide (Vo.Bx.below X_12.out bb (by first | omega | (simp; done) | (simp; omega)))
  have QG_13 := Vl.hide (QG_12.out.below bb)
  have QG2_13 := Vl.hide (QG2_12.out.below bb)
  have G_13 := Vl.hide (Vo.Bx.below G_12.out bb (by first | omega | (simp; done) | (simp; omega)))
  have G2_13 := Vl.hide (Vo.Bx.below G2_12.out bb (by first | omega | (simp; done) | (simp; omega)))
  obtain ⟨u0, u1⟩ := V0_13.out
  obtain ⟨v0, v1⟩ := S_13.out
  obtain ⟨z0, z1⟩ := S2_13.out
  obtain ⟨p0, p1⟩ := X_13.out
  obtain ⟨fa0, fa1⟩ := G_13.out
  obtain ⟨fb0, fb1⟩ := G2_13.out
  clear bb
  have HT := Vl.hide (fun (W : World) (hW : Below W13.heap.size W13 W) => Vo.toTensor w.heap.size a0 b0 r0 s0 cap0 dap0 D0 S0 W (H0.out.below (B13.out.trans (hW.mono B13.out.size))) (K0.out.below (B13.out.trans (hW.mono B13.out.size))) (Nat.le_trans B13.out.size hW.size) lr0 ls0)
  have HE := Vl.hide (fun (W : World) (hW : Below W13.heap.size W13 W) (g5 g6 : Nat) (B : Nat) (q : Vo.VOwn B W (some ⟨g5, 0, none⟩) (some ⟨g6, 0, none⟩) r0 s0 D0 S0) => Vo.eqTensor W.heap.size (some ⟨gx, 0, none⟩) (some ⟨gx', 0, none⟩) (some ⟨g5, 0, none⟩) (some ⟨g6, 0, none⟩) r0 s0 r0 s0 r0 s0 D0 S0 D0 S0 W (Nat.le_refl _) (QX_13.out.below hW).d.ints (QX_13.out.below hW).t.ints q.d.ints q.t.ints (fun _ _ => rfl) (fun _ _ => rfl) lr0 ls0)
  go_wp2_with fail
  go_region_held3 (fun w' => w'.cell? ⟨W7.heap.size, 0, none⟩ = some (.slice (some ⟨gx, 0, none⟩) r0 r0) ∧ w'.cell? ⟨W7.heap.size, 1, none⟩ = some (.slice (some ⟨gx', 0, none⟩) s0 s0) ∧ w'.cell? ⟨w.heap.size, 0, none⟩ = some (.slice a0 r0 cap0) ∧ w'.cell? ⟨w.heap.size, 1, none⟩ = some (.slice b0 s0 dap0))
    ((try dsimp only) <;> (repeat' apply And.intro) <;> (repeat (first | with_reducible assumption | with_reducible apply Vo.drew_old | (with_reducible apply Vo.below_old; (focus (with_reducible assumption))))))
    (first
      | (go_at_call 16
         refine (HT.out _ (by exact (Below.refl _ _).drew)).mono ?_
         rintro e wA ⟨g5, g6, rfl, qA, bA⟩)
      | (go_at_call 18
         refine (HE.out _ (by exact (Below.refl _ W13).drew.trans bA) g5 g6 _ qA).mono ?_
         rintro e wB14 ⟨rfl, bB⟩))
  have bb : Below W13.heap.size W13 wB14 := ((Below.refl _ W13).drew.trans bA).trans (bB.mono (Nat.le_trans (Nat.le_refl _) bA.size))
  clear bA bB qA HT HE
  have B14 := Vl.hide (B13.out.trans (Below.mono bb B13.out.size))
  have sz14 : W13.heap.size ≤ wB14.heap.size := by have qz := bb.size; (try simp only [World.size_alloc] at qz); (try simp only [World.size_alloc]); exact qz
  try clear u0 u1 u2 u3
  try clear u0 u1
  try clear v0 v1 v2 v3
  try clear v0 v1
  try clear z0 z1 z2 z3
  try clear z0 z1
  try clear p0 p1 p2 p3
  try clear p0 p1
  try clear fa0 fa1 fa2 fa3
  try clear fa0 fa1
  try clear fb0 fb1 fb2 fb3
  try clear fb0 fb1
  try clear fc0 fc1 fc2 fc3
  try clear fc0 fc1
  try clear fd0 fd1 fd2 fd3
  try clear fd0 fd1
  have V0_14 := Vl.hide (Vo.Bx.below V0_13.out bb (by first | omega | (simp; done) | (simp; omega)))
  have QS_14 := Vl.hide (QS_13.out.below bb)
  have QS2_14 := Vl.hide (QS2_13.out.below bb)
  have S_14 := Vl.hide (Vo.Bx.below S_13.out bb (by first | omega | (simp; done) | (simp; omega)))
  have S2_14 := Vl.hide (Vo.Bx.below S2_13.out bb (by first | omega | (simp; done) | (simp; omega)))
  have QX_14 := Vl.hide (QX_13.out.below bb)
  have X_14 := Vl.hide (Vo.Bx.below X_13.out bb (by first | omega | (simp; done) | (simp; omega)))
  have QG_14 := Vl.hide (QG_13.out.below bb)
  have QG2_14 := Vl.hide (QG2_13.out.below bb)
  have G_14 := Vl.hide (Vo.Bx.below G_13.out bb (by first | omega | (simp; done) | (simp; omega)))
  have G2_14 := Vl.hide (Vo.Bx.below G2_13.out bb (by first | omega | (simp; done) | (simp; omega)))
  obtain ⟨u0, u1⟩ := V0_14.out
  obtain ⟨v0, v1⟩ := S_14.out
  obtain ⟨z0, z1⟩ := S2_14.out
  obtain ⟨p0, p1⟩ := X_14.out
  obtain ⟨fa0, fa1⟩ := G_14.out
  obtain ⟨fb0, fb1⟩ := G2_14.out
  clear bb
  go_wp2_with fail
  refine (Vo.markTensor _ _ _ r0 s0 r0 s0 D0 S0 1 _ QX_14.out lr0 ls0 (by omega) (by omega)).mono ?_; rintro e W15 ⟨rfl, qs, bb⟩
  have B15 := Vl.hide (B14.out.trans (Vl.Kept.below bb B14.out.size (fun k q => by have := UQX.out _ q; omega)))
  have sz15 : wB14.heap.size ≤ W15.heap.size := by have qz := bb.size; (try simp only [World.size_alloc] at qz); (try simp only [World.size_alloc]); exact qz
  try clear u0 u1 u2 u3
  try clear u0 u1
  try clear v0 v1 v2 v3
  try clear v0 v1
  try clear z0 z1 z2 z3
  try clear z0 z1
  try clear p0 p1 p2 p3
  try clear p0 p1
  try clear fa0 fa1 fa2 fa3
  try clear fa0 fa1
  try clear fb0 fb1 fb2 fb3
  try clear fb0 fb1
  try clear fc0 fc1 fc2 fc3
  try clear fc0 fc1
  try clear fd0 fd1 fd2 fd3
  try clear fd0 fd1
  have V0_15 := Vl.hide (Vo.Bx.kept V0_14.out bb (by omega) (fun q => by have := UQX.out _ q; omega))
  have QS_15 := Vl.hide (QS_14.out.kept bb (fun k q q' => by have := UQS.out _ q; have := UQX.out _ q'; omega))
  have QS2_15 := Vl.hide (QS2_14.out.kept bb (fun k q q' => by have := UQS2.out _ q; have := UQX.out _ q'; omega))
  have S_15 := Vl.hide (Vo.Bx.kept S_14.out bb (by omega) (fun q => by have := UQX.out _ q; omega))
  have S2_15 := Vl.hide (Vo.Bx.kept S2_14.out bb (by omega) (fun q => by have := UQX.out _ q; omega))
  have QX_15 := Vl.hide qs
  have X_15 := Vl.hide (Vo.Bx.kept X_14.out bb (by omega) (fun q => by have := UQX.out _ q; omega))
  have QG_15 := Vl.hide (QG_14.out.kept bb (fun k q q' => by have := UQG.out _ q; have := UQX.out _ q'; omega))
  have QG2_15 := Vl.hide (QG2_14.out.kept bb (fun k q q' => by have := UQG2.out _ q; have := UQX.out _ q'; omega))
  have G_15 := Vl.hide (Vo.Bx.kept G_14.out bb (by omega) (fun q => by have := UQX.out _ q; omega))
  have G2_15 := Vl.hide (Vo.Bx.kept G2_14.out bb (by omega) (fun q => by have := UQX.out _ q; omega))
  obtain ⟨u0, u1⟩ := V0_15.out
  obtain ⟨v0, v1⟩ := S_15.out
  obtain ⟨z0, z1⟩ := S2_15.out
  obtain ⟨p0, p1⟩ := X_15.out
  obtain ⟨fa0, fa1⟩ := G_15.out
  obtain ⟨fb0, fb1⟩ := G2_15.out
  clear bb
  clear qs
  have neg1 : decide ((1 : Int) + r0 + s0 < 0) = false := by rw [decide_eq_false_iff_not]; omega
  go_wp2_with fail
  refine (Vo.eqTensor _ _ _ _ _ T.r T.s gc gd sc sd T.D T.S T.D T.S _ (Nat.le_refl _) QG_15.out.d.ints QG_15.out.t.ints QS_15.out.d.ints QS_15.out.t.ints (fun _ _ => rfl) (fun _ _ => rfl) lv lw).mono ?_; rintro e W16 ⟨rfl, bb⟩
  have B16 := Vl.hide (B15.out.trans (Below.mono bb B15.out.size))
  have sz16 : W15.heap.size ≤ W16.heap.size := by have qz := bb.size; (try simp only [World.size_alloc] at qz); (try simp only [World.size_alloc]); exact qz
  try clear u0 u1 u2 u3
  try clear u0 u1
  try clear v0 v1 v2 v3
  try clear v0 v1
  try clear z0 z1 z2 z3
  try clear z0 z1
  try clear p0 p1 p2 p3
  try clear p0 p1
  try clear fa0 fa1 fa2 fa3
  try clear fa0 fa1
  try clear fb0 fb1 fb2 fb3
  try clear fb0 fb1
  try clear fc0 fc1 fc2 fc3
  try clear fc0 fc1
  try clear fd0 fd1 fd2 fd3
  try clear fd0 fd1
  have V0_16 := Vl.hide (Vo.Bx.below V0_15.out bb (by first | omega | (simp; done) | (simp; omega)))
  have QS_16 := Vl.hide (QS_15.out.below bb)
  have QS2_16 := Vl.hide (QS2_15.out.below bb)
  have S_16 := Vl.hide (Vo.Bx.below S_15.out bb (by first | omega | (simp; done) | (simp; omega)))
  have S2_16 := Vl.hide (Vo.Bx.below S2_15.out bb (by first | omega | (simp; done) | (simp; omega)))
  have QG_16 := Vl.hide (QG_15.out.below bb)
  have QG2_16 := Vl.hide (QG2_15.out.below bb)
  have G_16 := Vl.hide (Vo.Bx.below G_15.out bb (by first | omega | (simp; done) | (simp; omega)))
  have G2_16 := Vl.hide (Vo.Bx.below G2_15.out bb (by first | omega | (simp; done) | (simp; omega)))
  obtain ⟨u0, u1⟩ := V0_16.out
  obtain ⟨v0, v1⟩ := S_16.out
  obtain ⟨z0, z1⟩ := S2_16.out
  obtain ⟨p0, p1⟩ := G_16.out
  obtain ⟨fa0, fa1⟩ := G2_16.out
  clear bb
  go_wp2_with fail
  refine (Vo.eqTensor _ _ _ _ _ T2.r T2.s gc2 gd2 sc2 sd2 T2.D T2.S T2.D T2.S _ (Nat.le_refl _) QG2_16.out.d.ints QG2_16.out.t.ints QS2_16.out.d.ints QS2_16.out.t.ints (fun _ _ => rfl) (fun _ _ => rfl) lv2 lw2).mono ?_; rintro e W17 ⟨rfl, bb⟩
  have B17 := Vl.hide (B16.out.trans (Below.mono bb B16.out.size))
  have sz17 : W16.heap.size ≤ W17.heap.size := by have qz := bb.size; (try simp only [World.size_alloc] at qz); (try simp only [World.size_alloc]); exact qz
  try clear u0 u1 u2 u3
  try clear u0 u1
  try clear v0 v1 v2 v3
  try clear v0 v1
  try clear z0 z1 z2 z3
  try clear z0 z1
  try clear p0 p1 p2 p3
  try clear p0 p1
  try clear fa0 fa1 fa2 fa3
  try clear fa0 fa1
  try clear fb0 fb1 fb2 fb3
  try clear fb0 fb1
  try clear fc0 fc1 fc2 fc3
  try clear fc0 fc1
  try clear fd0 fd1 fd2 fd3
  try clear fd0 fd1
  have V0_17 := Vl.hide (Vo.Bx.below V0_16.out bb (by first | omega | (simp; done) | (simp; omega)))
  have QS_17 := Vl.hide (QS_16.out.below bb)
  have QS2_17 := Vl.hide (QS2_16.out.below bb)
  have S_17 := Vl.hide (Vo.Bx.below S_16.out bb (by first | omega | (simp; done) | (simp; omega)))
  have S2_17 := Vl.hide (Vo.Bx.below S2_16.out bb (by first | omega | (simp; done) | (simp; omega)))
  have QG_17 := Vl.hide (QG_16.out.below bb)
  have QG2_17 := Vl.hide (QG2_16.out.below bb)
  have G_17 := Vl.hide (Vo.Bx.below G_16.out bb (by first | omega | (simp; done) | (simp; omega)))
  have G2_17 := Vl.hide (Vo.Bx.below G2_16.out bb (by first | omega | (simp; done) | (simp; omega)))
  obtain ⟨u0, u1⟩ := V0_17.out
  obtain ⟨v0, v1⟩ := S_17.out
  obtain ⟨z0, z1⟩ := S2_17.out
  obtain ⟨p0, p1⟩ := G_17.out
  obtain ⟨fa0, fa1⟩ := G2_17.out
  clear bb
  go_wp2_with fail
  refine (Vo.markTensor _ _ _ T.r T.s gc gd T.D T.S 1 _ QG_17.out lv lw (by omega) (by omega)).mono ?_; rintro e W18 ⟨rfl, qs, bb⟩
  have B18 := Vl.hide (B17.out.trans (Vl.Kept.below bb B17.out.size (fun k q => by have := UQG.out _ q; omega)))
  have sz18 : W17.heap.size ≤ W18.heap.size := by have qz := bb.size; (try simp only [World.size_alloc] at qz); (try simp only [World.size_alloc]); exact qz
  try clear u0 u1 u2 u3
  try clear u0 u1
  try clear v0 v1 v2 v3
  try clear v0 v1
  try clear z0 z1 z2 z3
  try clear z0 z1
  try clear p0 p1 p2 p3
  try clear p0 p1
  try clear fa0 fa1 fa2 fa3
  try clear fa0 fa1
  try clear fb0 fb1 fb2 fb3
  try clear fb0 fb1
  try clear fc0 fc1 fc2 fc3
  try clear fc0 fc1
  try clear fd0 fd1 fd2 fd3
  try clear fd0 fd1
  have V0_18 := Vl.hide (Vo.Bx.kept V0_17.out bb (by omega) (fun q => by have := UQG.out _ q; omega))
  have QS_18 := Vl.hide (QS_17.out.kept bb (fun k q q' => by have := UQS.out _ q; have := UQG.out _ q'; omega))
  have QS2_18 := Vl.hide (QS2_17.out.kept bb (fun k q q' => by have := UQS2.out _ q; have := UQG.out _ q'; omega))
  have S_18 := Vl.hide (Vo.Bx.kept S_17.out bb (by omega) (fun q => by have := UQG.out _ q; omega))
  have S2_18 := Vl.hide (Vo.Bx.kept S2_17.out bb (by omega) (fun q => by have := UQG.out _ q; omega))
  have QG_18 := Vl.hide qs
  have QG2_18 := Vl.hide (QG2_17.out.kept bb (fun k q q' => APg.out k q' q))
  have G_18 := Vl.hide (Vo.Bx.kept G_17.out bb (by omega) (fun q => by have := UQG.out _ q; omega))
  have G2_18 := Vl.hide (Vo.Bx.kept G2_17.out bb (by omega) (fun q => by have := UQG.out _ q; omega))
  obtain ⟨u0, u1⟩ := V0_18.out
  obtain ⟨v0, v1⟩ := S_18.out
  obtain ⟨z0, z1⟩ := S2_18.out
  obtain ⟨p0, p1⟩ := G_18.out
  obtain ⟨fa0, fa1⟩ := G2_18.out
  clear bb
  clear qs
  go_wp2_with fail
  refine (Vo.markTensor _ _ _ T2.r T2.s gc2 gd2 T2.D T2.S (1 + T.r + T.s) _ QG2_18.out lv2 lw2 (by omega) (by omega)).mono ?_; rintro e W19 ⟨rfl, qs, bb⟩
  have B19 := Vl.hide (B18.out.trans (Vl.Kept.below bb B18.out.size (fun k q => by have := UQG2.out _ q; omega)))
  have sz19 : W18.heap.size ≤ W19.heap.size := by have qz := bb.size; (try simp only [World.size_alloc] at qz); (try simp only [World.size_alloc]); exact qz
  try clear u0 u1 u2 u3
  try clear u0 u1
  try clear v0 v1 v2 v3
  try clear v0 v1
  try clear z0 z1 z2 z3
  try clear z0 z1
  try clear p0 p1 p2 p3
  try clear p0 p1
  try clear fa0 fa1 fa2 fa3
  try clear fa0 fa1
  try clear fb0 fb1 fb2 fb3
  try clear fb0 fb1
  try clear fc0 fc1 fc2 fc3
  try clear fc0 fc1
  try clear fd0 fd1 fd2 fd3
  try clear fd0 fd1
  have V0_19 := Vl.hide (Vo.Bx.kept V0_18.out bb (by omega) (fun q => by have := UQG2.out _ q; omega))
  have QS_19 := Vl.hide (QS_18.out.kept bb (fun k q q' => by have := UQS.out _ q; have := UQG2.out _ q'; omega))
  have QS2_19 := Vl.hide (QS2_18.out.kept bb (fun k q q' => by have := UQS2.out _ q; have := UQG2.out _ q'; omega))
  have S_19 := Vl.hide (Vo.Bx.kept S_18.out bb (by omega) (fun q => by have := UQG2.out _ q; omega))
  have S2_19 := Vl.hide (Vo.Bx.kept S2_18.out bb (by omega) (fun q => by have := UQG2.out _ q; omega))
  have QG_19 := Vl.hide (QG_18.out.kept bb (fun k q q' => APg.out k q q'))
  have QG2_19 := Vl.hide qs
  have G_19 := Vl.hide (Vo.Bx.kept G_18.out bb (by omega) (fun q => by have := UQG2.out _ q; omega))
  have G2_19 := Vl.hide (Vo.Bx.kept G2_18.out bb (by omega) (fun q => by have := UQG2.out _ q; omega))
  obtain ⟨u0, u1⟩ := V0_19.out
  obtain ⟨v0, v1⟩ := S_19.out
  obtain ⟨z0, z1⟩ := S2_19.out
  obtain ⟨p0, p1⟩ := G_19.out
  obtain ⟨fa0, fa1⟩ := G2_19.out
  clear bb
  clear qs
  have neg2 : decide ((1 : Int) + (T.r : Nat) + (T.s : Nat) < 0) = false := by rw [decide_eq_false_iff_not]; omega
  have neg3 : decide ((1 : Int) + (T.r : Nat) + (T.s : Nat) + (T2.r : Nat) + (T2.s : Nat) < 0) = false := by rw [decide_eq_false_iff_not]; omega
  go_wp2_with fail
  refine (Vo.heldTensor _ _ _ T.r T.s gc gd 1 _ QG_19.out lv lw (by omega) (by omega)).mono ?_; rintro e W20 ⟨rfl, bb⟩
  have B20 := Vl.hide (B19.out.trans (Below.mono bb B19.out.size))
  have sz20 : W19.heap.size ≤ W20.heap.size := by have qz := bb.size; (try simp only [World.size_alloc] at qz); (try simp only [World.size_alloc]); exact qz
  try clear u0 u1 u2 u3
  try clear u0 u1
  try clear v0 v1 v2 v3
  try clear v0 v1
  try clear z0 z1 z2 z3
  try clear z0 z1
  try clear p0 p1 p2 p3
  try clear p0 p1
  try clear fa0 fa1 fa2 fa3
  try clear fa0 fa1
  try clear fb0 fb1 fb2 fb3
  try clear fb0 fb1
  try clear fc0 fc1 fc2 fc3
  try clear fc0 fc1
  try clear fd0 fd1 fd2 fd3
  try clear fd0 fd1
  have V0_20 := Vl.hide (Vo.Bx.below V0_19.out bb (by first | omega | (simp; done) | (simp; omega)))
  have QS_20 := Vl.hide (QS_19.out.below bb)
  have QS2_20 := Vl.hide (QS2_19.out.below bb)
  have S_20 := Vl.hide (Vo.Bx.below S_19.out bb (by first | omega | (simp; done) | (simp; omega)))
  have S2_20 := Vl.hide (Vo.Bx.below S2_19.out bb (by first | omega | (simp; done) | (simp; omega)))
  have QG_20 := Vl.hide (QG_19.out.below bb)
  have QG2_20 := Vl.hide (QG2_19.out.below bb)
  have G_20 := Vl.hide (Vo.Bx.below G_19.out bb (by first | omega | (simp; done) | (simp; omega)))
  have G2_20 := Vl.hide (Vo.Bx.below G2_19.out bb (by first | omega | (simp; done) | (simp; omega)))
  obtain ⟨u0, u1⟩ := V0_20.out
  obtain ⟨v0, v1⟩ := S_20.out
  obtain ⟨z0, z1⟩ := S2_20.out
  obtain ⟨p0, p1⟩ := G_20.out
  obtain ⟨fa0, fa1⟩ := G2_20.out
  clear bb
  go_wp2_with fail
  refine (Vo.heldTensor _ _ _ T2.r T2.s gc2 gd2 (1 + T.r + T.s) _ QG2_20.out lv2 lw2 (by omega) (by omega)).mono ?_; rintro e W21 ⟨rfl, bb⟩
  have B21 := Vl.hide (B20.out.trans (Below.mono bb B20.out.size))
  have sz21 : W20.heap.size ≤ W21.heap.size := by have qz := bb.size; (try simp only [World.size_alloc] at qz); (try simp only [World.size_alloc]); exact qz
  try clear u0 u1 u2 u3
  try clear u0 u1
  try clear v0 v1 v2 v3
  try clear v0 v1
  try clear z0 z1 z2 z3
  try clear z0 z1
  try clear p0 p1 p2 p3
  try clear p0 p1
  try clear fa0 fa1 fa2 fa3
  try clear fa0 fa1
  try clear fb0 fb1 fb2 fb3
  try clear fb0 fb1
  try clear fc0 fc1 fc2 fc3
  try clear fc0 fc1
  try clear fd0 fd1 fd2 fd3
  try clear fd0 fd1
  have V0_21 := Vl.hide (Vo.Bx.below V0_20.out bb (by first | omega | (simp; done) | (simp; omega)))
  have QS_21 := Vl.hide (QS_20.out.below bb)
  have QS2_21 := Vl.hide (QS2_20.out.below bb)
  have S_21 := Vl.hide (Vo.Bx.below S_20.out bb (by first | omega | (simp; done) | (simp; omega)))
  have S2_21 := Vl.hide (Vo.Bx.below S2_20.out bb (by first | omega | (simp; done) | (simp; omega)))
  have QG_21 := Vl.hide (QG_20.out.below bb)
  have QG2_21 := Vl.hide (QG2_20.out.below bb)
  have G_21 := Vl.hide (Vo.Bx.below G_20.out bb (by first | omega | (simp; done) | (simp; omega)))
  have G2_21 := Vl.hide (Vo.Bx.below G2_20.out bb (by first | omega | (simp; done) | (simp; omega)))
  obtain ⟨u0, u1⟩ := V0_21.out
  obtain ⟨v0, v1⟩ := S_21.out
  obtain ⟨z0, z1⟩ := S2_21.out
  obtain ⟨p0, p1⟩ := G_21.out
  obtain ⟨fa0, fa1⟩ := G2_21.out
  clear bb
  go_wp2_with fail
  refine (Vo.toTensor w.heap.size a0 b0 r0 s0 cap0 dap0 D0 S0 _ (H0.out.below B21.out) (K0.out.below B21.out) B21.out.size lr0 ls0).mono ?_; rintro e W22 ⟨gm, gm', rfl, q22, bb⟩
  have B22 := Vl.hide (B21.out.trans (Below.mono bb B21.out.size))
  have sz22 : W21.heap.size ≤ W22.heap.size := by have qz := bb.size; (try simp only [World.size_alloc] at qz); (try simp only [World.size_alloc]); exact qz
  try clear u0 u1 u2 u3
  try clear u0 u1
  try clear v0 v1 v2 v3
  try clear v0 v1
  try clear z0 z1 z2 z3
  try clear z0 z1
  try clear p0 p1 p2 p3
  try clear p0 p1
  try clear fa0 fa1 fa2 fa3
  try clear fa0 fa1
  try clear fb0 fb1 fb2 fb3
  try clear fb0 fb1
  try clear fc0 fc1 fc2 fc3
  try clear fc0 fc1
  try clear fd0 fd1 fd2 fd3
  try clear fd0 fd1
  have V0_22 := Vl.hide (Vo.Bx.below V0_21.out bb (by first | omega | (simp; done) | (simp; omega)))
  have QS_22 := Vl.hide (QS_21.out.below bb)
  have QS2_22 := Vl.hide (QS2_21.out.below bb)
  have S_22 := Vl.hide (Vo.Bx.below S_21.out bb (by first | omega | (simp; done) | (simp; omega)))
  have S2_22 := Vl.hide (Vo.Bx.below S2_21.out bb (by first | omega | (simp; done) | (simp; omega)))
  have QG_22 := Vl.hide (QG_21.out.below bb)
  have QG2_22 := Vl.hide (QG2_21.out.below bb)
  have G_22 := Vl.hide (Vo.Bx.below G_21.out bb (by first | omega | (simp; done) | (simp; omega)))
  have G2_22 := Vl.hide (Vo.Bx.below G2_21.out bb (by first | omega | (simp; done) | (simp; omega)))
  obtain ⟨u0, u1⟩ := V0_22.out
  obtain ⟨v0, v1⟩ := S_22.out
  obtain ⟨z0, z1⟩ := S2_22.out
  obtain ⟨p0, p1⟩ := G_22.out
  obtain ⟨fa0, fa1⟩ := G2_22.out
  clear bb
  have QM_22 := Vl.hide q22
  clear q22
  have uu := fun k q => QM_22.out.blk (k := k) q
  try simp only [World.size_alloc] at uu
  have UQM := Vl.hide uu
  clear uu
  go_wp2_with fail
  refine (CI.out _ _ _ _ (Nat.le_refl _) QM_22.out.d.ints QM_22.out.t.ints).mono ?_; rintro e W23 ⟨ha, hb, hc, hd, ha2, hb2, hc2, hd2, rfl, qh, qh2, aph, bb⟩
  have B23 := Vl.hide (B22.out.trans (Below.mono bb B22.out.size))
  have sz23 : W22.heap.size ≤ W23.heap.size := by have qz := bb.size; (try simp only [World.size_alloc] at qz); (try simp only [World.size_alloc]); exact qz
  try clear u0 u1 u2 u3
  try clear u0 u1
  try clear v0 v1 v2 v3
  try clear v0 v1
  try clear z0 z1 z2 z3
  try clear z0 z1
  try clear p0 p1 p2 p3
  try clear p0 p1
  try clear fa0 fa1 fa2 fa3
  try clear fa0 fa1
  try clear fb0 fb1 fb2 fb3
  try clear fb0 fb1
  try clear fc0 fc1 fc2 fc3
  try clear fc0 fc1
  try clear fd0 fd1 fd2 fd3
  try clear fd0 fd1
  have V0_23 := Vl.hide (Vo.Bx.below V0_22.out bb (by first | omega | (simp; done) | (simp; omega)))
  have QS_23 := Vl.hide (QS_22.out.below bb)
  have QS2_23 := Vl.hide (QS2_22.out.below bb)
  have S_23 := Vl.hide (Vo.Bx.below S_22.out bb (by first | omega | (simp; done) | (simp; omega)))
  have S2_23 := Vl.hide (Vo.Bx.below S2_22.out bb (by first | omega | (simp; done) | (simp; omega)))
  have QG_23 := Vl.hide (QG_22.out.below bb)
  have QG2_23 := Vl.hide (QG2_22.out.below bb)
  have G_23 := Vl.hide (Vo.Bx.below G_22.out bb (by first | omega | (simp; done) | (simp; omega)))
  have G2_23 := Vl.hide (Vo.Bx.below G2_22.out bb (by first | omega | (simp; done) | (simp; omega)))
  have QM_23 := Vl.hide (QM_22.out.below bb)
  obtain ⟨u0, u1⟩ := V0_23.out
  obtain ⟨v0, v1⟩ := S_23.out
  obtain ⟨z0, z1⟩ := S2_23.out
  obtain ⟨p0, p1⟩ := G_23.out
  obtain ⟨fa0, fa1⟩ := G2_23.out
  clear bb
  have APh := Vl.hide aph
  clear aph
  have QH_23 := Vl.hide qh
  clear qh
  have uu := fun k q => QH_23.out.blk (k := k) q
  try simp only [World.size_alloc] at uu
  have UQH := Vl.hide uu
  clear uu
  have QH2_23 := Vl.hide qh2
  clear qh2
  have uu := fun k q => QH2_23.out.blk (k := k) q
  try simp only [World.size_alloc] at uu
  have UQH2 := Vl.hide uu
  clear uu
  have bb := (Below.refl W23.heap.size W23).alloc (Nat.le_refl _) (.cells #[.slice ha T.r hc, .slice hb T.s hd] 37)
  have H_24 := Vl.hide (Vo.bx_new W23 (.slice ha T.r hc) (.slice hb T.s hd) 37)
  have B24 := Vl.hide (B23.out.trans (Below.mono bb B23.out.size))
  have sz24 : W23.heap.size ≤ (W23.alloc (.cells #[.slice ha T.r hc, .slice hb T.s hd] 37)).heap.size := by have qz := bb.size; (try simp only [World.size_alloc] at qz); (try simp only [World.size_alloc]); exact qz
  simp only [World.size_alloc] at sz24
  try clear u0 u1 u2 u3
  try clear u0 u1
  try clear v0 v1 v2 v3
  try clear v0 v1
  try clear z0 z1 z2 z3
  try clear z0 z1
  try clear p0 p1 p2 p3
  try clear p0 p1
  try clear fa0 fa1 fa2 fa3
  try clear fa0 fa1
  try clear fb0 fb1 fb2 fb3
  try clear fb0 fb1
  try clear fc0 fc1 fc2 fc3
  try clear fc0 fc1
  try clear fd0 fd1 fd2 fd3
  try clear fd0 fd1
  have V0_24 := Vl.hide (Vo.Bx.below V0_23.out bb (by first | omega | (simp; done) | (simp; omega)))
  have QS_24 := Vl.hide (QS_23.out.below bb)
  have QS2_24 := Vl.hide (QS2_23.out.below bb)
  have S_24 := Vl.hide (Vo.Bx.below S_23.out bb (by first | omega | (simp; done) | (simp; omega)))
  have S2_24 := Vl.hide (Vo.Bx.below S2_23.out bb (by first | omega | (simp; done) | (simp; omega)))
  have QG_24 := Vl.hide (QG_23.out.below bb)
  have QG2_24 := Vl.hide (QG2_23.out.below bb)
  have G_24 := Vl.hide (Vo.Bx.below G_23.out bb (by first | omega | (simp; done) | (simp; omega)))
  have G2_24 := Vl.hide (Vo.Bx.below G2_23.out bb (by first | omega | (simp; done) | (simp; omega)))
  have QM_24 := Vl.hide (QM_23.out.below bb)
  have QH_24 := Vl.hide (QH_23.out.below bb)
  have QH2_24 := Vl.hide (QH2_23.out.below bb)
  obtain ⟨u0, u1⟩ := V0_24.out
  obtain ⟨v0, v1⟩ := S_24.out
  obtain ⟨z0, z1⟩ := S2_24.out
  obtain ⟨p0, p1⟩ := G_24.out
  obtain ⟨fa0, fa1⟩ := G2_24.out
  clear bb
  obtain ⟨fb0, fb1⟩ := H_24.out
  have bb := (Below.refl (W23.alloc (.cells #[.slice ha T.r hc, .slice hb T.s hd] 37)).heap.size (W23.alloc (.cells #[.slice ha T.r hc, .slice hb T.s hd] 37))).alloc (Nat.le_refl _) (.cells #[.slice ha2 T2.r hc2, .slice hb2 T2.s hd2] 37)
  have H2_25 := Vl.hide (Vo.bx_new (W23.alloc (.cells #[.slice ha T.r hc, .slice hb T.s hd] 37)) (.slice ha2 T2.r hc2) (.slice hb2 T2.s hd2) 37)
  simp only [World.size_alloc] at H2_25
  have B25 := Vl.hide (B24.out.trans (Below.mono bb B24.out.size))
  have sz25 : (W23.heap.size + 1) ≤ ((W23.alloc (.cells #[.slice ha T.r hc, .slice hb T.s hd] 37)).alloc (.cells #[.slice ha2 T2.r hc2, .slice hb2 T2.s hd2] 37)).heap.size := by have qz := bb.size; (try simp only [World.size_alloc] at qz); (try simp only [World.size_alloc]); exact qz
  simp only [World.size_alloc] at sz25
  try clear u0 u1 u2 u3
  try clear u0 u1
  try clear v0 v1 v2 v3
  try clear v0 v1
  try clear z0 z1 z2 z3
  try clear z0 z1
  try clear p0 p1 p2 p3
  try clear p0 p1
  try clear fa0 fa1 fa2 fa3
  try clear fa0 fa1
  try clear fb0 fb1 fb2 fb3
  try clear fb0 fb1
  try clear fc0 fc1 fc2 fc3
  try clear fc0 fc1
  try clear fd0 fd1 fd2 fd3
  try clear fd0 fd1
  have V0_25 := Vl.hide (Vo.Bx.below V0_24.out bb (by first | omega | (simp; done) | (simp; omega)))
  have QS_25 := Vl.hide (QS_24.out.below bb)
  have QS2_25 := Vl.hide (QS2_24.out.below bb)
  have S_25 := Vl.hide (Vo.Bx.below S_24.out bb (by first | omega | (simp; done) | (simp; omega)))
  have S2_25 := Vl.hide (Vo.Bx.below S2_24.out bb (by first | omega | (simp; done) | (simp; omega)))
  have QG_25 := Vl.hide (QG_24.out.below bb)
  have QG2_25 := Vl.hide (QG2_24.out.below bb)
  have G_25 := Vl.hide (Vo.Bx.below G_24.out bb (by first | omega | (simp; done) | (simp; omega)))
  have G2_25 := Vl.hide (Vo.Bx.below G2_24.out bb (by first | omega | (simp; done) | (simp; omega)))
  have QM_25 := Vl.hide (QM_24.out.below bb)
  have QH_25 := Vl.hide (QH_24.out.below bb)
  have QH2_25 := Vl.hide (QH2_24.out.below bb)
  have H_25 := Vl.hide (Vo.Bx.below H_24.out bb (by first | omega | (simp; done) | (simp; omega)))
  obtain ⟨u0, u1⟩ := V0_25.out
  obtain ⟨v0, v1⟩ := S_25.out
  obtain ⟨z0, z1⟩ := S2_25.out
  obtain ⟨p0, p1⟩ := G_25.out
  obtain ⟨fa0, fa1⟩ := G2_25.out
  obtain ⟨fb0, fb1⟩ := H_25.out
  clear bb
  obtain ⟨fc0, fc1⟩ := H2_25.out
  go_wp2_with fail
  refine (Vo.eqTensor _ _ _ _ _ T.r T.s hc hd sc sd T.D T.S T.D T.S _ (Nat.le_refl _) QH_25.out.d.ints QH_25.out.t.ints QS_25.out.d.ints QS_25.out.t.ints (fun _ _ => rfl) (fun _ _ => rfl) lv lw).mono ?_; rintro e W26 ⟨rfl, bb⟩
  have B26 := Vl.hide (B25.out.trans (Below.mono bb B25.out.size))
  have sz26 : ((W23.heap.size + 1) + 1) ≤ W26.heap.size := by have qz := bb.size; (try simp only [World.size_alloc] at qz); (try simp only [World.size_alloc]); exact qz
  try clear u0 u1 u2 u3
  try clear u0 u1
  try clear v0 v1 v2 v3
  try clear v0 v1
  try clear z0 z1 z2 z3
  try clear z0 z1
  try clear p0 p1 p2 p3
  try clear p0 p1
  try clear fa0 fa1 fa2 fa3
  try clear fa0 fa1
  try clear fb0 fb1 fb2 fb3
  try clear fb0 fb1
  try clear fc0 fc1 fc2 fc3
  try clear fc0 fc1
  try clear fd0 fd1 fd2 fd3
  try clear fd0 fd1
  have V0_26 := Vl.hide (Vo.Bx.below V0_25.out bb (by first | omega | (simp; done) | (simp; omega)))
  have QS_26 := Vl.hide (QS_25.out.below bb)
  have QS2_26 := Vl.hide (QS2_25.out.below bb)
  have S_26 := Vl.hide (Vo.Bx.below S_25.out bb (by first | omega | (simp; done) | (simp; omega)))
  have S2_26 := Vl.hide (Vo.Bx.below S2_25.out bb (by first | omega | (simp; done) | (simp; omega)))
  have QG_26 := Vl.hide (QG_25.out.below bb)
  have QG2_26 := Vl.hide (QG2_25.out.below bb)
  have G_26 := Vl.hide (Vo.Bx.below G_25.out bb (by first | omega | (simp; done) | (simp; omega)))
  have G2_26 := Vl.hide (Vo.Bx.below G2_25.out bb (by first | omega | (simp; done) | (simp; omega)))
  have QH_26 := Vl.hide (QH_25.out.below bb)
  have QH2_26 := Vl.hide (QH2_25.out.below bb)
  have H_26 := Vl.hide (Vo.Bx.below H_25.out bb (by first | omega | (simp; done) | (simp; omega)))
  have H2_26 := Vl.hide (Vo.Bx.below H2_25.out bb (by first | omega | (simp; done) | (simp; omega)))
  obtain ⟨u0, u1⟩ := V0_26.out
  obtain ⟨v0, v1⟩ := S_26.out
  obtain ⟨z0, z1⟩ := S2_26.out
  obtain ⟨p0, p1⟩ := G_26.out
  obtain ⟨fa0, fa1⟩ := G2_26.out
  obtain ⟨fb0, fb1⟩ := H_26.out
  obtain ⟨fc0, fc1⟩ := H2_26.out
  clear bb
  go_wp2_with fail
  refine (Vo.eqTensor _ _ _ _ _ T2.r T2.s hc2 hd2 sc2 sd2 T2.D T2.S T2.D T2.S _ (Nat.le_refl _) QH2_26.out.d.ints QH2_26.out.t.ints QS2_26.out.d.ints QS2_26.out.t.ints (fun _ _ => rfl) (fun _ _ => rfl) lv2 lw2).mono ?_; rintro e W27 ⟨rfl, bb⟩
  have B27 := Vl.hide (B26.out.trans (Below.mono bb B26.out.size))
  have sz27 : W26.heap.size ≤ W27.heap.size := by have qz := bb.size; (try simp only [World.size_alloc] at qz); (try simp only [World.size_alloc]); exact qz
  try clear u0 u1 u2 u3
  try clear u0 u1
  try clear v0 v1 v2 v3
  try clear v0 v1
  try clear z0 z1 z2 z3
  try clear z0 z1
  try clear p0 p1 p2 p3
  try clear p0 p1
  try clear fa0 fa1 fa2 fa3
  try clear fa0 fa1
  try clear fb0 fb1 fb2 fb3
  try clear fb0 fb1
  try clear fc0 fc1 fc2 fc3
  try clear fc0 fc1
  try clear fd0 fd1 fd2 fd3
  try clear fd0 fd1
  have V0_27 := Vl.hide (Vo.Bx.below V0_26.out bb (by first | omega | (simp; done) | (simp; omega)))
  have QS_27 := Vl.hide (QS_26.out.below bb)
  have QS2_27 := Vl.hide (QS2_26.out.below bb)
  have S_27 := Vl.hide (Vo.Bx.below S_26.out bb (by first | omega | (simp; done) | (simp; omega)))
  have S2_27 := Vl.hide (Vo.Bx.below S2_26.out bb (by first | omega | (simp; done) | (simp; omega)))
  have QG_27 := Vl.hide (QG_26.out.below bb)
  have QG2_27 := Vl.hide (QG2_26.out.below bb)
  have G_27 := Vl.hide (Vo.Bx.below G_26.out bb (by first | omega | (simp; done) | (simp; omega)))
  have G2_27 := Vl.hide (Vo.Bx.below G2_26.out bb (by first | omega | (simp; done) | (simp; omega)))
  have QH_27 := Vl.hide (QH_26.out.below bb)
  have QH2_27 := Vl.hide (QH2_26.out.below bb)
  have H_27 := Vl.hide (Vo.Bx.below H_26.out bb (by first | omega | (simp; done) | (simp; omega)))
  have H2_27 := Vl.hide (Vo.Bx.below H2_26.out bb (by first | omega | (simp; done) | (simp; omega)))
  obtain ⟨u0, u1⟩ := V0_27.out
  obtain ⟨v0, v1⟩ := S_27.out
  obtain ⟨z0, z1⟩ := S2_27.out
  obtain ⟨p0, p1⟩ := G_27.out
  obtain ⟨fa0, fa1⟩ := G2_27.out
  obtain ⟨fb0, fb1⟩ := H_27.out
  obtain ⟨fc0, fc1⟩ := H2_27.out
  clear bb
  go_wp2_with fail
  refine (Vo.heldTensor _ _ _ T.r T.s gc gd 1 _ QG_27.out lv lw (by omega) (by omega)).mono ?_; rintro e W28 ⟨rfl, bb⟩
  have B28 := Vl.hide (B27.out.trans (Below.mono bb B27.out.size))
  have sz28 : W27.heap.size ≤ W28.heap.size := by have qz := bb.size; (try simp only [World.size_alloc] at qz); (try simp only [World.size_alloc]); exact qz
  try clear u0 u1 u2 u3
  try clear u0 u1
  try clear v0 v1 v2 v3
  try clear v0 v1
  try clear z0 z1 z2 z3
  try clear z0 z1
  try clear p0 p1 p2 p3
  try clear p0 p1
  try clear fa0 fa1 fa2 fa3
  try clear fa0 fa1
  try clear fb0 fb1 fb2 fb3
  try clear fb0 fb1
  try clear fc0 fc1 fc2 fc3
  try clear fc0 fc1
  try clear fd0 fd1 fd2 fd3
  try clear fd0 fd1
  have V0_28 := Vl.hide (Vo.Bx.below V0_27.out bb (by first | omega | (simp; done) | (simp; omega)))
  have QS_28 := Vl.hide (QS_27.out.below bb)
  have QS2_28 := Vl.hide (QS2_27.out.below bb)
  have S_28 := Vl.hide (Vo.Bx.below S_27.out bb (by first | omega | (simp; done) | (simp; omega)))
  have S2_28 := Vl.hide (Vo.Bx.below S2_27.out bb (by first | omega | (simp; done) | (simp; omega)))
  have QG_28 := Vl.hide (QG_27.out.below bb)
  have QG2_28 := Vl.hide (QG2_27.out.below bb)
  have G_28 := Vl.hide (Vo.Bx.below G_27.out bb (by first | omega | (simp; done) | (simp; omega)))
  have G2_28 := Vl.hide (Vo.Bx.below G2_27.out bb (by first | omega | (simp; done) | (simp; omega)))
  have QH_28 := Vl.hide (QH_27.out.below bb)
  have QH2_28 := Vl.hide (QH2_27.out.below bb)
  have H_28 := Vl.hide (Vo.Bx.below H_27.out bb (by first | omega | (simp; done) | (simp; omega)))
  have H2_28 := Vl.hide (Vo.Bx.below H2_27.out bb (by first | omega | (simp; done) | (simp; omega)))
  obtain ⟨u0, u1⟩ := V0_28.out
  obtain ⟨v0, v1⟩ := S_28.out
  obtain ⟨z0, z1⟩ := S2_28.out
  obtain ⟨p0, p1⟩ := G_28.out
  obtain ⟨fa0, fa1⟩ := G2_28.out
  obtain ⟨fb0, fb1⟩ := H_28.out
  obtain ⟨fc0, fc1⟩ := H2_28.out
  clear bb
  go_wp2_with fail
  refine (Vo.heldTensor _ _ _ T2.r T2.s gc2 gd2 (1 + T.r + T.s) _ QG2_28.out lv2 lw2 (by omega) (by omega)).mono ?_; rintro e W29 ⟨rfl, bb⟩
  have B29 := Vl.hide (B28.out.trans (Below.mono bb B28.out.size))
  have sz29 : W28.heap.size ≤ W29.heap.size := by have qz := bb.size; (try simp only [World.size_alloc] at qz); (try simp only [World.size_alloc]); exact qz
  try clear u0 u1 u2 u3
  try clear u0 u1
  try clear v0 v1 v2 v3
  try clear v0 v1
  try clear z0 z1 z2 z3
  try clear z0 z1
  try clear p0 p1 p2 p3
  try clear p0 p1
  try clear fa0 fa1 fa2 fa3
  try clear fa0 fa1
  try clear fb0 fb1 fb2 fb3
  try clear fb0 fb1
  try clear fc0 fc1 fc2 fc3
  try clear fc0 fc1
  try clear fd0 fd1 fd2 fd3
  try clear fd0 fd1
  have V0_29 := Vl.hide (Vo.Bx.below V0_28.out bb (by first | omega | (simp; done) | (simp; omega)))
  have QS_29 := Vl.hide (QS_28.out.below bb)
  have QS2_29 := Vl.hide (QS2_28.out.below bb)
  have S_29 := Vl.hide (Vo.Bx.below S_28.out bb (by first | omega | (simp; done) | (simp; omega)))
  have S2_29 := Vl.hide (Vo.Bx.below S2_28.out bb (by first | omega | (simp; done) | (simp; omega)))
  have QG_29 := Vl.hide (QG_28.out.below bb)
  have QG2_29 := Vl.hide (QG2_28.out.below bb)
  have G_29 := Vl.hide (Vo.Bx.below G_28.out bb (by first | omega | (simp; done) | (simp; omega)))
  have G2_29 := Vl.hide (Vo.Bx.below G2_28.out bb (by first | omega | (simp; done) | (simp; omega)))
  have QH_29 := Vl.hide (QH_28.out.below bb)
  have QH2_29 := Vl.hide (QH2_28.out.below bb)
  have H_29 := Vl.hide (Vo.Bx.below H_28.out bb (by first | omega | (simp; done) | (simp; omega)))
  have H2_29 := Vl.hide (Vo.Bx.below H2_28.out bb (by first | omega | (simp; done) | (simp; omega)))
  obtain ⟨u0, u1⟩ := V0_29.out
  obtain ⟨v0, v1⟩ := S_29.out
  obtain ⟨z0, z1⟩ := S2_29.out
  obtain ⟨p0, p1⟩ := G_29.out
  obtain ⟨fa0, fa1⟩ := G2_29.out
  obtain ⟨fb0, fb1⟩ := H_29.out
  obtain ⟨fc0, fc1⟩ := H2_29.out
  clear bb
  go_wp2_with fail
  go_ret
  exact ⟨rfl, B29.out⟩

set_option maxRecDepth 100000 in
theorem lifted (os : Os) (started : os.Started) (H : Type) (enc : TypeId × Value → H) :
    ReturnsInHanded {} Try.checked os 4 .any (Rows.fnExactSortedSpec.pre6 enc Try.prog Try.f4 Rows.fnExactSortedRow.domain false) (Rows.fnExactSortedSpec.post enc Try.prog Try.f4 false true false false) := by
  refine returnsInHanded_of_change (C := Try.checked) own started (by kernel_rfl) Try.func4
    (ChangeSpec.witness6 (enc := enc) (C := Try.checked) false ⟨#[], #[.agg #[.slice none 0 0, .slice none 0 0], .int .i64 0], []⟩ 8 (by kernel_rfl) (by kernel_rfl) (by kernel_rfl) (by kernel_rfl)) ?_
  intro W base args ds gs before hval0 hW hcnd _
  have hval : ∀ (j : Nat) t v, Try.f4.params[j]? = some t → args[j]? = some v → Value.okWide Try.prog W .any base t v := hval0
  have hW' := hW
  obtain ⟨p, q, hA0, hV, rfl, hfz, hnd⟩ := hW
  have hA : DataW.TrodAll enc Try.prog W 0 (fun _ => true) true Try.f4.params.toList args.toList ds p := hA0
  rw [Try.params4] at hA hval
  obtain ⟨v0, vs0, d0, ds0, p0, q0, hargs, rfl, rfl, h0, rst0⟩ := trodAll_cons hA
  obtain ⟨v1, vs1, d1, ds1, p1, q1, rfl, rfl, rfl, h1, rst1⟩ := trodAll_cons rst0
  obtain ⟨rfl, rfl, rfl⟩ := trodAll_nil rst1
  obtain rfl : args = #[v0, v1] := by cases args; simp_all
  obtain ⟨rfl, rfl⟩ := trodVars_none hV
  have k0 := h0
  have lt0 : ∀ x ∈ p0, x.block < W.heap.size := by obtain ⟨m, hm⟩ := k0; exact DataW.trod_lt m _ _ _ hm
  obtain ⟨c00, c01, u00, u01, m0, rfl, _, _, hy00, hy01⟩ := open_agg2 Try.underlying35 (by kernel_rfl) (by kernel_rfl) (hval 0 35 v0 rfl rfl) h0
  obtain ⟨a0, r0, cap0, rfl, w0⟩ := Vl.arg_of hy00
  obtain ⟨b0, s0, dap0, rfl, y0⟩ := Vl.arg_of hy01
  have k1 := h1
  have lt1 : ∀ x ∈ p1, x.block < W.heap.size := by obtain ⟨m, hm⟩ := k1; exact DataW.trod_lt m _ _ _ hm
  obtain ⟨a1, rfl, e1, _, w1⟩ := open_int Try.underlying3 (hval 1 3 v1 rfl rfl) h1
  clear hA0 hval0
  refine (walk a0 r0 cap0 b0 s0 dap0 a1 w1 W w0 y0).mono fun e W' ⟨he, bel⟩ => ?_
  subst he
  exact ⟨_, rfl, _, _, _, [], _, [], hW', trodAll_mk1 (shut_bool Try.underlying4 _), (trodAll_cons_mk (Below.trod laidOut (by kernel_rfl) (of_decide_eq_true (by kernel_rfl)) k0 bel lt0) (trodAll_cons_mk (Below.trod laidOut (by kernel_rfl) (of_decide_eq_true (by kernel_rfl)) k1 bel lt1) trodAll_mk0)), rfl, bel.frame _, fun h => by cases h⟩

theorem over : Rows.fnExactSortedRow.holds Try.pinned (OpenSpec.ofChange Rows.fnExactSortedSpec) :=
  OpenClaim.holds_of_wide 4 Try.f4 rfl rfl rfl rfl rfl rfl rfl ⟨rfl, rfl, rfl, rfl, rfl⟩ rfl rfl rfl rfl rfl (by kernel_rfl) Try.func4 (by kernel_rfl)
    (of_decide_eq_true (by kernel_rfl)) (by unfold Func.isWrapper; first | (rw [if_pos (by decide +kernel)]; kernel_rfl) | (rw [if_neg (by decide +kernel)]; exact ⟨rfl, rfl⟩))
    (fun os started H enc _ => lifted os started H enc)

theorem proved : Rows.FnExactSortedSaid := over
#print axioms proved
end Go.Proofs.Ytpmkjifpoikdjaa.fnExactSorted
