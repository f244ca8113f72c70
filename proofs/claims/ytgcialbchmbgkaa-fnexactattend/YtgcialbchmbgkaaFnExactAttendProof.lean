/-
  Proved: whatever the arguments, 'FnExactAttend' returns true: the landed function answers as its model, and what came in reads as it did. No condition.
-/
import Derived.Test.YtgcialbchmbgkaaRows
import Derived.Test.YtgcialbchmbgkaaVl
import Derived.Test.YtgcialbchmbgkaaVp
import Derived.Test.YtgcialbchmbgkaaVs
import Derived.Test.YtgcialbchmbgkaaVq
import Derived.Test.YtgcialbchmbgkaaVo
import Derived.Test.YtgcialbchmbgkaaVm
import Derived.Test.YtgcialbchmbgkaaVn
import Derived.Test.YtgcialbchmbgkaaVt
import Derived.Test.YtgcialbchmbgkaaVv
import Derived.Test.YtgcialbchmbgkaaTa
import Derived.Test.YtgcialbchmbgkaaTb
import Derived.Test.YtgcialbchmbgkaaVr
import Derived.Test.YtgcialbchmbgkaaVw
import Derived.Test.YtgcialbchmbgkaaVx
import Derived.Test.YtgcialbchmbgkaaVy
import Derived.Test.YtgcialbchmbgkaaVz
import Derived.Test.YtgcialbchmbgkaaVc
import Derived.Test.YtgcialbchmbgkaaVac
import Derived.Test.YtgcialbchmbgkaaVaf
import Derived.Test.YtgcialbchmbgkaaVag
import Derived.Test.YtgcialbchmbgkaaNum
import Derived.Test.YtgcialbchmbgkaaBase
import Derived.Test.YtgcialbchmbgkaaTc
import Derived.Test.YtgcialbchmbgkaaTza
import Derived.Test.YtgcialbchmbgkaaLn
import Derived.Test.YtgcialbchmbgkaaTf
import Derived.Test.YtgcialbchmbgkaaTh
import Derived.Test.YtgcialbchmbgkaaXa
import Derived.Test.YtgcialbchmbgkaaYa
import Derived.Test.YtgcialbchmbgkaaVad
import Derived.Test.YtgcialbchmbgkaaVae
import Derived.Test.YtgcialbchmbgkaaVak
import Derived.Test.YtgcialbchmbgkaaVal
import Derived.Test.YtgcialbchmbgkaaVam
import Derived.Test.YtgcialbchmbgkaaVan
import Derived.Test.YtgcialbchmbgkaaVah
import Derived.Test.YtgcialbchmbgkaaVai
import Derived.Test.YtgcialbchmbgkaaVao
import Derived.Test.YtgcialbchmbgkaaVap
import Derived.Test.YtgcialbchmbgkaaVaq
import Derived.Test.YtgcialbchmbgkaaPow
import Derived.Test.YtgcialbchmbgkaaYb
import Derived.Test.YtgcialbchmbgkaaYc
import Derived.Test.YtgcialbchmbgkaaTg
import Derived.Test.YtgcialbchmbgkaaTi
import Derived.Test.YtgcialbchmbgkaaXb
import Derived.Test.YtgcialbchmbgkaaYd
import Derived.Test.YtgcialbchmbgkaaQt
import Derived.Test.YtgcialbchmbgkaaYe
import Derived.Test.YtgcialbchmbgkaaYf
import Derived.Test.YtgcialbchmbgkaaTr
import Derived.Test.YtgcialbchmbgkaaQf
import Derived.Test.YtgcialbchmbgkaaLw
import Derived.Test.YtgcialbchmbgkaaYg
import Derived.WalkKit
import Derived.ProofKit
import Derived.OpenShut
import Derived.ShutString
import Derived.ChangeOld
import Derived.Below
import Derived.Lib.SmallJoins
import Derived.OpenVars
import Derived.ChangeVars
import Derived.Deep.RegionHeld3
namespace Go.Proofs.Ytgcialbchmbgkaa.fnExactAttend
open Go.ChangeShapes Go.WideShapes Go.ChangeAt Go.RowKit Go.Joins
open Go.ChangeMaps (open_string shut_string)
set_option linter.unusedVariables false
set_option linter.unusedSimpArgs false

theorem own : ownKnob Try.prog.godebug = none := by kernel_rfl
theorem laidOut : laidOutB Try.prog = true := by kernel_rfl

set_option maxRecDepth 100000 in
set_option maxHeartbeats 4000000 in
theorem walk (a0 : Option Addr) (r0 cap0 : Nat) (b0 : Option Addr) (s0 dap0 : Nat) (a1 : Option Addr) (r1 cap1 : Nat) (b1 : Option Addr) (s1 dap1 : Nat) (a2 : Option Addr) (r2 cap2 : Nat) (b2 : Option Addr) (s2 dap2 : Nat) (a3 : Int) (w3 : (Lit.int .i64 a3).wf = true) (w : World) (w0 : Vl.Arg w a0 r0) (y0 : Vl.Arg w b0 s0) (w1 : Vl.Arg w a1 r1) (y1 : Vl.Arg w b1 s1) (w2 : Vl.Arg w a2 r2) (y2 : Vl.Arg w b2 s2) :
    Calls Try.prog 4 #[.agg #[.slice a0 r0 cap0, .slice b0 s0 dap0], .agg #[.slice a1 r1 cap1, .slice b1 s1 dap1], .agg #[.slice a2 r2 cap2, .slice b2 s2 dap2], .int .i64 a3] w fun e w' => e = .returned (.bool true) ∧ Below w.heap.size w w' := by
  obtain ⟨hr0, D0, hh0⟩ := w0
  obtain ⟨hs0, S0, hk0⟩ := y0
  have H0 := Vl.hide hh0
  have K0 := Vl.hide hk0
  clear hh0 hk0
  obtain ⟨hr1, D1, hh1⟩ := w1
  obtain ⟨hs1, S1, hk1⟩ := y1
  have H1 := Vl.hide hh1
  have K1 := Vl.hide hk1
  clear hh1 hk1
  obtain ⟨hr2, D2, hh2⟩ := w2
  obtain ⟨hs2, S2, hk2⟩ := y2
  have H2 := Vl.hide hh2
  have K2 := Vl.hide hk2
  clear hh2 hk2
  have B0 := Vl.hide (Below.refl w.heap.size w)
  have bb := (Below.refl w.heap.size w).alloc (Nat.le_refl _) (.cells #[.slice a0 r0 cap0, .slice b0 s0 dap0] 24)
  have V0_1 := Vl.hide (Vo.bx_new w (.slice a0 r0 cap0) (.slice b0 s0 dap0) 24)
  have B1 := Vl.hide (B0.out.trans (Below.mono bb B0.out.size))
  have sz1 : w.heap.size ≤ (w.alloc (.cells #[.slice a0 r0 cap0, .slice b0 s0 dap0] 24)).heap.size := by have qz := bb.size; (try simp only [World.size_alloc] at qz); (try simp only [World.size_alloc]); exact qz
  simp only [World.size_alloc] at sz1
  try clear u0 u1 u2 u3
  try clear u0 u1
  try clear v0 v1 v2 v3
  try clear v0 v1
  try clear z0 z1 z2 z3
  try clear z0 z1
  try clear p0 p1 p2 p3
  try clear p0 p1
  try clear fa0 fa1 fa2 fa3
  try clear fa0 fa1
  try clear fb0 fb1 fb2 fb3
  try clear fb0 fb1
  try clear fc0 fc1 fc2 fc3
  try clear fc0 fc1
  try clear fd0 fd1 fd2 fd3
  try clear fd0 fd1
  clear bb
  obtain ⟨u0, u1⟩ := V0_1.out
  have bb := (Below.refl (w.alloc (.cells #[.slice a0 r0 cap0, .slice b0 s0 dap0] 24)).heap.size (w.alloc (.cells #[.slice a0 r0 cap0, .slice b0 s0 dap0] 24))).alloc (Nat.le_refl _) (.cells #[.slice a1 r1 cap1, .slice b1 s1 dap1] 24)
  have V1_2 := Vl.hide (Vo.bx_new (w.alloc (.cells #[.slice a0 r0 cap0, .slice b0 s0 dap0] 24)) (.slice a1 r1 cap1) (.slice b1 s1 dap1) 24)
  simp only [World.size_alloc] at V1_2
  have B2 := Vl.hide (B1.out.trans (Below.mono bb B1.out.size))
  have sz2 : (w.heap.size + 1) ≤ ((w.alloc (.cells #[.slice a0 r0 cap0, .slice b0 s0 dap0] 24)).alloc (.cells #[.slice a1 r1 cap1, .slice b1 s1 dap1] 24)).heap.size := by have qz := bb.size; (try simp only [World.size_alloc] at qz); (try simp only [World.size_alloc]); exact qz
  simp only [World.size_alloc] at sz2
  try clear u0 u1 u2 u3
  try clear u0 u1
  try clear v0 v1 v2 v3
  try clear v0 v1
  try clear z0 z1 z2 z3
  try clear z0 z1
  try clear p0 p1 p2 p3
  try clear p0 p1
  try clear fa0 fa1 fa2 fa3
  try clear fa0 fa1
  try clear fb0 fb1 fb2 fb3
  try clear fb0 fb1
  try clear fc0 fc1 fc2 fc3
  try clear fc0 fc1
  try clear fd0 fd1 fd2 fd3
  try clear fd0 fd1
  have V0_2 := Vl.hide (Vo.Bx.below V0_1.out bb (by first | omega | (simp; done) | (simp; omega)))
  obtain ⟨u0, u1⟩ := V0_2.out
  clear bb
  obtain ⟨v0, v1⟩ := V1_2.out
  have bb := (Below.refl ((w.alloc (.cells #[.slice a0 r0 cap0, .slice b0 s0 dap0] 24)).alloc (.cells #[.slice a1 r1 cap1, .slice b1 s1 dap1] 24)).heap.size ((w.alloc (.cells #[.slice a0 r0 cap0, .slice b0 s0 dap0] 24)).alloc (.cells #[.slice a1 r1 cap1, .slice b1 s1 dap1] 24))).alloc (Nat.le_refl _) (.cells #[.slice a2 r2 cap2, .slice b2 s2 dap2] 24)
  have V2_3 := Vl.hide (Vo.bx_new ((w.alloc (.cells #[.slice a0 r0 cap0, .slice b0 s0 dap0] 24)).alloc (.cells #[.slice a1 r1 cap1, .slice b1 s1 dap1] 24)) (.slice a2 r2 cap2) (.slice b2 s2 dap2) 24)
  simp only [World.size_alloc] at V2_3
  have B3 := Vl.hide (B2.out.trans (Below.mono bb B2.out.size))
  have sz3 : ((w.heap.size + 1) + 1) ≤ (((w.alloc (.cells #[.slice a0 r0 cap0, .slice b0 s0 dap0] 24)).alloc (.cells #[.slice a1 r1 cap1, .slice b1 s1 dap1] 24)).alloc (.cells #[.slice a2 r2 cap2, .slice b2 s2 dap2] 24)).heap.size := by have qz := bb.size; (try simp only [World.size_alloc] at qz); (try simp only [World.size_alloc]); exact qz
  simp only [World.size_alloc] at sz3
  try clear u0 u1 u2 u3
  try clear u0 u1
  try clear v0 v1 v2 v3
  try clear v0 v1
  try clear z0 z1 z2 z3
  try clear z0 z1
  try clear p0 p1 p2 p3
  try clear p0 p1
  try clear fa0 fa1 fa2 fa3
  try clear fa0 fa1
  try clear fb0 fb1 fb2 fb3
  try clear fb0 fb1
  try clear fc0 fc1 fc2 fc3
  try clear fc0 fc1
  try clear fd0 fd1 fd2 fd3
  try clear fd0 fd1
  have V0_3 := Vl.hide (Vo.Bx.below V0_2.out bb (by first | omega | (simp; done) | (simp; omega)))
  have V1_3 := Vl.hide (Vo.Bx.below V1_2.out bb (by first | omega | (simp; done) | (simp; omega)))
  obtain ⟨u0, u1⟩ := V0_3.out
  obtain ⟨v0, v1⟩ := V1_3.out
  clear bb
  obtain ⟨z0, z1⟩ := V2_3.out
  go_enter Try.func4, Try.ntmps4
  go_wp2_with fail
  refine (Vo.szTensor a0 b0 r0 s0 cap0 dap0 1048576 _ (by omega) (by omega) hr0 hs0).mono ?_; rintro e W4 ⟨x0, rfl, hx0, bb⟩
  have B4 := Vl.hide (B3.out.trans (Below.mono bb B3.out.size))
  have sz4 : (((w.heap.size + 1) + 1) + 1) ≤ W4.heap.size := by have qz := bb.size; (try simp only [World.size_alloc] at qz); (try simp only [World.size_alloc]); exact qz
  try clear u0 u1 u2 u3
  try clear u0 u1
  try clear v0 v1 v2 v3
  try clear v0 v1
  try clear z0 z1 z2 z3
  try clear z0 z1
  try clear p0 p1 p2 p3
  try clear p0 p1
  try clear fa0 fa1 fa2 fa3
  try clear fa0 fa1
  try clear fb0 fb1 fb2 fb3
  try clear fb0 fb1
  try clear fc0 fc1 fc2 fc3
  try clear fc0 fc1
  try clear fd0 fd1 fd2 fd3
  try clear fd0 fd1
  have V0_4 := Vl.hide (Vo.Bx.below V0_3.out bb (by first | omega | (simp; done) | (simp; omega)))
  have V1_4 := Vl.hide (Vo.Bx.below V1_3.out bb (by first | omega | (simp; done) | (simp; omega)))
  have V2_4 := Vl.hide (Vo.Bx.below V2_3.out bb (by first | omega | (simp; done) | (simp; omega)))
  obtain ⟨u0, u1⟩ := V0_4.out
  obtain ⟨v0, v1⟩ := V1_4.out
  obtain ⟨z0, z1⟩ := V2_4.out
  clear bb
  by_cases hn0 : x0 < 0
  · clear hx0
    go_wp2_with fail
    go_ret
    exact ⟨rfl, B4.out⟩
  have hm0 : decide (x0 < 0) = false := by rw [decide_eq_false_iff_not]; exact hn0
  obtain ⟨lx0, lr0, ls0⟩ := hx0 (by omega)
  have lz0 : 0 ≤ x0 := by omega
  clear hn0 hx0 hr0 hs0
  go_wp2_with fail
  refine (Vo.szTensor a1 b1 r1 s1 cap1 dap1 x0 _ (by omega) (by omega) hr1 hs1).mono ?_; rintro e W5 ⟨x1, rfl, hx1, bb⟩
  have B5 := Vl.hide (B4.out.trans (Below.mono bb B4.out.size))
  have sz5 : W4.heap.size ≤ W5.heap.size := by have qz := bb.size; (try simp only [World.size_alloc] at qz); (try simp only [World.size_alloc]); exact qz
  try clear u0 u1 u2 u3
  try clear u0 u1
  try clear v0 v1 v2 v3
  try clear v0 v1
  try clear z0 z1 z2 z3
  try clear z0 z1
  try clear p0 p1 p2 p3
  try clear p0 p1
  try clear fa0 fa1 fa2 fa3
  try clear fa0 fa1
  try clear fb0 fb1 fb2 fb3
  try clear fb0 fb1
  try clear fc0 fc1 fc2 fc3
  try clear fc0 fc1
  try clear fd0 fd1 fd2 fd3
  try clear fd0 fd1
  have V0_5 := Vl.hide (Vo.Bx.below V0_4.out bb (by first | omega | (simp; done) | (simp; omega)))
  have V1_5 := Vl.hide (Vo.Bx.below V1_4.out bb (by first | omega | (simp; done) | (simp; omega)))
  have V2_5 := Vl.hide (Vo.Bx.below V2_4.out bb (by first | omega | (simp; done) | (simp; omega)))
  obtain ⟨u0, u1⟩ := V0_5.out
  obtain ⟨v0, v1⟩ := V1_5.out
  obtain ⟨z0, z1⟩ := V2_5.out
  clear bb
  by_cases hn1 : x1 < 0
  · clear hx1
    go_wp2_with fail
    go_ret
    exact ⟨rfl, B5.out⟩
  have hm1 : decide (x1 < 0) = false := by rw [decide_eq_false_iff_not]; exact hn1
  obtain ⟨lx1, lr1, ls1⟩ := hx1 (by omega)
  have lz1 : 0 ≤ x1 := by omega
  clear hn1 hx1 hr1 hs1
  go_wp2_with fail
  refine (Vo.szTensor a2 b2 r2 s2 cap2 dap2 x1 _ (by omega) (by omega) hr2 hs2).mono ?_; rintro e W6 ⟨x2, rfl, hx2, bb⟩
  have B6 := Vl.hide (B5.out.trans (Below.mono bb B5.out.size))
  have sz6 : W5.heap.size ≤ W6.heap.size := by have qz := bb.size; (try simp only [World.size_alloc] at qz); (try simp only [World.size_alloc]); exact qz
  try clear u0 u1 u2 u3
  try clear u0 u1
  try clear v0 v1 v2 v3
  try clear v0 v1
  try clear z0 z1 z2 z3
  try clear z0 z1
  try clear p0 p1 p2 p3
  try clear p0 p1
  try clear fa0 fa1 fa2 fa3
  try clear fa0 fa1
  try clear fb0 fb1 fb2 fb3
  try clear fb0 fb1
  try clear fc0 fc1 fc2 fc3
  try clear fc0 fc1
  try clear fd0 fd1 fd2 fd3
  try clear fd0 fd1
  have V0_6 := Vl.hide (Vo.Bx.below V0_5.out bb (by first | omega | (simp; done) | (simp; omega)))
  have V1_6 := Vl.hide (Vo.Bx.below V1_5.out bb (by first | omega | (simp; done) | (simp; omega)))
  have V2_6 := Vl.hide (Vo.Bx.below V2_5.out bb (by first | omega | (simp; done) | (simp; omega)))
  obtain ⟨u0, u1⟩ := V0_6.out
  obtain ⟨v0, v1⟩ := V1_6.out
  obtain ⟨z0, z1⟩ := V2_6.out
  clear bb
  by_cases hn2 : x2 < 0
  · clear hx2
    go_wp2_with fail
    go_ret
    exact ⟨rfl, B6.out⟩
  have hm2 : decide (x2 < 0) = false := by rw [decide_eq_false_iff_not]; exact hn2
  obtain ⟨lx2, lr2, ls2⟩ := hx2 (by omega)
  have lz2 : 0 ≤ x2 := by omega
  clear hn2 hx2 hr2 hs2
  have d3 : Vl.bd a3 := bounds_i64 w3
  have lv : (((Vo.attP ⟨none, none, r0, s0, r0, s0, D0, S0⟩ ⟨none, none, r1, s1, r1, s1, D1, S1⟩ ⟨none, none, r2, s2, r2, s2, D2, S2⟩ a3).r : Nat) : Int) ≤ 1048576 := by have := (Vo.attP_le ⟨none, none, r0, s0, r0, s0, D0, S0⟩ ⟨none, none, r1, s1, r1, s1, D1, S1⟩ ⟨none, none, r2, s2, r2, s2, D2, S2⟩ a3).1; omega
  have lw : (((Vo.attP ⟨none, none, r0, s0, r0, s0, D0, S0⟩ ⟨none, none, r1, s1, r1, s1, D1, S1⟩ ⟨none, none, r2, s2, r2, s2, D2, S2⟩ a3).s : Nat) : Int) ≤ 1048576 := by have := (Vo.attP_le ⟨none, none, r0, s0, r0, s0, D0, S0⟩ ⟨none, none, r1, s1, r1, s1, D1, S1⟩ ⟨none, none, r2, s2, r2, s2, D2, S2⟩ a3).2; omega
  obtain ⟨T, hT⟩ : ∃ T, (Vo.attP ⟨none, none, r0, s0, r0, s0, D0, S0⟩ ⟨none, none, r1, s1, r1, s1, D1, S1⟩ ⟨none, none, r2, s2, r2, s2, D2, S2⟩ a3) = T := ⟨_, rfl⟩
  have CS := Vl.hide (show ∀ (B : Nat) (g0 g0' g1 g1' g2 g2' : Addr) (w : World) (hB : B ≤ w.heap.size) (h0 : Vl.Ints B w (some g0) r0 D0) (h0' : Vl.Ints B w (some g0') s0 S0) (h1 : Vl.Ints B w (some g1) r1 D1) (h1' : Vl.Ints B w (some g1') s1 S1) (h2 : Vl.Ints B w (some g2) r2 D2) (h2' : Vl.Ints B w (some g2') s2 S2), Calls Try.prog 13 #[.agg #[.slice (some g0) r0 r0, .slice (some g0') s0 s0], .agg #[.slice (some g1) r1 r1, .slice (some g1') s1 s1], .agg #[.slice (some g2) r2 r2, .slice (some g2') s2 s2], .int .i64 a3] w fun e w' => Vo.TensR w.heap.size T w e w' from fun B g0 g0' g1 g1' g2 g2' w hB h0 h0' h1 h1' h2 h2' => by rw [← hT]; exact ((Vo.attP_same (q := ⟨none, none, r0, s0, r0, s0, D0, S0⟩) (k := ⟨none, none, r1, s1, r1, s1, D1, S1⟩) (v := ⟨none, none, r2, s2, r2, s2, D2, S2⟩) (q' := ⟨some g0, some g0', r0, s0, r0, s0, D0, S0⟩) (k' := ⟨some g1, some g1', r1, s1, r1, s1, D1, S1⟩) (v' := ⟨some g2, some g2', r2, s2, r2, s2, D2, S2⟩) (w := a3) ⟨rfl, rfl, rfl, rfl⟩ ⟨rfl, rfl, rfl, rfl⟩ ⟨rfl, rfl, rfl, rfl⟩).symm ▸ Vo.specAttend B ⟨some g0, some g0', r0, s0, r0, s0, D0, S0⟩ ⟨some g1, some g1', r1, s1, r1, s1, D1, S1⟩ ⟨some g2, some g2', r2, s2, r2, s2, D2, S2⟩ a3 w hB ⟨h0, h0'⟩ ⟨h1, h1'⟩ ⟨h2, h2'⟩ ⟨lr0, ls0⟩ ⟨lr1, ls1⟩ ⟨lr2, ls2⟩ ⟨(Nat.le_refl _), (Nat.le_refl _)⟩ ⟨(Nat.le_refl _), (Nat.le_refl _)⟩ ⟨(Nat.le_refl _), (Nat.le_refl _)⟩ d3))
  have CI := Vl.hide (show ∀ (B : Nat) (g0 g0' g1 g1' g2 g2' : Addr) (w : World) (hB : B ≤ w.heap.size) (h0 : Vl.Ints B w (some g0) r0 D0) (h0' : Vl.Ints B w (some g0') s0 S0) (h1 : Vl.Ints B w (some g1) r1 D1) (h1' : Vl.Ints B w (some g1') s1 S1) (h2 : Vl.Ints B w (some g2) r2 D2) (h2' : Vl.Ints B w (some g2') s2 S2), Calls Try.prog 14 #[.agg #[.slice (some g0) r0 r0, .slice (some g0') s0 s0], .agg #[.slice (some g1) r1 r1, .slice (some g1') s1 s1], .agg #[.slice (some g2) r2 r2, .slice (some g2') s2 s2], .int .i64 a3] w fun e w' => Vo.TensR w.heap.size T w e w' from fun B g0 g0' g1 g1' g2 g2' w hB h0 h0' h1 h1' h2 h2' => by rw [← hT]; exact ((Vo.attP_same (q := ⟨none, none, r0, s0, r0, s0, D0, S0⟩) (k := ⟨none, none, r1, s1, r1, s1, D1, S1⟩) (v := ⟨none, none, r2, s2, r2, s2, D2, S2⟩) (q' := ⟨some g0, some g0', r0, s0, r0, s0, D0, S0⟩) (k' := ⟨some g1, some g1', r1, s1, r1, s1, D1, S1⟩) (v' := ⟨some g2, some g2', r2, s2, r2, s2, D2, S2⟩) (w := a3) ⟨rfl, rfl, rfl, rfl⟩ ⟨rfl, rfl, rfl, rfl⟩ ⟨rfl, rfl, rfl, rfl⟩).symm ▸ Vo.attendF B ⟨some g0, some g0', r0, s0, r0, s0, D0, S0⟩ ⟨some g1, some g1', r1, s1, r1, s1, D1, S1⟩ ⟨some g2, some g2', r2, s2, r2, s2, D2, S2⟩ a3 w hB ⟨h0, h0'⟩ ⟨h1, h1'⟩ ⟨h2, h2'⟩ ⟨lr0, ls0⟩ ⟨lr1, ls1⟩ ⟨lr2, ls2⟩ ⟨(Nat.le_refl _), (Nat.le_refl _)⟩ ⟨(Nat.le_refl _), (Nat.le_refl _)⟩ ⟨(Nat.le_refl _), (Nat.le_refl _)⟩ d3))
  rw [hT] at lv lw
  clear hT
  have HT0 := Vl.hide (fun (W : World) (hW : Below W6.heap.size W6 W) => Vo.toTensor w.heap.size a0 b0 r0 s0 cap0 dap0 D0 S0 W (H0.out.below (B6.out.trans (hW.mono B6.out.size))) (K0.out.below (B6.out.trans (hW.mono B6.out.size))) (Nat.le_trans B6.out.size hW.size) lr0 ls0)
  have HV0 := Vl.hide (fun (W : World) (hW : Below W6.heap.size W6 W) => Vo.Bx.below V0_6.out hW (by omega))
  have HT1 := Vl.hide (fun (W : World) (hW : Below W6.heap.size W6 W) => Vo.toTensor w.heap.size a1 b1 r1 s1 cap1 dap1 D1 S1 W (H1.out.below (B6.out.trans (hW.mono B6.out.size))) (K1.out.below (B6.out.trans (hW.mono B6.out.size))) (Nat.le_trans B6.out.size hW.size) lr1 ls1)
  have HV1 := Vl.hide (fun (W : World) (hW : Below W6.heap.size W6 W) => Vo.Bx.below V1_6.out hW (by omega))
  have HT2 := Vl.hide (fun (W : World) (hW : Below W6.heap.size W6 W) => Vo.toTensor w.heap.size a2 b2 r2 s2 cap2 dap2 D2 S2 W (H2.out.below (B6.out.trans (hW.mono B6.out.size))) (K2.out.below (B6.out.trans (hW.mono B6.out.size))) (Nat.le_trans B6.out.size hW.size) lr2 ls2)
  have HV2 := Vl.hide (fun (W : World) (hW : Below W6.heap.size W6 W) => Vo.Bx.below V2_6.out hW (by omega))
  go_wp2_with fail
  refine Qf.facts2 9 (by kernel_rfl) (by kernel_rfl) (by kernel_rfl) (fun i v wx => match i with | 0 => v = .agg #[.slice a0 r0 cap0, .slice b0 s0 dap0] | 1 => Vo.TenV W6.heap.size r0 s0 D0 S0 v wx | 2 => v = .agg #[.slice a1 r1 cap1, .slice b1 s1 dap1] | 3 => Vo.TenV W6.heap.size r1 s1 D1 S1 v wx | 4 => v = .agg #[.slice a2 r2 cap2, .slice b2 s2 dap2] | 5 => Vo.TenV W6.heap.size r2 s2 D2 S2 v wx | 6 => v = .int .i64 a3 | 7 => Vo.TenW W6.heap.size T v wx | 8 => Vo.PtrZ W6.heap.size v wx | _ => True) ?stable ?steps ?rest
  case stable =>
    intro i v w1 w2 h hb
    match i, h with
    | 0, h => exact h
    | 1, h => exact Vo.TenV.below h hb
    | 2, h => exact h
    | 3, h => exact Vo.TenV.below h hb
    | 4, h => exact h
    | 5, h => exact Vo.TenV.below h hb
    | 6, h => exact h
    | 7, h => exact Vo.TenW.below h hb
    | 8, h => exact Vo.PtrZ.below h hb
    | _ + 9, h => exact h
  case steps =>
    intro i o hi ho s A w1 hb hk hA hO
    match i, hi, ho, hk with
    | 0, _, ho, hk =>
      cases ho
      exact Qf.lands_val _ _ (Vo.runLoadT rfl ((hO 4 (by rfl)).trans rfl) (HV0.out w1 hb)) ⟨Below.refl _ _, rfl⟩
    | 1, _, ho, hk =>
      cases ho
      have e0 := hk 0 (by kernel_rfl)
      have h0 := hA 0 _ 34 (by decide) rfl rfl (by simp)
      rw [e0] at h0
      refine Qf.lands_call 8 _ _ rfl (enters_of Try.func8 (by kernel_rfl) rfl) _ (by simp [h0]) ((HT0.out w1 hb).mono ?_)
      rintro e w2 ⟨g5, g6, rfl, qA, bA⟩
      exact ⟨_, rfl, bA, g5, g6, rfl, qA.mono hb.size⟩
    | 2, _, ho, hk =>
      cases ho
      exact Qf.lands_val _ _ (Vo.runLoadT rfl ((hO 5 (by rfl)).trans rfl) (HV1.out w1 hb)) ⟨Below.refl _ _, rfl⟩
    | 3, _, ho, hk =>
      cases ho
      have e0 := hk 2 (by kernel_rfl)
      have h0 := hA 2 _ 36 (by decide) rfl rfl (by simp)
      rw [e0] at h0
      refine Qf.lands_call 8 _ _ rfl (enters_of Try.func8 (by kernel_rfl) rfl) _ (by simp [h0]) ((HT1.out w1 hb).mono ?_)
      rintro e w2 ⟨g5, g6, rfl, qA, bA⟩
      exact ⟨_, rfl, bA, g5, g6, rfl, qA.mono hb.size⟩
    | 4, _, ho, hk =>
      cases ho
      exact Qf.lands_val _ _ (Vo.runLoadT rfl ((hO 6 (by rfl)).trans rfl) (HV2.out w1 hb)) ⟨Below.refl _ _, rfl⟩
    | 5, _, ho, hk =>
      cases ho
      have e0 := hk 4 (by kernel_rfl)
      have h0 := hA 4 _ 38 (by decide) rfl rfl (by simp)
      rw [e0] at h0
      refine Qf.lands_call 8 _ _ rfl (enters_of Try.func8 (by kernel_rfl) rfl) _ (by simp [h0]) ((HT2.out w1 hb).mono ?_)
      rintro e w2 ⟨g5, g6, rfl, qA, bA⟩
      exact ⟨_, rfl, bA, g5, g6, rfl, qA.mono hb.size⟩
    | 6, _, ho, hk =>
      cases ho
      exact Qf.lands_move _ rfl _ ((hO 3 (by rfl)).trans rfl) ⟨Below.refl _ _, rfl⟩
    | 7, _, ho, hk =>
      cases ho
      have h1 := hA 1 _ 35 (by decide) rfl rfl (by simp)
      obtain ⟨x1, y1, e1, q1⟩ := hk 1 (by kernel_rfl)
      rw [e1] at h1
      have h3 := hA 3 _ 37 (by decide) rfl rfl (by simp)
      obtain ⟨x3, y3, e3, q3⟩ := hk 3 (by kernel_rfl)
      rw [e3] at h3
      have h5 := hA 5 _ 39 (by decide) rfl rfl (by simp)
      obtain ⟨x5, y5, e5, q5⟩ := hk 5 (by kernel_rfl)
      rw [e5] at h5
      have h6 := hA 6 _ 40 (by decide) rfl rfl (by simp)
      have e6 := hk 6 (by kernel_rfl)
      rw [e6] at h6
      refine Qf.lands_call 13 _ _ rfl (enters_of Try.func13 (by kernel_rfl) rfl) _ (by simp [h1, h3, h5, h6]) ((CS.out _ _ _ _ _ _ _ w1 (Nat.le_refl _) q1.d.ints q1.t.ints q3.d.ints q3.t.ints q5.d.ints q5.t.ints).mono ?_)
      rintro e w2 ⟨ta, tb, tc, td, rfl, qs, bC⟩
      exact ⟨_, rfl, bC, ta, tb, tc, td, rfl, qs.mono hb.size⟩
    | 8, _, ho, hk =>
      cases ho
      exact Qf.lands_val _ _ (Vo.runAllocT rfl) (Vo.ptrZ_new _ w1 hb.size)
    | _ + 9, hi, _, _ => exact absurd hi (by omega)
  case rest =>
  intro s WC1 hbS hk
  have e0 : s 0 = .agg #[.slice a0 r0 cap0, .slice b0 s0 dap0] := hk 0 (by decide)
  obtain ⟨x1, y1, e1, _⟩ := hk 1 (by decide)
  have e2 : s 2 = .agg #[.slice a1 r1 cap1, .slice b1 s1 dap1] := hk 2 (by decide)
  obtain ⟨x3, y3, e3, _⟩ := hk 3 (by decide)
  have e4 : s 4 = .agg #[.slice a2 r2 cap2, .slice b2 s2 dap2] := hk 4 (by decide)
  obtain ⟨x5, y5, e5, _⟩ := hk 5 (by decide)
  have e6 : s 6 = .int .i64 a3 := hk 6 (by decide)
  obtain ⟨sa, sb, sc, sd, e7, qs⟩ := hk 7 (by decide)
  obtain ⟨P1, e8, lP, hP, bz, fz⟩ := hk 8 (by decide)
  have LF := Vl.hide (Vo.left_set2 (tc := sc) (td := sd) qs hbS bz lP hP)
  simp only [List.take_succ_cons, List.take_zero, List.drop_succ_cons, List.drop_zero, Qf.lay, Qf.all1, if_true, e0, e1, e2, e3, e4, e5, e6, e7, e8]
  clear hk qs hbS e0 e1 e2 e3 e4 e5 e6 e7 e8 HT0 HV0 HT1 HV1 HT2 HV2
  obtain ⟨zz0, zz1⟩ := bz
  unfold Vo.Free at fz
  obtain ⟨WX1, hWX1⟩ : ∃ X, (WC1.setCell ⟨P1, 0, none⟩ (.slice sa T.r sc)).setCell ⟨P1, 1, none⟩ (.slice sb T.s sd) = X := ⟨_, rfl⟩
  rw [hWX1] at LF
  obtain ⟨hP1, bx1, qs1, bb⟩ := LF.out
  clear LF
  have S_7 := Vl.hide bx1
  have B7 := Vl.hide (B6.out.trans (Below.mono bb B6.out.size))
  have sz7 : W6.heap.size ≤ WX1.heap.size := by have qz := bb.size; (try simp only [World.size_alloc] at qz); (try simp only [World.size_alloc]); exact qz
  try clear u0 u1 u2 u3
  try clear u0 u1
  try clear v0 v1 v2 v3
  try clear v0 v1
  try clear z0 z1 z2 z3
  try clear z0 z1
  try clear p0 p1 p2 p3
  try clear p0 p1
  try clear fa0 fa1 fa2 fa3
  try clear fa0 fa1
  try clear fb0 fb1 fb2 fb3
  try clear fb0 fb1
  try clear fc0 fc1 fc2 fc3
  try clear fc0 fc1
  try clear fd0 fd1 fd2 fd3
  try clear fd0 fd1
  have V0_7 := Vl.hide (Vo.Bx.below V0_6.out bb (by first | omega | (simp; done) | (simp; omega)))
  have V1_7 := Vl.hide (Vo.Bx.below V1_6.out bb (by first | omega | (simp; done) | (simp; omega)))
  have V2_7 := Vl.hide (Vo.Bx.below V2_6.out bb (by first | omega | (simp; done) | (simp; omega)))
  obtain ⟨u0, u1⟩ := V0_7.out
  obtain ⟨v0, v1⟩ := V1_7.out
  obtain ⟨z0, z1⟩ := V2_7.out
  clear bb
  obtain ⟨p0, p1⟩ := S_7.out
  clear bx1
  have QS_7 := Vl.hide qs1
  clear qs1
  have uu := fun k q => QS_7.out.blk (k := k) q
  try simp only [World.size_alloc] at uu
  have UQS := Vl.hide uu
  clear uu
  go_wp2_with fail
  refine (Vo.toTensor w.heap.size a0 b0 r0 s0 cap0 dap0 D0 S0 _ (H0.out.below B7.out) (K0.out.below B7.out) B7.out.size lr0 ls0).mono ?_; rintro e W8 ⟨gx0, gx0', rfl, q8, bb⟩
  have B8 := Vl.hide (B7.out.trans (Below.mono bb B7.out.size))
  have sz8 : WX1.heap.size ≤ W8.heap.size := by have qz := bb.size; (try simp only [World.size_alloc] at qz); (try simp only [World.size_alloc]); exact qz
  try clear u0 u1 u2 u3
  try clear u0 u1
  try clear v0 v1 v2 v3
  try clear v0 v1
  try clear z0 z1 z2 z3
  try clear z0 z1
  try clear p0 p1 p2 p3
  try clear p0 p1
  try clear fa0 fa1 fa2 fa3
  try clear fa0 fa1
  try clear fb0 fb1 fb2 fb3
  try clear fb0 fb1
  try clear fc0 fc1 fc2 fc3
  try clear fc0 fc1
  try clear fd0 fd1 fd2 fd3
  try clear fd0 fd1
  have V0_8 := Vl.hide (Vo.Bx.below V0_7.out bb (by first | omega | (simp; done) | (simp; omega)))
  have V1_8 := Vl.hide (Vo.Bx.below V1_7.out bb (by first | omega | (simp; done) | (simp; omega)))
  have V2_8 := Vl.hide (Vo.Bx.below V2_7.out bb (by first | omega | (simp; done) | (simp; omega)))
  have S_8 := Vl.hide (Vo.Bx.below S_7.out bb (by first | omega | (simp; done) | (simp; omega)))
  have QS_8 := Vl.hide (QS_7.out.below bb)
  obtain ⟨u0, u1⟩ := V0_8.out
  obtain ⟨v0, v1⟩ := V1_8.out
  obtain ⟨z0, z1⟩ := V2_8.out
  obtain ⟨p0, p1⟩ := S_8.out
  clear bb
  have QX0_8 := Vl.hide q8
  clear q8
  have uu := fun k q => QX0_8.out.blk (k := k) q
  try simp only [World.size_alloc] at uu
  have UQX0 := Vl.hide uu
  clear uu
  have bb := (Below.refl W8.heap.size W8).alloc (Nat.le_refl _) (.cells #[.slice (some ⟨gx0, 0, none⟩) r0 r0, .slice (some ⟨gx0', 0, none⟩) s0 s0] 26)
  have X0_9 := Vl.hide (Vo.bx_new W8 (.slice (some ⟨gx0, 0, none⟩) r0 r0) (.slice (some ⟨gx0', 0, none⟩) s0 s0) 26)
  have B9 := Vl.hide (B8.out.trans (Below.mono bb B8.out.size))
  have sz9 : W8.heap.size ≤ (W8.alloc (.cells #[.slice (some ⟨gx0, 0, none⟩) r0 r0, .slice (some ⟨gx0', 0, none⟩) s0 s0] 26)).heap.size := by have qz := bb.size; (try simp only [World.size_alloc] at qz); (try simp only [World.size_alloc]); exact qz
  simp only [World.size_alloc] at sz9
  try clear u0 u1 u2 u3
  try clear u0 u1
  try clear v0 v1 v2 v3
  try clear v0 v1
  try clear z0 z1 z2 z3
  try clear z0 z1
  try clear p0 p1 p2 p3
  try clear p0 p1
  try clear fa0 fa1 fa2 fa3
  try clear fa0 fa1
  try clear fb0 fb1 fb2 fb3
  try clear fb0 fb1
  try clear fc0 fc1 fc2 fc3
  try clear fc0 fc1
  try clear fd0 fd1 fd2 fd3
  try clear fd0 fd1
  have V0_9 := Vl.hide (Vo.Bx.below V0_8.out bb (by first | omega | (simp; done) | (simp; omega)))
  have V1_9 := Vl.hide (Vo.Bx.below V1_8.out bb (by first | omega | (simp; done) | (simp; omega)))
  have V2_9 := Vl.hide (Vo.Bx.below V2_8.out bb (by first | omega | (simp; done) | (simp; omega)))
  have S_9 := Vl.hide (Vo.Bx.below S_8.out bb (by first | omega | (simp; done) | (simp; omega)))
  have QS_9 := Vl.hide (QS_8.out.below bb)
  have QX0_9 := Vl.hide (QX0_8.out.below bb)
  obtain ⟨u0, u1⟩ := V0_9.out
  obtain ⟨v0, v1⟩ := V1_9.out
  obtain ⟨z0, z1⟩ := V2_9.out
  obtain ⟨p0, p1⟩ := S_9.out
  clear bb
  obtain ⟨fa0, fa1⟩ := X0_9.out
  go_wp2_with fail
  refine (Vo.toTensor w.heap.size a1 b1 r1 s1 cap1 dap1 D1 S1 _ (H1.out.below B9.out) (K1.out.below B9.out) B9.out.size lr1 ls1).mono ?_; rintro e W10 ⟨gx1, gx1', rfl, q10, bb⟩
  have B10 := Vl.hide (B9.out.trans (Below.mono bb B9.out.size))
  have sz10 : (W8.heap.size + 1) ≤ W10.heap.size := by have qz := bb.size; (try simp only [World.size_alloc] at qz); (try simp only [World.size_alloc]); exact qz
  try clear u0 u1 u2 u3
  try clear u0 u1
  try clear v0 v1 v2 v3
  try clear v0 v1
  try clear z0 z1 z2 z3
  try clear z0 z1
  try clear p0 p1 p2 p3
  try clear p0 p1
  try clear fa0 fa1 fa2 fa3
  try clear fa0 fa1
  try clear fb0 fb1 fb2 fb3
  try clear fb0 fb1
  try clear fc0 fc1 fc2 fc3
  try clear fc0 fc1
  try clear fd0 fd1 fd2 fd3
  try clear fd0 fd1
  have V0_10 := Vl.hide (Vo.Bx.below V0_9.out bb (by first | omega | (simp; done) | (simp; omega)))
  have V1_10 := Vl.hide (Vo.Bx.below V1_9.out bb (by first | omega | (simp; done) | (simp; omega)))
  have V2_10 := Vl.hide (Vo.Bx.below V2_9.out bb (by first | omega | (simp; done) | (simp; omega)))
  have S_10 := Vl.hide (Vo.Bx.below S_9.out bb (by first | omega | (simp; done) | (simp; omega)))
  have QS_10 := Vl.hide (QS_9.out.below bb)
  have QX0_10 := Vl.hide (QX0_9.out.below bb)
  have X0_10 := Vl.hide (Vo.Bx.below X0_9.out bb (by first | omega | (simp; done) | (simp; omega)))
  obtain ⟨u0, u1⟩ := V0_10.out
  obtain ⟨v0, v1⟩ := V1_10.out
  obtain ⟨z0, z1⟩ := V2_10.out
  obtain ⟨p0, p1⟩ := S_10.out
  obtain ⟨fa0, fa1⟩ := X0_10.out
  clear bb
  have QX1_10 := Vl.hide q10
  clear q10
  have uu := fun k q => QX1_10.out.blk (k := k) q
  try simp only [World.size_alloc] at uu
  have UQX1 := Vl.hide uu
  clear uu
  have bb := (Below.refl W10.heap.size W10).alloc (Nat.le_refl _) (.cells #[.slice (some ⟨gx1, 0, none⟩) r1 r1, .slice (some ⟨gx1', 0, none⟩) s1 s1] 26)
  have X1_11 := Vl.hide (Vo.bx_new W10 (.slice (some ⟨gx1, 0, none⟩) r1 r1) (.slice (some ⟨gx1', 0, none⟩) s1 s1) 26)
  have B11 := Vl.hide (B10.out.trans (Below.mono bb B10.out.size))
  have sz11 : W10.heap.size ≤ (W10.alloc (.cells #[.slice (some ⟨gx1, 0, none⟩) r1 r1, .slice (some ⟨gx1', 0, none⟩) s1 s1] 26)).heap.size := by have qz := bb.size; (try simp only [World.size_alloc] at qz); (try simp only [World.size_alloc]); exact qz
  simp only [World.size_alloc] at sz11
  try clear u0 u1 u2 u3
  try clear u0 u1
  try clear v0 v1 v2 v3
  try clear v0 v1
  try clear z0 z1 z2 z3
  try clear z0 z1
  try clear p0 p1 p2 p3
  try clear p0 p1
  try clear fa0 fa1 fa2 fa3
  try clear fa0 fa1
  try clear fb0 fb1 fb2 fb3
  try clear fb0 fb1
  try clear fc0 fc1 fc2 fc3
  try clear fc0 fc1
  try clear fd0 fd1 fd2 fd3
  try clear fd0 fd1
  have V0_11 := Vl.hide (Vo.Bx.below V0_10.out bb (by first | omega | (simp; done) | (simp; omega)))
  have V1_11 := Vl.hide (Vo.Bx.below V1_10.out bb (by first | omega | (simp; done) | (simp; omega)))
  have V2_11 := Vl.hide (Vo.Bx.below V2_10.out bb (by first | omega | (simp; done) | (simp; omega)))
  have S_11 := Vl.hide (Vo.Bx.below S_10.out bb (by first | omega | (simp; done) | (simp; omega)))
  have QS_11 := Vl.hide (QS_10.out.below bb)
  have QX0_11 := Vl.hide (QX0_10.out.below bb)
  have X0_11 := Vl.hide (Vo.Bx.below X0_10.out bb (by first | omega | (simp; done) | (simp; omega)))
  have QX1_11 := Vl.hide (QX1_10.out.below bb)
  obtain ⟨u0, u1⟩ := V0_11.out
  obtain ⟨v0, v1⟩ := V1_11.out
  obtain ⟨z0, z1⟩ := V2_11.out
  obtain ⟨p0, p1⟩ := S_11.out
  obtain ⟨fa0, fa1⟩ := X0_11.out
  clear bb
  obtain ⟨fb0, fb1⟩ := X1_11.out
  go_wp2_with fail
  refine (Vo.toTensor w.heap.size a2 b2 r2 s2 cap2 dap2 D2 S2 _ (H2.out.below B11.out) (K2.out.below B11.out) B11.out.size lr2 ls2).mono ?_; rintro e W12 ⟨gx2, gx2', rfl, q12, bb⟩
  have B12 := Vl.hide (B11.out.trans (Below.mono bb B11.out.size))
  have sz12 : (W10.heap.size + 1) ≤ W12.heap.size := by have qz := bb.size; (try simp only [World.size_alloc] at qz); (try simp only [World.size_alloc]); exact qz
  try clear u0 u1 u2 u3
  try clear u0 u1
  try clear v0 v1 v2 v3
  try clear v0 v1
  try clear z0 z1 z2 z3
  try clear z0 z1
  try clear p0 p1 p2 p3
  try clear p0 p1
  try clear fa0 fa1 fa2 fa3
  try clear fa0 fa1
  try clear fb0 fb1 fb2 fb3
  try clear fb0 fb1
  try clear fc0 fc1 fc2 fc3
  try clear fc0 fc1
  try clear fd0 fd1 fd2 fd3
  try clear fd0 fd1
  have V0_12 := Vl.hide (Vo.Bx.below V0_11.out bb (by first | omega | (simp; done) | (simp; omega)))
  have V1_12 := Vl.hide (Vo.Bx.below V1_11.out bb (by first | omega | (simp; done) | (simp; omega)))
  have V2_12 := Vl.hide (Vo.Bx.below V2_11.out bb (by first | omega | (simp; done) | (simp; omega)))
  have S_12 := Vl.hide (Vo.Bx.below S_11.out bb (by first | omega | (simp; done) | (simp; omega)))
  have QS_12 := Vl.hide (QS_11.out.below bb)
  have QX0_12 := Vl.hide (QX0_11.out.below bb)
  have X0_12 := Vl.hide (Vo.Bx.below X0_11.out bb (by first | omega | (simp; done) | (simp; omega)))
  have QX1_12 := Vl.hide (QX1_11.out.below bb)
  have X1_12 := Vl.hide (Vo.Bx.below X1_11.out bb (by first | omega | (simp; done) | (simp; omega)))
  obtain ⟨u0, u1⟩ := V0_12.out
  obtain ⟨v0, v1⟩ := V1_12.out
  obtain ⟨z0, z1⟩ := V2_12.out
  obtain ⟨p0, p1⟩ := S_12.out
  obtain ⟨fa0, fa1⟩ := X0_12.out
  obtain ⟨fb0, fb1⟩ := X1_12.out
  clear bb
  have QX2_12 := Vl.hide q12
  clear q12
  have uu := fun k q => QX2_12.out.blk (k := k) q
  try simp only [World.size_alloc] at uu
  have UQX2 := Vl.hide uu
  clear uu
  have bb := (Below.refl W12.heap.size W12).alloc (Nat.le_refl _) (.cells #[.slice (some ⟨gx2, 0, none⟩) r2 r2, .slice (some ⟨gx2', 0, none⟩) s2 s2] 26)
  have X2_13 := Vl.hide (Vo.bx_new W12 (.slice (some ⟨gx2, 0, none⟩) r2 r2) (.slice (some ⟨gx2', 0, none⟩) s2 s2) 26)
  have B13 := Vl.hide (B12.out.trans (Below.mono bb B12.out.size))
  have sz13 : W12.heap.size ≤ (W12.alloc (.cells #[.slice (some ⟨gx2, 0, none⟩) r2 r2, .slice (some ⟨gx2', 0, none⟩) s2 s2] 26)).heap.size := by have qz := bb.size; (try simp only [World.size_alloc] at qz); (try simp only [World.size_alloc]); exact qz
  simp only [World.size_alloc] at sz13
  try clear u0 u1 u2 u3
  try clear u0 u1
  try clear v0 v1 v2 v3
  try clear v0 v1
  try clear z0 z1 z2 z3
  try clear z0 z1
  try clear p0 p1 p2 p3
  try clear p0 p1
  try clear fa0 fa1 fa2 fa3
  try clear fa0 fa1
  try clear fb0 fb1 fb2 fb3
  try clear fb0 fb1
  try clear fc0 fc1 fc2 fc3
  try clear fc0 fc1
  try clear fd0 fd1 fd2 fd3
  try clear fd0 fd1
  have V0_13 := Vl.hide (Vo.Bx.below V0_12.out bb (by first | omega | (simp; done) | (simp; omega)))
  have V1_13 := Vl.hide (Vo.Bx.below V1_12.out bb (by first | omega | (simp; done) | (simp; omega)))
  have V2_13 := Vl.hide (Vo.Bx.below V2_12.out bb (by first | omega | (simp; done) | (simp; omega)))
  have S_13 := Vl.hide (Vo.Bx.below S_12.out bb (by first | omega | (simp; done) | (simp; omega)))
  have QS_13 := Vl.hide (QS_12.out.below bb)
  have QX0_13 := Vl.hide (QX0_12.out.below bb)
  have X0_13 := Vl.hide (Vo.Bx.below X0_12.out bb (by first | omega | (simp; done) | (simp; omega)))
  have QX1_13 := Vl.hide (QX1_12.out.below bb)
  have X1_13 := Vl.hide (Vo.Bx.below X1_12.out bb (by first | omega | (simp; done) | (simp; omega)))
  have QX2_13 := Vl.hide (QX2_12.out.below bb)
  obtain ⟨u0, u1⟩ := V0_13.out
  obtain ⟨v0, v1⟩ := V1_13.out
  obtain ⟨z0, z1⟩ := V2_13.out
  obtain ⟨p0, p1⟩ := S_13.out
  obtain ⟨fa0, fa1⟩ := X0_13.out
  obtain ⟨fb0, fb1⟩ := X1_13.out
  clear bb
  obtain ⟨fc0, fc1⟩ := X2_13.out
  go_wp2_with fail
  refine (CI.out _ _ _ _ _ _ _ _ (Nat.le_refl _) QX0_13.out.d.ints QX0_13.out.t.ints QX1_13.out.d.ints QX1_13.out.t.ints QX2_13.out.d.ints QX2_13.out.t.ints).mono ?_; rintro e W14 ⟨ga, gb, gc, gd, rfl, qg, bb⟩
  have B14 := Vl.hide (B13.out.trans (Below.mono bb B13.out.size))
  have sz14 : (W12.heap.size + 1) ≤ W14.heap.size := by have qz := bb.size; (try simp only [World.size_alloc] at qz); (try simp only [World.size_alloc]); exact qz
  try clear u0 u1 u2 u3
  try clear u0 u1
  try clear v0 v1 v2 v3
  try clear v0 v1
  try clear z0 z1 z2 z3
  try clear z0 z1
  try clear p0 p1 p2 p3
  try clear p0 p1
  try clear fa0 fa1 fa2 fa3
  try clear fa0 fa1
  try clear fb0 fb1 fb2 fb3
  try clear fb0 fb1
  try clear fc0 fc1 fc2 fc3
  try clear fc0 fc1
  try clear fd0 fd1 fd2 fd3
  try clear fd0 fd1
  have V0_14 := Vl.hide (Vo.Bx.below V0_13.out bb (by first | omega | (simp; done) | (simp; omega)))
  have V1_14 := Vl.hide (Vo.Bx.below V1_13.out bb (by first | omega | (simp; done) | (simp; omega)))
  have V2_14 := Vl.hide (Vo.Bx.below V2_13.out bb (by first | omega | (simp; done) | (simp; omega)))
  have S_14 := Vl.hide (Vo.Bx.below S_13.out bb (by first | omega | (simp; done) | (simp; omega)))
  have QS_14 := Vl.hide (QS_13.out.below bb)
  have QX0_14 := Vl.hide (QX0_13.out.below bb)
  have X0_14 := Vl.hide (Vo.Bx.below X0_13.out bb (by first | omega | (simp; done) | (simp; omega)))
  have QX1_14 := Vl.hide (QX1_13.out.below bb)
  have X1_14 := Vl.hide (Vo.Bx.below X1_13.out bb (by first | omega | (simp; done) | (simp; omega)))
  have QX2_14 := Vl.hide (QX2_13.out.below bb)
  have X2_14 := Vl.hide (Vo.Bx.below X2_13.out bb (by first | omega | (simp; done) | (simp; omega)))
  obtain ⟨u0, u1⟩ := V0_14.out
  obtain ⟨v0, v1⟩ := V1_14.out
  obtain ⟨z0, z1⟩ := V2_14.out
  obtain ⟨p0, p1⟩ := S_14.out
  obtain ⟨fa0, fa1⟩ := X0_14.out
  obtain ⟨fb0, fb1⟩ := X1_14.out
  obtain ⟨fc0, fc1⟩ := X2_14.out
  clear bb
  have QG_14 := Vl.hide qg
  clear qg
  have uu := fun k q => QG_14.out.blk (k := k) q
  try simp only [World.size_alloc] at uu
  have UQG := Vl.hide uu
  clear uu
  have bb := (Below.refl W14.heap.size W14).alloc (Nat.le_refl _) (.cells #[.slice ga T.r gc, .slice gb T.s gd] 26)
  have G_15 := Vl.hide (Vo.bx_new W14 (.slice ga T.r gc) (.slice gb T.s gd) 26)
  have B15 := Vl.hide (B14.out.trans (Below.mono bb B14.out.size))
  have sz15 : W14.heap.size ≤ (W14.alloc (.cells #[.slice ga T.r gc, .slice gb T.s gd] 26)).heap.size := by have qz := bb.size; (try simp only [World.size_alloc] at qz); (try simp only [World.size_alloc]); exact qz
  simp only [World.size_alloc] at sz15
  try clear u0 u1 u2 u3
  try clear u0 u1
  try clear v0 v1 v2 v3
  try clear v0 v1
  try clear z0 z1 z2 z3
  try clear z0 z1
  try clear p0 p1 p2 p3
  try clear p0 p1
  try clear fa0 fa1 fa2 fa3
  try clear fa0 fa1
  try clear fb0 fb1 fb2 fb3
  try clear fb0 fb1
  try clear fc0 fc1 fc2 fc3
  try clear fc0 fc1
  try clear fd0 fd1 fd2 fd3
  try clear fd0 fd1
  have V0_15 := Vl.hide (Vo.Bx.below V0_14.out bb (by first | omega | (simp; done) | (simp; omega)))
  have V1_15 := Vl.hide (Vo.Bx.below V1_14.out bb (by first | omega | (simp; done) | (simp; omega)))
  have V2_15 := Vl.hide (Vo.Bx.below V2_14.out bb (by first | omega | (simp; done) | (simp; omega)))
  have S_15 := Vl.hide (Vo.Bx.below S_14.out bb (by first | omega | (simp; done) | (simp; omega)))
  have QS_15 := Vl.hide (QS_14.out.below bb)
  have QX0_15 := Vl.hide (QX0_14.out.below bb)
  have X0_15 := Vl.hide (Vo.Bx.below X0_14.out bb (by first | omega | (simp; done) | (simp; omega)))
  have QX1_15 := Vl.hide (QX1_14.out.below bb)
  have X1_15 := Vl.hide (Vo.Bx.below X1_14.out bb (by first | omega | (simp; done) | (simp; omega)))
  have QX2_15 := Vl.hide (QX2_14.out.below bb)
  have X2_15 := Vl.hide (Vo.Bx.below X2_14.out bb (by first | omega | (simp; done) | (simp; omega)))
  have QG_15 := Vl.hide (QG_14.out.below bb)
  obtain ⟨u0, u1⟩ := V0_15.out
  obtain ⟨v0, v1⟩ := V1_15.out
  obtain ⟨z0, z1⟩ := V2_15.out
  obtain ⟨p0, p1⟩ := S_15.out
  obtain ⟨fa0, fa1⟩ := X0_15.out
  obtain ⟨fb0, fb1⟩ := X1_15.out
  obtain ⟨fc0, fc1⟩ := X2_15.out
  clear bb
  obtain ⟨fd0, fd1⟩ := G_15.out
  go_wp2_with fail
  refine (Vo.eqTensor _ _ _ _ _ T.r T.s gc gd sc sd T.D T.S T.D T.S _ (Nat.le_refl _) QG_15.out.d.ints QG_15.out.t.ints QS_15.out.d.ints QS_15.out.t.ints (fun _ _ => rfl) (fun _ _ => rfl) lv lw).mono ?_; rintro e W16 ⟨rfl, bb⟩
  have B16 := Vl.hide (B15.out.trans (Below.mono bb B15.out.size))
  have sz16 : (W14.heap.size + 1) ≤ W16.heap.size := by have qz := bb.size; (try simp only [World.size_alloc] at qz); (try simp only [World.size_alloc]); exact qz
  try clear u0 u1 u2 u3
  try clear u0 u1
  try clear v0 v1 v2 v3
  try clear v0 v1
  try clear z0 z1 z2 z3
  try clear z0 z1
  try clear p0 p1 p2 p3
  try clear p0 p1
  try clear fa0 fa1 fa2 fa3
  try clear fa0 fa1
  try clear fb0 fb1 fb2 fb3
  try clear fb0 fb1
  try clear fc0 fc1 fc2 fc3
  try clear fc0 fc1
  try clear fd0 fd1 fd2 fd3
  try clear fd0 fd1
  have V0_16 := Vl.hide (Vo.Bx.below V0_15.out bb (by first | omega | (simp; done) | (simp; omega)))
  have V1_16 := Vl.hide (Vo.Bx.below V1_15.out bb (by first | omega | (simp; done) | (simp; omega)))
  have V2_16 := Vl.hide (Vo.Bx.below V2_15.out bb (by first | omega | (simp; done) | (simp; omega)))
  have S_16 := Vl.hide (Vo.Bx.below S_15.out bb (by first | omega | (simp; done) | (simp; omega)))
  have QS_16 := Vl.hide (QS_15.out.below bb)
  have QX0_16 := Vl.hide (QX0_15.out.below bb)
  have X0_16 := Vl.hide (Vo.Bx.below X0_15.out bb (by first | omega | (simp; done) | (simp; omega)))
  have QX1_16 := Vl.hide (QX1_15.out.below bb)
  have X1_16 := Vl.hide (Vo.Bx.below X1_15.out bb (by first | omega | (simp; done) | (simp; omega)))
  have QX2_16 := Vl.hide (QX2_15.out.below bb)
  have X2_16 := Vl.hide (Vo.Bx.below X2_15.out bb (by first | omega | (simp; done) | (simp; omega)))
  have QG_16 := Vl.hide (QG_15.out.below bb)
  have G_16 := Vl.hide (Vo.Bx.below G_15.out bb (by first | omega | (simp; done) | (simp; omega)))
  obtain ⟨u0, u1⟩ := V0_16.out
  obtain ⟨v0, v1⟩ := V1_16.out
  obtain ⟨z0, z1⟩ := V2_16.out
  obtain ⟨p0, p1⟩ := S_16.out
  obtain ⟨fa0, fa1⟩ := X0_16.out
  obtain ⟨fb0, fb1⟩ := X1_16.out
  obtain ⟨fc0, fc1⟩ := X2_16.out
  obtain ⟨fd0, fd1⟩ := G_16.out
  clear bb
  have HT := Vl.hide (fun (W : World) (hW : Below W16.heap.size W16 W) => Vo.toTensor w.heap.size a0 b0 r0 s0 cap0 dap0 D0 S0 W (H0.out.below (B16.out.trans (hW.mono B16.out.size))) (K0.out.below (B16.out.trans (hW.mono B16.out.size))) (Nat.le_trans B16.out.size hW.size) lr0 ls0)
  have HE := Vl.hide (fun (W : World) (hW : Below W16.heap.size W16 W) (g5 g6 : Nat) (B : Nat) (q : Vo.VOwn B W (some ⟨g5, 0, none⟩) (some ⟨g6, 0, none⟩) r0 s0 D0 S0) => Vo.eqTensor W.heap.size (some ⟨gx0, 0, none⟩) (some ⟨gx0', 0, none⟩) (some ⟨g5, 0, none⟩) (some ⟨g6, 0, none⟩) r0 s0 r0 s0 r0 s0 D0 S0 D0 S0 W (Nat.le_refl _) (QX0_16.out.below hW).d.ints (QX0_16.out.below hW).t.ints q.d.ints q.t.ints (fun _ _ => rfl) (fun _ _ => rfl) lr0 ls0)
  go_wp2_with fail
  go_region_held3 (fun w' => w'.cell? ⟨W8.heap.size, 0, none⟩ = some (.slice (some ⟨gx0, 0, none⟩) r0 r0) ∧ w'.cell? ⟨W8.heap.size, 1, none⟩ = some (.slice (some ⟨gx0', 0, none⟩) s0 s0) ∧ w'.cell? ⟨w.heap.size, 0, none⟩ = some (.slice a0 r0 cap0) ∧ w'.cell? ⟨w.heap.size, 1, none⟩ = some (.slice b0 s0 dap0))
    ((try dsimp only) <;> (repeat' apply And.intro) <;> (repeat (first | with_reducible assumption | with_reducible apply Vo.drew_old | (with_reducible apply Vo.below_old; (focus (with_reducible assumption))))))
    (first
      | (go_at_call 8
         refine (HT.out _ (by exact (Below.refl _ _).drew)).mono ?_
         rintro e wA ⟨g5, g6, rfl, qA, bA⟩)
      | (go_at_call 10
         refine (HE.out _ (by exact (Below.refl _ W16).drew.trans bA) g5 g6 _ qA).mono ?_
         rintro e wB17 ⟨rfl, bB⟩))
  have bb : Below W16.heap.size W16 wB17 := ((Below.refl _ W16).drew.trans bA).trans (bB.mono (Nat.le_trans (Nat.le_refl _) bA.size))
  clear bA bB qA HT HE
  have B17 := Vl.hide (B16.out.trans (Below.mono bb B16.out.size))
  have sz17 : W16.heap.size ≤ wB17.heap.size := by have qz := bb.size; (try simp only [World.size_alloc] at qz); (try simp only [World.size_alloc]); exact qz
  try clear u0 u1 u2 u3
  try clear u0 u1
  try clear v0 v1 v2 v3
  try clear v0 v1
  try clear z0 z1 z2 z3
  try clear z0 z1
  try clear p0 p1 p2 p3
  try clear p0 p1
  try clear fa0 fa1 fa2 fa3
  try clear fa0 fa1
  try clear fb0 fb1 fb2 fb3
  try clear fb0 fb1
  try clear fc0 fc1 fc2 fc3
  try clear fc0 fc1
  try clear fd0 fd1 fd2 fd3
  try clear fd0 fd1
  have V0_17 := Vl.hide (Vo.Bx.below V0_16.out bb (by first | omega | (simp; done) | (simp; omega)))
  have V1_17 := Vl.hide (Vo.Bx.below V1_16.out bb (by first | omega | (simp; done) | (simp; omega)))
  have V2_17 := Vl.hide (Vo.Bx.below V2_16.out bb (by first | omega | (simp; done) | (simp; omega)))
  have S_17 := Vl.hide (Vo.Bx.below S_16.out bb (by first | omega | (simp; done) | (simp; omega)))
  have QS_17 := Vl.hide (QS_16.out.below bb)
  have QX0_17 := Vl.hide (QX0_16.out.below bb)
  have X0_17 := Vl.hide (Vo.Bx.below X0_16.out bb (by first | omega | (simp; done) | (simp; omega)))
  have QX1_17 := Vl.hide (QX1_16.out.below bb)
  have X1_17 := Vl.hide (Vo.Bx.below X1_16.out bb (by first | omega | (simp; done) | (simp; omega)))
  have QX2_17 := Vl.hide (QX2_16.out.below bb)
  have X2_17 := Vl.hide (Vo.Bx.below X2_16.out bb (by first | omega | (simp; done) | (simp; omega)))
  have QG_17 := Vl.hide (QG_16.out.below bb)
  have G_17 := Vl.hide (Vo.Bx.below G_16.out bb (by first | omega | (simp; done) | (simp; omega)))
  obtain ⟨u0, u1⟩ := V0_17.out
  obtain ⟨v0, v1⟩ := V1_17.out
  obtain ⟨z0, z1⟩ := V2_17.out
  obtain ⟨p0, p1⟩ := S_17.out
  obtain ⟨fa0, fa1⟩ := X0_17.out
  obtain ⟨fb0, fb1⟩ := X1_17.out
  obtain ⟨fc0, fc1⟩ := X2_17.out
  obtain ⟨fd0, fd1⟩ := G_17.out
  clear bb
  have HT := Vl.hide (fun (W : World) (hW : Below wB17.heap.size wB17 W) => Vo.toTensor w.heap.size a1 b1 r1 s1 cap1 dap1 D1 S1 W (H1.out.below (B17.out.trans (hW.mono B17.out.size))) (K1.out.below (B17.out.trans (hW.mono B17.out.size))) (Nat.le_trans B17.out.size hW.size) lr1 ls1)
  have HE := Vl.hide (fun (W : World) (hW : Below wB17.heap.size wB17 W) (g5 g6 : Nat) (B : Nat) (q : Vo.VOwn B W (some ⟨g5, 0, none⟩) (some ⟨g6, 0, none⟩) r1 s1 D1 S1) => Vo.eqTensor W.heap.size (some ⟨gx1, 0, none⟩) (some ⟨gx1', 0, none⟩) (some ⟨g5, 0, none⟩) (some ⟨g6, 0, none⟩) r1 s1 r1 s1 r1 s1 D1 S1 D1 S1 W (Nat.le_refl _) (QX1_17.out.below hW).d.ints (QX1_17.out.below hW).t.ints q.d.ints q.t.ints (fun _ _ => rfl) (fun _ _ => rfl) lr1 ls1)
  go_wp2_with fail
  go_region_held3 (fun w' => w'.cell? ⟨W10.heap.size, 0, none⟩ = some (.slice (some ⟨gx1, 0, none⟩) r1 r1) ∧ w'.cell? ⟨W10.heap.size, 1, none⟩ = some (.slice (some ⟨gx1', 0, none⟩) s1 s1) ∧ w'.cell? ⟨(w.heap.size + 1), 0, none⟩ = some (.slice a1 r1 cap1) ∧ w'.cell? ⟨(w.heap.size + 1), 1, none⟩ = some (.slice b1 s1 dap1))
    ((try dsimp only) <;> (repeat' apply And.intro) <;> (repeat (first | with_reducible assumption | with_reducible apply Vo.drew_old | (with_reducible apply Vo.below_old; (focus (with_reducible assumption))))))
    (first
      | (go_at_call 8
         refine (HT.out _ (by exact (Below.refl _ _).drew)).mono ?_
         rintro e wA ⟨g5, g6, rfl, qA, bA⟩)
      | (go_at_call 10
         refine (HE.out _ (by exact (Below.refl _ wB17).drew.trans bA) g5 g6 _ qA).mono ?_
         rintro e wB18 ⟨rfl, bB⟩))
  have bb : Below wB17.heap.size wB17 wB18 := ((Below.refl _ wB17).drew.trans bA).trans (bB.mono (Nat.le_trans (Nat.le_refl _) bA.size))
  clear bA bB qA HT HE
  have B18 := Vl.hide (B17.out.trans (Below.mono bb B17.out.size))
  have sz18 : wB17.heap.size ≤ wB18.heap.size := by have qz := bb.size; (try simp only [World.size_alloc] at qz); (try simp only [World.size_alloc]); exact qz
  try clear u0 u1 u2 u3
  try clear u0 u1
  try clear v0 v1 v2 v3
  try clear v0 v1
  try clear z0 z1 z2 z3
  try clear z0 z1
  try clear p0 p1 p2 p3
  try clear p0 p1
  try clear fa0 fa1 fa2 fa3
  try clear fa0 fa1
  try clear fb0 fb1 fb2 fb3
  try clear fb0 fb1
  try clear fc0 fc1 fc2 fc3
  try clear fc0 fc1
  try clear fd0 fd1 fd2 fd3
  try clear fd0 fd1
  have V0_18 := Vl.hide (Vo.Bx.below V0_17.out bb (by first | omega | (simp; done) | (simp; omega)))
  have V1_18 := Vl.hide (Vo.Bx.below V1_17.out bb (by first | omega | (simp; done) | (simp; omega)))
  have V2_18 := Vl.hide (Vo.Bx.below V2_17.out bb (by first | omega | (simp; done) | (simp; omega)))
  have S_18 := Vl.hide (Vo.Bx.below S_17.out bb (by first | omega | (simp; done) | (simp; omega)))
  have QS_18 := Vl.hide (QS_17.out.below bb)
  have QX0_18 := Vl.hide (QX0_17.out.below bb)
  have X0_18 := Vl.hide (Vo.Bx.below X0_17.out bb (by first | omega | (simp; done) | (simp; omega)))
  have QX1_18 := Vl.hide (QX1_17.out.below bb)
  have X1_18 := Vl.hide (Vo.Bx.below X1_17.out bb (by first | omega | (simp; done) | (simp; omega)))
  have QX2_18 := Vl.hide (QX2_17.out.below bb)
  have X2_18 := Vl.hide (Vo.Bx.below X2_17.out bb (by first | omega | (simp; done) | (simp; omega)))
  have QG_18 := Vl.hide (QG_17.out.below bb)
  have G_18 := Vl.hide (Vo.Bx.below G_17.out bb (by first | omega | (simp; done) | (simp; omega)))
  obtain ⟨u0, u1⟩ := V0_18.out
  obtain ⟨v0, v1⟩ := V1_18.out
  obtain ⟨z0, z1⟩ := V2_18.out
  obtain ⟨p0, p1⟩ := S_18.out
  obtain ⟨fa0, fa1⟩ := X0_18.out
  obtain ⟨fb0, fb1⟩ := X1_18.out
  obtain ⟨fc0, fc1⟩ := X2_18.out
  obtain ⟨fd0, fd1⟩ := G_18.out
  clear bb
  have HT := Vl.hide (fun (W : World) (hW : Below wB18.heap.size wB18 W) => Vo.toTensor w.heap.size a2 b2 r2 s2 cap2 dap2 D2 S2 W (H2.out.below (B18.out.trans (hW.mono B18.out.size))) (K2.out.below (B18.out.trans (hW.mono B18.out.size))) (Nat.le_trans B18.out.size hW.size) lr2 ls2)
  have HE := Vl.hide (fun (W : World) (hW : Below wB18.heap.size wB18 W) (g5 g6 : Nat) (B : Nat) (q : Vo.VOwn B W (some ⟨g5, 0, none⟩) (some ⟨g6, 0, none⟩) r2 s2 D2 S2) => Vo.eqTensor W.heap.size (some ⟨gx2, 0, none⟩) (some ⟨gx2', 0, none⟩) (some ⟨g5, 0, none⟩) (some ⟨g6, 0, none⟩) r2 s2 r2 s2 r2 s2 D2 S2 D2 S2 W (Nat.le_refl _) (QX2_18.out.below hW).d.ints (QX2_18.out.below hW).t.ints q.d.ints q.t.ints (fun _ _ => rfl) (fun _ _ => rfl) lr2 ls2)
  go_wp2_with fail
  go_region_held3 (fun w' => w'.cell? ⟨W12.heap.size, 0, none⟩ = some (.slice (some ⟨gx2, 0, none⟩) r2 r2) ∧ w'.cell? ⟨W12.heap.size, 1, none⟩ = some (.slice (some ⟨gx2', 0, none⟩) s2 s2) ∧ w'.cell? ⟨((w.heap.size + 1) + 1), 0, none⟩ = some (.slice a2 r2 cap2) ∧ w'.cell? ⟨((w.heap.size + 1) + 1), 1, none⟩ = some (.slice b2 s2 dap2))
    ((try dsimp only) <;> (repeat' apply And.intro) <;> (repeat (first | with_reducible assumption | with_reducible apply Vo.drew_old | (with_reducible apply Vo.below_old; (focus (with_reducible assumption))))))
    (first
      | (go_at_call 8
         refine (HT.out _ (by exact (Below.refl _ _).drew)).mono ?_
         rintro e wA ⟨g5, g6, rfl, qA, bA⟩)
      | (go_at_call 10
         refine (HE.out _ (by exact (Below.refl _ wB18).drew.trans bA) g5 g6 _ qA).mono ?_
         rintro e wB19 ⟨rfl, bB⟩))
  have bb : Below wB18.heap.size wB18 wB19 := ((Below.refl _ wB18).drew.trans bA).trans (bB.mono (Nat.le_trans (Nat.le_refl _) bA.size))
  clear bA bB qA HT HE
  have B19 := Vl.hide (B18.out.trans (Below.mono bb B18.out.size))
  have sz19 : wB18.heap.size ≤ wB19.heap.size := by have qz := bb.size; (try simp only [World.size_alloc] at qz); (try simp only [World.size_alloc]); exact qz
  try clear u0 u1 u2 u3
  try clear u0 u1
  try clear v0 v1 v2 v3
  try clear v0 v1
  try clear z0 z1 z2 z3
  try clear z0 z1
  try clear p0 p1 p2 p3
  try clear p0 p1
  try clear fa0 fa1 fa2 fa3
  try clear fa0 fa1
  try clear fb0 fb1 fb2 fb3
  try clear fb0 fb1
  try clear fc0 fc1 fc2 fc3
  try clear fc0 fc1
  try clear fd0 fd1 fd2 fd3
  try clear fd0 fd1
  have V0_19 := Vl.hide (Vo.Bx.below V0_18.out bb (by first | omega | (simp; done) | (simp; omega)))
  have V1_19 := Vl.hide (Vo.Bx.below V1_18.out bb (by first | omega | (simp; done) | (simp; omega)))
  have V2_19 := Vl.hide (Vo.Bx.below V2_18.out bb (by first | omega | (simp; done) | (simp; omega)))
  have S_19 := Vl.hide (Vo.Bx.below S_18.out bb (by first | omega | (simp; done) | (simp; omega)))
  have QS_19 := Vl.hide (QS_18.out.below bb)
  have QX0_19 := Vl.hide (QX0_18.out.below bb)
  have X0_19 := Vl.hide (Vo.Bx.below X0_18.out bb (by first | omega | (simp; done) | (simp; omega)))
  have QX1_19 := Vl.hide (QX1_18.out.below bb)
  have X1_19 := Vl.hide (Vo.Bx.below X1_18.out bb (by first | omega | (simp; done) | (simp; omega)))
  have QX2_19 := Vl.hide (QX2_18.out.below bb)
  have X2_19 := Vl.hide (Vo.Bx.below X2_18.out bb (by first | omega | (simp; done) | (simp; omega)))
  have QG_19 := Vl.hide (QG_18.out.below bb)
  have G_19 := Vl.hide (Vo.Bx.below G_18.out bb (by first | omega | (simp; done) | (simp; omega)))
  obtain ⟨u0, u1⟩ := V0_19.out
  obtain ⟨v0, v1⟩ := V1_19.out
  obtain ⟨z0, z1⟩ := V2_19.out
  obtain ⟨p0, p1⟩ := S_19.out
  obtain ⟨fa0, fa1⟩ := X0_19.out
  obtain ⟨fb0, fb1⟩ := X1_19.out
  obtain ⟨fc0, fc1⟩ := X2_19.out
  obtain ⟨fd0, fd1⟩ := G_19.out
  clear bb
  go_wp2_with fail
  refine (Vo.markTensorB _ _ _ r0 s0 r0 s0 D0 S0 1 _ QX0_19.out lr0 ls0 (by omega) (by omega)).mono ?_; rintro e W20 ⟨rfl, qs, bb⟩
  have B20 := Vl.hide (B19.out.trans (Vl.Kept.below bb B19.out.size (fun k q => by have := UQX0.out _ q; omega)))
  have sz20 : wB19.heap.size ≤ W20.heap.size := by have qz := bb.size; (try simp only [World.size_alloc] at qz); (try simp only [World.size_alloc]); exact qz
  try clear u0 u1 u2 u3
  try clear u0 u1
  try clear v0 v1 v2 v3
  try clear v0 v1
  try clear z0 z1 z2 z3
  try clear z0 z1
  try clear p0 p1 p2 p3
  try clear p0 p1
  try clear fa0 fa1 fa2 fa3
  try clear fa0 fa1
  try clear fb0 fb1 fb2 fb3
  try clear fb0 fb1
  try clear fc0 fc1 fc2 fc3
  try clear fc0 fc1
  try clear fd0 fd1 fd2 fd3
  try clear fd0 fd1
  have V0_20 := Vl.hide (Vo.Bx.kept V0_19.out bb (by omega) (fun q => by have := UQX0.out _ q; omega))
  have V1_20 := Vl.hide (Vo.Bx.kept V1_19.out bb (by omega) (fun q => by have := UQX0.out _ q; omega))
  have V2_20 := Vl.hide (Vo.Bx.kept V2_19.out bb (by omega) (fun q => by have := UQX0.out _ q; omega))
  have S_20 := Vl.hide (Vo.Bx.kept S_19.out bb (by omega) (fun q => by have := UQX0.out _ q; omega))
  have QS_20 := Vl.hide (QS_19.out.kept bb (fun k q q' => by have := UQS.out _ q; have := UQX0.out _ q'; omega))
  have QX0_20 := Vl.hide qs
  have X0_20 := Vl.hide (Vo.Bx.kept X0_19.out bb (by omega) (fun q => by have := UQX0.out _ q; omega))
  have QX1_20 := Vl.hide (QX1_19.out.kept bb (fun k q q' => by have := UQX1.out _ q; have := UQX0.out _ q'; omega))
  have X1_20 := Vl.hide (Vo.Bx.kept X1_19.out bb (by omega) (fun q => by have := UQX0.out _ q; omega))
  have QX2_20 := Vl.hide (QX2_19.out.kept bb (fun k q q' => by have := UQX2.out _ q; have := UQX0.out _ q'; omega))
  have X2_20 := Vl.hide (Vo.Bx.kept X2_19.out bb (by omega) (fun q => by have := UQX0.out _ q; omega))
  have QG_20 := Vl.hide (QG_19.out.kept bb (fun k q q' => by have := UQG.out _ q; have := UQX0.out _ q'; omega))
  have G_20 := Vl.hide (Vo.Bx.kept G_19.out bb (by omega) (fun q => by have := UQX0.out _ q; omega))
  obtain ⟨u0, u1⟩ := V0_20.out
  obtain ⟨v0, v1⟩ := V1_20.out
  obtain ⟨z0, z1⟩ := V2_20.out
  obtain ⟨p0, p1⟩ := S_20.out
  obtain ⟨fa0, fa1⟩ := X0_20.out
  obtain ⟨fb0, fb1⟩ := X1_20.out
  obtain ⟨fc0, fc1⟩ := X2_20.out
  obtain ⟨fd0, fd1⟩ := G_20.out
  clear bb
  clear qs
  go_wp2_with fail
  refine (Vo.markTensorB _ _ _ r1 s1 r1 s1 D1 S1 (1 + r0 + s0) _ QX1_20.out lr1 ls1 (by omega) (by omega)).mono ?_; rintro e W21 ⟨rfl, qs, bb⟩
  have B21 := Vl.hide (B20.out.trans (Vl.Kept.below bb B20.out.size (fun k q => by have := UQX1.out _ q; omega)))
  have sz21 : W20.heap.size ≤ W21.heap.size := by have qz := bb.size; (try simp only [World.size_alloc] at qz); (try simp only [World.size_alloc]); exact qz
  try clear u0 u1 u2 u3
  try clear u0 u1
  try clear v0 v1 v2 v3
  try clear v0 v1
  try clear z0 z1 z2 z3
  try clear z0 z1
  try clear p0 p1 p2 p3
  try clear p0 p1
  try clear fa0 fa1 fa2 fa3
  try clear fa0 fa1
  try clear fb0 fb1 fb2 fb3
  try clear fb0 fb1
  try clear fc0 fc1 fc2 fc3
  try clear fc0 fc1
  try clear fd0 fd1 fd2 fd3
  try clear fd0 fd1
  have V0_21 := Vl.hide (Vo.Bx.kept V0_20.out bb (by omega) (fun q => by have := UQX1.out _ q; omega))
  have V1_21 := Vl.hide (Vo.Bx.kept V1_20.out bb (by omega) (fun q => by have := UQX1.out _ q; omega))
  have V2_21 := Vl.hide (Vo.Bx.kept V2_20.out bb (by omega) (fun q => by have := UQX1.out _ q; omega))
  have S_21 := Vl.hide (Vo.Bx.kept S_20.out bb (by omega) (fun q => by have := UQX1.out _ q; omega))
  have QS_21 := Vl.hide (QS_20.out.kept bb (fun k q q' => by have := UQS.out _ q; have := UQX1.out _ q'; omega))
  have QX1_21 := Vl.hide qs
  have X1_21 := Vl.hide (Vo.Bx.kept X1_20.out bb (by omega) (fun q => by have := UQX1.out _ q; omega))
  have QX2_21 := Vl.hide (QX2_20.out.kept bb (fun k q q' => by have := UQX2.out _ q; have := UQX1.out _ q'; omega))
  have X2_21 := Vl.hide (Vo.Bx.kept X2_20.out bb (by omega) (fun q => by have := UQX1.out _ q; omega))
  have QG_21 := Vl.hide (QG_20.out.kept bb (fun k q q' => by have := UQG.out _ q; have := UQX1.out _ q'; omega))
  have G_21 := Vl.hide (Vo.Bx.kept G_20.out bb (by omega) (fun q => by have := UQX1.out _ q; omega))
  obtain ⟨u0, u1⟩ := V0_21.out
  obtain ⟨v0, v1⟩ := V1_21.out
  obtain ⟨z0, z1⟩ := V2_21.out
  obtain ⟨p0, p1⟩ := S_21.out
  obtain ⟨fa0, fa1⟩ := X1_21.out
  obtain ⟨fb0, fb1⟩ := X2_21.out
  obtain ⟨fc0, fc1⟩ := G_21.out
  clear bb
  clear qs
  go_wp2_with fail
  refine (Vo.markTensorB _ _ _ r2 s2 r2 s2 D2 S2 (1 + r0 + s0 + r1 + s1) _ QX2_21.out lr2 ls2 (by omega) (by omega)).mono ?_; rintro e W22 ⟨rfl, qs, bb⟩
  have B22 := Vl.hide (B21.out.trans (Vl.Kept.below bb B21.out.size (fun k q => by have := UQX2.out _ q; omega)))
  have sz22 : W21.heap.size ≤ W22.heap.size := by have qz := bb.size; (try simp only [World.size_alloc] at qz); (try simp only [World.size_alloc]); exact qz
  try clear u0 u1 u2 u3
  try clear u0 u1
  try clear v0 v1 v2 v3
  try clear v0 v1
  try clear z0 z1 z2 z3
  try clear z0 z1
  try clear p0 p1 p2 p3
  try clear p0 p1
  try clear fa0 fa1 fa2 fa3
  try clear fa0 fa1
  try clear fb0 fb1 fb2 fb3
  try clear fb0 fb1
  try clear fc0 fc1 fc2 fc3
  try clear fc0 fc1
  try clear fd0 fd1 fd2 fd3
  try clear fd0 fd1
  have V0_22 := Vl.hide (Vo.Bx.kept V0_21.out bb (by omega) (fun q => by have := UQX2.out _ q; omega))
  have V1_22 := Vl.hide (Vo.Bx.kept V1_21.out bb (by omega) (fun q => by have := UQX2.out _ q; omega))
  have V2_22 := Vl.hide (Vo.Bx.kept V2_21.out bb (by omega) (fun q => by have := UQX2.out _ q; omega))
  have S_22 := Vl.hide (Vo.Bx.kept S_21.out bb (by omega) (fun q => by have := UQX2.out _ q; omega))
  have QS_22 := Vl.hide (QS_21.out.kept bb (fun k q q' => by have := UQS.out _ q; have := UQX2.out _ q'; omega))
  have QX2_22 := Vl.hide qs
  have X2_22 := Vl.hide (Vo.Bx.kept X2_21.out bb (by omega) (fun q => by have := UQX2.out _ q; omega))
  have QG_22 := Vl.hide (QG_21.out.kept bb (fun k q q' => by have := UQG.out _ q; have := UQX2.out _ q'; omega))
  have G_22 := Vl.hide (Vo.Bx.kept G_21.out bb (by omega) (fun q => by have := UQX2.out _ q; omega))
  obtain ⟨u0, u1⟩ := V0_22.out
  obtain ⟨v0, v1⟩ := V1_22.out
  obtain ⟨z0, z1⟩ := V2_22.out
  obtain ⟨p0, p1⟩ := S_22.out
  obtain ⟨fa0, fa1⟩ := X2_22.out
  obtain ⟨fb0, fb1⟩ := G_22.out
  clear bb
  clear qs
  have neg1 : decide ((1 : Int) + r0 + s0 + r1 + s1 + r2 + s2 < 0) = false := by rw [decide_eq_false_iff_not]; omega
  go_wp2_with fail
  refine (Vo.eqTensor _ _ _ _ _ T.r T.s gc gd sc sd T.D T.S T.D T.S _ (Nat.le_refl _) QG_22.out.d.ints QG_22.out.t.ints QS_22.out.d.ints QS_22.out.t.ints (fun _ _ => rfl) (fun _ _ => rfl) lv lw).mono ?_; rintro e W23 ⟨rfl, bb⟩
  have B23 := Vl.hide (B22.out.trans (Below.mono bb B22.out.size))
  have sz23 : W22.heap.size ≤ W23.heap.size := by have qz := bb.size; (try simp only [World.size_alloc] at qz); (try simp only [World.size_alloc]); exact qz
  try clear u0 u1 u2 u3
  try clear u0 u1
  try clear v0 v1 v2 v3
  try clear v0 v1
  try clear z0 z1 z2 z3
  try clear z0 z1
  try clear p0 p1 p2 p3
  try clear p0 p1
  try clear fa0 fa1 fa2 fa3
  try clear fa0 fa1
  try clear fb0 fb1 fb2 fb3
  try clear fb0 fb1
  try clear fc0 fc1 fc2 fc3
  try clear fc0 fc1
  try clear fd0 fd1 fd2 fd3
  try clear fd0 fd1
  have V0_23 := Vl.hide (Vo.Bx.below V0_22.out bb (by first | omega | (simp; done) | (simp; omega)))
  have V1_23 := Vl.hide (Vo.Bx.below V1_22.out bb (by first | omega | (simp; done) | (simp; omega)))
  have V2_23 := Vl.hide (Vo.Bx.below V2_22.out bb (by first | omega | (simp; done) | (simp; omega)))
  have S_23 := Vl.hide (Vo.Bx.below S_22.out bb (by first | omega | (simp; done) | (simp; omega)))
  have QS_23 := Vl.hide (QS_22.out.below bb)
  have QG_23 := Vl.hide (QG_22.out.below bb)
  have G_23 := Vl.hide (Vo.Bx.below G_22.out bb (by first | omega | (simp; done) | (simp; omega)))
  obtain ⟨u0, u1⟩ := V0_23.out
  obtain ⟨v0, v1⟩ := V1_23.out
  obtain ⟨z0, z1⟩ := V2_23.out
  obtain ⟨p0, p1⟩ := S_23.out
  obtain ⟨fa0, fa1⟩ := G_23.out
  clear bb
  go_wp2_with fail
  refine (Vo.markTensor _ _ _ T.r T.s gc gd T.D T.S 1 _ QG_23.out lv lw (by omega) (by omega)).mono ?_; rintro e W24 ⟨rfl, qs, bb⟩
  have B24 := Vl.hide (B23.out.trans (Vl.Kept.below bb B23.out.size (fun k q => by have := UQG.out _ q; omega)))
  have sz24 : W23.heap.size ≤ W24.heap.size := by have qz := bb.size; (try simp only [World.size_alloc] at qz); (try simp only [World.size_alloc]); exact qz
  try clear u0 u1 u2 u3
  try clear u0 u1
  try clear v0 v1 v2 v3
  try clear v0 v1
  try clear z0 z1 z2 z3
  try clear z0 z1
  try clear p0 p1 p2 p3
  try clear p0 p1
  try clear fa0 fa1 fa2 fa3
  try clear fa0 fa1
  try clear fb0 fb1 fb2 fb3
  try clear fb0 fb1
  try clear fc0 fc1 fc2 fc3
  try clear fc0 fc1
  try clear fd0 fd1 fd2 fd3
  try clear fd0 fd1
  have V0_24 := Vl.hide (Vo.Bx.kept V0_23.out bb (by omega) (fun q => by have := UQG.out _ q; omega))
  have V1_24 := Vl.hide (Vo.Bx.kept V1_23.out bb (by omega) (fun q => by have := UQG.out _ q; omega))
  have V2_24 := Vl.hide (Vo.Bx.kept V2_23.out bb (by omega) (fun q => by have := UQG.out _ q; omega))
  have S_24 := Vl.hide (Vo.Bx.kept S_23.out bb (by omega) (fun q => by have := UQG.out _ q; omega))
  have QS_24 := Vl.hide (QS_23.out.kept bb (fun k q q' => by have := UQS.out _ q; have := UQG.out _ q'; omega))
  have QG_24 := Vl.hide qs
  have G_24 := Vl.hide (Vo.Bx.kept G_23.out bb (by omega) (fun q => by have := UQG.out _ q; omega))
  obtain ⟨u0, u1⟩ := V0_24.out
  obtain ⟨v0, v1⟩ := V1_24.out
  obtain ⟨z0, z1⟩ := V2_24.out
  obtain ⟨p0, p1⟩ := S_24.out
  obtain ⟨fa0, fa1⟩ := G_24.out
  clear bb
  clear qs
  have neg2 : decide ((1 : Int) + (T.r : Nat) + (T.s : Nat) < 0) = false := by rw [decide_eq_false_iff_not]; omega
  go_wp2_with fail
  refine (Vo.heldTensor _ _ _ T.r T.s gc gd 1 _ QG_24.out lv lw (by omega) (by omega)).mono ?_; rintro e W25 ⟨rfl, bb⟩
  have B25 := Vl.hide (B24.out.trans (Below.mono bb B24.out.size))
  have sz25 : W24.heap.size ≤ W25.heap.size := by have qz := bb.size; (try simp only [World.size_alloc] at qz); (try simp only [World.size_alloc]); exact qz
  try clear u0 u1 u2 u3
  try clear u0 u1
  try clear v0 v1 v2 v3
  try clear v0 v1
  try clear z0 z1 z2 z3
  try clear z0 z1
  try clear p0 p1 p2 p3
  try clear p0 p1
  try clear fa0 fa1 fa2 fa3
  try clear fa0 fa1
  try clear fb0 fb1 fb2 fb3
  try clear fb0 fb1
  try clear fc0 fc1 fc2 fc3
  try clear fc0 fc1
  try clear fd0 fd1 fd2 fd3
  try clear fd0 fd1
  have V0_25 := Vl.hide (Vo.Bx.below V0_24.out bb (by first | omega | (simp; done) | (simp; omega)))
  have V1_25 := Vl.hide (Vo.Bx.below V1_24.out bb (by first | omega | (simp; done) | (simp; omega)))
  have V2_25 := Vl.hide (Vo.Bx.below V2_24.out bb (by first | omega | (simp; done) | (simp; omega)))
  have S_25 := Vl.hide (Vo.Bx.below S_24.out bb (by first | omega | (simp; done) | (simp; omega)))
  have QS_25 := Vl.hide (QS_24.out.below bb)
  have QG_25 := Vl.hide (QG_24.out.below bb)
  have G_25 := Vl.hide (Vo.Bx.below G_24.out bb (by first | omega | (simp; done) | (simp; omega)))
  obtain ⟨u0, u1⟩ := V0_25.out
  obtain ⟨v0, v1⟩ := V1_25.out
  obtain ⟨z0, z1⟩ := V2_25.out
  obtain ⟨p0, p1⟩ := S_25.out
  obtain ⟨fa0, fa1⟩ := G_25.out
  clear bb
  have HT0 := Vl.hide (fun (W : World) (hW : Below W25.heap.size W25 W) => Vo.toTensor w.heap.size a0 b0 r0 s0 cap0 dap0 D0 S0 W (H0.out.below (B25.out.trans (hW.mono B25.out.size))) (K0.out.below (B25.out.trans (hW.mono B25.out.size))) (Nat.le_trans B25.out.size hW.size) lr0 ls0)
  have HV0 := Vl.hide (fun (W : World) (hW : Below W25.heap.size W25 W) => Vo.Bx.below V0_25.out hW (by omega))
  have HT1 := Vl.hide (fun (W : World) (hW : Below W25.heap.size W25 W) => Vo.toTensor w.heap.size a1 b1 r1 s1 cap1 dap1 D1 S1 W (H1.out.below (B25.out.trans (hW.mono B25.out.size))) (K1.out.below (B25.out.trans (hW.mono B25.out.size))) (Nat.le_trans B25.out.size hW.size) lr1 ls1)
  have HV1 := Vl.hide (fun (W : World) (hW : Below W25.heap.size W25 W) => Vo.Bx.below V1_25.out hW (by omega))
  have HT2 := Vl.hide (fun (W : World) (hW : Below W25.heap.size W25 W) => Vo.toTensor w.heap.size a2 b2 r2 s2 cap2 dap2 D2 S2 W (H2.out.below (B25.out.trans (hW.mono B25.out.size))) (K2.out.below (B25.out.trans (hW.mono B25.out.size))) (Nat.le_trans B25.out.size hW.size) lr2 ls2)
  have HV2 := Vl.hide (fun (W : World) (hW : Below W25.heap.size W25 W) => Vo.Bx.below V2_25.out hW (by omega))
  go_wp2_with fail
  refine Qf.facts2 9 (by kernel_rfl) (by kernel_rfl) (by kernel_rfl) (fun i v wx => match i with | 0 => v = .agg #[.slice a0 r0 cap0, .slice b0 s0 dap0] | 1 => Vo.TenV W25.heap.size r0 s0 D0 S0 v wx | 2 => v = .agg #[.slice a1 r1 cap1, .slice b1 s1 dap1] | 3 => Vo.TenV W25.heap.size r1 s1 D1 S1 v wx | 4 => v = .agg #[.slice a2 r2 cap2, .slice b2 s2 dap2] | 5 => Vo.TenV W25.heap.size r2 s2 D2 S2 v wx | 6 => v = .int .i64 a3 | 7 => Vo.TenW W25.heap.size T v wx | 8 => Vo.PtrZ W25.heap.size v wx | _ => True) ?stable ?steps ?rest
  case stable =>
    intro i v w1 w2 h hb
    match i, h with
    | 0, h => exact h
    | 1, h => exact Vo.TenV.below h hb
    | 2, h => exact h
    | 3, h => exact Vo.TenV.below h hb
    | 4, h => exact h
    | 5, h => exact Vo.TenV.below h hb
    | 6, h => exact h
    | 7, h => exact Vo.TenW.below h hb
    | 8, h => exact Vo.PtrZ.below h hb
    | _ + 9, h => exact h
  case steps =>
    intro i o hi ho s A w1 hb hk hA hO
    match i, hi, ho, hk with
    | 0, _, ho, hk =>
      cases ho
      exact Qf.lands_val _ _ (Vo.runLoadT rfl ((hO 4 (by rfl)).trans rfl) (HV0.out w1 hb)) ⟨Below.refl _ _, rfl⟩
    | 1, _, ho, hk =>
      cases ho
      have e0 := hk 0 (by kernel_rfl)
      have h0 := hA 0 _ 100 (by decide) rfl rfl (by simp)
      rw [e0] at h0
      refine Qf.lands_call 8 _ _ rfl (enters_of Try.func8 (by kernel_rfl) rfl) _ (by simp [h0]) ((HT0.out w1 hb).mono ?_)
      rintro e w2 ⟨g5, g6, rfl, qA, bA⟩
      exact ⟨_, rfl, bA, g5, g6, rfl, qA.mono hb.size⟩
    | 2, _, ho, hk =>
      cases ho
      exact Qf.lands_val _ _ (Vo.runLoadT rfl ((hO 5 (by rfl)).trans rfl) (HV1.out w1 hb)) ⟨Below.refl _ _, rfl⟩
    | 3, _, ho, hk =>
      cases ho
      have e0 := hk 2 (by kernel_rfl)
      have h0 := hA 2 _ 102 (by decide) rfl rfl (by simp)
      rw [e0] at h0
      refine Qf.lands_call 8 _ _ rfl (enters_of Try.func8 (by kernel_rfl) rfl) _ (by simp [h0]) ((HT1.out w1 hb).mono ?_)
      rintro e w2 ⟨g5, g6, rfl, qA, bA⟩
      exact ⟨_, rfl, bA, g5, g6, rfl, qA.mono hb.size⟩
    | 4, _, ho, hk =>
      cases ho
      exact Qf.lands_val _ _ (Vo.runLoadT rfl ((hO 6 (by rfl)).trans rfl) (HV2.out w1 hb)) ⟨Below.refl _ _, rfl⟩
    | 5, _, ho, hk =>
      cases ho
      have e0 := hk 4 (by kernel_rfl)
      have h0 := hA 4 _ 104 (by decide) rfl rfl (by simp)
      rw [e0] at h0
      refine Qf.lands_call 8 _ _ rfl (enters_of Try.func8 (by kernel_rfl) rfl) _ (by simp [h0]) ((HT2.out w1 hb).mono ?_)
      rintro e w2 ⟨g5, g6, rfl, qA, bA⟩
      exact ⟨_, rfl, bA, g5, g6, rfl, qA.mono hb.size⟩
    | 6, _, ho, hk =>
      cases ho
      exact Qf.lands_move _ rfl _ ((hO 3 (by rfl)).trans rfl) ⟨Below.refl _ _, rfl⟩
    | 7, _, ho, hk =>
      cases ho
      have h1 := hA 1 _ 101 (by decide) rfl rfl (by simp)
      obtain ⟨x1, y1, e1, q1⟩ := hk 1 (by kernel_rfl)
      rw [e1] at h1
      have h3 := hA 3 _ 103 (by decide) rfl rfl (by simp)
      obtain ⟨x3, y3, e3, q3⟩ := hk 3 (by kernel_rfl)
      rw [e3] at h3
      have h5 := hA 5 _ 105 (by decide) rfl rfl (by simp)
      obtain ⟨x5, y5, e5, q5⟩ := hk 5 (by kernel_rfl)
      rw [e5] at h5
      have h6 := hA 6 _ 106 (by decide) rfl rfl (by simp)
      have e6 := hk 6 (by kernel_rfl)
      rw [e6] at h6
      refine Qf.lands_call 14 _ _ rfl (enters_of Try.func14 (by kernel_rfl) rfl) _ (by simp [h1, h3, h5, h6]) ((CI.out _ _ _ _ _ _ _ w1 (Nat.le_refl _) q1.d.ints q1.t.ints q3.d.ints q3.t.ints q5.d.ints q5.t.ints).mono ?_)
      rintro e w2 ⟨ta, tb, tc, td, rfl, qs, bC⟩
      exact ⟨_, rfl, bC, ta, tb, tc, td, rfl, qs.mono hb.size⟩
    | 8, _, ho, hk =>
      cases ho
      exact Qf.lands_val _ _ (Vo.runAllocT rfl) (Vo.ptrZ_new _ w1 hb.size)
    | _ + 9, hi, _, _ => exact absurd hi (by omega)
  case rest =>
  intro s WC2 hbS hk
  have e0 : s 0 = .agg #[.slice a0 r0 cap0, .slice b0 s0 dap0] := hk 0 (by decide)
  obtain ⟨x1, y1, e1, _⟩ := hk 1 (by decide)
  have e2 : s 2 = .agg #[.slice a1 r1 cap1, .slice b1 s1 dap1] := hk 2 (by decide)
  obtain ⟨x3, y3, e3, _⟩ := hk 3 (by decide)
  have e4 : s 4 = .agg #[.slice a2 r2 cap2, .slice b2 s2 dap2] := hk 4 (by decide)
  obtain ⟨x5, y5, e5, _⟩ := hk 5 (by decide)
  have e6 : s 6 = .int .i64 a3 := hk 6 (by decide)
  obtain ⟨ha, hb, hc, hd, e7, qs⟩ := hk 7 (by decide)
  obtain ⟨P2, e8, lP, hP, bz, fz⟩ := hk 8 (by decide)
  have LF := Vl.hide (Vo.left_set2 (tc := hc) (td := hd) qs hbS bz lP hP)
  simp only [List.take_succ_cons, List.take_zero, List.drop_succ_cons, List.drop_zero, Qf.lay, Qf.all1, if_true, e0, e1, e2, e3, e4, e5, e6, e7, e8]
  clear hk qs hbS e0 e1 e2 e3 e4 e5 e6 e7 e8 HT0 HV0 HT1 HV1 HT2 HV2
  obtain ⟨zz0, zz1⟩ := bz
  unfold Vo.Free at fz
  obtain ⟨WX2, hWX2⟩ : ∃ X, (WC2.setCell ⟨P2, 0, none⟩ (.slice ha T.r hc)).setCell ⟨P2, 1, none⟩ (.slice hb T.s hd) = X := ⟨_, rfl⟩
  rw [hWX2] at LF
  obtain ⟨hP2, bx2, qs2, bb⟩ := LF.out
  clear LF
  have H_26 := Vl.hide bx2
  have B26 := Vl.hide (B25.out.trans (Below.mono bb B25.out.size))
  have sz26 : W25.heap.size ≤ WX2.heap.size := by have qz := bb.size; (try simp only [World.size_alloc] at qz); (try simp only [World.size_alloc]); exact qz
  try clear u0 u1 u2 u3
  try clear u0 u1
  try clear v0 v1 v2 v3
  try clear v0 v1
  try clear z0 z1 z2 z3
  try clear z0 z1
  try clear p0 p1 p2 p3
  try clear p0 p1
  try clear fa0 fa1 fa2 fa3
  try clear fa0 fa1
  try clear fb0 fb1 fb2 fb3
  try clear fb0 fb1
  try clear fc0 fc1 fc2 fc3
  try clear fc0 fc1
  try clear fd0 fd1 fd2 fd3
  try clear fd0 fd1
  have V0_26 := Vl.hide (Vo.Bx.below V0_25.out bb (by first | omega | (simp; done) | (simp; omega)))
  have V1_26 := Vl.hide (Vo.Bx.below V1_25.out bb (by first | omega | (simp; done) | (simp; omega)))
  have V2_26 := Vl.hide (Vo.Bx.below V2_25.out bb (by first | omega | (simp; done) | (simp; omega)))
  have S_26 := Vl.hide (Vo.Bx.below S_25.out bb (by first | omega | (simp; done) | (simp; omega)))
  have QS_26 := Vl.hide (QS_25.out.below bb)
  have QG_26 := Vl.hide (QG_25.out.below bb)
  have G_26 := Vl.hide (Vo.Bx.below G_25.out bb (by first | omega | (simp; done) | (simp; omega)))
  obtain ⟨u0, u1⟩ := V0_26.out
  obtain ⟨v0, v1⟩ := V1_26.out
  obtain ⟨z0, z1⟩ := V2_26.out
  obtain ⟨p0, p1⟩ := S_26.out
  obtain ⟨fa0, fa1⟩ := G_26.out
  clear bb
  obtain ⟨fb0, fb1⟩ := H_26.out
  clear bx2
  have QH_26 := Vl.hide qs2
  clear qs2
  have uu := fun k q => QH_26.out.blk (k := k) q
  try simp only [World.size_alloc] at uu
  have UQH := Vl.hide uu
  clear uu
  go_wp2_with fail
  refine (Vo.eqTensor _ _ _ _ _ T.r T.s hc hd sc sd T.D T.S T.D T.S _ (Nat.le_refl _) QH_26.out.d.ints QH_26.out.t.ints QS_26.out.d.ints QS_26.out.t.ints (fun _ _ => rfl) (fun _ _ => rfl) lv lw).mono ?_; rintro e W27 ⟨rfl, bb⟩
  have B27 := Vl.hide (B26.out.trans (Below.mono bb B26.out.size))
  have sz27 : WX2.heap.size ≤ W27.heap.size := by have qz := bb.size; (try simp only [World.size_alloc] at qz); (try simp only [World.size_alloc]); exact qz
  try clear u0 u1 u2 u3
  try clear u0 u1
  try clear v0 v1 v2 v3
  try clear v0 v1
  try clear z0 z1 z2 z3
  try clear z0 z1
  try clear p0 p1 p2 p3
  try clear p0 p1
  try clear fa0 fa1 fa2 fa3
  try clear fa0 fa1
  try clear fb0 fb1 fb2 fb3
  try clear fb0 fb1
  try clear fc0 fc1 fc2 fc3
  try clear fc0 fc1
  try clear fd0 fd1 fd2 fd3
  try clear fd0 fd1
  have V0_27 := Vl.hide (Vo.Bx.below V0_26.out bb (by first | omega | (simp; done) | (simp; omega)))
  have V1_27 := Vl.hide (Vo.Bx.below V1_26.out bb (by first | omega | (simp; done) | (simp; omega)))
  have V2_27 := Vl.hide (Vo.Bx.below V2_26.out bb (by first | omega | (simp; done) | (simp; omega)))
  have S_27 := Vl.hide (Vo.Bx.below S_26.out bb (by first | omega | (simp; done) | (simp; omega)))
  have QS_27 := Vl.hide (QS_26.out.below bb)
  have QG_27 := Vl.hide (QG_26.out.below bb)
  have G_27 := Vl.hide (Vo.Bx.below G_26.out bb (by first | omega | (simp; done) | (simp; omega)))
  have H_27 := Vl.hide (Vo.Bx.below H_26.out bb (by first | omega | (simp; done) | (simp; omega)))
  have QH_27 := Vl.hide (QH_26.out.below bb)
  obtain ⟨u0, u1⟩ := V0_27.out
  obtain ⟨v0, v1⟩ := V1_27.out
  obtain ⟨z0, z1⟩ := V2_27.out
  obtain ⟨p0, p1⟩ := S_27.out
  obtain ⟨fa0, fa1⟩ := G_27.out
  obtain ⟨fb0, fb1⟩ := H_27.out
  clear bb
  go_wp2_with fail
  refine (Vo.heldTensor _ _ _ T.r T.s gc gd 1 _ QG_27.out lv lw (by omega) (by omega)).mono ?_; rintro e W28 ⟨rfl, bb⟩
  have B28 := Vl.hide (B27.out.trans (Below.mono bb B27.out.size))
  have sz28 : W27.heap.size ≤ W28.heap.size := by have qz := bb.size; (try simp only [World.size_alloc] at qz); (try simp only [World.size_alloc]); exact qz
  try clear u0 u1 u2 u3
  try clear u0 u1
  try clear v0 v1 v2 v3
  try clear v0 v1
  try clear z0 z1 z2 z3
  try clear z0 z1
  try clear p0 p1 p2 p3
  try clear p0 p1
  try clear fa0 fa1 fa2 fa3
  try clear fa0 fa1
  try clear fb0 fb1 fb2 fb3
  try clear fb0 fb1
  try clear fc0 fc1 fc2 fc3
  try clear fc0 fc1
  try clear fd0 fd1 fd2 fd3
  try clear fd0 fd1
  have V0_28 := Vl.hide (Vo.Bx.below V0_27.out bb (by first | omega | (simp; done) | (simp; omega)))
  have V1_28 := Vl.hide (Vo.Bx.below V1_27.out bb (by first | omega | (simp; done) | (simp; omega)))
  have V2_28 := Vl.hide (Vo.Bx.below V2_27.out bb (by first | omega | (simp; done) | (simp; omega)))
  have S_28 := Vl.hide (Vo.Bx.below S_27.out bb (by first | omega | (simp; done) | (simp; omega)))
  have QS_28 := Vl.hide (QS_27.out.below bb)
  have QG_28 := Vl.hide (QG_27.out.below bb)
  have G_28 := Vl.hide (Vo.Bx.below G_27.out bb (by first | omega | (simp; done) | (simp; omega)))
  have H_28 := Vl.hide (Vo.Bx.below H_27.out bb (by first | omega | (simp; done) | (simp; omega)))
  have QH_28 := Vl.hide (QH_27.out.below bb)
  obtain ⟨u0, u1⟩ := V0_28.out
  obtain ⟨v0, v1⟩ := V1_28.out
  obtain ⟨z0, z1⟩ := V2_28.out
  obtain ⟨p0, p1⟩ := S_28.out
  obtain ⟨fa0, fa1⟩ := G_28.out
  obtain ⟨fb0, fb1⟩ := H_28.out
  clear bb
  go_wp2_with fail
  go_ret
  exact ⟨rfl, B28.out⟩

set_option maxRecDepth 100000 in
theorem lifted (os : Os) (started : os.Started) (H : Type) (enc : TypeId × Value → H) :
    ReturnsInHanded {} Try.checked os 4 .any (Rows.fnExactAttendSpec.pre6 enc Try.prog Try.f4 Rows.fnExactAttendRow.domain false) (Rows.fnExactAttendSpec.post enc Try.prog Try.f4 false true false false) := by
  refine returnsInHanded_of_change (C := Try.checked) own started (by kernel_rfl) Try.func4
    (ChangeSpec.witness6 (enc := enc) (C := Try.checked) false ⟨#[], #[.agg #[.slice none 0 0, .slice none 0 0], .agg #[.slice none 0 0, .slice none 0 0], .agg #[.slice none 0 0, .slice none 0 0], .int .i64 0], []⟩ 8 (by kernel_rfl) (by kernel_rfl) (by kernel_rfl) (by kernel_rfl)) ?_
  intro W base args ds gs before hval0 hW hcnd _
  have hval : ∀ (j : Nat) t v, Try.f4.params[j]? = some t → args[j]? = some v → Value.okWide Try.prog W .any base t v := hval0
  have hW' := hW
  obtain ⟨p, q, hA0, hV, rfl, hfz, hnd⟩ := hW
  have hA : DataW.TrodAll enc Try.prog W 0 (fun _ => true) true Try.f4.params.toList args.toList ds p := hA0
  rw [Try.params4] at hA hval
  obtain ⟨v0, vs0, d0, ds0, p0, q0, hargs, rfl, rfl, h0, rst0⟩ := trodAll_cons hA
  obtain ⟨v1, vs1, d1, ds1, p1, q1, rfl, rfl, rfl, h1, rst1⟩ := trodAll_cons rst0
  obtain ⟨v2, vs2, d2, ds2, p2, q2, rfl, rfl, rfl, h2, rst2⟩ := trodAll_cons rst1
  obtain ⟨v3, vs3, d3, ds3, p3, q3, rfl, rfl, rfl, h3, rst3⟩ := trodAll_cons rst2
  obtain ⟨rfl, rfl, rfl⟩ := trodAll_nil rst3
  obtain rfl : args = #[v0, v1, v2, v3] := by cases args; simp_all
  obtain ⟨rfl, rfl⟩ := trodVars_none hV
  have k0 := h0
  have lt0 : ∀ x ∈ p0, x.block < W.heap.size := by obtain ⟨m, hm⟩ := k0; exact DataW.trod_lt m _ _ _ hm
  obtain ⟨c00, c01, u00, u01, m0, rfl, _, _, hy00, hy01⟩ := open_agg2 Try.underlying24 (by kernel_rfl) (by kernel_rfl) (hval 0 24 v0 rfl rfl) h0
  obtain ⟨a0, r0, cap0, rfl, w0⟩ := Vl.arg_of hy00
  obtain ⟨b0, s0, dap0, rfl, y0⟩ := Vl.arg_of hy01
  have k1 := h1
  have lt1 : ∀ x ∈ p1, x.block < W.heap.size := by obtain ⟨m, hm⟩ := k1; exact DataW.trod_lt m _ _ _ hm
  obtain ⟨c10, c11, u10, u11, m1, rfl, _, _, hy10, hy11⟩ := open_agg2 Try.underlying24 (by kernel_rfl) (by kernel_rfl) (hval 1 24 v1 rfl rfl) h1
  obtain ⟨a1, r1, cap1, rfl, w1⟩ := Vl.arg_of hy10
  obtain ⟨b1, s1, dap1, rfl, y1⟩ := Vl.arg_of hy11
  have k2 := h2
  have lt2 : ∀ x ∈ p2, x.block < W.heap.size := by obtain ⟨m, hm⟩ := k2; exact DataW.trod_lt m _ _ _ hm
  obtain ⟨c20, c21, u20, u21, m2, rfl, _, _, hy20, hy21⟩ := open_agg2 Try.underlying24 (by kernel_rfl) (by kernel_rfl) (hval 2 24 v2 rfl rfl) h2
  obtain ⟨a2, r2, cap2, rfl, w2⟩ := Vl.arg_of hy20
  obtain ⟨b2, s2, dap2, rfl, y2⟩ := Vl.arg_of hy21
  have k3 := h3
  have lt3 : ∀ x ∈ p3, x.block < W.heap.size := by obtain ⟨m, hm⟩ := k3; exact DataW.trod_lt m _ _ _ hm
  obtain ⟨a3, rfl, e3, _, w3⟩ := open_int Try.underlying3 (hval 3 3 v3 rfl rfl) h3
  clear hA0 hval0
  refine (walk a0 r0 cap0 b0 s0 dap0 a1 r1 cap1 b1 s1 dap1 a2 r2 cap2 b2 s2 dap2 a3 w3 W w0 y0 w1 y1 w2 y2).mono fun e W' ⟨he, bel⟩ => ?_
  subst he
  exact ⟨_, rfl, _, _, _, [], _, [], hW', trodAll_mk1 (shut_bool Try.underlying4 _), (trodAll_cons_mk (Below.trod laidOut (by kernel_rfl) (of_decide_eq_true (by kernel_rfl)) k0 bel lt0) (trodAll_cons_mk (Below.trod laidOut (by kernel_rfl) (of_decide_eq_true (by kernel_rfl)) k1 bel lt1) (trodAll_cons_mk (Below.trod laidOut (by kernel_rfl) (of_decide_eq_true (by kernel_rfl)) k2 bel lt2) (trodAll_cons_mk (Below.trod laidOut (by kernel_rfl) (of_decide_eq_true (by kernel_rfl)) k3 bel lt3) trodAll_mk0)))), rfl, bel.frame _, fun h => by cases h⟩

theorem over : Rows.fnExactAttendRow.holds Try.pinned (OpenSpec.ofChange Rows.fnExactAttendSpec) :=
  OpenClaim.holds_of_wide 4 Try.f4 rfl rfl rfl rfl rfl rfl rfl ⟨rfl, rfl, rfl, rfl, rfl⟩ rfl rfl rfl rfl rfl (by kernel_rfl) Try.func4 (by kernel_rfl)
    (of_decide_eq_true (by kernel_rfl)) (by unfold Func.isWrapper; first | (rw [if_pos (by decide +kernel)]; kernel_rfl) | (rw [if_neg (by decide +kernel)]; exact ⟨rfl, rfl⟩))
    (fun os started H enc _ => lifted os started H enc)

theorem proved : Rows.FnExactAttendSaid := over
#print axioms proved
end Go.Proofs.Ytgcialbchmbgkaa.fnExactAttend
