/-
  Proved: whatever the arguments, 'FnExactConv' returns true: the landed function answers as its model, and what came in reads as it did. No condition.
-/
import Derived.Test.YtgcialbchmbgkaaRows
import Derived.Test.YtgcialbchmbgkaaVl
import Derived.Test.YtgcialbchmbgkaaVp
import Derived.Test.YtgcialbchmbgkaaVs
import Derived.Test.YtgcialbchmbgkaaVq
import Derived.Test.YtgcialbchmbgkaaVo
import Derived.Test.YtgcialbchmbgkaaVm
import Derived.Test.YtgcialbchmbgkaaVn
import Derived.Test.YtgcialbchmbgkaaVt
import Derived.Test.YtgcialbchmbgkaaVv
import Derived.Test.YtgcialbchmbgkaaTa
import Derived.Test.YtgcialbchmbgkaaTza
import Derived.Test.YtgcialbchmbgkaaTb
import Derived.Test.YtgcialbchmbgkaaVr
import Derived.Test.YtgcialbchmbgkaaVw
import Derived.Test.YtgcialbchmbgkaaVx
import Derived.Test.YtgcialbchmbgkaaVy
import Derived.Test.YtgcialbchmbgkaaVz
import Derived.Test.YtgcialbchmbgkaaVc
import Derived.Test.YtgcialbchmbgkaaVac
import Derived.Test.YtgcialbchmbgkaaVaf
import Derived.Test.YtgcialbchmbgkaaVag
import Derived.Test.YtgcialbchmbgkaaNum
import Derived.Test.YtgcialbchmbgkaaBase
import Derived.Test.YtgcialbchmbgkaaTc
import Derived.Test.YtgcialbchmbgkaaTp
import Derived.Test.YtgcialbchmbgkaaLn
import Derived.Test.YtgcialbchmbgkaaTf
import Derived.Test.YtgcialbchmbgkaaTg
import Derived.Test.YtgcialbchmbgkaaTh
import Derived.Test.YtgcialbchmbgkaaTi
import Derived.Test.YtgcialbchmbgkaaQt
import Derived.Test.YtgcialbchmbgkaaZa
import Derived.Test.YtgcialbchmbgkaaZb
import Derived.Test.YtgcialbchmbgkaaZc
import Derived.Test.YtgcialbchmbgkaaZd
import Derived.Test.YtgcialbchmbgkaaZe
import Derived.Test.YtgcialbchmbgkaaQf
import Derived.Test.YtgcialbchmbgkaaZf
import Derived.Test.YtgcialbchmbgkaaVu
import Derived.Test.YtgcialbchmbgkaaZg
import Derived.Test.YtgcialbchmbgkaaZh
import Derived.Test.YtgcialbchmbgkaaZi
import Derived.Test.YtgcialbchmbgkaaTr
import Derived.Test.YtgcialbchmbgkaaLw
import Derived.Test.YtgcialbchmbgkaaZj
import Derived.WalkKit
import Derived.ProofKit
import Derived.OpenShut
import Derived.ShutString
import Derived.ChangeOld
import Derived.Below
import Derived.Lib.SmallJoins
import Derived.OpenVars
import Derived.ChangeVars
import Derived.Deep.RegionHeld3
namespace Go.Proofs.Ytgcialbchmbgkaa.fnExactConv
open Go.ChangeShapes Go.WideShapes Go.ChangeAt Go.RowKit Go.Joins
open Go.ChangeMaps (open_string shut_string)
set_option linter.unusedVariables false
set_option linter.unusedSimpArgs false

theorem own : ownKnob Try.prog.godebug = none := by kernel_rfl
theorem laidOut : laidOutB Try.prog = true := by kernel_rfl

set_option maxRecDepth 100000 in
set_option maxHeartbeats 4000000 in
theorem walk (a0 : Option Addr) (r0 cap0 : Nat) (b0 : Option Addr) (s0 dap0 : Nat) (a1 : Option Addr) (r1 cap1 : Nat) (b1 : Option Addr) (s1 dap1 : Nat) (a2 : Int) (w2 : (Lit.int .i64 a2).wf = true) (a3 : Int) (w3 : (Lit.int .i64 a3).wf = true) (a4 : Int) (w4 : (Lit.int .i64 a4).wf = true) (a5 : Int) (w5 : (Lit.int .i64 a5).wf = true) (w : World) (w0 : Vl.Arg w a0 r0) (y0 : Vl.Arg w b0 s0) (w1 : Vl.Arg w a1 r1) (y1 : Vl.Arg w b1 s1) :
    Calls Try.prog 3 #[.agg #[.slice a0 r0 cap0, .slice b0 s0 dap0], .agg #[.slice a1 r1 cap1, .slice b1 s1 dap1], .int .i64 a2, .int .i64 a3, .int .i64 a4, .int .i64 a5] w fun e w' => e = .returned (.bool true) ∧ Below w.heap.size w w' := by
  obtain ⟨hr0, D0, hh0⟩ := w0
  obtain ⟨hs0, S0, hk0⟩ := y0
  have H0 := Vl.hide hh0
  have K0 := Vl.hide hk0
  clear hh0 hk0
  obtain ⟨hr1, D1, hh1⟩ := w1
  obtain ⟨hs1, S1, hk1⟩ := y1
  have H1 := Vl.hide hh1
  have K1 := Vl.hide hk1
  clear hh1 hk1
  have B0 := Vl.hide (Below.refl w.heap.size w)
  have bb := (Below.refl w.heap.size w).alloc (Nat.le_refl _) (.cells #[.slice a0 r0 cap0, .slice b0 s0 dap0] 24)
  have V0_1 := Vl.hide (Vo.bx_new w (.slice a0 r0 cap0) (.slice b0 s0 dap0) 24)
  have B1 := Vl.hide (B0.out.trans (Below.mono bb B0.out.size))
  have sz1 : w.heap.size ≤ (w.alloc (.cells #[.slice a0 r0 cap0, .slice b0 s0 dap0] 24)).heap.size := by have qz := bb.size; (try simp only [World.size_alloc] at qz); (try simp only [World.size_alloc]); exact qz
  simp only [World.size_alloc] at sz1
  try clear u0 u1 u2 u3
  try clear u0 u1
  try clear v0 v1 v2 v3
  try clear v0 v1
  try clear z0 z1 z2 z3
  try clear z0 z1
  try clear p0 p1 p2 p3
  try clear p0 p1
  try clear fa0 fa1 fa2 fa3
  try clear fa0 fa1
  try clear fb0 fb1 fb2 fb3
  try clear fb0 fb1
  try clear fc0 fc1 fc2 fc3
  try clear fc0 fc1
  try clear fd0 fd1 fd2 fd3
  try clear fd0 fd1
  clear bb
  obtain ⟨u0, u1⟩ := V0_1.out
  have bb := (Below.refl (w.alloc (.cells #[.slice a0 r0 cap0, .slice b0 s0 dap0] 24)).heap.size (w.alloc (.cells #[.slice a0 r0 cap0, .slice b0 s0 dap0] 24))).alloc (Nat.le_refl _) (.cells #[.slice a1 r1 cap1, .slice b1 s1 dap1] 24)
  have V1_2 := Vl.hide (Vo.bx_new (w.alloc (.cells #[.slice a0 r0 cap0, .slice b0 s0 dap0] 24)) (.slice a1 r1 cap1) (.slice b1 s1 dap1) 24)
  simp only [World.size_alloc] at V1_2
  have B2 := Vl.hide (B1.out.trans (Below.mono bb B1.out.size))
  have sz2 : (w.heap.size + 1) ≤ ((w.alloc (.cells #[.slice a0 r0 cap0, .slice b0 s0 dap0] 24)).alloc (.cells #[.slice a1 r1 cap1, .slice b1 s1 dap1] 24)).heap.size := by have qz := bb.size; (try simp only [World.size_alloc] at qz); (try simp only [World.size_alloc]); exact qz
  simp only [World.size_alloc] at sz2
  try clear u0 u1 u2 u3
  try clear u0 u1
  try clear v0 v1 v2 v3
  try clear v0 v1
  try clear z0 z1 z2 z3
  try clear z0 z1
  try clear p0 p1 p2 p3
  try clear p0 p1
  try clear fa0 fa1 fa2 fa3
  try clear fa0 fa1
  try clear fb0 fb1 fb2 fb3
  try clear fb0 fb1
  try clear fc0 fc1 fc2 fc3
  try clear fc0 fc1
  try clear fd0 fd1 fd2 fd3
  try clear fd0 fd1
  have V0_2 := Vl.hide (Vo.Bx.below V0_1.out bb (by first | omega | (simp; done) | (simp; omega)))
  obtain ⟨u0, u1⟩ := V0_2.out
  clear bb
  obtain ⟨v0, v1⟩ := V1_2.out
  go_enter Try.func3, Try.ntmps3
  go_wp2_with fail
  refine (Vo.szTensor a0 b0 r0 s0 cap0 dap0 1048576 _ (by omega) (by omega) hr0 hs0).mono ?_; rintro e W3 ⟨x0, rfl, hx0, bb⟩
  have B3 := Vl.hide (B2.out.trans (Below.mono bb B2.out.size))
  have sz3 : ((w.heap.size + 1) + 1) ≤ W3.heap.size := by have qz := bb.size; (try simp only [World.size_alloc] at qz); (try simp only [World.size_alloc]); exact qz
  try clear u0 u1 u2 u3
  try clear u0 u1
  try clear v0 v1 v2 v3
  try clear v0 v1
  try clear z0 z1 z2 z3
  try clear z0 z1
  try clear p0 p1 p2 p3
  try clear p0 p1
  try clear fa0 fa1 fa2 fa3
  try clear fa0 fa1
  try clear fb0 fb1 fb2 fb3
  try clear fb0 fb1
  try clear fc0 fc1 fc2 fc3
  try clear fc0 fc1
  try clear fd0 fd1 fd2 fd3
  try clear fd0 fd1
  have V0_3 := Vl.hide (Vo.Bx.below V0_2.out bb (by first | omega | (simp; done) | (simp; omega)))
  have V1_3 := Vl.hide (Vo.Bx.below V1_2.out bb (by first | omega | (simp; done) | (simp; omega)))
  obtain ⟨u0, u1⟩ := V0_3.out
  obtain ⟨v0, v1⟩ := V1_3.out
  clear bb
  by_cases hn0 : x0 < 0
  · clear hx0
    go_wp2_with fail
    go_ret
    exact ⟨rfl, B3.out⟩
  have hm0 : decide (x0 < 0) = false := by rw [decide_eq_false_iff_not]; exact hn0
  obtain ⟨lx0, lr0, ls0⟩ := hx0 (by omega)
  have lz0 : 0 ≤ x0 := by omega
  clear hn0 hx0 hr0 hs0
  go_wp2_with fail
  refine (Vo.szTensor a1 b1 r1 s1 cap1 dap1 x0 _ (by omega) (by omega) hr1 hs1).mono ?_; rintro e W4 ⟨x1, rfl, hx1, bb⟩
  have B4 := Vl.hide (B3.out.trans (Below.mono bb B3.out.size))
  have sz4 : W3.heap.size ≤ W4.heap.size := by have qz := bb.size; (try simp only [World.size_alloc] at qz); (try simp only [World.size_alloc]); exact qz
  try clear u0 u1 u2 u3
  try clear u0 u1
  try clear v0 v1 v2 v3
  try clear v0 v1
  try clear z0 z1 z2 z3
  try clear z0 z1
  try clear p0 p1 p2 p3
  try clear p0 p1
  try clear fa0 fa1 fa2 fa3
  try clear fa0 fa1
  try clear fb0 fb1 fb2 fb3
  try clear fb0 fb1
  try clear fc0 fc1 fc2 fc3
  try clear fc0 fc1
  try clear fd0 fd1 fd2 fd3
  try clear fd0 fd1
  have V0_4 := Vl.hide (Vo.Bx.below V0_3.out bb (by first | omega | (simp; done) | (simp; omega)))
  have V1_4 := Vl.hide (Vo.Bx.below V1_3.out bb (by first | omega | (simp; done) | (simp; omega)))
  obtain ⟨u0, u1⟩ := V0_4.out
  obtain ⟨v0, v1⟩ := V1_4.out
  clear bb
  by_cases hn1 : x1 < 0
  · clear hx1
    go_wp2_with fail
    go_ret
    exact ⟨rfl, B4.out⟩
  have hm1 : decide (x1 < 0) = false := by rw [decide_eq_false_iff_not]; exact hn1
  obtain ⟨lx1, lr1, ls1⟩ := hx1 (by omega)
  have lz1 : 0 ≤ x1 := by omega
  clear hn1 hx1 hr1 hs1
  have d2 : Vl.bd a2 := bounds_i64 w2
  have d3 : Vl.bd a3 := bounds_i64 w3
  have d4 : Vl.bd a4 := bounds_i64 w4
  have d5 : Vl.bd a5 := bounds_i64 w5
  have lv : (((Vo.convP ⟨none, none, r0, s0, r0, s0, D0, S0⟩ ⟨none, none, r1, s1, r1, s1, D1, S1⟩ a2 a3 a4 a5).r : Nat) : Int) ≤ 1048576 := by have := (Vo.convP_le ⟨none, none, r0, s0, r0, s0, D0, S0⟩ ⟨none, none, r1, s1, r1, s1, D1, S1⟩ a2 a3 a4 a5).1; omega
  have lw : (((Vo.convP ⟨none, none, r0, s0, r0, s0, D0, S0⟩ ⟨none, none, r1, s1, r1, s1, D1, S1⟩ a2 a3 a4 a5).s : Nat) : Int) ≤ 1048576 := by have := (Vo.convP_le ⟨none, none, r0, s0, r0, s0, D0, S0⟩ ⟨none, none, r1, s1, r1, s1, D1, S1⟩ a2 a3 a4 a5).2; omega
  obtain ⟨T, hT⟩ : ∃ T, (Vo.convP ⟨none, none, r0, s0, r0, s0, D0, S0⟩ ⟨none, none, r1, s1, r1, s1, D1, S1⟩ a2 a3 a4 a5) = T := ⟨_, rfl⟩
  have CS := Vl.hide (show ∀ (B : Nat) (g0 g0' g1 g1' : Addr) (w : World) (hB : B ≤ w.heap.size) (h0 : Vl.Ints B w (some g0) r0 D0) (h0' : Vl.Ints B w (some g0') s0 S0) (h1 : Vl.Ints B w (some g1) r1 D1) (h1' : Vl.Ints B w (some g1') s1 S1), Calls Try.prog 7 #[.agg #[.slice (some g0) r0 r0, .slice (some g0') s0 s0], .agg #[.slice (some g1) r1 r1, .slice (some g1') s1 s1], .int .i64 a2, .int .i64 a3, .int .i64 a4, .int .i64 a5] w fun e w' => Vo.TensR w.heap.size T w e w' from fun B g0 g0' g1 g1' w hB h0 h0' h1 h1' => by rw [← hT]; exact ((Vo.convP_same (x := ⟨none, none, r0, s0, r0, s0, D0, S0⟩) (k := ⟨none, none, r1, s1, r1, s1, D1, S1⟩) (x' := ⟨some g0, some g0', r0, s0, r0, s0, D0, S0⟩) (k' := ⟨some g1, some g1', r1, s1, r1, s1, D1, S1⟩) (st := a2) (pd := a3) (dl := a4) (gr := a5) ⟨rfl, rfl, rfl, rfl⟩ ⟨rfl, rfl, rfl, rfl⟩).symm ▸ Vo.specConv B ⟨some g0, some g0', r0, s0, r0, s0, D0, S0⟩ ⟨some g1, some g1', r1, s1, r1, s1, D1, S1⟩ a2 a3 a4 a5 w hB ⟨h0, h0'⟩ ⟨h1, h1'⟩ ⟨lr0, ls0⟩ ⟨lr1, ls1⟩))
  have CI := Vl.hide (show ∀ (B : Nat) (g0 g0' g1 g1' : Addr) (w : World) (hB : B ≤ w.heap.size) (h0 : Vl.Ints B w (some g0) r0 D0) (h0' : Vl.Ints B w (some g0') s0 S0) (h1 : Vl.Ints B w (some g1) r1 D1) (h1' : Vl.Ints B w (some g1') s1 S1), Calls Try.prog 9 #[.agg #[.slice (some g0) r0 r0, .slice (some g0') s0 s0], .agg #[.slice (some g1) r1 r1, .slice (some g1') s1 s1], .int .i64 a2, .int .i64 a3, .int .i64 a4, .int .i64 a5] w fun e w' => Vo.TensR w.heap.size T w e w' from fun B g0 g0' g1 g1' w hB h0 h0' h1 h1' => by rw [← hT]; exact ((Vo.convP_same (x := ⟨none, none, r0, s0, r0, s0, D0, S0⟩) (k := ⟨none, none, r1, s1, r1, s1, D1, S1⟩) (x' := ⟨some g0, some g0', r0, s0, r0, s0, D0, S0⟩) (k' := ⟨some g1, some g1', r1, s1, r1, s1, D1, S1⟩) (st := a2) (pd := a3) (dl := a4) (gr := a5) ⟨rfl, rfl, rfl, rfl⟩ ⟨rfl, rfl, rfl, rfl⟩).symm ▸ Vo.convF B ⟨some g0, some g0', r0, s0, r0, s0, D0, S0⟩ ⟨some g1, some g1', r1, s1, r1, s1, D1, S1⟩ a2 a3 a4 a5 w hB ⟨h0, h0'⟩ ⟨h1, h1'⟩ ⟨lr0, ls0⟩ ⟨lr1, ls1⟩ d2 d3 d4 d5))
  rw [hT] at lv lw
  clear hT
  have HT0 := Vl.hide (fun (W : World) (hW : Below W4.heap.size W4 W) => Vo.toTensor w.heap.size a0 b0 r0 s0 cap0 dap0 D0 S0 W (H0.out.below (B4.out.trans (hW.mono B4.out.size))) (K0.out.below (B4.out.trans (hW.mono B4.out.size))) (Nat.le_trans B4.out.size hW.size) lr0 ls0)
  have HV0 := Vl.hide (fun (W : World) (hW : Below W4.heap.size W4 W) => Vo.Bx.below V0_4.out hW (by omega))
  have HT1 := Vl.hide (fun (W : World) (hW : Below W4.heap.size W4 W) => Vo.toTensor w.heap.size a1 b1 r1 s1 cap1 dap1 D1 S1 W (H1.out.below (B4.out.trans (hW.mono B4.out.size))) (K1.out.below (B4.out.trans (hW.mono B4.out.size))) (Nat.le_trans B4.out.size hW.size) lr1 ls1)
  have HV1 := Vl.hide (fun (W : World) (hW : Below W4.heap.size W4 W) => Vo.Bx.below V1_4.out hW (by omega))
  go_wp2_with fail
  refine Qf.facts2 10 (by kernel_rfl) (by kernel_rfl) (by kernel_rfl) (fun i v wx => match i with | 0 => v = .agg #[.slice a0 r0 cap0, .slice b0 s0 dap0] | 1 => Vo.TenV W4.heap.size r0 s0 D0 S0 v wx | 2 => v = .agg #[.slice a1 r1 cap1, .slice b1 s1 dap1] | 3 => Vo.TenV W4.heap.size r1 s1 D1 S1 v wx | 4 => v = .int .i64 a2 | 5 => v = .int .i64 a3 | 6 => v = .int .i64 a4 | 7 => v = .int .i64 a5 | 8 => Vo.TenW W4.heap.size T v wx | 9 => Vo.PtrZ W4.heap.size v wx | _ => True) ?stable ?steps ?rest
  case stable =>
    intro i v w1 w2 h hb
    match i, h with
    | 0, h => exact h
    | 1, h => exact Vo.TenV.below h hb
    | 2, h => exact h
    | 3, h => exact Vo.TenV.below h hb
    | 4, h => exact h
    | 5, h => exact h
    | 6, h => exact h
    | 7, h => exact h
    | 8, h => exact Vo.TenW.below h hb
    | 9, h => exact Vo.PtrZ.below h hb
    | _ + 10, h => exact h
  case steps =>
    intro i o hi ho s A w1 hb hk hA hO
    match i, hi, ho, hk with
    | 0, _, ho, hk =>
      cases ho
      exact Qf.lands_val _ _ (Vo.runLoadT rfl ((hO 6 (by rfl)).trans rfl) (HV0.out w1 hb)) ⟨Below.refl _ _, rfl⟩
    | 1, _, ho, hk =>
      cases ho
      have e0 := hk 0 (by kernel_rfl)
      have h0 := hA 0 _ 32 (by decide) rfl rfl (by simp)
      rw [e0] at h0
      refine Qf.lands_call 8 _ _ rfl (enters_of Try.func8 (by kernel_rfl) rfl) _ (by simp [h0]) ((HT0.out w1 hb).mono ?_)
      rintro e w2 ⟨g5, g6, rfl, qA, bA⟩
      exact ⟨_, rfl, bA, g5, g6, rfl, qA.mono hb.size⟩
    | 2, _, ho, hk =>
      cases ho
      exact Qf.lands_val _ _ (Vo.runLoadT rfl ((hO 7 (by rfl)).trans rfl) (HV1.out w1 hb)) ⟨Below.refl _ _, rfl⟩
    | 3, _, ho, hk =>
      cases ho
      have e0 := hk 2 (by kernel_rfl)
      have h0 := hA 2 _ 34 (by decide) rfl rfl (by simp)
      rw [e0] at h0
      refine Qf.lands_call 8 _ _ rfl (enters_of Try.func8 (by kernel_rfl) rfl) _ (by simp [h0]) ((HT1.out w1 hb).mono ?_)
      rintro e w2 ⟨g5, g6, rfl, qA, bA⟩
      exact ⟨_, rfl, bA, g5, g6, rfl, qA.mono hb.size⟩
    | 4, _, ho, hk =>
      cases ho
      exact Qf.lands_move _ rfl _ ((hO 2 (by rfl)).trans rfl) ⟨Below.refl _ _, rfl⟩
    | 5, _, ho, hk =>
      cases ho
      exact Qf.lands_move _ rfl _ ((hO 3 (by rfl)).trans rfl) ⟨Below.refl _ _, rfl⟩
    | 6, _, ho, hk =>
      cases ho
      exact Qf.lands_move _ rfl _ ((hO 4 (by rfl)).trans rfl) ⟨Below.refl _ _, rfl⟩
    | 7, _, ho, hk =>
      cases ho
      exact Qf.lands_move _ rfl _ ((hO 5 (by rfl)).trans rfl) ⟨Below.refl _ _, rfl⟩
    | 8, _, ho, hk =>
      cases ho
      have h1 := hA 1 _ 33 (by decide) rfl rfl (by simp)
      obtain ⟨x1, y1, e1, q1⟩ := hk 1 (by kernel_rfl)
      rw [e1] at h1
      have h3 := hA 3 _ 35 (by decide) rfl rfl (by simp)
      obtain ⟨x3, y3, e3, q3⟩ := hk 3 (by kernel_rfl)
      rw [e3] at h3
      have h4 := hA 4 _ 36 (by decide) rfl rfl (by simp)
      have e4 := hk 4 (by kernel_rfl)
      rw [e4] at h4
      have h5 := hA 5 _ 37 (by decide) rfl rfl (by simp)
      have e5 := hk 5 (by kernel_rfl)
      rw [e5] at h5
      have h6 := hA 6 _ 38 (by decide) rfl rfl (by simp)
      have e6 := hk 6 (by kernel_rfl)
      rw [e6] at h6
      have h7 := hA 7 _ 39 (by decide) rfl rfl (by simp)
      have e7 := hk 7 (by kernel_rfl)
      rw [e7] at h7
      refine Qf.lands_call 7 _ _ rfl (enters_of Try.func7 (by kernel_rfl) rfl) _ (by simp [h1, h3, h4, h5, h6, h7]) ((CS.out _ _ _ _ _ w1 (Nat.le_refl _) q1.d.ints q1.t.ints q3.d.ints q3.t.ints).mono ?_)
      rintro e w2 ⟨ta, tb, tc, td, rfl, qs, bC⟩
      exact ⟨_, rfl, bC, ta, tb, tc, td, rfl, qs.mono hb.size⟩
    | 9, _, ho, hk =>
      cases ho
      exact Qf.lands_val _ _ (Vo.runAllocT rfl) (Vo.ptrZ_new _ w1 hb.size)
    | _ + 10, hi, _, _ => exact absurd hi (by omega)
  case rest =>
  intro s WC1 hbS hk
  have e0 : s 0 = .agg #[.slice a0 r0 cap0, .slice b0 s0 dap0] := hk 0 (by decide)
  obtain ⟨x1, y1, e1, _⟩ := hk 1 (by decide)
  have e2 : s 2 = .agg #[.slice a1 r1 cap1, .slice b1 s1 dap1] := hk 2 (by decide)
  obtain ⟨x3, y3, e3, _⟩ := hk 3 (by decide)
  have e4 : s 4 = .int .i64 a2 := hk 4 (by decide)
  have e5 : s 5 = .int .i64 a3 := hk 5 (by decide)
  have e6 : s 6 = .int .i64 a4 := hk 6 (by decide)
  have e7 : s 7 = .int .i64 a5 := hk 7 (by decide)
  obtain ⟨sa, sb, sc, sd, e8, qs⟩ := hk 8 (by decide)
  obtain ⟨P1, e9, lP, hP, bz, fz⟩ := hk 9 (by decide)
  have LF := Vl.hide (Vo.left_set2 (tc := sc) (td := sd) qs hbS bz lP hP)
  simp only [List.take_succ_cons, List.take_zero, List.drop_succ_cons, List.drop_zero, Qf.lay, Qf.all1, if_true, e0, e1, e2, e3, e4, e5, e6, e7, e8, e9]
  clear hk qs hbS e0 e1 e2 e3 e4 e5 e6 e7 e8 e9 HT0 HV0 HT1 HV1
  obtain ⟨zz0, zz1⟩ := bz
  unfold Vo.Free at fz
  obtain ⟨WX1, hWX1⟩ : ∃ X, (WC1.setCell ⟨P1, 0, none⟩ (.slice sa T.r sc)).setCell ⟨P1, 1, none⟩ (.slice sb T.s sd) = X := ⟨_, rfl⟩
  rw [hWX1] at LF
  obtain ⟨hP1, bx1, qs1, bb⟩ := LF.out
  clear LF
  have S_5 := Vl.hide bx1
  have B5 := Vl.hide (B4.out.trans (Below.mono bb B4.out.size))
  have sz5 : W4.heap.size ≤ WX1.heap.size := by have qz := bb.size; (try simp only [World.size_alloc] at qz); (try simp only [World.size_alloc]); exact qz
  try clear u0 u1 u2 u3
  try clear u0 u1
  try clear v0 v1 v2 v3
  try clear v0 v1
  try clear z0 z1 z2 z3
  try clear z0 z1
  try clear p0 p1 p2 p3
  try clear p0 p1
  try clear fa0 fa1 fa2 fa3
  try clear fa0 fa1
  try clear fb0 fb1 fb2 fb3
  try clear fb0 fb1
  try clear fc0 fc1 fc2 fc3
  try clear fc0 fc1
  try clear fd0 fd1 fd2 fd3
  try clear fd0 fd1
  have V0_5 := Vl.hide (Vo.Bx.below V0_4.out bb (by first | omega | (simp; done) | (simp; omega)))
  have V1_5 := Vl.hide (Vo.Bx.below V1_4.out bb (by first | omega | (simp; done) | (simp; omega)))
  obtain ⟨u0, u1⟩ := V0_5.out
  obtain ⟨v0, v1⟩ := V1_5.out
  clear bb
  obtain ⟨z0, z1⟩ := S_5.out
  clear bx1
  have QS_5 := Vl.hide qs1
  clear qs1
  have uu := fun k q => QS_5.out.blk (k := k) q
  try simp only [World.size_alloc] at uu
  have UQS := Vl.hide uu
  clear uu
  go_wp2_with fail
  refine (Vo.toTensor w.heap.size a0 b0 r0 s0 cap0 dap0 D0 S0 _ (H0.out.below B5.out) (K0.out.below B5.out) B5.out.size lr0 ls0).mono ?_; rintro e W6 ⟨gx0, gx0', rfl, q6, bb⟩
  have B6 := Vl.hide (B5.out.trans (Below.mono bb B5.out.size))
  have sz6 : WX1.heap.size ≤ W6.heap.size := by have qz := bb.size; (try simp only [World.size_alloc] at qz); (try simp only [World.size_alloc]); exact qz
  try clear u0 u1 u2 u3
  try clear u0 u1
  try clear v0 v1 v2 v3
  try clear v0 v1
  try clear z0 z1 z2 z3
  try clear z0 z1
  try clear p0 p1 p2 p3
  try clear p0 p1
  try clear fa0 fa1 fa2 fa3
  try clear fa0 fa1
  try clear fb0 fb1 fb2 fb3
  try clear fb0 fb1
  try clear fc0 fc1 fc2 fc3
  try clear fc0 fc1
  try clear fd0 fd1 fd2 fd3
  try clear fd0 fd1
  have V0_6 := Vl.hide (Vo.Bx.below V0_5.out bb (by first | omega | (simp; done) | (simp; omega)))
  have V1_6 := Vl.hide (Vo.Bx.below V1_5.out bb (by first | omega | (simp; done) | (simp; omega)))
  have S_6 := Vl.hide (Vo.Bx.below S_5.out bb (by first | omega | (simp; done) | (simp; omega)))
  have QS_6 := Vl.hide (QS_5.out.below bb)
  obtain ⟨u0, u1⟩ := V0_6.out
  obtain ⟨v0, v1⟩ := V1_6.out
  obtain ⟨z0, z1⟩ := S_6.out
  clear bb
  have QX0_6 := Vl.hide q6
  clear q6
  have uu := fun k q => QX0_6.out.blk (k := k) q
  try simp only [World.size_alloc] at uu
  have UQX0 := Vl.hide uu
  clear uu
  have bb := (Below.refl W6.heap.size W6).alloc (Nat.le_refl _) (.cells #[.slice (some ⟨gx0, 0, none⟩) r0 r0, .slice (some ⟨gx0', 0, none⟩) s0 s0] 26)
  have X0_7 := Vl.hide (Vo.bx_new W6 (.slice (some ⟨gx0, 0, none⟩) r0 r0) (.slice (some ⟨gx0', 0, none⟩) s0 s0) 26)
  have B7 := Vl.hide (B6.out.trans (Below.mono bb B6.out.size))
  have sz7 : W6.heap.size ≤ (W6.alloc (.cells #[.slice (some ⟨gx0, 0, none⟩) r0 r0, .slice (some ⟨gx0', 0, none⟩) s0 s0] 26)).heap.size := by have qz := bb.size; (try simp only [World.size_alloc] at qz); (try simp only [World.size_alloc]); exact qz
  simp only [World.size_alloc] at sz7
  try clear u0 u1 u2 u3
  try clear u0 u1
  try clear v0 v1 v2 v3
  try clear v0 v1
  try clear z0 z1 z2 z3
  try clear z0 z1
  try clear p0 p1 p2 p3
  try clear p0 p1
  try clear fa0 fa1 fa2 fa3
  try clear fa0 fa1
  try clear fb0 fb1 fb2 fb3
  try clear fb0 fb1
  try clear fc0 fc1 fc2 fc3
  try clear fc0 fc1
  try clear fd0 fd1 fd2 fd3
  try clear fd0 fd1
  have V0_7 := Vl.hide (Vo.Bx.below V0_6.out bb (by first | omega | (simp; done) | (simp; omega)))
  have V1_7 := Vl.hide (Vo.Bx.below V1_6.out bb (by first | omega | (simp; done) | (simp; omega)))
  have S_7 := Vl.hide (Vo.Bx.below S_6.out bb (by first | omega | (simp; done) | (simp; omega)))
  have QS_7 := Vl.hide (QS_6.out.below bb)
  have QX0_7 := Vl.hide (QX0_6.out.below bb)
  obtain ⟨u0, u1⟩ := V0_7.out
  obtain ⟨v0, v1⟩ := V1_7.out
  obtain ⟨z0, z1⟩ := S_7.out
  clear bb
  obtain ⟨p0, p1⟩ := X0_7.out
  go_wp2_with fail
  refine (Vo.toTensor w.heap.size a1 b1 r1 s1 cap1 dap1 D1 S1 _ (H1.out.below B7.out) (K1.out.below B7.out) B7.out.size lr1 ls1).mono ?_; rintro e W8 ⟨gx1, gx1', rfl, q8, bb⟩
  have B8 := Vl.hide (B7.out.trans (Below.mono bb B7.out.size))
  have sz8 : (W6.heap.size + 1) ≤ W8.heap.size := by have qz := bb.size; (try simp only [World.size_alloc] at qz); (try simp only [World.size_alloc]); exact qz
  try clear u0 u1 u2 u3
  try clear u0 u1
  try clear v0 v1 v2 v3
  try clear v0 v1
  try clear z0 z1 z2 z3
  try clear z0 z1
  try clear p0 p1 p2 p3
  try clear p0 p1
  try clear fa0 fa1 fa2 fa3
  try clear fa0 fa1
  try clear fb0 fb1 fb2 fb3
  try clear fb0 fb1
  try clear fc0 fc1 fc2 fc3
  try clear fc0 fc1
  try clear fd0 fd1 fd2 fd3
  try clear fd0 fd1
  have V0_8 := Vl.hide (Vo.Bx.below V0_7.out bb (by first | omega | (simp; done) | (simp; omega)))
  have V1_8 := Vl.hide (Vo.Bx.below V1_7.out bb (by first | omega | (simp; done) | (simp; omega)))
  have S_8 := Vl.hide (Vo.Bx.below S_7.out bb (by first | omega | (simp; done) | (simp; omega)))
  have QS_8 := Vl.hide (QS_7.out.below bb)
  have QX0_8 := Vl.hide (QX0_7.out.below bb)
  have X0_8 := Vl.hide (Vo.Bx.below X0_7.out bb (by first | omega | (simp; done) | (simp; omega)))
  obtain ⟨u0, u1⟩ := V0_8.out
  obtain ⟨v0, v1⟩ := V1_8.out
  obtain ⟨z0, z1⟩ := S_8.out
  obtain ⟨p0, p1⟩ := X0_8.out
  clear bb
  have QX1_8 := Vl.hide q8
  clear q8
  have uu := fun k q => QX1_8.out.blk (k := k) q
  try simp only [World.size_alloc] at uu
  have UQX1 := Vl.hide uu
  clear uu
  have bb := (Below.refl W8.heap.size W8).alloc (Nat.le_refl _) (.cells #[.slice (some ⟨gx1, 0, none⟩) r1 r1, .slice (some ⟨gx1', 0, none⟩) s1 s1] 26)
  have X1_9 := Vl.hide (Vo.bx_new W8 (.slice (some ⟨gx1, 0, none⟩) r1 r1) (.slice (some ⟨gx1', 0, none⟩) s1 s1) 26)
  have B9 := Vl.hide (B8.out.trans (Below.mono bb B8.out.size))
  have sz9 : W8.heap.size ≤ (W8.alloc (.cells #[.slice (some ⟨gx1, 0, none⟩) r1 r1, .slice (some ⟨gx1', 0, none⟩) s1 s1] 26)).heap.size := by have qz := bb.size; (try simp only [World.size_alloc] at qz); (try simp only [World.size_alloc]); exact qz
  simp only [World.size_alloc] at sz9
  try clear u0 u1 u2 u3
  try clear u0 u1
  try clear v0 v1 v2 v3
  try clear v0 v1
  try clear z0 z1 z2 z3
  try clear z0 z1
  try clear p0 p1 p2 p3
  try clear p0 p1
  try clear fa0 fa1 fa2 fa3
  try clear fa0 fa1
  try clear fb0 fb1 fb2 fb3
  try clear fb0 fb1
  try clear fc0 fc1 fc2 fc3
  try clear fc0 fc1
  try clear fd0 fd1 fd2 fd3
  try clear fd0 fd1
  have V0_9 := Vl.hide (Vo.Bx.below V0_8.out bb (by first | omega | (simp; done) | (simp; omega)))
  have V1_9 := Vl.hide (Vo.Bx.below V1_8.out bb (by first | omega | (simp; done) | (simp; omega)))
  have S_9 := Vl.hide (Vo.Bx.below S_8.out bb (by first | omega | (simp; done) | (simp; omega)))
  have QS_9 := Vl.hide (QS_8.out.below bb)
  have QX0_9 := Vl.hide (QX0_8.out.below bb)
  have X0_9 := Vl.hide (Vo.Bx.below X0_8.out bb (by first | omega | (simp; done) | (simp; omega)))
  have QX1_9 := Vl.hide (QX1_8.out.below bb)
  obtain ⟨u0, u1⟩ := V0_9.out
  obtain ⟨v0, v1⟩ := V1_9.out
  obtain ⟨z0, z1⟩ := S_9.out
  obtain ⟨p0, p1⟩ := X0_9.out
  clear bb
  obtain ⟨fa0, fa1⟩ := X1_9.out
  go_wp2_with fail
  refine (CI.out _ _ _ _ _ _ (Nat.le_refl _) QX0_9.out.d.ints QX0_9.out.t.ints QX1_9.out.d.ints QX1_9.out.t.ints).mono ?_; rintro e W10 ⟨ga, gb, gc, gd, rfl, qg, bb⟩
  have B10 := Vl.hide (B9.out.trans (Below.mono bb B9.out.size))
  have sz10 : (W8.heap.size + 1) ≤ W10.heap.size := by have qz := bb.size; (try simp only [World.size_alloc] at qz); (try simp only [World.size_alloc]); exact qz
  try clear u0 u1 u2 u3
  try clear u0 u1
  try clear v0 v1 v2 v3
  try clear v0 v1
  try clear z0 z1 z2 z3
  try clear z0 z1
  try clear p0 p1 p2 p3
  try clear p0 p1
  try clear fa0 fa1 fa2 fa3
  try clear fa0 fa1
  try clear fb0 fb1 fb2 fb3
  try clear fb0 fb1
  try clear fc0 fc1 fc2 fc3
  try clear fc0 fc1
  try clear fd0 fd1 fd2 fd3
  try clear fd0 fd1
  have V0_10 := Vl.hide (Vo.Bx.below V0_9.out bb (by first | omega | (simp; done) | (simp; omega)))
  have V1_10 := Vl.hide (Vo.Bx.below V1_9.out bb (by first | omega | (simp; done) | (simp; omega)))
  have S_10 := Vl.hide (Vo.Bx.below S_9.out bb (by first | omega | (simp; done) | (simp; omega)))
  have QS_10 := Vl.hide (QS_9.out.below bb)
  have QX0_10 := Vl.hide (QX0_9.out.below bb)
  have X0_10 := Vl.hide (Vo.Bx.below X0_9.out bb (by first | omega | (simp; done) | (simp; omega)))
  have QX1_10 := Vl.hide (QX1_9.out.below bb)
  have X1_10 := Vl.hide (Vo.Bx.below X1_9.out bb (by first | omega | (simp; done) | (simp; omega)))
  obtain ⟨u0, u1⟩ := V0_10.out
  obtain ⟨v0, v1⟩ := V1_10.out
  obtain ⟨z0, z1⟩ := S_10.out
  obtain ⟨p0, p1⟩ := X0_10.out
  obtain ⟨fa0, fa1⟩ := X1_10.out
  clear bb
  have QG_10 := Vl.hide qg
  clear qg
  have uu := fun k q => QG_10.out.blk (k := k) q
  try simp only [World.size_alloc] at uu
  have UQG := Vl.hide uu
  clear uu
  have bb := (Below.refl W10.heap.size W10).alloc (Nat.le_refl _) (.cells #[.slice ga T.r gc, .slice gb T.s gd] 26)
  have G_11 := Vl.hide (Vo.bx_new W10 (.slice ga T.r gc) (.slice gb T.s gd) 26)
  have B11 := Vl.hide (B10.out.trans (Below.mono bb B10.out.size))
  have sz11 : W10.heap.size ≤ (W10.alloc (.cells #[.slice ga T.r gc, .slice gb T.s gd] 26)).heap.size := by have qz := bb.size; (try simp only [World.size_alloc] at qz); (try simp only [World.size_alloc]); exact qz
  simp only [World.size_alloc] at sz11
  try clear u0 u1 u2 u3
  try clear u0 u1
  try clear v0 v1 v2 v3
  try clear v0 v1
  try clear z0 z1 z2 z3
  try clear z0 z1
  try clear p0 p1 p2 p3
  try clear p0 p1
  try clear fa0 fa1 fa2 fa3
  try clear fa0 fa1
  try clear fb0 fb1 fb2 fb3
  try clear fb0 fb1
  try clear fc0 fc1 fc2 fc3
  try clear fc0 fc1
  try clear fd0 fd1 fd2 fd3
  try clear fd0 fd1
  have V0_11 := Vl.hide (Vo.Bx.below V0_10.out bb (by first | omega | (simp; done) | (simp; omega)))
  have V1_11 := Vl.hide (Vo.Bx.below V1_10.out bb (by first | omega | (simp; done) | (simp; omega)))
  have S_11 := Vl.hide (Vo.Bx.below S_10.out bb (by first | omega | (simp; done) | (simp; omega)))
  have QS_11 := Vl.hide (QS_10.out.below bb)
  have QX0_11 := Vl.hide (QX0_10.out.below bb)
  have X0_11 := Vl.hide (Vo.Bx.below X0_10.out bb (by first | omega | (simp; done) | (simp; omega)))
  have QX1_11 := Vl.hide (QX1_10.out.below bb)
  have X1_11 := Vl.hide (Vo.Bx.below X1_10.out bb (by first | omega | (simp; done) | (simp; omega)))
  have QG_11 := Vl.hide (QG_10.out.below bb)
  obtain ⟨u0, u1⟩ := V0_11.out
  obtain ⟨v0, v1⟩ := V1_11.out
  obtain ⟨z0, z1⟩ := S_11.out
  obtain ⟨p0, p1⟩ := X0_11.out
  obtain ⟨fa0, fa1⟩ := X1_11.out
  clear bb
  obtain ⟨fb0, fb1⟩ := G_11.out
  go_wp2_with fail
  refine (Vo.eqTensor _ _ _ _ _ T.r T.s gc gd sc sd T.D T.S T.D T.S _ (Nat.le_refl _) QG_11.out.d.ints QG_11.out.t.ints QS_11.out.d.ints QS_11.out.t.ints (fun _ _ => rfl) (fun _ _ => rfl) lv lw).mono ?_; rintro e W12 ⟨rfl, bb⟩
  have B12 := Vl.hide (B11.out.trans (Below.mono bb B11.out.size))
  have sz12 : (W10.heap.size + 1) ≤ W12.heap.size := by have qz := bb.size; (try simp only [World.size_alloc] at qz); (try simp only [World.size_alloc]); exact qz
  try clear u0 u1 u2 u3
  try clear u0 u1
  try clear v0 v1 v2 v3
  try clear v0 v1
  try clear z0 z1 z2 z3
  try clear z0 z1
  try clear p0 p1 p2 p3
  try clear p0 p1
  try clear fa0 fa1 fa2 fa3
  try clear fa0 fa1
  try clear fb0 fb1 fb2 fb3
  try clear fb0 fb1
  try clear fc0 fc1 fc2 fc3
  try clear fc0 fc1
  try clear fd0 fd1 fd2 fd3
  try clear fd0 fd1
  have V0_12 := Vl.hide (Vo.Bx.below V0_11.out bb (by first | omega | (simp; done) | (simp; omega)))
  have V1_12 := Vl.hide (Vo.Bx.below V1_11.out bb (by first | omega | (simp; done) | (simp; omega)))
  have S_12 := Vl.hide (Vo.Bx.below S_11.out bb (by first | omega | (simp; done) | (simp; omega)))
  have QS_12 := Vl.hide (QS_11.out.below bb)
  have QX0_12 := Vl.hide (QX0_11.out.below bb)
  have X0_12 := Vl.hide (Vo.Bx.below X0_11.out bb (by first | omega | (simp; done) | (simp; omega)))
  have QX1_12 := Vl.hide (QX1_11.out.below bb)
  have X1_12 := Vl.hide (Vo.Bx.below X1_11.out bb (by first | omega | (simp; done) | (simp; omega)))
  have QG_12 := Vl.hide (QG_11.out.below bb)
  have G_12 := Vl.hide (Vo.Bx.below G_11.out bb (by first | omega | (simp; done) | (simp; omega)))
  obtain ⟨u0, u1⟩ := V0_12.out
  obtain ⟨v0, v1⟩ := V1_12.out
  obtain ⟨z0, z1⟩ := S_12.out
  obtain ⟨p0, p1⟩ := X0_12.out
  obtain ⟨fa0, fa1⟩ := X1_12.out
  obtain ⟨fb0, fb1⟩ := G_12.out
  clear bb
  have HT := Vl.hide (fun (W : World) (hW : Below W12.heap.size W12 W) => Vo.toTensor w.heap.size a0 b0 r0 s0 cap0 dap0 D0 S0 W (H0.out.below (B12.out.trans (hW.mono B12.out.size))) (K0.out.below (B12.out.trans (hW.mono B12.out.size))) (Nat.le_trans B12.out.size hW.size) lr0 ls0)
  have HE := Vl.hide (fun (W : World) (hW : Below W12.heap.size W12 W) (g5 g6 : Nat) (B : Nat) (q : Vo.VOwn B W (some ⟨g5, 0, none⟩) (some ⟨g6, 0, none⟩) r0 s0 D0 S0) => Vo.eqTensor W.heap.size (some ⟨gx0, 0, none⟩) (some ⟨gx0', 0, none⟩) (some ⟨g5, 0, none⟩) (some ⟨g6, 0, none⟩) r0 s0 r0 s0 r0 s0 D0 S0 D0 S0 W (Nat.le_refl _) (QX0_12.out.below hW).d.ints (QX0_12.out.below hW).t.ints q.d.ints q.t.ints (fun _ _ => rfl) (fun _ _ => rfl) lr0 ls0)
  go_wp2_with fail
  go_region_held3 (fun w' => w'.cell? ⟨W6.heap.size, 0, none⟩ = some (.slice (some ⟨gx0, 0, none⟩) r0 r0) ∧ w'.cell? ⟨W6.heap.size, 1, none⟩ = some (.slice (some ⟨gx0', 0, none⟩) s0 s0) ∧ w'.cell? ⟨w.heap.size, 0, none⟩ = some (.slice a0 r0 cap0) ∧ w'.cell? ⟨w.heap.size, 1, none⟩ = some (.slice b0 s0 dap0))
    ((try dsimp only) <;> (repeat' apply And.intro) <;> (repeat (first | with_reducible assumption | with_reducible apply Vo.drew_old | (with_reducible apply Vo.below_old; (focus (with_reducible assumption))))))
    (first
      | (go_at_call 8
         refine (HT.out _ (by exact (Below.refl _ _).drew)).mono ?_
         rintro e wA ⟨g5, g6, rfl, qA, bA⟩)
      | (go_at_call 10
         refine (HE.out _ (by exact (Below.refl _ W12).drew.trans bA) g5 g6 _ qA).mono ?_
         rintro e wB13 ⟨rfl, bB⟩))
  have bb : Below W12.heap.size W12 wB13 := ((Below.refl _ W12).drew.trans bA).trans (bB.mono (Nat.le_trans (Nat.le_refl _) bA.size))
  clear bA bB qA HT HE
  have B13 := Vl.hide (B12.out.trans (Below.mono bb B12.out.size))
  have sz13 : W12.heap.size ≤ wB13.heap.size := by have qz := bb.size; (try simp only [World.size_alloc] at qz); (try simp only [World.size_alloc]); exact qz
  try clear u0 u1 u2 u3
  try clear u0 u1
  try clear v0 v1 v2 v3
  try clear v0 v1
  try clear z0 z1 z2 z3
  try clear z0 z1
  try clear p0 p1 p2 p3
  try clear p0 p1
  try clear fa0 fa1 fa2 fa3
  try clear fa0 fa1
  try clear fb0 fb1 fb2 fb3
  try clear fb0 fb1
  try clear fc0 fc1 fc2 fc3
  try clear fc0 fc1
  try clear fd0 fd1 fd2 fd3
  try clear fd0 fd1
  have V0_13 := Vl.hide (Vo.Bx.below V0_12.out bb (by first | omega | (simp; done) | (simp; omega)))
  have V1_13 := Vl.hide (Vo.Bx.below V1_12.out bb (by first | omega | (simp; done) | (simp; omega)))
  have S_13 := Vl.hide (Vo.Bx.below S_12.out bb (by first | omega | (simp; done) | (simp; omega)))
  have QS_13 := Vl.hide (QS_12.out.below bb)
  have QX0_13 := Vl.hide (QX0_12.out.below bb)
  have X0_13 := Vl.hide (Vo.Bx.below X0_12.out bb (by first | omega | (simp; done) | (simp; omega)))
  have QX1_13 := Vl.hide (QX1_12.out.below bb)
  have X1_13 := Vl.hide (Vo.Bx.below X1_12.out bb (by first | omega | (simp; done) | (simp; omega)))
  have QG_13 := Vl.hide (QG_12.out.below bb)
  have G_13 := Vl.hide (Vo.Bx.below G_12.out bb (by first | omega | (simp; done) | (simp; omega)))
  obtain ⟨u0, u1⟩ := V0_13.out
  obtain ⟨v0, v1⟩ := V1_13.out
  obtain ⟨z0, z1⟩ := S_13.out
  obtain ⟨p0, p1⟩ := X0_13.out
  obtain ⟨fa0, fa1⟩ := X1_13.out
  obtain ⟨fb0, fb1⟩ := G_13.out
  clear bb
  have HT := Vl.hide (fun (W : World) (hW : Below wB13.heap.size wB13 W) => Vo.toTensor w.heap.size a1 b1 r1 s1 cap1 dap1 D1 S1 W (H1.out.below (B13.out.trans (hW.mono B13.out.size))) (K1.out.below (B13.out.trans (hW.mono B13.out.size))) (Nat.le_trans B13.out.size hW.size) lr1 ls1)
  have HE := Vl.hide (fun (W : World) (hW : Below wB13.heap.size wB13 W) (g5 g6 : Nat) (B : Nat) (q : Vo.VOwn B W (some ⟨g5, 0, none⟩) (some ⟨g6, 0, none⟩) r1 s1 D1 S1) => Vo.eqTensor W.heap.size (some ⟨gx1, 0, none⟩) (some ⟨gx1', 0, none⟩) (some ⟨g5, 0, none⟩) (some ⟨g6, 0, none⟩) r1 s1 r1 s1 r1 s1 D1 S1 D1 S1 W (Nat.le_refl _) (QX1_13.out.below hW).d.ints (QX1_13.out.below hW).t.ints q.d.ints q.t.ints (fun _ _ => rfl) (fun _ _ => rfl) lr1 ls1)
  go_wp2_with fail
  go_region_held3 (fun w' => w'.cell? ⟨W8.heap.size, 0, none⟩ = some (.slice (some ⟨gx1, 0, none⟩) r1 r1) ∧ w'.cell? ⟨W8.heap.size, 1, none⟩ = some (.slice (some ⟨gx1', 0, none⟩) s1 s1) ∧ w'.cell? ⟨(w.heap.size + 1), 0, none⟩ = some (.slice a1 r1 cap1) ∧ w'.cell? ⟨(w.heap.size + 1), 1, none⟩ = some (.slice b1 s1 dap1))
    ((try dsimp only) <;> (repeat' apply And.intro) <;> (repeat (first | with_reducible assumption | with_reducible apply Vo.drew_old | (with_reducible apply Vo.below_old; (focus (with_reducible assumption))))))
    (first
      | (go_at_call 8
         refine (HT.out _ (by exact (Below.refl _ _).drew)).mono ?_
         rintro e wA ⟨g5, g6, rfl, qA, bA⟩)
      | (go_at_call 10
         refine (HE.out _ (by exact (Below.refl _ wB13).drew.trans bA) g5 g6 _ qA).mono ?_
         rintro e wB14 ⟨rfl, bB⟩))
  have bb : Below wB13.heap.size wB13 wB14 := ((Below.refl _ wB13).drew.trans bA).trans (bB.mono (Nat.le_trans (Nat.le_refl _) bA.size))
  clear bA bB qA HT HE
  have B14 := Vl.hide (B13.out.trans (Below.mono bb B13.out.size))
  have sz14 : wB13.heap.size ≤ wB14.heap.size := by have qz := bb.size; (try simp only [World.size_alloc] at qz); (try simp only [World.size_alloc]); exact qz
  try clear u0 u1 u2 u3
  try clear u0 u1
  try clear v0 v1 v2 v3
  try clear v0 v1
  try clear z0 z1 z2 z3
  try clear z0 z1
  try clear p0 p1 p2 p3
  try clear p0 p1
  try clear fa0 fa1 fa2 fa3
  try clear fa0 fa1
  try clear fb0 fb1 fb2 fb3
  try clear fb0 fb1
  try clear fc0 fc1 fc2 fc3
  try clear fc0 fc1
  try clear fd0 fd1 fd2 fd3
  try clear fd0 fd1
  have V0_14 := Vl.hide (Vo.Bx.below V0_13.out bb (by first | omega | (simp; done) | (simp; omega)))
  have V1_14 := Vl.hide (Vo.Bx.below V1_13.out bb (by first | omega | (simp; done) | (simp; omega)))
  have S_14 := Vl.hide (Vo.Bx.below S_13.out bb (by first | omega | (simp; done) | (simp; omega)))
  have QS_14 := Vl.hide (QS_13.out.below bb)
  have QX0_14 := Vl.hide (QX0_13.out.below bb)
  have X0_14 := Vl.hide (Vo.Bx.below X0_13.out bb (by first | omega | (simp; done) | (simp; omega)))
  have QX1_14 := Vl.hide (QX1_13.out.below bb)
  have X1_14 := Vl.hide (Vo.Bx.below X1_13.out bb (by first | omega | (simp; done) | (simp; omega)))
  have QG_14 := Vl.hide (QG_13.out.below bb)
  have G_14 := Vl.hide (Vo.Bx.below G_13.out bb (by first | omega | (simp; done) | (simp; omega)))
  obtain ⟨u0, u1⟩ := V0_14.out
  obtain ⟨v0, v1⟩ := V1_14.out
  obtain ⟨z0, z1⟩ := S_14.out
  obtain ⟨p0, p1⟩ := X0_14.out
  obtain ⟨fa0, fa1⟩ := X1_14.out
  obtain ⟨fb0, fb1⟩ := G_14.out
  clear bb
  go_wp2_with fail
  refine (Vo.markTensorB _ _ _ r0 s0 r0 s0 D0 S0 1 _ QX0_14.out lr0 ls0 (by omega) (by omega)).mono ?_; rintro e W15 ⟨rfl, qs, bb⟩
  have B15 := Vl.hide (B14.out.trans (Vl.Kept.below bb B14.out.size (fun k q => by have := UQX0.out _ q; omega)))
  have sz15 : wB14.heap.size ≤ W15.heap.size := by have qz := bb.size; (try simp only [World.size_alloc] at qz); (try simp only [World.size_alloc]); exact qz
  try clear u0 u1 u2 u3
  try clear u0 u1
  try clear v0 v1 v2 v3
  try clear v0 v1
  try clear z0 z1 z2 z3
  try clear z0 z1
  try clear p0 p1 p2 p3
  try clear p0 p1
  try clear fa0 fa1 fa2 fa3
  try clear fa0 fa1
  try clear fb0 fb1 fb2 fb3
  try clear fb0 fb1
  try clear fc0 fc1 fc2 fc3
  try clear fc0 fc1
  try clear fd0 fd1 fd2 fd3
  try clear fd0 fd1
  have V0_15 := Vl.hide (Vo.Bx.kept V0_14.out bb (by omega) (fun q => by have := UQX0.out _ q; omega))
  have V1_15 := Vl.hide (Vo.Bx.kept V1_14.out bb (by omega) (fun q => by have := UQX0.out _ q; omega))
  have S_15 := Vl.hide (Vo.Bx.kept S_14.out bb (by omega) (fun q => by have := UQX0.out _ q; omega))
  have QS_15 := Vl.hide (QS_14.out.kept bb (fun k q q' => by have := UQS.out _ q; have := UQX0.out _ q'; omega))
  have QX0_15 := Vl.hide qs
  have X0_15 := Vl.hide (Vo.Bx.kept X0_14.out bb (by omega) (fun q => by have := UQX0.out _ q; omega))
  have QX1_15 := Vl.hide (QX1_14.out.kept bb (fun k q q' => by have := UQX1.out _ q; have := UQX0.out _ q'; omega))
  have X1_15 := Vl.hide (Vo.Bx.kept X1_14.out bb (by omega) (fun q => by have := UQX0.out _ q; omega))
  have QG_15 := Vl.hide (QG_14.out.kept bb (fun k q q' => by have := UQG.out _ q; have := UQX0.out _ q'; omega))
  have G_15 := Vl.hide (Vo.Bx.kept G_14.out bb (by omega) (fun q => by have := UQX0.out _ q; omega))
  obtain ⟨u0, u1⟩ := V0_15.out
  obtain ⟨v0, v1⟩ := V1_15.out
  obtain ⟨z0, z1⟩ := S_15.out
  obtain ⟨p0, p1⟩ := X0_15.out
  obtain ⟨fa0, fa1⟩ := X1_15.out
  obtain ⟨fb0, fb1⟩ := G_15.out
  clear bb
  clear qs
  go_wp2_with fail
  refine (Vo.markTensorB _ _ _ r1 s1 r1 s1 D1 S1 (1 + r0 + s0) _ QX1_15.out lr1 ls1 (by omega) (by omega)).mono ?_; rintro e W16 ⟨rfl, qs, bb⟩
  have B16 := Vl.hide (B15.out.trans (Vl.Kept.below bb B15.out.size (fun k q => by have := UQX1.out _ q; omega)))
  have sz16 : W15.heap.size ≤ W16.heap.size := by have qz := bb.size; (try simp only [World.size_alloc] at qz); (try simp only [World.size_alloc]); exact qz
  try clear u0 u1 u2 u3
  try clear u0 u1
  try clear v0 v1 v2 v3
  try clear v0 v1
  try clear z0 z1 z2 z3
  try clear z0 z1
  try clear p0 p1 p2 p3
  try clear p0 p1
  try clear fa0 fa1 fa2 fa3
  try clear fa0 fa1
  try clear fb0 fb1 fb2 fb3
  try clear fb0 fb1
  try clear fc0 fc1 fc2 fc3
  try clear fc0 fc1
  try clear fd0 fd1 fd2 fd3
  try clear fd0 fd1
  have V0_16 := Vl.hide (Vo.Bx.kept V0_15.out bb (by omega) (fun q => by have := UQX1.out _ q; omega))
  have V1_16 := Vl.hide (Vo.Bx.kept V1_15.out bb (by omega) (fun q => by have := UQX1.out _ q; omega))
  have S_16 := Vl.hide (Vo.Bx.kept S_15.out bb (by omega) (fun q => by have := UQX1.out _ q; omega))
  have QS_16 := Vl.hide (QS_15.out.kept bb (fun k q q' => by have := UQS.out _ q; have := UQX1.out _ q'; omega))
  have QX1_16 := Vl.hide qs
  have X1_16 := Vl.hide (Vo.Bx.kept X1_15.out bb (by omega) (fun q => by have := UQX1.out _ q; omega))
  have QG_16 := Vl.hide (QG_15.out.kept bb (fun k q q' => by have := UQG.out _ q; have := UQX1.out _ q'; omega))
  have G_16 := Vl.hide (Vo.Bx.kept G_15.out bb (by omega) (fun q => by have := UQX1.out _ q; omega))
  obtain ⟨u0, u1⟩ := V0_16.out
  obtain ⟨v0, v1⟩ := V1_16.out
  obtain ⟨z0, z1⟩ := S_16.out
  obtain ⟨p0, p1⟩ := X1_16.out
  obtain ⟨fa0, fa1⟩ := G_16.out
  clear bb
  clear qs
  have neg1 : decide ((1 : Int) + r0 + s0 + r1 + s1 < 0) = false := by rw [decide_eq_false_iff_not]; omega
  go_wp2_with fail
  refine (Vo.eqTensor _ _ _ _ _ T.r T.s gc gd sc sd T.D T.S T.D T.S _ (Nat.le_refl _) QG_16.out.d.ints QG_16.out.t.ints QS_16.out.d.ints QS_16.out.t.ints (fun _ _ => rfl) (fun _ _ => rfl) lv lw).mono ?_; rintro e W17 ⟨rfl, bb⟩
  have B17 := Vl.hide (B16.out.trans (Below.mono bb B16.out.size))
  have sz17 : W16.heap.size ≤ W17.heap.size := by have qz := bb.size; (try simp only [World.size_alloc] at qz); (try simp only [World.size_alloc]); exact qz
  try clear u0 u1 u2 u3
  try clear u0 u1
  try clear v0 v1 v2 v3
  try clear v0 v1
  try clear z0 z1 z2 z3
  try clear z0 z1
  try clear p0 p1 p2 p3
  try clear p0 p1
  try clear fa0 fa1 fa2 fa3
  try clear fa0 fa1
  try clear fb0 fb1 fb2 fb3
  try clear fb0 fb1
  try clear fc0 fc1 fc2 fc3
  try clear fc0 fc1
  try clear fd0 fd1 fd2 fd3
  try clear fd0 fd1
  have V0_17 := Vl.hide (Vo.Bx.below V0_16.out bb (by first | omega | (simp; done) | (simp; omega)))
  have V1_17 := Vl.hide (Vo.Bx.below V1_16.out bb (by first | omega | (simp; done) | (simp; omega)))
  have S_17 := Vl.hide (Vo.Bx.below S_16.out bb (by first | omega | (simp; done) | (simp; omega)))
  have QS_17 := Vl.hide (QS_16.out.below bb)
  have QG_17 := Vl.hide (QG_16.out.below bb)
  have G_17 := Vl.hide (Vo.Bx.below G_16.out bb (by first | omega | (simp; done) | (simp; omega)))
  obtain ⟨u0, u1⟩ := V0_17.out
  obtain ⟨v0, v1⟩ := V1_17.out
  obtain ⟨z0, z1⟩ := S_17.out
  obtain ⟨p0, p1⟩ := G_17.out
  clear bb
  go_wp2_with fail
  refine (Vo.markTensor _ _ _ T.r T.s gc gd T.D T.S 1 _ QG_17.out lv lw (by omega) (by omega)).mono ?_; rintro e W18 ⟨rfl, qs, bb⟩
  have B18 := Vl.hide (B17.out.trans (Vl.Kept.below bb B17.out.size (fun k q => by have := UQG.out _ q; omega)))
  have sz18 : W17.heap.size ≤ W18.heap.size := by have qz := bb.size; (try simp only [World.size_alloc] at qz); (try simp only [World.size_alloc]); exact qz
  try clear u0 u1 u2 u3
  try clear u0 u1
  try clear v0 v1 v2 v3
  try clear v0 v1
  try clear z0 z1 z2 z3
  try clear z0 z1
  try clear p0 p1 p2 p3
  try clear p0 p1
  try clear fa0 fa1 fa2 fa3
  try clear fa0 fa1
  try clear fb0 fb1 fb2 fb3
  try clear fb0 fb1
  try clear fc0 fc1 fc2 fc3
  try clear fc0 fc1
  try clear fd0 fd1 fd2 fd3
  try clear fd0 fd1
  have V0_18 := Vl.hide (Vo.Bx.kept V0_17.out bb (by omega) (fun q => by have := UQG.out _ q; omega))
  have V1_18 := Vl.hide (Vo.Bx.kept V1_17.out bb (by omega) (fun q => by have := UQG.out _ q; omega))
  have S_18 := Vl.hide (Vo.Bx.kept S_17.out bb (by omega) (fun q => by have := UQG.out _ q; omega))
  have QS_18 := Vl.hide (QS_17.out.kept bb (fun k q q' => by have := UQS.out _ q; have := UQG.out _ q'; omega))
  have QG_18 := Vl.hide qs
  have G_18 := Vl.hide (Vo.Bx.kept G_17.out bb (by omega) (fun q => by have := UQG.out _ q; omega))
  obtain ⟨u0, u1⟩ := V0_18.out
  obtain ⟨v0, v1⟩ := V1_18.out
  obtain ⟨z0, z1⟩ := S_18.out
  obtain ⟨p0, p1⟩ := G_18.out
  clear bb
  clear qs
  have neg2 : decide ((1 : Int) + (T.r : Nat) + (T.s : Nat) < 0) = false := by rw [decide_eq_false_iff_not]; omega
  go_wp2_with fail
  refine (Vo.heldTensor _ _ _ T.r T.s gc gd 1 _ QG_18.out lv lw (by omega) (by omega)).mono ?_; rintro e W19 ⟨rfl, bb⟩
  have B19 := Vl.hide (B18.out.trans (Below.mono bb B18.out.size))
  have sz19 : W18.heap.size ≤ W19.heap.size := by have qz := bb.size; (try simp only [World.size_alloc] at qz); (try simp only [World.size_alloc]); exact qz
  try clear u0 u1 u2 u3
  try clear u0 u1
  try clear v0 v1 v2 v3
  try clear v0 v1
  try clear z0 z1 z2 z3
  try clear z0 z1
  try clear p0 p1 p2 p3
  try clear p0 p1
  try clear fa0 fa1 fa2 fa3
  try clear fa0 fa1
  try clear fb0 fb1 fb2 fb3
  try clear fb0 fb1
  try clear fc0 fc1 fc2 fc3
  try clear fc0 fc1
  try clear fd0 fd1 fd2 fd3
  try clear fd0 fd1
  have V0_19 := Vl.hide (Vo.Bx.below V0_18.out bb (by first | omega | (simp; done) | (simp; omega)))
  have V1_19 := Vl.hide (Vo.Bx.below V1_18.out bb (by first | omega | (simp; done) | (simp; omega)))
  have S_19 := Vl.hide (Vo.Bx.below S_18.out bb (by first | omega | (simp; done) | (simp; omega)))
  have QS_19 := Vl.hide (QS_18.out.below bb)
  have QG_19 := Vl.hide (QG_18.out.below bb)
  have G_19 := Vl.hide (Vo.Bx.below G_18.out bb (by first | omega | (simp; done) | (simp; omega)))
  obtain ⟨u0, u1⟩ := V0_19.out
  obtain ⟨v0, v1⟩ := V1_19.out
  obtain ⟨z0, z1⟩ := S_19.out
  obtain ⟨p0, p1⟩ := G_19.out
  clear bb
  have HT0 := Vl.hide (fun (W : World) (hW : Below W19.heap.size W19 W) => Vo.toTensor w.heap.size a0 b0 r0 s0 cap0 dap0 D0 S0 W (H0.out.below (B19.out.trans (hW.mono B19.out.size))) (K0.out.below (B19.out.trans (hW.mono B19.out.size))) (Nat.le_trans B19.out.size hW.size) lr0 ls0)
  have HV0 := Vl.hide (fun (W : World) (hW : Below W19.heap.size W19 W) => Vo.Bx.below V0_19.out hW (by omega))
  have HT1 := Vl.hide (fun (W : World) (hW : Below W19.heap.size W19 W) => Vo.toTensor w.heap.size a1 b1 r1 s1 cap1 dap1 D1 S1 W (H1.out.below (B19.out.trans (hW.mono B19.out.size))) (K1.out.below (B19.out.trans (hW.mono B19.out.size))) (Nat.le_trans B19.out.size hW.size) lr1 ls1)
  have HV1 := Vl.hide (fun (W : World) (hW : Below W19.heap.size W19 W) => Vo.Bx.below V1_19.out hW (by omega))
  go_wp2_with fail
  refine Qf.facts2 10 (by kernel_rfl) (by kernel_rfl) (by kernel_rfl) (fun i v wx => match i with | 0 => v = .agg #[.slice a0 r0 cap0, .slice b0 s0 dap0] | 1 => Vo.TenV W19.heap.size r0 s0 D0 S0 v wx | 2 => v = .agg #[.slice a1 r1 cap1, .slice b1 s1 dap1] | 3 => Vo.TenV W19.heap.size r1 s1 D1 S1 v wx | 4 => v = .int .i64 a2 | 5 => v = .int .i64 a3 | 6 => v = .int .i64 a4 | 7 => v = .int .i64 a5 | 8 => Vo.TenW W19.heap.size T v wx | 9 => Vo.PtrZ W19.heap.size v wx | _ => True) ?stable ?steps ?rest
  case stable =>
    intro i v w1 w2 h hb
    match i, h with
    | 0, h => exact h
    | 1, h => exact Vo.TenV.below h hb
    | 2, h => exact h
    | 3, h => exact Vo.TenV.below h hb
    | 4, h => exact h
    | 5, h => exact h
    | 6, h => exact h
    | 7, h => exact h
    | 8, h => exact Vo.TenW.below h hb
    | 9, h => exact Vo.PtrZ.below h hb
    | _ + 10, h => exact h
  case steps =>
    intro i o hi ho s A w1 hb hk hA hO
    match i, hi, ho, hk with
    | 0, _, ho, hk =>
      cases ho
      exact Qf.lands_val _ _ (Vo.runLoadT rfl ((hO 6 (by rfl)).trans rfl) (HV0.out w1 hb)) ⟨Below.refl _ _, rfl⟩
    | 1, _, ho, hk =>
      cases ho
      have e0 := hk 0 (by kernel_rfl)
      have h0 := hA 0 _ 91 (by decide) rfl rfl (by simp)
      rw [e0] at h0
      refine Qf.lands_call 8 _ _ rfl (enters_of Try.func8 (by kernel_rfl) rfl) _ (by simp [h0]) ((HT0.out w1 hb).mono ?_)
      rintro e w2 ⟨g5, g6, rfl, qA, bA⟩
      exact ⟨_, rfl, bA, g5, g6, rfl, qA.mono hb.size⟩
    | 2, _, ho, hk =>
      cases ho
      exact Qf.lands_val _ _ (Vo.runLoadT rfl ((hO 7 (by rfl)).trans rfl) (HV1.out w1 hb)) ⟨Below.refl _ _, rfl⟩
    | 3, _, ho, hk =>
      cases ho
      have e0 := hk 2 (by kernel_rfl)
      have h0 := hA 2 _ 93 (by decide) rfl rfl (by simp)
      rw [e0] at h0
      refine Qf.lands_call 8 _ _ rfl (enters_of Try.func8 (by kernel_rfl) rfl) _ (by simp [h0]) ((HT1.out w1 hb).mono ?_)
      rintro e w2 ⟨g5, g6, rfl, qA, bA⟩
      exact ⟨_, rfl, bA, g5, g6, rfl, qA.mono hb.size⟩
    | 4, _, ho, hk =>
      cases ho
      exact Qf.lands_move _ rfl _ ((hO 2 (by rfl)).trans rfl) ⟨Below.refl _ _, rfl⟩
    | 5, _, ho, hk =>
      cases ho
      exact Qf.lands_move _ rfl _ ((hO 3 (by rfl)).trans rfl) ⟨Below.refl _ _, rfl⟩
    | 6, _, ho, hk =>
      cases ho
      exact Qf.lands_move _ rfl _ ((hO 4 (by rfl)).trans rfl) ⟨Below.refl _ _, rfl⟩
    | 7, _, ho, hk =>
      cases ho
      exact Qf.lands_move _ rfl _ ((hO 5 (by rfl)).trans rfl) ⟨Below.refl _ _, rfl⟩
    | 8, _, ho, hk =>
      cases ho
      have h1 := hA 1 _ 92 (by decide) rfl rfl (by simp)
      obtain ⟨x1, y1, e1, q1⟩ := hk 1 (by kernel_rfl)
      rw [e1] at h1
      have h3 := hA 3 _ 94 (by decide) rfl rfl (by simp)
      obtain ⟨x3, y3, e3, q3⟩ := hk 3 (by kernel_rfl)
      rw [e3] at h3
      have h4 := hA 4 _ 95 (by decide) rfl rfl (by simp)
      have e4 := hk 4 (by kernel_rfl)
      rw [e4] at h4
      have h5 := hA 5 _ 96 (by decide) rfl rfl (by simp)
      have e5 := hk 5 (by kernel_rfl)
      rw [e5] at h5
      have h6 := hA 6 _ 97 (by decide) rfl rfl (by simp)
      have e6 := hk 6 (by kernel_rfl)
      rw [e6] at h6
      have h7 := hA 7 _ 98 (by decide) rfl rfl (by simp)
      have e7 := hk 7 (by kernel_rfl)
      rw [e7] at h7
      refine Qf.lands_call 9 _ _ rfl (enters_of Try.func9 (by kernel_rfl) rfl) _ (by simp [h1, h3, h4, h5, h6, h7]) ((CI.out _ _ _ _ _ w1 (Nat.le_refl _) q1.d.ints q1.t.ints q3.d.ints q3.t.ints).mono ?_)
      rintro e w2 ⟨ta, tb, tc, td, rfl, qs, bC⟩
      exact ⟨_, rfl, bC, ta, tb, tc, td, rfl, qs.mono hb.size⟩
    | 9, _, ho, hk =>
      cases ho
      exact Qf.lands_val _ _ (Vo.runAllocT rfl) (Vo.ptrZ_new _ w1 hb.size)
    | _ + 10, hi, _, _ => exact absurd hi (by omega)
  case rest =>
  intro s WC2 hbS hk
  have e0 : s 0 = .agg #[.slice a0 r0 cap0, .slice b0 s0 dap0] := hk 0 (by decide)
  obtain ⟨x1, y1, e1, _⟩ := hk 1 (by decide)
  have e2 : s 2 = .agg #[.slice a1 r1 cap1, .slice b1 s1 dap1] := hk 2 (by decide)
  obtain ⟨x3, y3, e3, _⟩ := hk 3 (by decide)
  have e4 : s 4 = .int .i64 a2 := hk 4 (by decide)
  have e5 : s 5 = .int .i64 a3 := hk 5 (by decide)
  have e6 : s 6 = .int .i64 a4 := hk 6 (by decide)
  have e7 : s 7 = .int .i64 a5 := hk 7 (by decide)
  obtain ⟨ha, hb, hc, hd, e8, qs⟩ := hk 8 (by decide)
  obtain ⟨P2, e9, lP, hP, bz, fz⟩ := hk 9 (by decide)
  have LF := Vl.hide (Vo.left_set2 (tc := hc) (td := hd) qs hbS bz lP hP)
  simp only [List.take_succ_cons, List.take_zero, List.drop_succ_cons, List.drop_zero, Qf.lay, Qf.all1, if_true, e0, e1, e2, e3, e4, e5, e6, e7, e8, e9]
  clear hk qs hbS e0 e1 e2 e3 e4 e5 e6 e7 e8 e9 HT0 HV0 HT1 HV1
  obtain ⟨zz0, zz1⟩ := bz
  unfold Vo.Free at fz
  obtain ⟨WX2, hWX2⟩ : ∃ X, (WC2.setCell ⟨P2, 0, none⟩ (.slice ha T.r hc)).setCell ⟨P2, 1, none⟩ (.slice hb T.s hd) = X := ⟨_, rfl⟩
  rw [hWX2] at LF
  obtain ⟨hP2, bx2, qs2, bb⟩ := LF.out
  clear LF
  have H_20 := Vl.hide bx2
  have B20 := Vl.hide (B19.out.trans (Below.mono bb B19.out.size))
  have sz20 : W19.heap.size ≤ WX2.heap.size := by have qz := bb.size; (try simp only [World.size_alloc] at qz); (try simp only [World.size_alloc]); exact qz
  try clear u0 u1 u2 u3
  try clear u0 u1
  try clear v0 v1 v2 v3
  try clear v0 v1
  try clear z0 z1 z2 z3
  try clear z0 z1
  try clear p0 p1 p2 p3
  try clear p0 p1
  try clear fa0 fa1 fa2 fa3
  try clear fa0 fa1
  try clear fb0 fb1 fb2 fb3
  try clear fb0 fb1
  try clear fc0 fc1 fc2 fc3
  try clear fc0 fc1
  try clear fd0 fd1 fd2 fd3
  try clear fd0 fd1
  have V0_20 := Vl.hide (Vo.Bx.below V0_19.out bb (by first | omega | (simp; done) | (simp; omega)))
  have V1_20 := Vl.hide (Vo.Bx.below V1_19.out bb (by first | omega | (simp; done) | (simp; omega)))
  have S_20 := Vl.hide (Vo.Bx.below S_19.out bb (by first | omega | (simp; done) | (simp; omega)))
  have QS_20 := Vl.hide (QS_19.out.below bb)
  have QG_20 := Vl.hide (QG_19.out.below bb)
  have G_20 := Vl.hide (Vo.Bx.below G_19.out bb (by first | omega | (simp; done) | (simp; omega)))
  obtain ⟨u0, u1⟩ := V0_20.out
  obtain ⟨v0, v1⟩ := V1_20.out
  obtain ⟨z0, z1⟩ := S_20.out
  obtain ⟨p0, p1⟩ := G_20.out
  clear bb
  obtain ⟨fa0, fa1⟩ := H_20.out
  clear bx2
  have QH_20 := Vl.hide qs2
  clear qs2
  have uu := fun k q => QH_20.out.blk (k := k) q
  try simp only [World.size_alloc] at uu
  have UQH := Vl.hide uu
  clear uu
  go_wp2_with fail
  refine (Vo.eqTensor _ _ _ _ _ T.r T.s hc hd sc sd T.D T.S T.D T.S _ (Nat.le_refl _) QH_20.out.d.ints QH_20.out.t.ints QS_20.out.d.ints QS_20.out.t.ints (fun _ _ => rfl) (fun _ _ => rfl) lv lw).mono ?_; rintro e W21 ⟨rfl, bb⟩
  have B21 := Vl.hide (B20.out.trans (Below.mono bb B20.out.size))
  have sz21 : WX2.heap.size ≤ W21.heap.size := by have qz := bb.size; (try simp only [World.size_alloc] at qz); (try simp only [World.size_alloc]); exact qz
  try clear u0 u1 u2 u3
  try clear u0 u1
  try clear v0 v1 v2 v3
  try clear v0 v1
  try clear z0 z1 z2 z3
  try clear z0 z1
  try clear p0 p1 p2 p3
  try clear p0 p1
  try clear fa0 fa1 fa2 fa3
  try clear fa0 fa1
  try clear fb0 fb1 fb2 fb3
  try clear fb0 fb1
  try clear fc0 fc1 fc2 fc3
  try clear fc0 fc1
  try clear fd0 fd1 fd2 fd3
  try clear fd0 fd1
  have V0_21 := Vl.hide (Vo.Bx.below V0_20.out bb (by first | omega | (simp; done) | (simp; omega)))
  have V1_21 := Vl.hide (Vo.Bx.below V1_20.out bb (by first | omega | (simp; done) | (simp; omega)))
  have S_21 := Vl.hide (Vo.Bx.below S_20.out bb (by first | omega | (simp; done) | (simp; omega)))
  have QS_21 := Vl.hide (QS_20.out.below bb)
  have QG_21 := Vl.hide (QG_20.out.below bb)
  have G_21 := Vl.hide (Vo.Bx.below G_20.out bb (by first | omega | (simp; done) | (simp; omega)))
  have H_21 := Vl.hide (Vo.Bx.below H_20.out bb (by first | omega | (simp; done) | (simp; omega)))
  have QH_21 := Vl.hide (QH_20.out.below bb)
  obtain ⟨u0, u1⟩ := V0_21.out
  obtain ⟨v0, v1⟩ := V1_21.out
  obtain ⟨z0, z1⟩ := S_21.out
  obtain ⟨p0, p1⟩ := G_21.out
  obtain ⟨fa0, fa1⟩ := H_21.out
  clear bb
  go_wp2_with fail
  refine (Vo.heldTensor _ _ _ T.r T.s gc gd 1 _ QG_21.out lv lw (by omega) (by omega)).mono ?_; rintro e W22 ⟨rfl, bb⟩
  have B22 := Vl.hide (B21.out.trans (Below.mono bb B21.out.size))
  have sz22 : W21.heap.size ≤ W22.heap.size := by have qz := bb.size; (try simp only [World.size_alloc] at qz); (try simp only [World.size_alloc]); exact qz
  try clear u0 u1 u2 u3
  try clear u0 u1
  try clear v0 v1 v2 v3
  try clear v0 v1
  try clear z0 z1 z2 z3
  try clear z0 z1
  try clear p0 p1 p2 p3
  try clear p0 p1
  try clear fa0 fa1 fa2 fa3
  try clear fa0 fa1
  try clear fb0 fb1 fb2 fb3
  try clear fb0 fb1
  try clear fc0 fc1 fc2 fc3
  try clear fc0 fc1
  try clear fd0 fd1 fd2 fd3
  try clear fd0 fd1
  have V0_22 := Vl.hide (Vo.Bx.below V0_21.out bb (by first | omega | (simp; done) | (simp; omega)))
  have V1_22 := Vl.hide (Vo.Bx.below V1_21.out bb (by first | omega | (simp; done) | (simp; omega)))
  have S_22 := Vl.hide (Vo.Bx.below S_21.out bb (by first | omega | (simp; done) | (simp; omega)))
  have QS_22 := Vl.hide (QS_21.out.below bb)
  have QG_22 := Vl.hide (QG_21.out.below bb)
  have G_22 := Vl.hide (Vo.Bx.below G_21.out bb (by first | omega | (simp; done) | (simp; omega)))
  have H_22 := Vl.hide (Vo.Bx.below H_21.out bb (by first | omega | (simp; done) | (simp; omega)))
  have QH_22 := Vl.hide (QH_21.out.below bb)
  obtain ⟨u0, u1⟩ := V0_22.out
  obtain ⟨v0, v1⟩ := V1_22.out
  obtain ⟨z0, z1⟩ := S_22.out
  obtain ⟨p0, p1⟩ := G_22.out
  obtain ⟨fa0, fa1⟩ := H_22.out
  clear bb
  go_wp2_with fail
  go_ret
  exact ⟨rfl, B22.out⟩

set_option maxRecDepth 100000 in
theorem lifted (os : Os) (started : os.Started) (H : Type) (enc : TypeId × Value → H) :
    ReturnsInHanded {} Try.checked os 3 .any (Rows.fnExactConvSpec.pre6 enc Try.prog Try.f3 Rows.fnExactConvRow.domain false) (Rows.fnExactConvSpec.post enc Try.prog Try.f3 false true false false) := by
  refine returnsInHanded_of_change (C := Try.checked) own started (by kernel_rfl) Try.func3
    (ChangeSpec.witness6 (enc := enc) (C := Try.checked) false ⟨#[], #[.agg #[.slice none 0 0, .slice none 0 0], .agg #[.slice none 0 0, .slice none 0 0], .int .i64 0, .int .i64 0, .int .i64 0, .int .i64 0], []⟩ 8 (by kernel_rfl) (by kernel_rfl) (by kernel_rfl) (by kernel_rfl)) ?_
  intro W base args ds gs before hval0 hW hcnd _
  have hval : ∀ (j : Nat) t v, Try.f3.params[j]? = some t → args[j]? = some v → Value.okWide Try.prog W .any base t v := hval0
  have hW' := hW
  obtain ⟨p, q, hA0, hV, rfl, hfz, hnd⟩ := hW
  have hA : DataW.TrodAll enc Try.prog W 0 (fun _ => true) true Try.f3.params.toList args.toList ds p := hA0
  rw [Try.params3] at hA hval
  obtain ⟨v0, vs0, d0, ds0, p0, q0, hargs, rfl, rfl, h0, rst0⟩ := trodAll_cons hA
  obtain ⟨v1, vs1, d1, ds1, p1, q1, rfl, rfl, rfl, h1, rst1⟩ := trodAll_cons rst0
  obtain ⟨v2, vs2, d2, ds2, p2, q2, rfl, rfl, rfl, h2, rst2⟩ := trodAll_cons rst1
  obtain ⟨v3, vs3, d3, ds3, p3, q3, rfl, rfl, rfl, h3, rst3⟩ := trodAll_cons rst2
  obtain ⟨v4, vs4, d4, ds4, p4, q4, rfl, rfl, rfl, h4, rst4⟩ := trodAll_cons rst3
  obtain ⟨v5, vs5, d5, ds5, p5, q5, rfl, rfl, rfl, h5, rst5⟩ := trodAll_cons rst4
  obtain ⟨rfl, rfl, rfl⟩ := trodAll_nil rst5
  obtain rfl : args = #[v0, v1, v2, v3, v4, v5] := by cases args; simp_all
  obtain ⟨rfl, rfl⟩ := trodVars_none hV
  have k0 := h0
  have lt0 : ∀ x ∈ p0, x.block < W.heap.size := by obtain ⟨m, hm⟩ := k0; exact DataW.trod_lt m _ _ _ hm
  obtain ⟨c00, c01, u00, u01, m0, rfl, _, _, hy00, hy01⟩ := open_agg2 Try.underlying24 (by kernel_rfl) (by kernel_rfl) (hval 0 24 v0 rfl rfl) h0
  obtain ⟨a0, r0, cap0, rfl, w0⟩ := Vl.arg_of hy00
  obtain ⟨b0, s0, dap0, rfl, y0⟩ := Vl.arg_of hy01
  have k1 := h1
  have lt1 : ∀ x ∈ p1, x.block < W.heap.size := by obtain ⟨m, hm⟩ := k1; exact DataW.trod_lt m _ _ _ hm
  obtain ⟨c10, c11, u10, u11, m1, rfl, _, _, hy10, hy11⟩ := open_agg2 Try.underlying24 (by kernel_rfl) (by kernel_rfl) (hval 1 24 v1 rfl rfl) h1
  obtain ⟨a1, r1, cap1, rfl, w1⟩ := Vl.arg_of hy10
  obtain ⟨b1, s1, dap1, rfl, y1⟩ := Vl.arg_of hy11
  have k2 := h2
  have lt2 : ∀ x ∈ p2, x.block < W.heap.size := by obtain ⟨m, hm⟩ := k2; exact DataW.trod_lt m _ _ _ hm
  obtain ⟨a2, rfl, e2, _, w2⟩ := open_int Try.underlying3 (hval 2 3 v2 rfl rfl) h2
  have k3 := h3
  have lt3 : ∀ x ∈ p3, x.block < W.heap.size := by obtain ⟨m, hm⟩ := k3; exact DataW.trod_lt m _ _ _ hm
  obtain ⟨a3, rfl, e3, _, w3⟩ := open_int Try.underlying3 (hval 3 3 v3 rfl rfl) h3
  have k4 := h4
  have lt4 : ∀ x ∈ p4, x.block < W.heap.size := by obtain ⟨m, hm⟩ := k4; exact DataW.trod_lt m _ _ _ hm
  obtain ⟨a4, rfl, e4, _, w4⟩ := open_int Try.underlying3 (hval 4 3 v4 rfl rfl) h4
  have k5 := h5
  have lt5 : ∀ x ∈ p5, x.block < W.heap.size := by obtain ⟨m, hm⟩ := k5; exact DataW.trod_lt m _ _ _ hm
  obtain ⟨a5, rfl, e5, _, w5⟩ := open_int Try.underlying3 (hval 5 3 v5 rfl rfl) h5
  clear hA0 hval0
  refine (walk a0 r0 cap0 b0 s0 dap0 a1 r1 cap1 b1 s1 dap1 a2 w2 a3 w3 a4 w4 a5 w5 W w0 y0 w1 y1).mono fun e W' ⟨he, bel⟩ => ?_
  subst he
  exact ⟨_, rfl, _, _, _, [], _, [], hW', trodAll_mk1 (shut_bool Try.underlying4 _), (trodAll_cons_mk (Below.trod laidOut (by kernel_rfl) (of_decide_eq_true (by kernel_rfl)) k0 bel lt0) (trodAll_cons_mk (Below.trod laidOut (by kernel_rfl) (of_decide_eq_true (by kernel_rfl)) k1 bel lt1) (trodAll_cons_mk (Below.trod laidOut (by kernel_rfl) (of_decide_eq_true (by kernel_rfl)) k2 bel lt2) (trodAll_cons_mk (Below.trod laidOut (by kernel_rfl) (of_decide_eq_true (by kernel_rfl)) k3 bel lt3) (trodAll_cons_mk (Below.trod laidOut (by kernel_rfl) (of_decide_eq_true (by kernel_rfl)) k4 bel lt4) (trodAll_cons_mk (Below.trod laidOut (by kernel_rfl) (of_decide_eq_true (by kernel_rfl)) k5 bel lt5) trodAll_mk0)))))), rfl, bel.frame _, fun h => by cases h⟩

theorem over : Rows.fnExactConvRow.holds Try.pinned (OpenSpec.ofChange Rows.fnExactConvSpec) :=
  OpenClaim.holds_of_wide 3 Try.f3 rfl rfl rfl rfl rfl rfl rfl ⟨rfl, rfl, rfl, rfl, rfl⟩ rfl rfl rfl rfl rfl (by kernel_rfl) Try.func3 (by kernel_rfl)
    (of_decide_eq_true (by kernel_rfl)) (by unfold Func.isWrapper; first | (rw [if_pos (by decide +kernel)]; kernel_rfl) | (rw [if_neg (by decide +kernel)]; exact ⟨rfl, rfl⟩))
    (fun os started H enc _ => lifted os started H enc)

theorem proved : Rows.FnExactConvSaid := over
#print axioms proved
end Go.Proofs.Ytgcialbchmbgkaa.fnExactConv
