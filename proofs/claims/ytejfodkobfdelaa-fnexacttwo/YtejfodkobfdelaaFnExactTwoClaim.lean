/-
  Proved: whatever the arguments, 'FnExactTwo' returns true: the landed function answers as its model, and what came in reads as it did. No condition.
-/
import Derived.Test.YtejfodkobfdelaaRows
import Derived.Test.YtejfodkobfdelaaMgaa
import Derived.Test.YtejfodkobfdelaaMgab
import Derived.Test.YtejfodkobfdelaaMgac
import Derived.Test.YtejfodkobfdelaaMgad
import Derived.Test.YtejfodkobfdelaaMgae
import Derived.Test.YtejfodkobfdelaaMgaf
import Derived.Test.YtejfodkobfdelaaMgag
import Derived.Test.YtejfodkobfdelaaMgah
import Derived.Test.YtejfodkobfdelaaMgai
import Derived.Test.YtejfodkobfdelaaMgaj
import Derived.Test.YtejfodkobfdelaaMgak
import Derived.Test.YtejfodkobfdelaaMgal
import Derived.Test.YtejfodkobfdelaaMgam
import Derived.Test.YtejfodkobfdelaaMgan
import Derived.Test.YtejfodkobfdelaaMgao
import Derived.Test.YtejfodkobfdelaaMgap
import Derived.Test.YtejfodkobfdelaaMgaq
import Derived.Test.YtejfodkobfdelaaMgar
import Derived.Test.YtejfodkobfdelaaMgas
import Derived.Test.YtejfodkobfdelaaMgat
import Derived.Test.YtejfodkobfdelaaMgau
import Derived.Test.YtejfodkobfdelaaMgav
import Derived.Test.YtejfodkobfdelaaMgaw
import Derived.Test.YtejfodkobfdelaaMgax
import Derived.Test.YtejfodkobfdelaaMgay
import Derived.Test.YtejfodkobfdelaaMgaz
import Derived.Test.YtejfodkobfdelaaMgba
import Derived.Test.YtejfodkobfdelaaMgbb
import Derived.Test.YtejfodkobfdelaaMgbc
import Derived.Test.YtejfodkobfdelaaMgbd
import Derived.Test.YtejfodkobfdelaaMgbe
import Derived.Test.YtejfodkobfdelaaMgbf
import Derived.WalkKit
import Derived.ProofKit
import Derived.OpenShut
import Derived.ShutString
import Derived.ChangeOld
import Derived.Below
import Derived.Lib.SmallJoins
import Derived.OpenVars
import Derived.ChangeVars
import Derived.Deep.RegionHeld3
namespace Go.Proofs.Ytejfodkobfdelaa.fnExactTwo
open Go.ChangeShapes Go.WideShapes Go.ChangeAt Go.RowKit Go.Joins
open Go.ChangeMaps (open_string shut_string)
set_option linter.unusedVariables false
set_option linter.unusedSimpArgs false

theorem own : ownKnob Try.prog.godebug = none := by kernel_rfl
theorem laidOut : laidOutB Try.prog = true := by kernel_rfl

set_option maxRecDepth 100000 in
set_option maxHeartbeats 20000000 in
theorem walk (a0 : Int) (w0 : (Lit.int .i64 a0).wf = true) (a1 : Option Addr) (r1 cap1 : Nat) (b1 : Option Addr) (s1 dap1 : Nat) (a2 : Option Addr) (r2 cap2 : Nat) (b2 : Option Addr) (s2 dap2 : Nat) (w : World) (w1 : Vl.Arg w a1 r1) (y1 : Vl.Arg w b1 s1) (w2 : Vl.Arg w a2 r2) (y2 : Vl.Arg w b2 s2) :
    Calls Try.prog 4 #[.int .i64 a0, .agg #[.slice a1 r1 cap1, .slice b1 s1 dap1], .agg #[.slice a2 r2 cap2, .slice b2 s2 dap2]] w fun e w' => e = .returned (.bool true) ∧ Below w.heap.size w w' := by
  obtain ⟨hr1, D1, hh1⟩ := w1
  obtain ⟨hs1, S1, hk1⟩ := y1
  have H1 := Vl.hide hh1
  have K1 := Vl.hide hk1
  clear hh1 hk1
  obtain ⟨hr2, D2, hh2⟩ := w2
  obtain ⟨hs2, S2, hk2⟩ := y2
  have H2 := Vl.hide hh2
  have K2 := Vl.hide hk2
  clear hh2 hk2
  have B0 := Vl.hide (Below.refl w.heap.size w)
  have bb := (Below.refl w.heap.size w).alloc (Nat.le_refl _) (.cells #[.slice a1 r1 cap1, .slice b1 s1 dap1] 36)
  have V1_1 := Vl.hide (Vo.bx_new w (.slice a1 r1 cap1) (.slice b1 s1 dap1) 36)
  have B1 := Vl.hide (B0.out.trans (Below.mono bb B0.out.size))
  have sz1 : w.heap.size ≤ (w.alloc (.cells #[.slice a1 r1 cap1, .slice b1 s1 dap1] 36)).heap.size := by have qz := bb.size; (try simp only [World.size_alloc] at qz); (try simp only [World.size_alloc]); exact qz
  simp only [World.size_alloc] at sz1
  try clear u0 u1 u2 u3
  try clear u0 u1
  try clear v0 v1 v2 v3
  try clear v0 v1
  try clear z0 z1 z2 z3
  try clear z0 z1
  try clear p0 p1 p2 p3
  try clear p0 p1
  try clear fa0 fa1 fa2 fa3
  try clear fa0 fa1
  try clear fb0 fb1 fb2 fb3
  try clear fb0 fb1
  try clear fc0 fc1 fc2 fc3
  try clear fc0 fc1
  try clear fd0 fd1 fd2 fd3
  try clear fd0 fd1
  clear bb
  obtain ⟨u0, u1⟩ := V1_1.out
  have bb := (Below.refl (w.alloc (.cells #[.slice a1 r1 cap1, .slice b1 s1 dap1] 36)).heap.size (w.alloc (.cells #[.slice a1 r1 cap1, .slice b1 s1 dap1] 36))).alloc (Nat.le_refl _) (.cells #[.slice a2 r2 cap2, .slice b2 s2 dap2] 36)
  have V2_2 := Vl.hide (Vo.bx_new (w.alloc (.cells #[.slice a1 r1 cap1, .slice b1 s1 dap1] 36)) (.slice a2 r2 cap2) (.slice b2 s2 dap2) 36)
  simp only [World.size_alloc] at V2_2
  have B2 := Vl.hide (B1.out.trans (Below.mono bb B1.out.size))
  have sz2 : (w.heap.size + 1) ≤ ((w.alloc (.cells #[.slice a1 r1 cap1, .slice b1 s1 dap1] 36)).alloc (.cells #[.slice a2 r2 cap2, .slice b2 s2 dap2] 36)).heap.size := by have qz := bb.size; (try simp only [World.size_alloc] at qz); (try simp only [World.size_alloc]); exact qz
  simp only [World.size_alloc] at sz2
  try clear u0 u1 u2 u3
  try clear u0 u1
  try clear v0 v1 v2 v3
  try clear v0 v1
  try clear z0 z1 z2 z3
  try clear z0 z1
  try clear p0 p1 p2 p3
  try clear p0 p1
  try clear fa0 fa1 fa2 fa3
  try clear fa0 fa1
  try clear fb0 fb1 fb2 fb3
  try clear fb0 fb1
  try clear fc0 fc1 fc2 fc3
  try clear fc0 fc1
  try clear fd0 fd1 fd2 fd3
  try clear fd0 fd1
  have V1_2 := Vl.hide (Vo.Bx.below V1_1.out bb (by first | omega | (simp; done) | (simp; omega)))
  obtain ⟨u0, u1⟩ := V1_2.out
  clear bb
  obtain ⟨v0, v1⟩ := V2_2.out
  go_enter Try.func4, Try.ntmps4
  go_wp2_with fail
  refine (Vo.szTensor a1 b1 r1 s1 cap1 dap1 1048576 _ (by omega) (by omega) hr1 hs1).mono ?_; rintro e W3 ⟨x1, rfl, hx1, bb⟩
  have B3 := Vl.hide (B2.out.trans (Below.mono bb B2.out.size))
  have sz3 : ((w.heap.size + 1) + 1) ≤ W3.heap.size := by have qz := bb.size; (try simp only [World.size_alloc] at qz); (try simp only [World.size_alloc]); exact qz
  try clear u0 u1 u2 u3
  try clear u0 u1
  try clear v0 v1 v2 v3
  try clear v0 v1
  try clear z0 z1 z2 z3
  try clear z0 z1
  try clear p0 p1 p2 p3
  try clear p0 p1
  try clear fa0 fa1 fa2 fa3
  try clear fa0 fa1
  try clear fb0 fb1 fb2 fb3
  try clear fb0 fb1
  try clear fc0 fc1 fc2 fc3
  try clear fc0 fc1
  try clear fd0 fd1 fd2 fd3
  try clear fd0 fd1
  have V1_3 := Vl.hide (Vo.Bx.below V1_2.out bb (by first | omega | (simp; done) | (simp; omega)))
  have V2_3 := Vl.hide (Vo.Bx.below V2_2.out bb (by first | omega | (simp; done) | (simp; omega)))
  obtain ⟨u0, u1⟩ := V1_3.out
  obtain ⟨v0, v1⟩ := V2_3.out
  clear bb
  by_cases hn1 : x1 < 0
  · clear hx1
    go_wp2_with fail
    go_ret
    exact ⟨rfl, B3.out⟩
  have hm1 : decide (x1 < 0) = false := by rw [decide_eq_false_iff_not]; exact hn1
  obtain ⟨lx1, lr1, ls1⟩ := hx1 (by omega)
  have lz1 : 0 ≤ x1 := by omega
  clear hn1 hx1 hr1 hs1
  go_wp2_with fail
  refine (Vo.szTensor a2 b2 r2 s2 cap2 dap2 x1 _ (by omega) (by omega) hr2 hs2).mono ?_; rintro e W4 ⟨x2, rfl, hx2, bb⟩
  have B4 := Vl.hide (B3.out.trans (Below.mono bb B3.out.size))
  have sz4 : W3.heap.size ≤ W4.heap.size := by have qz := bb.size; (try simp only [World.size_alloc] at qz); (try simp only [World.size_alloc]); exact qz
  try clear u0 u1 u2 u3
  try clear u0 u1
  try clear v0 v1 v2 v3
  try clear v0 v1
  try clear z0 z1 z2 z3
  try clear z0 z1
  try clear p0 p1 p2 p3
  try clear p0 p1
  try clear fa0 fa1 fa2 fa3
  try clear fa0 fa1
  try clear fb0 fb1 fb2 fb3
  try clear fb0 fb1
  try clear fc0 fc1 fc2 fc3
  try clear fc0 fc1
  try clear fd0 fd1 fd2 fd3
  try clear fd0 fd1
  have V1_4 := Vl.hide (Vo.Bx.below V1_3.out bb (by first | omega | (simp; done) | (simp; omega)))
  have V2_4 := Vl.hide (Vo.Bx.below V2_3.out bb (by first | omega | (simp; done) | (simp; omega)))
  obtain ⟨u0, u1⟩ := V1_4.out
  obtain ⟨v0, v1⟩ := V2_4.out
  clear bb
  by_cases hn2 : x2 < 0
  · clear hx2
    go_wp2_with fail
    go_ret
    exact ⟨rfl, B4.out⟩
  have hm2 : decide (x2 < 0) = false := by rw [decide_eq_false_iff_not]; exact hn2
  obtain ⟨lx2, lr2, ls2⟩ := hx2 (by omega)
  have lz2 : 0 ≤ x2 := by omega
  clear hn2 hx2 hr2 hs2
  have lv : (((Vo.twoP a0 r1 s1 D1 S1 r2 s2 D2 S2).r : Nat) : Int) ≤ 1048576 := by have := (Vo.twoP_le a0 r1 s1 D1 S1 r2 s2 D2 S2).1; omega
  have lw : (((Vo.twoP a0 r1 s1 D1 S1 r2 s2 D2 S2).s : Nat) : Int) ≤ 1048576 := by have := (Vo.twoP_le a0 r1 s1 D1 S1 r2 s2 D2 S2).2; omega
  have CS := Vl.hide (fun (B : Nat) (a b c d : Addr) (w : World) hB h h' hv hv' => Vo.specTwo B (some a) (some b) (some c) (some d) r1 s1 r1 s1 r2 s2 r2 s2 D1 S1 D2 S2 a0 w hB h h' hv hv' lr1 ls1 lr2 ls2)
  have CI := Vl.hide (fun (B : Nat) (a b c d : Addr) (w : World) hB h h' hv hv' => Vo.twoF B a b c d r1 s1 r2 s2 D1 S1 D2 S2 a0 w hB h h' hv hv' lr1 ls1 lr2 ls2)
  obtain ⟨T, hT⟩ : ∃ T, (Vo.twoP a0 r1 s1 D1 S1 r2 s2 D2 S2) = T := ⟨_, rfl⟩
  rw [hT] at lv lw CS CI
  clear hT
  have HT0 := Vl.hide (fun (W : World) (hW : Below W4.heap.size W4 W) => Vo.toTensor w.heap.size a1 b1 r1 s1 cap1 dap1 D1 S1 W (H1.out.below (B4.out.trans (hW.mono B4.out.size))) (K1.out.below (B4.out.trans (hW.mono B4.out.size))) (Nat.le_trans B4.out.size hW.size) lr1 ls1)
  have c0 : ∀ (x : Obj) i, (W4.drew.alloc x).cell? ⟨w.heap.size, i, none⟩ = W4.cell? ⟨w.heap.size, i, none⟩ := fun x i => World.cell?_alloc_old W4.drew x ⟨w.heap.size, i, none⟩ (by show w.heap.size ≠ W4.heap.size; omega)
  have HT1 := Vl.hide (fun (W : World) (hW : Below W4.heap.size W4 W) => Vo.toTensor w.heap.size a2 b2 r2 s2 cap2 dap2 D2 S2 W (H2.out.below (B4.out.trans (hW.mono B4.out.size))) (K2.out.below (B4.out.trans (hW.mono B4.out.size))) (Nat.le_trans B4.out.size hW.size) lr2 ls2)
  have c1 : ∀ (x : Obj) i, (W4.drew.alloc x).cell? ⟨(w.heap.size + 1), i, none⟩ = W4.cell? ⟨(w.heap.size + 1), i, none⟩ := fun x i => World.cell?_alloc_old W4.drew x ⟨(w.heap.size + 1), i, none⟩ (by show (w.heap.size + 1) ≠ W4.heap.size; omega)
  have cc0 : ∀ (x : Obj) i, (W4.alloc x).cell? ⟨w.heap.size, i, none⟩ = W4.cell? ⟨w.heap.size, i, none⟩ := fun x i => World.cell?_alloc_old W4 x ⟨w.heap.size, i, none⟩ (by show w.heap.size ≠ W4.heap.size; omega)
  have nS0 : ¬ (w.heap.size = W4.heap.size) := by omega
  have nR0 : ¬ (W4.heap.size = w.heap.size) := by omega
  have nD0 : ¬ (w.heap.size = W4.drew.heap.size) := nS0
  have nE0 : ¬ (W4.drew.heap.size = w.heap.size) := nR0
  have cc1 : ∀ (x : Obj) i, (W4.alloc x).cell? ⟨(w.heap.size + 1), i, none⟩ = W4.cell? ⟨(w.heap.size + 1), i, none⟩ := fun x i => World.cell?_alloc_old W4 x ⟨(w.heap.size + 1), i, none⟩ (by show (w.heap.size + 1) ≠ W4.heap.size; omega)
  have nS1 : ¬ ((w.heap.size + 1) = W4.heap.size) := by omega
  have nR1 : ¬ (W4.heap.size = (w.heap.size + 1)) := by omega
  have nD1 : ¬ ((w.heap.size + 1) = W4.drew.heap.size) := nS1
  have nE1 : ¬ (W4.drew.heap.size = (w.heap.size + 1)) := nR1
  go_wp2_with fail
  go_cut [8] (fun p wx => Vo.Left W4 T p wx)
  case first =>
    try clear H1
    try clear K1
    try clear H2
    try clear K2
    try clear B0
    try clear B1
    try clear B2
    try clear B3
    try clear B4
    try clear V1_0
    try clear V1_1
    try clear V1_2
    try clear V1_3
    try clear V1_4
    try clear V2_0
    try clear V2_1
    try clear V2_2
    try clear V2_3
    try clear V2_4
    try clear UQS
    try clear UQG
    try clear UQX
    try clear UQY
    try clear CI
    go_region_with (first
      | (go_at_call_of 17 (Value.slice a1 r1 cap1)
         refine (HT0.out _ (by first | exact (Below.refl _ W4).drew | exact (Below.refl _ W4).drew.alloc (Nat.le_refl _) _)).mono ?_
         rintro e wA ⟨g5, g6, rfl, qA, bA⟩
         first
           | (have sA : W4.heap.size + 1 ≤ wA.heap.size := by (have q := bA.size; simp only [World.size_alloc, Vo.drewSz] at q; omega)
              have bA' : Below W4.heap.size W4 wA := ((Below.refl _ W4).drew.alloc (Nat.le_refl _) _).trans (bA.mono (by simp only [World.size_alloc, Vo.drewSz]; omega))
              have eA := fun i => bA.cell (p := ⟨W4.heap.size, i, none⟩) (by simp only [World.size_alloc, Vo.drewSz]; omega)
              have fA := fun i => bA.frozen (p := ⟨W4.heap.size, i, none⟩) (by simp only [World.size_alloc, Vo.drewSz]; omega)
              have c2 := fun i => bA'.cell (p := ⟨(w.heap.size + 1), i, none⟩) (by show (w.heap.size + 1) < W4.heap.size; omega))
           | (have bA' : Below W4.heap.size W4 wA := (Below.refl _ W4).drew.trans bA
              have sA : W4.heap.size ≤ wA.heap.size := bA'.size
              have c2 := fun i => bA'.cell (p := ⟨(w.heap.size + 1), i, none⟩) (by show (w.heap.size + 1) < W4.heap.size; omega)
              have nA : ¬ ((w.heap.size + 1) = wA.heap.size) := by omega
              have nA' : ¬ (wA.heap.size = (w.heap.size + 1)) := by omega
              have c3 : ∀ (x : Obj) i, (wA.alloc x).cell? ⟨(w.heap.size + 1), i, none⟩ = W4.cell? ⟨(w.heap.size + 1), i, none⟩ := fun x i => (World.cell?_alloc_old wA x ⟨(w.heap.size + 1), i, none⟩ (by show (w.heap.size + 1) ≠ wA.heap.size; omega)).trans (c2 i)))
      | (go_at_call_of 17 (Value.slice a2 r2 cap2)
         refine (HT1.out _ (by first | exact bA' | exact bA'.alloc bA'.size _)).mono ?_
         rintro e wB ⟨g7, g8, rfl, qB, bB⟩
         first
           | (have bB' : Below wA.heap.size wA wB := ((Below.refl _ wA).alloc (Nat.le_refl _) _).trans (bB.mono (by simp only [World.size_alloc]; omega))
              have sB : wA.heap.size + 1 ≤ wB.heap.size := by (have q := bB.size; simp only [World.size_alloc] at q; omega)
              have eB := fun i => bB.cell (p := ⟨wA.heap.size, i, none⟩) (by simp only [World.size_alloc]; omega)
              have fB := fun i => bB.frozen (p := ⟨wA.heap.size, i, none⟩) (by simp only [World.size_alloc]; omega))
           | (have bB' : Below wA.heap.size wA wB := bB
              have sB : wA.heap.size ≤ wB.heap.size := bB'.size
              have eB := fun i => bB'.cell (p := ⟨W4.heap.size, i, none⟩) (by show W4.heap.size < wA.heap.size; omega)
              have fB := fun i => bB'.frozen (p := ⟨W4.heap.size, i, none⟩) (by show W4.heap.size < wA.heap.size; omega))
           | (have bB' : Below wA.heap.size wA wB := bB
              have sB : wA.heap.size ≤ wB.heap.size := bB'.size)
         have qA' := qA.below bB')
      | (go_at_call 16
         first
           | refine (CS.out _ _ _ _ _ wB (Nat.le_refl _) qA'.d.ints qA'.t.ints qB.d.ints qB.t.ints).mono ?_
           | refine (CS.out _ _ _ _ _ _ (Nat.le_refl _) (qA'.below ((Below.refl _ wB).alloc (Nat.le_refl _) _)).d.ints (qA'.below ((Below.refl _ wB).alloc (Nat.le_refl _) _)).t.ints (qB.below ((Below.refl _ wB).alloc (Nat.le_refl _) _)).d.ints (qB.below ((Below.refl _ wB).alloc (Nat.le_refl _) _)).t.ints).mono ?_
         rintro e wC ⟨sa, sb, sc, sd, rfl, qs, bC⟩
         first
           | (have bC' : Below wB.heap.size wB wC := ((Below.refl _ wB).alloc (Nat.le_refl _) _).trans (bC.mono (by simp only [World.size_alloc]; omega))
              have eC := fun i => bC.cell (p := ⟨wB.heap.size, i, none⟩) (by simp only [World.size_alloc]; omega)
              have fC := fun i => bC.frozen (p := ⟨wB.heap.size, i, none⟩) (by simp only [World.size_alloc]; omega))
           | (have bC' : Below wB.heap.size wB wC := bC
              have eC := fun i => bC'.cell (p := ⟨wA.heap.size, i, none⟩) (by show wA.heap.size < wB.heap.size; omega)
              have fC := fun i => bC'.frozen (p := ⟨wA.heap.size, i, none⟩) (by show wA.heap.size < wB.heap.size; omega))
           | (have bC' : Below wB.heap.size wB wC := bC
              have eC := fun i => bC'.cell (p := ⟨W4.heap.size, i, none⟩) (by show W4.heap.size < wB.heap.size; omega)
              have fC := fun i => bC'.frozen (p := ⟨W4.heap.size, i, none⟩) (by show W4.heap.size < wB.heap.size; omega))
           | (have bC' : Below wB.heap.size wB wC := bC)))
    all_goals (go_wp2_with fail)
    all_goals go_meet
    all_goals
      have bS : Below W4.heap.size W4 wC := (bA'.trans (bB'.mono bA'.size)).trans (bC'.mono (Nat.le_trans bA'.size bB'.size))
    all_goals first
      | exact Vo.left_fresh qs (by first | omega | (simp only [World.size_alloc]; omega)) bS
      | exact Vo.left_set qs (by first | omega | (simp only [World.size_alloc]; omega)) bS ((Vo.bx_new wB (.slice none 0 0) (.slice none 0 0) 38).below bC (by simp)) (by omega)
      | exact Vo.left_set qs (by first | omega | (simp only [World.size_alloc]; omega)) bS (((Vo.bx_new wA (.slice none 0 0) (.slice none 0 0) 38).below bB (by simp)).below bC (by omega)) (by omega)
      | exact Vo.left_set qs (by first | omega | (simp only [World.size_alloc]; omega)) bS ((((Vo.bx_new W4.drew (.slice none 0 0) (.slice none 0 0) 38).below bA (by simp)).below bB (by first | omega | (rw [Vo.drewSz]; omega))).below bC (by first | omega | (rw [Vo.drewSz]; omega))) (by first | omega | (rw [Vo.drewSz]; omega))
  case rest =>
  obtain ⟨WX1, rfl⟩ : ∃ X, X = wc := ⟨_, rfl⟩
  obtain ⟨P1, sa, sb, sc, sd, rfl, hP1, bx1, qs1, bb⟩ := hcut
  clear HT0 HT1 c0 c1 cc0 cc1 nS0 nS1 nR0 nR1 nD0 nD1 nE0 nE1
  have S_5 := Vl.hide bx1
  have B5 := Vl.hide (B4.out.trans (Below.mono bb B4.out.size))
  have sz5 : W4.heap.size ≤ WX1.heap.size := by have qz := bb.size; (try simp only [World.size_alloc] at qz); (try simp only [World.size_alloc]); exact qz
  try clear u0 u1 u2 u3
  try clear u0 u1
  try clear v0 v1 v2 v3
  try clear v0 v1
  try clear z0 z1 z2 z3
  try clear z0 z1
  try clear p0 p1 p2 p3
  try clear p0 p1
  try clear fa0 fa1 fa2 fa3
  try clear fa0 fa1
  try clear fb0 fb1 fb2 fb3
  try clear fb0 fb1
  try clear fc0 fc1 fc2 fc3
  try clear fc0 fc1
  try clear fd0 fd1 fd2 fd3
  try clear fd0 fd1
  have V1_5 := Vl.hide (Vo.Bx.below V1_4.out bb (by first | omega | (simp; done) | (simp; omega)))
  have V2_5 := Vl.hide (Vo.Bx.below V2_4.out bb (by first | omega | (simp; done) | (simp; omega)))
  obtain ⟨u0, u1⟩ := V1_5.out
  obtain ⟨v0, v1⟩ := V2_5.out
  clear bb
  obtain ⟨z0, z1⟩ := S_5.out
  clear bx1
  have QS_5 := Vl.hide qs1
  clear qs1
  have uu := fun k q => QS_5.out.blk (k := k) q
  try simp only [World.size_alloc] at uu
  have UQS := Vl.hide uu
  clear uu
  go_wp2_with fail
  refine (Vo.toTensor w.heap.size a1 b1 r1 s1 cap1 dap1 D1 S1 _ (H1.out.below B5.out) (K1.out.below B5.out) B5.out.size lr1 ls1).mono ?_; rintro e W6 ⟨gx, gx', rfl, q6, bb⟩
  have B6 := Vl.hide (B5.out.trans (Below.mono bb B5.out.size))
  have sz6 : WX1.heap.size ≤ W6.heap.size := by have qz := bb.size; (try simp only [World.size_alloc] at qz); (try simp only [World.size_alloc]); exact qz
  try clear u0 u1 u2 u3
  try clear u0 u1
  try clear v0 v1 v2 v3
  try clear v0 v1
  try clear z0 z1 z2 z3
  try clear z0 z1
  try clear p0 p1 p2 p3
  try clear p0 p1
  try clear fa0 fa1 fa2 fa3
  try clear fa0 fa1
  try clear fb0 fb1 fb2 fb3
  try clear fb0 fb1
  try clear fc0 fc1 fc2 fc3
  try clear fc0 fc1
  try clear fd0 fd1 fd2 fd3
  try clear fd0 fd1
  have V1_6 := Vl.hide (Vo.Bx.below V1_5.out bb (by first | omega | (simp; done) | (simp; omega)))
  have V2_6 := Vl.hide (Vo.Bx.below V2_5.out bb (by first | omega | (simp; done) | (simp; omega)))
  have S_6 := Vl.hide (Vo.Bx.below S_5.out bb (by first | omega | (simp; done) | (simp; omega)))
  have QS_6 := Vl.hide (QS_5.out.below bb)
  obtain ⟨u0, u1⟩ := V1_6.out
  obtain ⟨v0, v1⟩ := V2_6.out
  obtain ⟨z0, z1⟩ := S_6.out
  clear bb
  have QX_6 := Vl.hide q6
  clear q6
  have uu := fun k q => QX_6.out.blk (k := k) q
  try simp only [World.size_alloc] at uu
  have UQX := Vl.hide uu
  clear uu
  have bb := (Below.refl W6.heap.size W6).alloc (Nat.le_refl _) (.cells #[.slice (some ⟨gx, 0, none⟩) r1 r1, .slice (some ⟨gx', 0, none⟩) s1 s1] 38)
  have X_7 := Vl.hide (Vo.bx_new W6 (.slice (some ⟨gx, 0, none⟩) r1 r1) (.slice (some ⟨gx', 0, none⟩) s1 s1) 38)
  have B7 := Vl.hide (B6.out.trans (Below.mono bb B6.out.size))
  have sz7 : W6.heap.size ≤ (W6.alloc (.cells #[.slice (some ⟨gx, 0, none⟩) r1 r1, .slice (some ⟨gx', 0, none⟩) s1 s1] 38)).heap.size := by have qz := bb.size; (try simp only [World.size_alloc] at qz); (try simp only [World.size_alloc]); exact qz
  simp only [World.size_alloc] at sz7
  try clear u0 u1 u2 u3
  try clear u0 u1
  try clear v0 v1 v2 v3
  try clear v0 v1
  try clear z0 z1 z2 z3
  try clear z0 z1
  try clear p0 p1 p2 p3
  try clear p0 p1
  try clear fa0 fa1 fa2 fa3
  try clear fa0 fa1
  try clear fb0 fb1 fb2 fb3
  try clear fb0 fb1
  try clear fc0 fc1 fc2 fc3
  try clear fc0 fc1
  try clear fd0 fd1 fd2 fd3
  try clear fd0 fd1
  have V1_7 := Vl.hide (Vo.Bx.below V1_6.out bb (by first | omega | (simp; done) | (simp; omega)))
  have V2_7 := Vl.hide (Vo.Bx.below V2_6.out bb (by first | omega | (simp; done) | (simp; omega)))
  have S_7 := Vl.hide (Vo.Bx.below S_6.out bb (by first | omega | (simp; done) | (simp; omega)))
  have QS_7 := Vl.hide (QS_6.out.below bb)
  have QX_7 := Vl.hide (QX_6.out.below bb)
  obtain ⟨u0, u1⟩ := V1_7.out
  obtain ⟨v0, v1⟩ := V2_7.out
  obtain ⟨z0, z1⟩ := S_7.out
  clear bb
  obtain ⟨p0, p1⟩ := X_7.out
  go_wp2_with fail
  refine (Vo.toTensor w.heap.size a2 b2 r2 s2 cap2 dap2 D2 S2 _ (H2.out.below B7.out) (K2.out.below B7.out) B7.out.size lr2 ls2).mono ?_; rintro e W8 ⟨gy, gy', rfl, q8, bb⟩
  have B8 := Vl.hide (B7.out.trans (Below.mono bb B7.out.size))
  have sz8 : (W6.heap.size + 1) ≤ W8.heap.size := by have qz := bb.size; (try simp only [World.size_alloc] at qz); (try simp only [World.size_alloc]); exact qz
  try clear u0 u1 u2 u3
  try clear u0 u1
  try clear v0 v1 v2 v3
  try clear v0 v1
  try clear z0 z1 z2 z3
  try clear z0 z1
  try clear p0 p1 p2 p3
  try clear p0 p1
  try clear fa0 fa1 fa2 fa3
  try clear fa0 fa1
  try clear fb0 fb1 fb2 fb3
  try clear fb0 fb1
  try clear fc0 fc1 fc2 fc3
  try clear fc0 fc1
  try clear fd0 fd1 fd2 fd3
  try clear fd0 fd1
  have V1_8 := Vl.hide (Vo.Bx.below V1_7.out bb (by first | omega | (simp; done) | (simp; omega)))
  have V2_8 := Vl.hide (Vo.Bx.below V2_7.out bb (by first | omega | (simp; done) | (simp; omega)))
  have S_8 := Vl.hide (Vo.Bx.below S_7.out bb (by first | omega | (simp; done) | (simp; omega)))
  have QS_8 := Vl.hide (QS_7.out.below bb)
  have QX_8 := Vl.hide (QX_7.out.below bb)
  have X_8 := Vl.hide (Vo.Bx.below X_7.out bb (by first | omega | (simp; done) | (simp; omega)))
  obtain ⟨u0, u1⟩ := V1_8.out
  obtain ⟨v0, v1⟩ := V2_8.out
  obtain ⟨z0, z1⟩ := S_8.out
  obtain ⟨p0, p1⟩ := X_8.out
  clear bb
  have QY_8 := Vl.hide q8
  clear q8
  have uu := fun k q => QY_8.out.blk (k := k) q
  try simp only [World.size_alloc] at uu
  have UQY := Vl.hide uu
  clear uu
  have bb := (Below.refl W8.heap.size W8).alloc (Nat.le_refl _) (.cells #[.slice (some ⟨gy, 0, none⟩) r2 r2, .slice (some ⟨gy', 0, none⟩) s2 s2] 38)
  have Y_9 := Vl.hide (Vo.bx_new W8 (.slice (some ⟨gy, 0, none⟩) r2 r2) (.slice (some ⟨gy', 0, none⟩) s2 s2) 38)
  have B9 := Vl.hide (B8.out.trans (Below.mono bb B8.out.size))
  have sz9 : W8.heap.size ≤ (W8.alloc (.cells #[.slice (some ⟨gy, 0, none⟩) r2 r2, .slice (some ⟨gy', 0, none⟩) s2 s2] 38)).heap.size := by have qz := bb.size; (try simp only [World.size_alloc] at qz); (try simp only [World.size_alloc]); exact qz
  simp only [World.size_alloc] at sz9
  try clear u0 u1 u2 u3
  try clear u0 u1
  try clear v0 v1 v2 v3
  try clear v0 v1
  try clear z0 z1 z2 z3
  try clear z0 z1
  try clear p0 p1 p2 p3
  try clear p0 p1
  try clear fa0 fa1 fa2 fa3
  try clear fa0 fa1
  try clear fb0 fb1 fb2 fb3
  try clear fb0 fb1
  try clear fc0 fc1 fc2 fc3
  try clear fc0 fc1
  try clear fd0 fd1 fd2 fd3
  try clear fd0 fd1
  have V1_9 := Vl.hide (Vo.Bx.below V1_8.out bb (by first | omega | (simp; done) | (simp; omega)))
  have V2_9 := Vl.hide (Vo.Bx.below V2_8.out bb (by first | omega | (simp; done) | (simp; omega)))
  have S_9 := Vl.hide (Vo.Bx.below S_8.out bb (by first | omega | (simp; done) | (simp; omega)))
  have QS_9 := Vl.hide (QS_8.out.below bb)
  have QX_9 := Vl.hide (QX_8.out.below bb)
  have X_9 := Vl.hide (Vo.Bx.below X_8.out bb (by first | omega | (simp; done) | (simp; omega)))
  have QY_9 := Vl.hide (QY_8.out.below bb)
  obtain ⟨u0, u1⟩ := V1_9.out
  obtain ⟨v0, v1⟩ := V2_9.out
  obtain ⟨z0, z1⟩ := S_9.out
  obtain ⟨p0, p1⟩ := X_9.out
  clear bb
  obtain ⟨fa0, fa1⟩ := Y_9.out
  go_wp2_with fail
  refine (CI.out _ _ _ _ _ _ (Nat.le_refl _) QX_9.out.d.ints QX_9.out.t.ints QY_9.out.d.ints QY_9.out.t.ints).mono ?_; rintro e W10 ⟨ga, gb, gc, gd, rfl, qg, bb⟩
  have B10 := Vl.hide (B9.out.trans (Below.mono bb B9.out.size))
  have sz10 : (W8.heap.size + 1) ≤ W10.heap.size := by have qz := bb.size; (try simp only [World.size_alloc] at qz); (try simp only [World.size_alloc]); exact qz
  try clear u0 u1 u2 u3
  try clear u0 u1
  try clear v0 v1 v2 v3
  try clear v0 v1
  try clear z0 z1 z2 z3
  try clear z0 z1
  try clear p0 p1 p2 p3
  try clear p0 p1
  try clear fa0 fa1 fa2 fa3
  try clear fa0 fa1
  try clear fb0 fb1 fb2 fb3
  try clear fb0 fb1
  try clear fc0 fc1 fc2 fc3
  try clear fc0 fc1
  try clear fd0 fd1 fd2 fd3
  try clear fd0 fd1
  have V1_10 := Vl.hide (Vo.Bx.below V1_9.out bb (by first | omega | (simp; done) | (simp; omega)))
  have V2_10 := Vl.hide (Vo.Bx.below V2_9.out bb (by first | omega | (simp; done) | (simp; omega)))
  have S_10 := Vl.hide (Vo.Bx.below S_9.out bb (by first | omega | (simp; done) | (simp; omega)))
  have QS_10 := Vl.hide (QS_9.out.below bb)
  have QX_10 := Vl.hide (QX_9.out.below bb)
  have X_10 := Vl.hide (Vo.Bx.below X_9.out bb (by first | omega | (simp; done) | (simp; omega)))
  have QY_10 := Vl.hide (QY_9.out.below bb)
  have Y_10 := Vl.hide (Vo.Bx.below Y_9.out bb (by first | omega | (simp; done) | (simp; omega)))
  obtain ⟨u0, u1⟩ := V1_10.out
  obtain ⟨v0, v1⟩ := V2_10.out
  obtain ⟨z0, z1⟩ := S_10.out
  obtain ⟨p0, p1⟩ := X_10.out
  obtain ⟨fa0, fa1⟩ := Y_10.out
  clear bb
  have QG_10 := Vl.hide qg
  clear qg
  have uu := fun k q => QG_10.out.blk (k := k) q
  try simp only [World.size_alloc] at uu
  have UQG := Vl.hide uu
  clear uu
  have bb := (Below.refl W10.heap.size W10).alloc (Nat.le_refl _) (.cells #[.slice ga T.r gc, .slice gb T.s gd] 38)
  have G_11 := Vl.hide (Vo.bx_new W10 (.slice ga T.r gc) (.slice gb T.s gd) 38)
  have B11 := Vl.hide (B10.out.trans (Below.mono bb B10.out.size))
  have sz11 : W10.heap.size ≤ (W10.alloc (.cells #[.slice ga T.r gc, .slice gb T.s gd] 38)).heap.size := by have qz := bb.size; (try simp only [World.size_alloc] at qz); (try simp only [World.size_alloc]); exact qz
  simp only [World.size_alloc] at sz11
  try clear u0 u1 u2 u3
  try clear u0 u1
  try clear v0 v1 v2 v3
  try clear v0 v1
  try clear z0 z1 z2 z3
  try clear z0 z1
  try clear p0 p1 p2 p3
  try clear p0 p1
  try clear fa0 fa1 fa2 fa3
  try clear fa0 fa1
  try clear fb0 fb1 fb2 fb3
  try clear fb0 fb1
  try clear fc0 fc1 fc2 fc3
  try clear fc0 fc1
  try clear fd0 fd1 fd2 fd3
  try clear fd0 fd1
  have V1_11 := Vl.hide (Vo.Bx.below V1_10.out bb (by first | omega | (simp; done) | (simp; omega)))
  have V2_11 := Vl.hide (Vo.Bx.below V2_10.out bb (by first | omega | (simp; done) | (simp; omega)))
  have S_11 := Vl.hide (Vo.Bx.below S_10.out bb (by first | omega | (simp; done) | (simp; omega)))
  have QS_11 := Vl.hide (QS_10.out.below bb)
  have QX_11 := Vl.hide (QX_10.out.below bb)
  have X_11 := Vl.hide (Vo.Bx.below X_10.out bb (by first | omega | (simp; done) | (simp; omega)))
  have QY_11 := Vl.hide (QY_10.out.below bb)
  have Y_11 := Vl.hide (Vo.Bx.below Y_10.out bb (by first | omega | (simp; done) | (simp; omega)))
  have QG_11 := Vl.hide (QG_10.out.below bb)
  obtain ⟨u0, u1⟩ := V1_11.out
  obtain ⟨v0, v1⟩ := V2_11.out
  obtain ⟨z0, z1⟩ := S_11.out
  obtain ⟨p0, p1⟩ := X_11.out
  obtain ⟨fa0, fa1⟩ := Y_11.out
  clear bb
  obtain ⟨fb0, fb1⟩ := G_11.out
  go_wp2_with fail
  refine (Vo.eqTensor _ _ _ _ _ T.r T.s gc gd sc sd T.D T.S T.D T.S _ (Nat.le_refl _) QG_11.out.d.ints QG_11.out.t.ints QS_11.out.d.ints QS_11.out.t.ints (fun _ _ => rfl) (fun _ _ => rfl) lv lw).mono ?_; rintro e W12 ⟨rfl, bb⟩
  have B12 := Vl.hide (B11.out.trans (Below.mono bb B11.out.size))
  have sz12 : (W10.heap.size + 1) ≤ W12.heap.size := by have qz := bb.size; (try simp only [World.size_alloc] at qz); (try simp only [World.size_alloc]); exact qz
  try clear u0 u1 u2 u3
  try clear u0 u1
  try clear v0 v1 v2 v3
  try clear v0 v1
  try clear z0 z1 z2 z3
  try clear z0 z1
  try clear p0 p1 p2 p3
  try clear p0 p1
  try clear fa0 fa1 fa2 fa3
  try clear fa0 fa1
  try clear fb0 fb1 fb2 fb3
  try clear fb0 fb1
  try clear fc0 fc1 fc2 fc3
  try clear fc0 fc1
  try clear fd0 fd1 fd2 fd3
  try clear fd0 fd1
  have V1_12 := Vl.hide (Vo.Bx.below V1_11.out bb (by first | omega | (simp; done) | (simp; omega)))
  have V2_12 := Vl.hide (Vo.Bx.below V2_11.out bb (by first | omega | (simp; done) | (simp; omega)))
  have S_12 := Vl.hide (Vo.Bx.below S_11.out bb (by first | omega | (simp; done) | (simp; omega)))
  have QS_12 := Vl.hide (QS_11.out.below bb)
  have QX_12 := Vl.hide (QX_11.out.below bb)
  have X_12 := Vl.hide (Vo.Bx.below X_11.out bb (by first | omega | (simp; done) | (simp; omega)))
  have QY_12 := Vl.hide (QY_11.out.below bb)
  have Y_12 := Vl.hide (Vo.Bx.below Y_11.out bb (by first | omega | (simp; done) | (simp; omega)))
  have QG_12 := Vl.hide (QG_11.out.below bb)
  have G_12 := Vl.hide (Vo.Bx.below G_11.out bb (by first | omega | (simp; done) | (simp; omega)))
  obtain ⟨u0, u1⟩ := V1_12.out
  obtain ⟨v0, v1⟩ := V2_12.out
  obtain ⟨z0, z1⟩ := S_12.out
  obtain ⟨p0, p1⟩ := X_12.out
  obtain ⟨fa0, fa1⟩ := Y_12.out
  obtain ⟨fb0, fb1⟩ := G_12.out
  clear bb
  have HT := Vl.hide (fun (W : World) (hW : Below W12.heap.size W12 W) => Vo.toTensor w.heap.size a1 b1 r1 s1 cap1 dap1 D1 S1 W (H1.out.below (B12.out.trans (hW.mono B12.out.size))) (K1.out.below (B12.out.trans (hW.mono B12.out.size))) (Nat.le_trans B12.out.size hW.size) lr1 ls1)
  have HE := Vl.hide (fun (W : World) (hW : Below W12.heap.size W12 W) (g5 g6 : Nat) (B : Nat) (q : Vo.VOwn B W (some ⟨g5, 0, none⟩) (some ⟨g6, 0, none⟩) r1 s1 D1 S1) => Vo.eqTensor W.heap.size (some ⟨gx, 0, none⟩) (some ⟨gx', 0, none⟩) (some ⟨g5, 0, none⟩) (some ⟨g6, 0, none⟩) r1 s1 r1 s1 r1 s1 D1 S1 D1 S1 W (Nat.le_refl _) (QX_12.out.below hW).d.ints (QX_12.out.below hW).t.ints q.d.ints q.t.ints (fun _ _ => rfl) (fun _ _ => rfl) lr1 ls1)
  go_wp2_with fail
  go_region_held3 (fun w' => w'.cell? ⟨W6.heap.size, 0, none⟩ = some (.slice (some ⟨gx, 0, none⟩) r1 r1) ∧ w'.cell? ⟨W6.heap.size, 1, none⟩ = some (.slice (some ⟨gx', 0, none⟩) s1 s1) ∧ w'.cell? ⟨w.heap.size, 0, none⟩ = some (.slice a1 r1 cap1) ∧ w'.cell? ⟨w.heap.size, 1, none⟩ = some (.slice b1 s1 dap1))
    ((try dsimp only) <;> (repeat' apply And.intro) <;> (repeat (first | with_reducible assumption | with_reducible apply Vo.drew_old | (with_reducible apply Vo.below_old; (focus (with_reducible assumption))))))
    (first
      | (go_at_call 17
         refine (HT.out _ (by exact (Below.refl _ _).drew)).mono ?_
         rintro e wA ⟨g5, g6, rfl, qA, bA⟩)
      | (go_at_call 19
         refine (HE.out _ (by exact (Below.refl _ W12).drew.trans bA) g5 g6 _ qA).mono ?_
         rintro e wB13 ⟨rfl, bB⟩))
  have bb : Below W12.heap.size W12 wB13 := ((Below.refl _ W12).drew.trans bA).trans (bB.mono (Nat.le_trans (Nat.le_refl _) bA.size))
  clear bA bB qA HT HE
  have B13 := Vl.hide (B12.out.trans (Below.mono bb B12.out.size))
  have sz13 : W12.heap.size ≤ wB13.heap.size := by have qz := bb.size; (try simp only [World.size_alloc] at qz); (try simp only [World.size_alloc]); exact qz
  try clear u0 u1 u2 u3
  try clear u0 u1
  try clear v0 v1 v2 v3
  try clear v0 v1
  try clear z0 z1 z2 z3
  try clear z0 z1
  try clear p0 p1 p2 p3
  try clear p0 p1
  try clear fa0 fa1 fa2 fa3
  try clear fa0 fa1
  try clear fb0 fb1 fb2 fb3
  try clear fb0 fb1
  try clear fc0 fc1 fc2 fc3
  try clear fc0 fc1
  try clear fd0 fd1 fd2 fd3
  try clear fd0 fd1
  have V1_13 := Vl.hide (Vo.Bx.below V1_12.out bb (by first | omega | (simp; done) | (simp; omega)))
  have V2_13 := Vl.hide (Vo.Bx.below V2_12.out bb (by first | omega | (simp; done) | (simp; omega)))
  have S_13 := Vl.hide (Vo.Bx.below S_12.out bb (by first | omega | (simp; done) | (simp; omega)))
  have QS_13 := Vl.hide (QS_12.out.below bb)
  have QX_13 := Vl.hide (QX_12.out.below bb)
  have X_13 := Vl.hide (Vo.Bx.below X_12.out bb (by first | omega | (simp; done) | (simp; omega)))
  have QY_13 := Vl.hide (QY_12.out.below bb)
  have Y_13 := Vl.hide (Vo.Bx.below Y_12.out bb (by first | omega | (simp; done) | (simp; omega)))
  have QG_13 := Vl.hide (QG_12.out.below bb)
  have G_13 := Vl.hide (Vo.Bx.below G_12.out bb (by first | omega | (simp; done) | (simp; omega)))
  obtain ⟨u0, u1⟩ := V1_13.out
  obtain ⟨v0, v1⟩ := V2_13.out
  obtain ⟨z0, z1⟩ := S_13.out
  obtain ⟨p0, p1⟩ := X_13.out
  obtain ⟨fa0, fa1⟩ := Y_13.out
  obtain ⟨fb0, fb1⟩ := G_13.out
  clear bb
  have HT := Vl.hide (fun (W : World) (hW : Below wB13.heap.size wB13 W) => Vo.toTensor w.heap.size a2 b2 r2 s2 cap2 dap2 D2 S2 W (H2.out.below (B13.out.trans (hW.mono B13.out.size))) (K2.out.below (B13.out.trans (hW.mono B13.out.size))) (Nat.le_trans B13.out.size hW.size) lr2 ls2)
  have HE := Vl.hide (fun (W : World) (hW : Below wB13.heap.size wB13 W) (g5 g6 : Nat) (B : Nat) (q : Vo.VOwn B W (some ⟨g5, 0, none⟩) (some ⟨g6, 0, none⟩) r2 s2 D2 S2) => Vo.eqTensor W.heap.size (some ⟨gy, 0, none⟩) (some ⟨gy', 0, none⟩) (some ⟨g5, 0, none⟩) (some ⟨g6, 0, none⟩) r2 s2 r2 s2 r2 s2 D2 S2 D2 S2 W (Nat.le_refl _) (QY_13.out.below hW).d.ints (QY_13.out.below hW).t.ints q.d.ints q.t.ints (fun _ _ => rfl) (fun _ _ => rfl) lr2 ls2)
  go_wp2_with fail
  go_region_held3 (fun w' => w'.cell? ⟨W8.heap.size, 0, none⟩ = some (.slice (some ⟨gy, 0, none⟩) r2 r2) ∧ w'.cell? ⟨W8.heap.size, 1, none⟩ = some (.slice (some ⟨gy', 0, none⟩) s2 s2) ∧ w'.cell? ⟨(w.heap.size + 1), 0, none⟩ = some (.slice a2 r2 cap2) ∧ w'.cell? ⟨(w.heap.size + 1), 1, none⟩ = some (.slice b2 s2 dap2))
    ((try dsimp only) <;> (repeat' apply And.intro) <;> (repeat (first | with_reducible assumption | with_reducible apply Vo.drew_old | (with_reducible apply Vo.below_old; (focus (with_reducible assumption))))))
    (first
      | (go_at_call 17
         refine (HT.out _ (by exact (Below.refl _ _).drew)).mono ?_
         rintro e wA ⟨g5, g6, rfl, qA, bA⟩)
      | (go_at_call 19
         refine (HE.out _ (by exact (Below.refl _ wB13).drew.trans bA) g5 g6 _ qA).mono ?_
         rintro e wB14 ⟨rfl, bB⟩))
  have bb : Below wB13.heap.size wB13 wB14 := ((Below.refl _ wB13).drew.trans bA).trans (bB.mono (Nat.le_trans (Nat.le_refl _) bA.size))
  clear bA bB qA HT HE
  have B14 := Vl.hide (B13.out.trans (Below.mono bb B13.out.size))
  have sz14 : wB13.heap.size ≤ wB14.heap.size := by have qz := bb.size; (try simp only [World.size_alloc] at qz); (try simp only [World.size_alloc]); exact qz
  try clear u0 u1 u2 u3
  try clear u0 u1
  try clear v0 v1 v2 v3
  try clear v0 v1
  try clear z0 z1 z2 z3
  try clear z0 z1
  try clear p0 p1 p2 p3
  try clear p0 p1
  try clear fa0 fa1 fa2 fa3
  try clear fa0 fa1
  try clear fb0 fb1 fb2 fb3
  try clear fb0 fb1
  try clear fc0 fc1 fc2 fc3
  try clear fc0 fc1
  try clear fd0 fd1 fd2 fd3
  try clear fd0 fd1
  have V1_14 := Vl.hide (Vo.Bx.below V1_13.out bb (by first | omega | (simp; done) | (simp; omega)))
  have V2_14 := Vl.hide (Vo.Bx.below V2_13.out bb (by first | omega | (simp; done) | (simp; omega)))
  have S_14 := Vl.hide (Vo.Bx.below S_13.out bb (by first | omega | (simp; done) | (simp; omega)))
  have QS_14 := Vl.hide (QS_13.out.below bb)
  have QX_14 := Vl.hide (QX_13.out.below bb)
  have X_14 := Vl.hide (Vo.Bx.below X_13.out bb (by first | omega | (simp; done) | (simp; omega)))
  have QY_14 := Vl.hide (QY_13.out.below bb)
  have Y_14 := Vl.hide (Vo.Bx.below Y_13.out bb (by first | omega | (simp; done) | (simp; omega)))
  have QG_14 := Vl.hide (QG_13.out.below bb)
  have G_14 := Vl.hide (Vo.Bx.below G_13.out bb (by first | omega | (simp; done) | (simp; omega)))
  obtain ⟨u0, u1⟩ := V1_14.out
  obtain ⟨v0, v1⟩ := V2_14.out
  obtain ⟨z0, z1⟩ := S_14.out
  obtain ⟨p0, p1⟩ := X_14.out
  obtain ⟨fa0, fa1⟩ := Y_14.out
  obtain ⟨fb0, fb1⟩ := G_14.out
  clear bb
  go_wp2_with fail
  refine (Vo.markTensor _ _ _ r1 s1 r1 s1 D1 S1 1 _ QX_14.out lr1 ls1 (by omega) (by omega)).mono ?_; rintro e W15 ⟨rfl, qs, bb⟩
  have B15 := Vl.hide (B14.out.trans (Vl.Kept.below bb B14.out.size (fun k q => by have := UQX.out _ q; omega)))
  have sz15 : wB14.heap.size ≤ W15.heap.size := by have qz := bb.size; (try simp only [World.size_alloc] at qz); (try simp only [World.size_alloc]); exact qz
  try clear u0 u1 u2 u3
  try clear u0 u1
  try clear v0 v1 v2 v3
  try clear v0 v1
  try clear z0 z1 z2 z3
  try clear z0 z1
  try clear p0 p1 p2 p3
  try clear p0 p1
  try clear fa0 fa1 fa2 fa3
  try clear fa0 fa1
  try clear fb0 fb1 fb2 fb3
  try clear fb0 fb1
  try clear fc0 fc1 fc2 fc3
  try clear fc0 fc1
  try clear fd0 fd1 fd2 fd3
  try clear fd0 fd1
  have V1_15 := Vl.hide (Vo.Bx.kept V1_14.out bb (by omega) (fun q => by have := UQX.out _ q; omega))
  have V2_15 := Vl.hide (Vo.Bx.kept V2_14.out bb (by omega) (fun q => by have := UQX.out _ q; omega))
  have S_15 := Vl.hide (Vo.Bx.kept S_14.out bb (by omega) (fun q => by have := UQX.out _ q; omega))
  have QS_15 := Vl.hide (QS_14.out.kept bb (fun k q q' => by have := UQS.out _ q; have := UQX.out _ q'; omega))
  have QX_15 := Vl.hide qs
  have X_15 := Vl.hide (Vo.Bx.kept X_14.out bb (by omega) (fun q => by have := UQX.out _ q; omega))
  have QY_15 := Vl.hide (QY_14.out.kept bb (fun k q q' => by have := UQY.out _ q; have := UQX.out _ q'; omega))
  have Y_15 := Vl.hide (Vo.Bx.kept Y_14.out bb (by omega) (fun q => by have := UQX.out _ q; omega))
  have QG_15 := Vl.hide (QG_14.out.kept bb (fun k q q' => by have := UQG.out _ q; have := UQX.out _ q'; omega))
  have G_15 := Vl.hide (Vo.Bx.kept G_14.out bb (by omega) (fun q => by have := UQX.out _ q; omega))
  obtain ⟨u0, u1⟩ := V1_15.out
  obtain ⟨v0, v1⟩ := V2_15.out
  obtain ⟨z0, z1⟩ := S_15.out
  obtain ⟨p0, p1⟩ := X_15.out
  obtain ⟨fa0, fa1⟩ := Y_15.out
  obtain ⟨fb0, fb1⟩ := G_15.out
  clear bb
  clear qs
  go_wp2_with fail
  refine (Vo.markTensorB _ _ _ r2 s2 r2 s2 D2 S2 (1 + r1 + s1) _ QY_15.out lr2 ls2 (by omega) (by omega)).mono ?_; rintro e W16 ⟨rfl, qs, bb⟩
  have B16 := Vl.hide (B15.out.trans (Vl.Kept.below bb B15.out.size (fun k q => by have := UQY.out _ q; omega)))
  have sz16 : W15.heap.size ≤ W16.heap.size := by have qz := bb.size; (try simp only [World.size_alloc] at qz); (try simp only [World.size_alloc]); exact qz
  try clear u0 u1 u2 u3
  try clear u0 u1
  try clear v0 v1 v2 v3
  try clear v0 v1
  try clear z0 z1 z2 z3
  try clear z0 z1
  try clear p0 p1 p2 p3
  try clear p0 p1
  try clear fa0 fa1 fa2 fa3
  try clear fa0 fa1
  try clear fb0 fb1 fb2 fb3
  try clear fb0 fb1
  try clear fc0 fc1 fc2 fc3
  try clear fc0 fc1
  try clear fd0 fd1 fd2 fd3
  try clear fd0 fd1
  have V1_16 := Vl.hide (Vo.Bx.kept V1_15.out bb (by omega) (fun q => by have := UQY.out _ q; omega))
  have V2_16 := Vl.hide (Vo.Bx.kept V2_15.out bb (by omega) (fun q => by have := UQY.out _ q; omega))
  have S_16 := Vl.hide (Vo.Bx.kept S_15.out bb (by omega) (fun q => by have := UQY.out _ q; omega))
  have QS_16 := Vl.hide (QS_15.out.kept bb (fun k q q' => by have := UQS.out _ q; have := UQY.out _ q'; omega))
  have QY_16 := Vl.hide qs
  have Y_16 := Vl.hide (Vo.Bx.kept Y_15.out bb (by omega) (fun q => by have := UQY.out _ q; omega))
  have QG_16 := Vl.hide (QG_15.out.kept bb (fun k q q' => by have := UQG.out _ q; have := UQY.out _ q'; omega))
  have G_16 := Vl.hide (Vo.Bx.kept G_15.out bb (by omega) (fun q => by have := UQY.out _ q; omega))
  obtain ⟨u0, u1⟩ := V1_16.out
  obtain ⟨v0, v1⟩ := V2_16.out
  obtain ⟨z0, z1⟩ := S_16.out
  obtain ⟨p0, p1⟩ := Y_16.out
  obtain ⟨fa0, fa1⟩ := G_16.out
  clear bb
  clear qs
  have neg1 : decide ((1 : Int) + r1 + s1 + r2 + s2 < 0) = false := by rw [decide_eq_false_iff_not]; omega
  go_wp2_with fail
  refine (Vo.eqTensor _ _ _ _ _ T.r T.s gc gd sc sd T.D T.S T.D T.S _ (Nat.le_refl _) QG_16.out.d.ints QG_16.out.t.ints QS_16.out.d.ints QS_16.out.t.ints (fun _ _ => rfl) (fun _ _ => rfl) lv lw).mono ?_; rintro e W17 ⟨rfl, bb⟩
  have B17 := Vl.hide (B16.out.trans (Below.mono bb B16.out.size))
  have sz17 : W16.heap.size ≤ W17.heap.size := by have qz := bb.size; (try simp only [World.size_alloc] at qz); (try simp only [World.size_alloc]); exact qz
  try clear u0 u1 u2 u3
  try clear u0 u1
  try clear v0 v1 v2 v3
  try clear v0 v1
  try clear z0 z1 z2 z3
  try clear z0 z1
  try clear p0 p1 p2 p3
  try clear p0 p1
  try clear fa0 fa1 fa2 fa3
  try clear fa0 fa1
  try clear fb0 fb1 fb2 fb3
  try clear fb0 fb1
  try clear fc0 fc1 fc2 fc3
  try clear fc0 fc1
  try clear fd0 fd1 fd2 fd3
  try clear fd0 fd1
  have V1_17 := Vl.hide (Vo.Bx.below V1_16.out bb (by first | omega | (simp; done) | (simp; omega)))
  have V2_17 := Vl.hide (Vo.Bx.below V2_16.out bb (by first | omega | (simp; done) | (simp; omega)))
  have S_17 := Vl.hide (Vo.Bx.below S_16.out bb (by first | omega | (simp; done) | (simp; omega)))
  have QS_17 := Vl.hide (QS_16.out.below bb)
  have QG_17 := Vl.hide (QG_16.out.below bb)
  have G_17 := Vl.hide (Vo.Bx.below G_16.out bb (by first | omega | (simp; done) | (simp; omega)))
  obtain ⟨u0, u1⟩ := V1_17.out
  obtain ⟨v0, v1⟩ := V2_17.out
  obtain ⟨z0, z1⟩ := S_17.out
  obtain ⟨p0, p1⟩ := G_17.out
  clear bb
  go_wp2_with fail
  refine (Vo.markTensor _ _ _ T.r T.s gc gd T.D T.S 1 _ QG_17.out lv lw (by omega) (by omega)).mono ?_; rintro e W18 ⟨rfl, qs, bb⟩
  have B18 := Vl.hide (B17.out.trans (Vl.Kept.below bb B17.out.size (fun k q => by have := UQG.out _ q; omega)))
  have sz18 : W17.heap.size ≤ W18.heap.size := by have qz := bb.size; (try simp only [World.size_alloc] at qz); (try simp only [World.size_alloc]); exact qz
  try clear u0 u1 u2 u3
  try clear u0 u1
  try clear v0 v1 v2 v3
  try clear v0 v1
  try clear z0 z1 z2 z3
  try clear z0 z1
  try clear p0 p1 p2 p3
  try clear p0 p1
  try clear fa0 fa1 fa2 fa3
  try clear fa0 fa1
  try clear fb0 fb1 fb2 fb3
  try clear fb0 fb1
  try clear fc0 fc1 fc2 fc3
  try clear fc0 fc1
  try clear fd0 fd1 fd2 fd3
  try clear fd0 fd1
  have V1_18 := Vl.hide (Vo.Bx.kept V1_17.out bb (by omega) (fun q => by have := UQG.out _ q; omega))
  have V2_18 := Vl.hide (Vo.Bx.kept V2_17.out bb (by omega) (fun q => by have := UQG.out _ q; omega))
  have S_18 := Vl.hide (Vo.Bx.kept S_17.out bb (by omega) (fun q => by have := UQG.out _ q; omega))
  have QS_18 := Vl.hide (QS_17.out.kept bb (fun k q q' => by have := UQS.out _ q; have := UQG.out _ q'; omega))
  have QG_18 := Vl.hide qs
  have G_18 := Vl.hide (Vo.Bx.kept G_17.out bb (by omega) (fun q => by have := UQG.out _ q; omega))
  obtain ⟨u0, u1⟩ := V1_18.out
  obtain ⟨v0, v1⟩ := V2_18.out
  obtain ⟨z0, z1⟩ := S_18.out
  obtain ⟨p0, p1⟩ := G_18.out
  clear bb
  clear qs
  have neg2 : decide ((1 : Int) + (T.r : Nat) + (T.s : Nat) < 0) = false := by rw [decide_eq_false_iff_not]; omega
  go_wp2_with fail
  refine (Vo.heldTensor _ _ _ T.r T.s gc gd 1 _ QG_18.out lv lw (by omega) (by omega)).mono ?_; rintro e W19 ⟨rfl, bb⟩
  have B19 := Vl.hide (B18.out.trans (Below.mono bb B18.out.size))
  have sz19 : W18.heap.size ≤ W19.heap.size := by have qz := bb.size; (try simp only [World.size_alloc] at qz); (try simp only [World.size_alloc]); exact qz
  try clear u0 u1 u2 u3
  try clear u0 u1
  try clear v0 v1 v2 v3
  try clear v0 v1
  try clear z0 z1 z2 z3
  try clear z0 z1
  try clear p0 p1 p2 p3
  try clear p0 p1
  try clear fa0 fa1 fa2 fa3
  try clear fa0 fa1
  try clear fb0 fb1 fb2 fb3
  try clear fb0 fb1
  try clear fc0 fc1 fc2 fc3
  try clear fc0 fc1
  try clear fd0 fd1 fd2 fd3
  try clear fd0 fd1
  have V1_19 := Vl.hide (Vo.Bx.below V1_18.out bb (by first | omega | (simp; done) | (simp; omega)))
  have V2_19 := Vl.hide (Vo.Bx.below V2_18.out bb (by first | omega | (simp; done) | (simp; omega)))
  have S_19 := Vl.hide (Vo.Bx.below S_18.out bb (by first | omega | (simp; done) | (simp; omega)))
  have QS_19 := Vl.hide (QS_18.out.below bb)
  have QG_19 := Vl.hide (QG_18.out.below bb)
  have G_19 := Vl.hide (Vo.Bx.below G_18.out bb (by first | omega | (simp; done) | (simp; omega)))
  obtain ⟨u0, u1⟩ := V1_19.out
  obtain ⟨v0, v1⟩ := V2_19.out
  obtain ⟨z0, z1⟩ := S_19.out
  obtain ⟨p0, p1⟩ := G_19.out
  clear bb
  have HT0 := Vl.hide (fun (W : World) (hW : Below W19.heap.size W19 W) => Vo.toTensor w.heap.size a1 b1 r1 s1 cap1 dap1 D1 S1 W (H1.out.below (B19.out.trans (hW.mono B19.out.size))) (K1.out.below (B19.out.trans (hW.mono B19.out.size))) (Nat.le_trans B19.out.size hW.size) lr1 ls1)
  have c0 : ∀ (x : Obj) i, (W19.drew.alloc x).cell? ⟨w.heap.size, i, none⟩ = W19.cell? ⟨w.heap.size, i, none⟩ := fun x i => World.cell?_alloc_old W19.drew x ⟨w.heap.size, i, none⟩ (by show w.heap.size ≠ W19.heap.size; omega)
  have HT1 := Vl.hide (fun (W : World) (hW : Below W19.heap.size W19 W) => Vo.toTensor w.heap.size a2 b2 r2 s2 cap2 dap2 D2 S2 W (H2.out.below (B19.out.trans (hW.mono B19.out.size))) (K2.out.below (B19.out.trans (hW.mono B19.out.size))) (Nat.le_trans B19.out.size hW.size) lr2 ls2)
  have c1 : ∀ (x : Obj) i, (W19.drew.alloc x).cell? ⟨(w.heap.size + 1), i, none⟩ = W19.cell? ⟨(w.heap.size + 1), i, none⟩ := fun x i => World.cell?_alloc_old W19.drew x ⟨(w.heap.size + 1), i, none⟩ (by show (w.heap.size + 1) ≠ W19.heap.size; omega)
  have cc0 : ∀ (x : Obj) i, (W19.alloc x).cell? ⟨w.heap.size, i, none⟩ = W19.cell? ⟨w.heap.size, i, none⟩ := fun x i => World.cell?_alloc_old W19 x ⟨w.heap.size, i, none⟩ (by show w.heap.size ≠ W19.heap.size; omega)
  have nS0 : ¬ (w.heap.size = W19.heap.size) := by omega
  have nR0 : ¬ (W19.heap.size = w.heap.size) := by omega
  have nD0 : ¬ (w.heap.size = W19.drew.heap.size) := nS0
  have nE0 : ¬ (W19.drew.heap.size = w.heap.size) := nR0
  have cc1 : ∀ (x : Obj) i, (W19.alloc x).cell? ⟨(w.heap.size + 1), i, none⟩ = W19.cell? ⟨(w.heap.size + 1), i, none⟩ := fun x i => World.cell?_alloc_old W19 x ⟨(w.heap.size + 1), i, none⟩ (by show (w.heap.size + 1) ≠ W19.heap.size; omega)
  have nS1 : ¬ ((w.heap.size + 1) = W19.heap.size) := by omega
  have nR1 : ¬ (W19.heap.size = (w.heap.size + 1)) := by omega
  have nD1 : ¬ ((w.heap.size + 1) = W19.drew.heap.size) := nS1
  have nE1 : ¬ (W19.drew.heap.size = (w.heap.size + 1)) := nR1
  go_wp2_with fail
  go_cut [15] (fun p wx => Vo.Left W19 T p wx)
  case first =>
    try clear H1
    try clear K1
    try clear H2
    try clear K2
    try clear B0
    try clear B1
    try clear B2
    try clear B3
    try clear B4
    try clear B5
    try clear B6
    try clear B7
    try clear B8
    try clear B9
    try clear B10
    try clear B11
    try clear B12
    try clear B13
    try clear B14
    try clear B15
    try clear B16
    try clear B17
    try clear B18
    try clear B19
    try clear V1_0
    try clear V1_1
    try clear V1_2
    try clear V1_3
    try clear V1_4
    try clear V1_5
    try clear V1_6
    try clear V1_7
    try clear V1_8
    try clear V1_9
    try clear V1_10
    try clear V1_11
    try clear V1_12
    try clear V1_13
    try clear V1_14
    try clear V1_15
    try clear V1_16
    try clear V1_17
    try clear V1_18
    try clear V1_19
    try clear V2_0
    try clear V2_1
    try clear V2_2
    try clear V2_3
    try clear V2_4
    try clear V2_5
    try clear V2_6
    try clear V2_7
    try clear V2_8
    try clear V2_9
    try clear V2_10
    try clear V2_11
    try clear V2_12
    try clear V2_13
    try clear V2_14
    try clear V2_15
    try clear V2_16
    try clear V2_17
    try clear V2_18
    try clear V2_19
    try clear S_0
    try clear S_1
    try clear S_2
    try clear S_3
    try clear S_4
    try clear S_5
    try clear S_6
    try clear S_7
    try clear S_8
    try clear S_9
    try clear S_10
    try clear S_11
    try clear S_12
    try clear S_13
    try clear S_14
    try clear S_15
    try clear S_16
    try clear S_17
    try clear S_18
    try clear S_19
    try clear QS_0
    try clear QS_1
    try clear QS_2
    try clear QS_3
    try clear QS_4
    try clear QS_5
    try clear QS_6
    try clear QS_7
    try clear QS_8
    try clear QS_9
    try clear QS_10
    try clear QS_11
    try clear QS_12
    try clear QS_13
    try clear QS_14
    try clear QS_15
    try clear QS_16
    try clear QS_17
    try clear QS_18
    try clear QS_19
    try clear QG_0
    try clear QG_1
    try clear QG_2
    try clear QG_3
    try clear QG_4
    try clear QG_5
    try clear QG_6
    try clear QG_7
    try clear QG_8
    try clear QG_9
    try clear QG_10
    try clear QG_11
    try clear QG_12
    try clear QG_13
    try clear QG_14
    try clear QG_15
    try clear QG_16
    try clear QG_17
    try clear QG_18
    try clear QG_19
    try clear G_0
    try clear G_1
    try clear G_2
    try clear G_3
    try clear G_4
    try clear G_5
    try clear G_6
    try clear G_7
    try clear G_8
    try clear G_9
    try clear G_10
    try clear G_11
    try clear G_12
    try clear G_13
    try clear G_14
    try clear G_15
    try clear G_16
    try clear G_17
    try clear G_18
    try clear G_19
    try clear UQS
    try clear UQG
    try clear UQX
    try clear UQY
    try clear CS
    go_region_with (first
      | (go_at_call_of 17 (Value.slice a1 r1 cap1)
         refine (HT0.out _ (by first | exact (Below.refl _ W19).drew | exact (Below.refl _ W19).drew.alloc (Nat.le_refl _) _)).mono ?_
         rintro e wA ⟨g5, g6, rfl, qA, bA⟩
         first
           | (have sA : W19.heap.size + 1 ≤ wA.heap.size := by (have q := bA.size; simp only [World.size_alloc, Vo.drewSz] at q; omega)
              have bA' : Below W19.heap.size W19 wA := ((Below.refl _ W19).drew.alloc (Nat.le_refl _) _).trans (bA.mono (by simp only [World.size_alloc, Vo.drewSz]; omega))
              have eA := fun i => bA.cell (p := ⟨W19.heap.size, i, none⟩) (by simp only [World.size_alloc, Vo.drewSz]; omega)
              have fA := fun i => bA.frozen (p := ⟨W19.heap.size, i, none⟩) (by simp only [World.size_alloc, Vo.drewSz]; omega)
              have c2 := fun i => bA'.cell (p := ⟨(w.heap.size + 1), i, none⟩) (by show (w.heap.size + 1) < W19.heap.size; omega))
           | (have bA' : Below W19.heap.size W19 wA := (Below.refl _ W19).drew.trans bA
              have sA : W19.heap.size ≤ wA.heap.size := bA'.size
              have c2 := fun i => bA'.cell (p := ⟨(w.heap.size + 1), i, none⟩) (by show (w.heap.size + 1) < W19.heap.size; omega)
              have nA : ¬ ((w.heap.size + 1) = wA.heap.size) := by omega
              have nA' : ¬ (wA.heap.size = (w.heap.size + 1)) := by omega
              have c3 : ∀ (x : Obj) i, (wA.alloc x).cell? ⟨(w.heap.size + 1), i, none⟩ = W19.cell? ⟨(w.heap.size + 1), i, none⟩ := fun x i => (World.cell?_alloc_old wA x ⟨(w.heap.size + 1), i, none⟩ (by show (w.heap.size + 1) ≠ wA.heap.size; omega)).trans (c2 i)))
      | (go_at_call_of 17 (Value.slice a2 r2 cap2)
         refine (HT1.out _ (by first | exact bA' | exact bA'.alloc bA'.size _)).mono ?_
         rintro e wB ⟨g7, g8, rfl, qB, bB⟩
         first
           | (have bB' : Below wA.heap.size wA wB := ((Below.refl _ wA).alloc (Nat.le_refl _) _).trans (bB.mono (by simp only [World.size_alloc]; omega))
              have sB : wA.heap.size + 1 ≤ wB.heap.size := by (have q := bB.size; simp only [World.size_alloc] at q; omega)
              have eB := fun i => bB.cell (p := ⟨wA.heap.size, i, none⟩) (by simp only [World.size_alloc]; omega)
              have fB := fun i => bB.frozen (p := ⟨wA.heap.size, i, none⟩) (by simp only [World.size_alloc]; omega))
           | (have bB' : Below wA.heap.size wA wB := bB
              have sB : wA.heap.size ≤ wB.heap.size := bB'.size
              have eB := fun i => bB'.cell (p := ⟨W19.heap.size, i, none⟩) (by show W19.heap.size < wA.heap.size; omega)
              have fB := fun i => bB'.frozen (p := ⟨W19.heap.size, i, none⟩) (by show W19.heap.size < wA.heap.size; omega))
           | (have bB' : Below wA.heap.size wA wB := bB
              have sB : wA.heap.size ≤ wB.heap.size := bB'.size)
         have qA' := qA.below bB')
      | (go_at_call 18
         first
           | refine (CI.out _ _ _ _ _ wB (Nat.le_refl _) qA'.d.ints qA'.t.ints qB.d.ints qB.t.ints).mono ?_
           | refine (CI.out _ _ _ _ _ _ (Nat.le_refl _) (qA'.below ((Below.refl _ wB).alloc (Nat.le_refl _) _)).d.ints (qA'.below ((Below.refl _ wB).alloc (Nat.le_refl _) _)).t.ints (qB.below ((Below.refl _ wB).alloc (Nat.le_refl _) _)).d.ints (qB.below ((Below.refl _ wB).alloc (Nat.le_refl _) _)).t.ints).mono ?_
         rintro e wC ⟨ha, hb, hc, hd, rfl, qs, bC⟩
         first
           | (have bC' : Below wB.heap.size wB wC := ((Below.refl _ wB).alloc (Nat.le_refl _) _).trans (bC.mono (by simp only [World.size_alloc]; omega))
              have eC := fun i => bC.cell (p := ⟨wB.heap.size, i, none⟩) (by simp only [World.size_alloc]; omega)
              have fC := fun i => bC.frozen (p := ⟨wB.heap.size, i, none⟩) (by simp only [World.size_alloc]; omega))
           | (have bC' : Below wB.heap.size wB wC := bC
              have eC := fun i => bC'.cell (p := ⟨wA.heap.size, i, none⟩) (by show wA.heap.size < wB.heap.size; omega)
              have fC := fun i => bC'.frozen (p := ⟨wA.heap.size, i, none⟩) (by show wA.heap.size < wB.heap.size; omega))
           | (have bC' : Below wB.heap.size wB wC := bC
              have eC := fun i => bC'.cell (p := ⟨W19.heap.size, i, none⟩) (by show W19.heap.size < wB.heap.size; omega)
              have fC := fun i => bC'.frozen (p := ⟨W19.heap.size, i, none⟩) (by show W19.heap.size < wB.heap.size; omega))
           | (have bC' : Below wB.heap.size wB wC := bC)))
    all_goals (go_wp2_with fail)
    all_goals go_meet
    all_goals
      have bS : Below W19.heap.size W19 wC := (bA'.trans (bB'.mono bA'.size)).trans (bC'.mono (Nat.le_trans bA'.size bB'.size))
    all_goals first
      | exact Vo.left_fresh qs (by first | omega | (simp only [World.size_alloc]; omega)) bS
      | exact Vo.left_set qs (by first | omega | (simp only [World.size_alloc]; omega)) bS ((Vo.bx_new wB (.slice none 0 0) (.slice none 0 0) 38).below bC (by simp)) (by omega)
      | exact Vo.left_set qs (by first | omega | (simp only [World.size_alloc]; omega)) bS (((Vo.bx_new wA (.slice none 0 0) (.slice none 0 0) 38).below bB (by simp)).below bC (by omega)) (by omega)
      | exact Vo.left_set qs (by first | omega | (simp only [World.size_alloc]; omega)) bS ((((Vo.bx_new W19.drew (.slice none 0 0) (.slice none 0 0) 38).below bA (by simp)).below bB (by first | omega | (rw [Vo.drewSz]; omega))).below bC (by first | omega | (rw [Vo.drewSz]; omega))) (by first | omega | (rw [Vo.drewSz]; omega))
  case rest =>
  obtain ⟨WX2, rfl⟩ : ∃ X, X = wc := ⟨_, rfl⟩
  obtain ⟨P2, ha, hb, hc, hd, rfl, hP2, bx2, qs2, bb⟩ := hcut
  clear HT0 HT1 c0 c1 cc0 cc1 nS0 nS1 nR0 nR1 nD0 nD1 nE0 nE1
  have H_20 := Vl.hide bx2
  have B20 := Vl.hide (B19.out.trans (Below.mono bb B19.out.size))
  have sz20 : W19.heap.size ≤ WX2.heap.size := by have qz := bb.size; (try simp only [World.size_alloc] at qz); (try simp only [World.size_alloc]); exact qz
  try clear u0 u1 u2 u3
  try clear u0 u1
  try clear v0 v1 v2 v3
  try clear v0 v1
  try clear z0 z1 z2 z3
  try clear z0 z1
  try clear p0 p1 p2 p3
  try clear p0 p1
  try clear fa0 fa1 fa2 fa3
  try clear fa0 fa1
  try clear fb0 fb1 fb2 fb3
  try clear fb0 fb1
  try clear fc0 fc1 fc2 fc3
  try clear fc0 fc1
  try clear fd0 fd1 fd2 fd3
  try clear fd0 fd1
  have V1_20 := Vl.hide (Vo.Bx.below V1_19.out bb (by first | omega | (simp; done) | (simp; omega)))
  have V2_20 := Vl.hide (Vo.Bx.below V2_19.out bb (by first | omega | (simp; done) | (simp; omega)))
  have S_20 := Vl.hide (Vo.Bx.below S_19.out bb (by first | omega | (simp; done) | (simp; omega)))
  have QS_20 := Vl.hide (QS_19.out.below bb)
  have QG_20 := Vl.hide (QG_19.out.below bb)
  have G_20 := Vl.hide (Vo.Bx.below G_19.out bb (by first | omega | (simp; done) | (simp; omega)))
  obtain ⟨u0, u1⟩ := V1_20.out
  obtain ⟨v0, v1⟩ := V2_20.out
  obtain ⟨z0, z1⟩ := S_20.out
  obtain ⟨p0, p1⟩ := G_20.out
  clear bb
  obtain ⟨fa0, fa1⟩ := H_20.out
  clear bx2
  have QH_20 := Vl.hide qs2
  clear qs2
  have uu := fun k q => QH_20.out.blk (k := k) q
  try simp only [World.size_alloc] at uu
  have UQH := Vl.hide uu
  clear uu
  go_wp2_with fail
  refine (Vo.eqTensor _ _ _ _ _ T.r T.s hc hd sc sd T.D T.S T.D T.S _ (Nat.le_refl _) QH_20.out.d.ints QH_20.out.t.ints QS_20.out.d.ints QS_20.out.t.ints (fun _ _ => rfl) (fun _ _ => rfl) lv lw).mono ?_; rintro e W21 ⟨rfl, bb⟩
  have B21 := Vl.hide (B20.out.trans (Below.mono bb B20.out.size))
  have sz21 : WX2.heap.size ≤ W21.heap.size := by have qz := bb.size; (try simp only [World.size_alloc] at qz); (try simp only [World.size_alloc]); exact qz
  try clear u0 u1 u2 u3
  try clear u0 u1
  try clear v0 v1 v2 v3
  try clear v0 v1
  try clear z0 z1 z2 z3
  try clear z0 z1
  try clear p0 p1 p2 p3
  try clear p0 p1
  try clear fa0 fa1 fa2 fa3
  try clear fa0 fa1
  try clear fb0 fb1 fb2 fb3
  try clear fb0 fb1
  try clear fc0 fc1 fc2 fc3
  try clear fc0 fc1
  try clear fd0 fd1 fd2 fd3
  try clear fd0 fd1
  have V1_21 := Vl.hide (Vo.Bx.below V1_20.out bb (by first | omega | (simp; done) | (simp; omega)))
  have V2_21 := Vl.hide (Vo.Bx.below V2_20.out bb (by first | omega | (simp; done) | (simp; omega)))
  have S_21 := Vl.hide (Vo.Bx.below S_20.out bb (by first | omega | (simp; done) | (simp; omega)))
  have QS_21 := Vl.hide (QS_20.out.below bb)
  have QG_21 := Vl.hide (QG_20.out.below bb)
  have G_21 := Vl.hide (Vo.Bx.below G_20.out bb (by first | omega | (simp; done) | (simp; omega)))
  have H_21 := Vl.hide (Vo.Bx.below H_20.out bb (by first | omega | (simp; done) | (simp; omega)))
  have QH_21 := Vl.hide (QH_20.out.below bb)
  obtain ⟨u0, u1⟩ := V1_21.out
  obtain ⟨v0, v1⟩ := V2_21.out
  obtain ⟨z0, z1⟩ := S_21.out
  obtain ⟨p0, p1⟩ := G_21.out
  obtain ⟨fa0, fa1⟩ := H_21.out
  clear bb
  go_wp2_with fail
  refine (Vo.heldTensor _ _ _ T.r T.s gc gd 1 _ QG_21.out lv lw (by omega) (by omega)).mono ?_; rintro e W22 ⟨rfl, bb⟩
  have B22 := Vl.hide (B21.out.trans (Below.mono bb B21.out.size))
  have sz22 : W21.heap.size ≤ W22.heap.size := by have qz := bb.size; (try simp only [World.size_alloc] at qz); (try simp only [World.size_alloc]); exact qz
  try clear u0 u1 u2 u3
  try clear u0 u1
  try clear v0 v1 v2 v3
  try clear v0 v1
  try clear z0 z1 z2 z3
  try clear z0 z1
  try clear p0 p1 p2 p3
  try clear p0 p1
  try clear fa0 fa1 fa2 fa3
  try clear fa0 fa1
  try clear fb0 fb1 fb2 fb3
  try clear fb0 fb1
  try clear fc0 fc1 fc2 fc3
  try clear fc0 fc1
  try clear fd0 fd1 fd2 fd3
  try clear fd0 fd1
  have V1_22 := Vl.hide (Vo.Bx.below V1_21.out bb (by first | omega | (simp; done) | (simp; omega)))
  have V2_22 := Vl.hide (Vo.Bx.below V2_21.out bb (by first | omega | (simp; done) | (simp; omega)))
  have S_22 := Vl.hide (Vo.Bx.below S_21.out bb (by first | omega | (simp; done) | (simp; omega)))
  have QS_22 := Vl.hide (QS_21.out.below bb)
  have QG_22 := Vl.hide (QG_21.out.below bb)
  have G_22 := Vl.hide (Vo.Bx.below G_21.out bb (by first | omega | (simp; done) | (simp; omega)))
  have H_22 := Vl.hide (Vo.Bx.below H_21.out bb (by first | omega | (simp; done) | (simp; omega)))
  have QH_22 := Vl.hide (QH_21.out.below bb)
  obtain ⟨u0, u1⟩ := V1_22.out
  obtain ⟨v0, v1⟩ := V2_22.out
  obtain ⟨z0, z1⟩ := S_22.out
  obtain ⟨p0, p1⟩ := G_22.out
  obtain ⟨fa0, fa1⟩ := H_22.out
  clear bb
  go_wp2_with fail
  go_ret
  exact ⟨rfl, B22.out⟩

set_option maxRecDepth 100000 in
theorem lifted (os : Os) (started : os.Started) (H : Type) (enc : TypeId × Value → H) :
    ReturnsInHanded {} Try.checked os 4 .any (Rows.fnExactTwoSpec.pre6 enc Try.prog Try.f4 Rows.fnExactTwoRow.domain false) (Rows.fnExactTwoSpec.post enc Try.prog Try.f4 false true false false) := by
  refine returnsInHanded_of_change (C := Try.checked) own started (by kernel_rfl) Try.func4
    (ChangeSpec.witness6 (enc := enc) (C := Try.checked) false ⟨#[], #[.int .i64 0, .agg #[.slice none 0 0, .slice none 0 0], .agg #[.slice none 0 0, .slice none 0 0]], []⟩ 8 (by kernel_rfl) (by kernel_rfl) (by kernel_rfl) (by kernel_rfl)) ?_
  intro W base args ds gs before hval0 hW hcnd _
  have hval : ∀ (j : Nat) t v, Try.f4.params[j]? = some t → args[j]? = some v → Value.okWide Try.prog W .any base t v := hval0
  have hW' := hW
  obtain ⟨p, q, hA0, hV, rfl, hfz, hnd⟩ := hW
  have hA : DataW.TrodAll enc Try.prog W 0 (fun _ => true) true Try.f4.params.toList args.toList ds p := hA0
  rw [Try.params4] at hA hval
  obtain ⟨v0, vs0, d0, ds0, p0, q0, hargs, rfl, rfl, h0, rst0⟩ := trodAll_cons hA
  obtain ⟨v1, vs1, d1, ds1, p1, q1, rfl, rfl, rfl, h1, rst1⟩ := trodAll_cons rst0
  obtain ⟨v2, vs2, d2, ds2, p2, q2, rfl, rfl, rfl, h2, rst2⟩ := trodAll_cons rst1
  obtain ⟨rfl, rfl, rfl⟩ := trodAll_nil rst2
  obtain rfl : args = #[v0, v1, v2] := by cases args; simp_all
  obtain ⟨rfl, rfl⟩ := trodVars_none hV
  have k0 := h0
  have lt0 : ∀ x ∈ p0, x.block < W.heap.size := by obtain ⟨m, hm⟩ := k0; exact DataW.trod_lt m _ _ _ hm
  obtain ⟨a0, rfl, e0, _, w0⟩ := open_int Try.underlying3 (hval 0 3 v0 rfl rfl) h0
  have k1 := h1
  have lt1 : ∀ x ∈ p1, x.block < W.heap.size := by obtain ⟨m, hm⟩ := k1; exact DataW.trod_lt m _ _ _ hm
  obtain ⟨c10, c11, u10, u11, m1, rfl, _, _, hy10, hy11⟩ := open_agg2 Try.underlying36 (by kernel_rfl) (by kernel_rfl) (hval 1 36 v1 rfl rfl) h1
  obtain ⟨a1, r1, cap1, rfl, w1⟩ := Vl.arg_of hy10
  obtain ⟨b1, s1, dap1, rfl, y1⟩ := Vl.arg_of hy11
  have k2 := h2
  have lt2 : ∀ x ∈ p2, x.block < W.heap.size := by obtain ⟨m, hm⟩ := k2; exact DataW.trod_lt m _ _ _ hm
  obtain ⟨c20, c21, u20, u21, m2, rfl, _, _, hy20, hy21⟩ := open_agg2 Try.underlying36 (by kernel_rfl) (by kernel_rfl) (hval 2 36 v2 rfl rfl) h2
  obtain ⟨a2, r2, cap2, rfl, w2⟩ := Vl.arg_of hy20
  obtain ⟨b2, s2, dap2, rfl, y2⟩ := Vl.arg_of hy21
  clear hA0 hval0
  refine (walk a0 w0 a1 r1 cap1 b1 s1 dap1 a2 r2 cap2 b2 s2 dap2 W w1 y1 w2 y2).mono fun e W' ⟨he, bel⟩ => ?_
  subst he
  exact ⟨_, rfl, _, _, _, [], _, [], hW', trodAll_mk1 (shut_bool Try.underlying4 _), (trodAll_cons_mk (Below.trod laidOut (by kernel_rfl) (of_decide_eq_true (by kernel_rfl)) k0 bel lt0) (trodAll_cons_mk (Below.trod laidOut (by kernel_rfl) (of_decide_eq_true (by kernel_rfl)) k1 bel lt1) (trodAll_cons_mk (Below.trod laidOut (by kernel_rfl) (of_decide_eq_true (by kernel_rfl)) k2 bel lt2) trodAll_mk0))), rfl, bel.frame _, fun h => by cases h⟩

theorem over : Rows.fnExactTwoRow.holds Try.pinned (OpenSpec.ofChange Rows.fnExactTwoSpec) :=
  OpenClaim.holds_of_wide 4 Try.f4 rfl rfl rfl rfl rfl rfl rfl ⟨rfl, rfl, rfl, rfl, rfl⟩ rfl rfl rfl rfl rfl (by kernel_rfl) Try.func4 (by kernel_rfl)
    (of_decide_eq_true (by kernel_rfl)) (by unfold Func.isWrapper; first | (rw [if_pos (by decide +kernel)]; kernel_rfl) | (rw [if_neg (by decide +kernel)]; exact ⟨rfl, rfl⟩))
    (fun os started H enc _ => lifted os started H enc)

theorem proved : Rows.FnExactTwoSaid := over
#print axioms proved
end Go.Proofs.Ytejfodkobfdelaa.fnExactTwo
