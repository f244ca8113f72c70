/-
  Proved: whatever the arguments, 'FnExactAttendNext' returns true: the landed function answers as its model, and what came in reads as it did. No condition.
-/
import Derived.Test.YtjlmbeachanlfaaRows
import Derived.Test.YtjlmbeachanlfaaMgaa
import Derived.Test.YtjlmbeachanlfaaMgab
import Derived.Test.YtjlmbeachanlfaaMgac
import Derived.Test.YtjlmbeachanlfaaMgad
import Derived.Test.YtjlmbeachanlfaaMgae
import Derived.Test.YtjlmbeachanlfaaMgaf
import Derived.Test.YtjlmbeachanlfaaMgag
import Derived.Test.YtjlmbeachanlfaaMgah
import Derived.Test.YtjlmbeachanlfaaMgai
import Derived.Test.YtjlmbeachanlfaaMgaj
import Derived.Test.YtjlmbeachanlfaaMgak
import Derived.Test.YtjlmbeachanlfaaMgal
import Derived.Test.YtjlmbeachanlfaaMgam
import Derived.Test.YtjlmbeachanlfaaMgan
import Derived.Test.YtjlmbeachanlfaaMgao
import Derived.Test.YtjlmbeachanlfaaMgap
import Derived.Test.YtjlmbeachanlfaaMgaq
import Derived.Test.YtjlmbeachanlfaaMgar
import Derived.Test.YtjlmbeachanlfaaMgas
import Derived.Test.YtjlmbeachanlfaaMgat
import Derived.Test.YtjlmbeachanlfaaMgau
import Derived.Test.YtjlmbeachanlfaaMgav
import Derived.Test.YtjlmbeachanlfaaMgaw
import Derived.Test.YtjlmbeachanlfaaMgax
import Derived.Test.YtjlmbeachanlfaaMgay
import Derived.Test.YtjlmbeachanlfaaMgaz
import Derived.Test.YtjlmbeachanlfaaMgba
import Derived.Test.YtjlmbeachanlfaaMgbb
import Derived.Test.YtjlmbeachanlfaaMgbc
import Derived.Test.YtjlmbeachanlfaaMgbd
import Derived.Test.YtjlmbeachanlfaaMgbe
import Derived.Test.YtjlmbeachanlfaaMgbf
import Derived.Test.YtjlmbeachanlfaaMgbg
import Derived.Test.YtjlmbeachanlfaaMgbh
import Derived.Test.YtjlmbeachanlfaaMgbi
import Derived.Test.YtjlmbeachanlfaaMgbj
import Derived.WalkKit
import Derived.ProofKit
import Derived.OpenShut
import Derived.ShutString
import Derived.ChangeOld
import Derived.Below
import Derived.Lib.SmallJoins
import Derived.OpenVars
import Derived.ChangeVars
import Derived.Deep.RegionHeld3
namespace Go.Proofs.Ytjlmbeachanlfaa.fnExactAttendNext
open Go.ChangeShapes Go.WideShapes Go.ChangeAt Go.RowKit Go.Joins
open Go.ChangeMaps (open_string shut_string)
set_option linter.unusedVariables false
set_option linter.unusedSimpArgs false

theorem own : ownKnob Try.prog.godebug = none := by kernel_rfl
theorem laidOut : laidOutB Try.prog = true := by kernel_rfl

set_option maxRecDepth 100000 in
set_option maxHeartbeats 4000000 in
theorem walk (a0 : Option Addr) (r0 cap0 : Nat) (b0 : Option Addr) (s0 dap0 : Nat) (a1 : Option Addr) (r1 cap1 : Nat) (a2 : Option Addr) (r2 cap2 : Nat) (a3 : Option Addr) (r3 cap3 : Nat) (a4 : Int) (w4 : (Lit.int .i64 a4).wf = true) (w : World) (w0 : Vo.Arg2 w a0 r0) (y0 : Vo.Arg2 w b0 s0) (w1 : Vl.Arg w a1 r1) (w2 : Vl.Arg w a2 r2) (w3 : Vl.Arg w a3 r3) :
    Calls Try.prog 3 #[.agg #[.slice a0 r0 cap0, .slice b0 s0 dap0], .slice a1 r1 cap1, .slice a2 r2 cap2, .slice a3 r3 cap3, .int .i64 a4] w fun e w' => e = .returned (.bool true) ∧ Below w.heap.size w w' := by
  obtain ⟨hr0, L0, hh0, hl0⟩ := w0
  obtain ⟨hs0, M0, hk0, hm0⟩ := y0
  have H0 := Vl.hide hh0
  have K0 := Vl.hide hk0
  have HL := Vl.hide hl0
  have HM := Vl.hide hm0
  clear hh0 hk0 hl0 hm0
  obtain ⟨hr1, D1, hh1⟩ := w1
  have H1 := Vl.hide hh1
  clear hh1
  obtain ⟨hr2, D2, hh2⟩ := w2
  have H2 := Vl.hide hh2
  clear hh2
  obtain ⟨hr3, D3, hh3⟩ := w3
  have H3 := Vl.hide hh3
  clear hh3
  have d4 := Vl.hide (show Vl.bd a4 from bounds_i64 w4)
  have B0 := Vl.hide (Below.refl w.heap.size w)
  have bb := (Below.refl w.heap.size w).alloc (Nat.le_refl _) (.cells #[.slice a0 r0 cap0, .slice b0 s0 dap0] 24)
  have V0_1 := Vl.hide (Vo.bx_new w (.slice a0 r0 cap0) (.slice b0 s0 dap0) 24)
  have B1 := Vl.hide (B0.out.trans (Below.mono bb B0.out.size))
  have sz1 : w.heap.size ≤ (w.alloc (.cells #[.slice a0 r0 cap0, .slice b0 s0 dap0] 24)).heap.size := by have qz := bb.size; (try simp only [World.size_alloc] at qz); (try simp only [World.size_alloc]); exact qz
  simp only [World.size_alloc] at sz1
  try clear u0 u1 u2 u3
  try clear u0 u1
  try clear v0 v1 v2 v3
  try clear v0 v1
  try clear z0 z1 z2 z3
  try clear z0 z1
  try clear p0 p1 p2 p3
  try clear p0 p1
  try clear fa0 fa1 fa2 fa3
  try clear fa0 fa1
  try clear fb0 fb1 fb2 fb3
  try clear fb0 fb1
  try clear fc0 fc1 fc2 fc3
  try clear fc0 fc1
  try clear fd0 fd1 fd2 fd3
  try clear fd0 fd1
  clear bb
  obtain ⟨u0, u1⟩ := V0_1.out
  by_cases h21 : 1048576 < (r1 : Int)
  · go_enter Try.func3, Try.ntmps3
    go_wp2_with fail
    go_ret
    exact ⟨rfl, B1.out⟩
  have g21 : decide (1048576 < (r1 : Int)) = false := by rw [decide_eq_false_iff_not]; exact h21
  have lr1 : (r1 : Int) ≤ 1048576 := by omega
  clear h21 hr1
  by_cases h22 : 1048576 < (r2 : Int)
  · go_enter Try.func3, Try.ntmps3
    go_wp2_with fail
    go_ret
    exact ⟨rfl, B1.out⟩
  have g22 : decide (1048576 < (r2 : Int)) = false := by rw [decide_eq_false_iff_not]; exact h22
  have lr2 : (r2 : Int) ≤ 1048576 := by omega
  clear h22 hr2
  by_cases h23 : 1048576 < (r3 : Int)
  · go_enter Try.func3, Try.ntmps3
    go_wp2_with fail
    go_ret
    exact ⟨rfl, B1.out⟩
  have g23 : decide (1048576 < (r3 : Int)) = false := by rw [decide_eq_false_iff_not]; exact h23
  have lr3 : (r3 : Int) ≤ 1048576 := by omega
  clear h23 hr3
  go_enter Try.func3, Try.ntmps3
  go_wp2_with fail
  refine (Vo.szCache w.heap.size a0 b0 r0 s0 cap0 dap0 L0 M0 1048576 _ B1.out.size (H0.out.below B1.out) (K0.out.below B1.out) hr0 hs0 HL.out HM.out (by omega) (by omega)).mono ?_; rintro e W2 ⟨x0, rfl, hx0, bb⟩
  have B2 := Vl.hide (B1.out.trans (Below.mono bb B1.out.size))
  have sz2 : (w.heap.size + 1) ≤ W2.heap.size := by have qz := bb.size; (try simp only [World.size_alloc] at qz); (try simp only [World.size_alloc]); exact qz
  try clear u0 u1 u2 u3
  try clear u0 u1
  try clear v0 v1 v2 v3
  try clear v0 v1
  try clear z0 z1 z2 z3
  try clear z0 z1
  try clear p0 p1 p2 p3
  try clear p0 p1
  try clear fa0 fa1 fa2 fa3
  try clear fa0 fa1
  try clear fb0 fb1 fb2 fb3
  try clear fb0 fb1
  try clear fc0 fc1 fc2 fc3
  try clear fc0 fc1
  try clear fd0 fd1 fd2 fd3
  try clear fd0 fd1
  have V0_2 := Vl.hide (Vo.Bx.below V0_1.out bb (by first | omega | (simp; done) | (simp; omega)))
  obtain ⟨u0, u1⟩ := V0_2.out
  clear bb
  by_cases hn0 : x0 < 0
  · clear hx0
    go_wp2_with fail
    go_ret
    exact ⟨rfl, B2.out⟩
  have hm0 : decide (x0 < 0) = false := by rw [decide_eq_false_iff_not]; exact hn0
  obtain ⟨lr0, lL, ls0, lM⟩ := hx0 (by omega)
  have NL := Vl.hide (Vo.llen_of lL)
  have NM := Vl.hide (Vo.llen_of lM)
  have SL := Vl.hide lL
  have SM := Vl.hide lM
  clear hn0 hx0 hr0 hs0 lL lM
  obtain ⟨P, ps, hI, hS⟩ := Vo.nextBoth r0 s0 r1 r2 r3 L0 M0 D1 D2 D3 a4 lr0 ls0 NL.out NM.out lr1 lr2 lr3 d4.out
  have HI := Vl.hide hI
  have HSP := Vl.hide hS
  have PS := Vl.hide ps
  have pn : (P.n : Int) ≤ 1048576 := by have := ps.1; omega
  have pm : (P.m : Int) ≤ 1048576 := by have := ps.2.1; omega
  have pq : (P.s : Int) ≤ 4096 := by have := ps.2.2.2.2; omega
  clear hI hS ps
  go_wp2_with fail
  refine (Vo.toCacheN w.heap.size a0 b0 r0 s0 cap0 dap0 L0 M0 _ B2.out.size (H0.out.below B2.out) (K0.out.below B2.out) lr0 ls0 NL.out NM.out).mono ?_; rintro e W3 ⟨ga, ga', Lga, Mga, rfl, al, am, qq, bb⟩
  have B3 := Vl.hide (B2.out.trans (Below.mono bb B2.out.size))
  have sz3 : W2.heap.size ≤ W3.heap.size := by have qz := bb.size; (try simp only [World.size_alloc] at qz); (try simp only [World.size_alloc]); exact qz
  try clear u0 u1 u2 u3
  try clear u0 u1
  try clear v0 v1 v2 v3
  try clear v0 v1
  try clear z0 z1 z2 z3
  try clear z0 z1
  try clear p0 p1 p2 p3
  try clear p0 p1
  try clear fa0 fa1 fa2 fa3
  try clear fa0 fa1
  try clear fb0 fb1 fb2 fb3
  try clear fb0 fb1
  try clear fc0 fc1 fc2 fc3
  try clear fc0 fc1
  try clear fd0 fd1 fd2 fd3
  try clear fd0 fd1
  have V0_3 := Vl.hide (Vo.Bx.below V0_2.out bb (by first | omega | (simp; done) | (simp; omega)))
  obtain ⟨u0, u1⟩ := V0_3.out
  clear bb
  have Aga := Vl.hide al
  have Cga := Vl.hide am
  clear al am
  try simp only [World.size_alloc] at qq
  have QA_3 := Vl.hide qq
  clear qq
  have uu := fun k q => QA_3.out.blk (k := k) q
  try simp only [World.size_alloc] at uu
  have UQA := Vl.hide uu
  clear uu
  go_wp2_with fail
  refine (Vl.toIntS w.heap.size a1 r1 cap1 D1 _ (H1.out.below B3.out) B3.out.size lr1).mono ?_; rintro e W4 ⟨rfl, q4, t4, bb⟩
  have B4 := Vl.hide (B3.out.trans (Below.mono bb B3.out.size))
  have sz4 : W3.heap.size ≤ W4.heap.size := by have qz := bb.size; (try simp only [World.size_alloc] at qz); (try simp only [World.size_alloc]); exact qz
  try clear u0 u1 u2 u3
  try clear u0 u1
  try clear v0 v1 v2 v3
  try clear v0 v1
  try clear z0 z1 z2 z3
  try clear z0 z1
  try clear p0 p1 p2 p3
  try clear p0 p1
  try clear fa0 fa1 fa2 fa3
  try clear fa0 fa1
  try clear fb0 fb1 fb2 fb3
  try clear fb0 fb1
  try clear fc0 fc1 fc2 fc3
  try clear fc0 fc1
  try clear fd0 fd1 fd2 fd3
  try clear fd0 fd1
  have V0_4 := Vl.hide (Vo.Bx.below V0_3.out bb (by first | omega | (simp; done) | (simp; omega)))
  have QA_4 := Vl.hide (QA_3.out.below bb)
  obtain ⟨u0, u1⟩ := V0_4.out
  clear bb
  have qq : Vl.OwnL W3.heap.size W4 (some ⟨W3.heap.size, 0, none⟩) r1 D1 := .inr ⟨_, rfl, Nat.le_refl _, by have qz := q4; (try simp only [World.size_alloc] at qz); exact qz⟩
  clear q4
  have QB_4 := Vl.hide qq
  clear qq
  have uu := fun k q => QB_4.out.blk (b := k) q
  try simp only [World.size_alloc] at uu
  have UQB := Vl.hide uu
  clear uu
  go_wp2_with fail
  refine (Vl.toIntS w.heap.size a2 r2 cap2 D2 _ (H2.out.below B4.out) B4.out.size lr2).mono ?_; rintro e W5 ⟨rfl, q5, t5, bb⟩
  have B5 := Vl.hide (B4.out.trans (Below.mono bb B4.out.size))
  have sz5 : W4.heap.size ≤ W5.heap.size := by have qz := bb.size; (try simp only [World.size_alloc] at qz); (try simp only [World.size_alloc]); exact qz
  try clear u0 u1 u2 u3
  try clear u0 u1
  try clear v0 v1 v2 v3
  try clear v0 v1
  try clear z0 z1 z2 z3
  try clear z0 z1
  try clear p0 p1 p2 p3
  try clear p0 p1
  try clear fa0 fa1 fa2 fa3
  try clear fa0 fa1
  try clear fb0 fb1 fb2 fb3
  try clear fb0 fb1
  try clear fc0 fc1 fc2 fc3
  try clear fc0 fc1
  try clear fd0 fd1 fd2 fd3
  try clear fd0 fd1
  have V0_5 := Vl.hide (Vo.Bx.below V0_4.out bb (by first | omega | (simp; done) | (simp; omega)))
  have QA_5 := Vl.hide (QA_4.out.below bb)
  have QB_5 := Vl.hide (QB_4.out.below bb)
  obtain ⟨u0, u1⟩ := V0_5.out
  clear bb
  have qq : Vl.OwnL W4.heap.size W5 (some ⟨W4.heap.size, 0, none⟩) r2 D2 := .inr ⟨_, rfl, Nat.le_refl _, by have qz := q5; (try simp only [World.size_alloc] at qz); exact qz⟩
  clear q5
  have QC_5 := Vl.hide qq
  clear qq
  have uu := fun k q => QC_5.out.blk (b := k) q
  try simp only [World.size_alloc] at uu
  have UQC := Vl.hide uu
  clear uu
  go_wp2_with fail
  refine (Vl.toIntS w.heap.size a3 r3 cap3 D3 _ (H3.out.below B5.out) B5.out.size lr3).mono ?_; rintro e W6 ⟨rfl, q6, t6, bb⟩
  have B6 := Vl.hide (B5.out.trans (Below.mono bb B5.out.size))
  have sz6 : W5.heap.size ≤ W6.heap.size := by have qz := bb.size; (try simp only [World.size_alloc] at qz); (try simp only [World.size_alloc]); exact qz
  try clear u0 u1 u2 u3
  try clear u0 u1
  try clear v0 v1 v2 v3
  try clear v0 v1
  try clear z0 z1 z2 z3
  try clear z0 z1
  try clear p0 p1 p2 p3
  try clear p0 p1
  try clear fa0 fa1 fa2 fa3
  try clear fa0 fa1
  try clear fb0 fb1 fb2 fb3
  try clear fb0 fb1
  try clear fc0 fc1 fc2 fc3
  try clear fc0 fc1
  try clear fd0 fd1 fd2 fd3
  try clear fd0 fd1
  have V0_6 := Vl.hide (Vo.Bx.below V0_5.out bb (by first | omega | (simp; done) | (simp; omega)))
  have QA_6 := Vl.hide (QA_5.out.below bb)
  have QB_6 := Vl.hide (QB_5.out.below bb)
  have QC_6 := Vl.hide (QC_5.out.below bb)
  obtain ⟨u0, u1⟩ := V0_6.out
  clear bb
  have qq : Vl.OwnL W5.heap.size W6 (some ⟨W5.heap.size, 0, none⟩) r3 D3 := .inr ⟨_, rfl, Nat.le_refl _, by have qz := q6; (try simp only [World.size_alloc] at qz); exact qz⟩
  clear q6
  have QE_6 := Vl.hide qq
  clear qq
  have uu := fun k q => QE_6.out.blk (b := k) q
  try simp only [World.size_alloc] at uu
  have UQE := Vl.hide uu
  clear uu
  go_wp2_with fail
  refine (HSP.out _ _ _ _ _ _ _ _ _ _ _ _ _ Aga.out Cga.out QA_6.out QB_6.out QC_6.out QE_6.out).mono ?_; rintro e W7 ⟨sa, sb, sc1, sc2, sd, sdc, S1, S2, rfl, qS, t1, t2, bb⟩
  have B7 := Vl.hide (B6.out.trans (Below.mono bb B6.out.size))
  have sz7 : W6.heap.size ≤ W7.heap.size := by have qz := bb.size; (try simp only [World.size_alloc] at qz); (try simp only [World.size_alloc]); exact qz
  try clear u0 u1 u2 u3
  try clear u0 u1
  try clear v0 v1 v2 v3
  try clear v0 v1
  try clear z0 z1 z2 z3
  try clear z0 z1
  try clear p0 p1 p2 p3
  try clear p0 p1
  try clear fa0 fa1 fa2 fa3
  try clear fa0 fa1
  try clear fb0 fb1 fb2 fb3
  try clear fb0 fb1
  try clear fc0 fc1 fc2 fc3
  try clear fc0 fc1
  try clear fd0 fd1 fd2 fd3
  try clear fd0 fd1
  have V0_7 := Vl.hide (Vo.Bx.below V0_6.out bb (by first | omega | (simp; done) | (simp; omega)))
  have QA_7 := Vl.hide (QA_6.out.below bb)
  have QB_7 := Vl.hide (QB_6.out.below bb)
  have QC_7 := Vl.hide (QC_6.out.below bb)
  have QE_7 := Vl.hide (QE_6.out.below bb)
  obtain ⟨u0, u1⟩ := V0_7.out
  clear bb
  have QS_7 := Vl.hide qS
  clear qS
  have uu := fun k q => QS_7.out.blk (k := k) q
  try simp only [World.size_alloc] at uu
  have UQS := Vl.hide uu
  clear uu
  have TS1 := Vl.hide t1
  have TS2 := Vl.hide t2
  clear t1 t2
  have bb := (Below.refl W7.heap.size W7).alloc (Nat.le_refl _) (.cells #[.slice sa P.n sc1, .slice sb P.m sc2] 27)
  have WV_8 := Vl.hide (Vo.bx_new W7 (.slice sa P.n sc1) (.slice sb P.m sc2) 27)
  have B8 := Vl.hide (B7.out.trans (Below.mono bb B7.out.size))
  have sz8 : W7.heap.size ≤ (W7.alloc (.cells #[.slice sa P.n sc1, .slice sb P.m sc2] 27)).heap.size := by have qz := bb.size; (try simp only [World.size_alloc] at qz); (try simp only [World.size_alloc]); exact qz
  simp only [World.size_alloc] at sz8
  try clear u0 u1 u2 u3
  try clear u0 u1
  try clear v0 v1 v2 v3
  try clear v0 v1
  try clear z0 z1 z2 z3
  try clear z0 z1
  try clear p0 p1 p2 p3
  try clear p0 p1
  try clear fa0 fa1 fa2 fa3
  try clear fa0 fa1
  try clear fb0 fb1 fb2 fb3
  try clear fb0 fb1
  try clear fc0 fc1 fc2 fc3
  try clear fc0 fc1
  try clear fd0 fd1 fd2 fd3
  try clear fd0 fd1
  have V0_8 := Vl.hide (Vo.Bx.below V0_7.out bb (by first | omega | (simp; done) | (simp; omega)))
  have QS_8 := Vl.hide (QS_7.out.below bb)
  obtain ⟨u0, u1⟩ := V0_8.out
  clear bb
  obtain ⟨v0, v1⟩ := WV_8.out
  go_wp2_with fail
  refine (Vo.toCacheN w.heap.size a0 b0 r0 s0 cap0 dap0 L0 M0 _ B8.out.size (H0.out.below B8.out) (K0.out.below B8.out) lr0 ls0 NL.out NM.out).mono ?_; rintro e W9 ⟨gx, gx', Lgx, Mgx, rfl, al, am, qq, bb⟩
  have B9 := Vl.hide (B8.out.trans (Below.mono bb B8.out.size))
  have sz9 : (W7.heap.size + 1) ≤ W9.heap.size := by have qz := bb.size; (try simp only [World.size_alloc] at qz); (try simp only [World.size_alloc]); exact qz
  try clear u0 u1 u2 u3
  try clear u0 u1
  try clear v0 v1 v2 v3
  try clear v0 v1
  try clear z0 z1 z2 z3
  try clear z0 z1
  try clear p0 p1 p2 p3
  try clear p0 p1
  try clear fa0 fa1 fa2 fa3
  try clear fa0 fa1
  try clear fb0 fb1 fb2 fb3
  try clear fb0 fb1
  try clear fc0 fc1 fc2 fc3
  try clear fc0 fc1
  try clear fd0 fd1 fd2 fd3
  try clear fd0 fd1
  have V0_9 := Vl.hide (Vo.Bx.below V0_8.out bb (by first | omega | (simp; done) | (simp; omega)))
  have QS_9 := Vl.hide (QS_8.out.below bb)
  have WV_9 := Vl.hide (Vo.Bx.below WV_8.out bb (by first | omega | (simp; done) | (simp; omega)))
  obtain ⟨u0, u1⟩ := V0_9.out
  obtain ⟨v0, v1⟩ := WV_9.out
  clear bb
  have Agx := Vl.hide al
  have Cgx := Vl.hide am
  clear al am
  try simp only [World.size_alloc] at qq
  have QX_9 := Vl.hide qq
  clear qq
  have uu := fun k q => QX_9.out.blk (k := k) q
  try simp only [World.size_alloc] at uu
  have UQX := Vl.hide uu
  clear uu
  have bb := (Below.refl W9.heap.size W9).alloc (Nat.le_refl _) (.cells #[.slice (some ⟨gx, 0, none⟩) r0 r0, .slice (some ⟨gx', 0, none⟩) s0 s0] 27)
  have X_10 := Vl.hide (Vo.bx_new W9 (.slice (some ⟨gx, 0, none⟩) r0 r0) (.slice (some ⟨gx', 0, none⟩) s0 s0) 27)
  have B10 := Vl.hide (B9.out.trans (Below.mono bb B9.out.size))
  have sz10 : W9.heap.size ≤ (W9.alloc (.cells #[.slice (some ⟨gx, 0, none⟩) r0 r0, .slice (some ⟨gx', 0, none⟩) s0 s0] 27)).heap.size := by have qz := bb.size; (try simp only [World.size_alloc] at qz); (try simp only [World.size_alloc]); exact qz
  simp only [World.size_alloc] at sz10
  try clear u0 u1 u2 u3
  try clear u0 u1
  try clear v0 v1 v2 v3
  try clear v0 v1
  try clear z0 z1 z2 z3
  try clear z0 z1
  try clear p0 p1 p2 p3
  try clear p0 p1
  try clear fa0 fa1 fa2 fa3
  try clear fa0 fa1
  try clear fb0 fb1 fb2 fb3
  try clear fb0 fb1
  try clear fc0 fc1 fc2 fc3
  try clear fc0 fc1
  try clear fd0 fd1 fd2 fd3
  try clear fd0 fd1
  have V0_10 := Vl.hide (Vo.Bx.below V0_9.out bb (by first | omega | (simp; done) | (simp; omega)))
  have QS_10 := Vl.hide (QS_9.out.below bb)
  have WV_10 := Vl.hide (Vo.Bx.below WV_9.out bb (by first | omega | (simp; done) | (simp; omega)))
  have QX_10 := Vl.hide (QX_9.out.below bb)
  obtain ⟨u0, u1⟩ := V0_10.out
  obtain ⟨v0, v1⟩ := WV_10.out
  clear bb
  obtain ⟨z0, z1⟩ := X_10.out
  go_wp2_with fail
  refine (Vl.toIntS w.heap.size a1 r1 cap1 D1 _ (H1.out.below B10.out) B10.out.size lr1).mono ?_; rintro e W11 ⟨rfl, q11, t11, bb⟩
  have B11 := Vl.hide (B10.out.trans (Below.mono bb B10.out.size))
  have sz11 : (W9.heap.size + 1) ≤ W11.heap.size := by have qz := bb.size; (try simp only [World.size_alloc] at qz); (try simp only [World.size_alloc]); exact qz
  try clear u0 u1 u2 u3
  try clear u0 u1
  try clear v0 v1 v2 v3
  try clear v0 v1
  try clear z0 z1 z2 z3
  try clear z0 z1
  try clear p0 p1 p2 p3
  try clear p0 p1
  try clear fa0 fa1 fa2 fa3
  try clear fa0 fa1
  try clear fb0 fb1 fb2 fb3
  try clear fb0 fb1
  try clear fc0 fc1 fc2 fc3
  try clear fc0 fc1
  try clear fd0 fd1 fd2 fd3
  try clear fd0 fd1
  have V0_11 := Vl.hide (Vo.Bx.below V0_10.out bb (by first | omega | (simp; done) | (simp; omega)))
  have QS_11 := Vl.hide (QS_10.out.below bb)
  have WV_11 := Vl.hide (Vo.Bx.below WV_10.out bb (by first | omega | (simp; done) | (simp; omega)))
  have QX_11 := Vl.hide (QX_10.out.below bb)
  have X_11 := Vl.hide (Vo.Bx.below X_10.out bb (by first | omega | (simp; done) | (simp; omega)))
  obtain ⟨u0, u1⟩ := V0_11.out
  obtain ⟨v0, v1⟩ := WV_11.out
  obtain ⟨z0, z1⟩ := X_11.out
  clear bb
  have qq : Vl.OwnL (W9.heap.size + 1) W11 (some ⟨(W9.heap.size + 1), 0, none⟩) r1 D1 := .inr ⟨_, rfl, Nat.le_refl _, by have qz := q11; (try simp only [World.size_alloc] at qz); exact qz⟩
  clear q11
  have QX1_11 := Vl.hide qq
  clear qq
  have uu := fun k q => QX1_11.out.blk (b := k) q
  try simp only [World.size_alloc] at uu
  have UQX1 := Vl.hide uu
  clear uu
  go_wp2_with fail
  refine (Vl.toIntS w.heap.size a2 r2 cap2 D2 _ (H2.out.below B11.out) B11.out.size lr2).mono ?_; rintro e W12 ⟨rfl, q12, t12, bb⟩
  have B12 := Vl.hide (B11.out.trans (Below.mono bb B11.out.size))
  have sz12 : W11.heap.size ≤ W12.heap.size := by have qz := bb.size; (try simp only [World.size_alloc] at qz); (try simp only [World.size_alloc]); exact qz
  try clear u0 u1 u2 u3
  try clear u0 u1
  try clear v0 v1 v2 v3
  try clear v0 v1
  try clear z0 z1 z2 z3
  try clear z0 z1
  try clear p0 p1 p2 p3
  try clear p0 p1
  try clear fa0 fa1 fa2 fa3
  try clear fa0 fa1
  try clear fb0 fb1 fb2 fb3
  try clear fb0 fb1
  try clear fc0 fc1 fc2 fc3
  try clear fc0 fc1
  try clear fd0 fd1 fd2 fd3
  try clear fd0 fd1
  have V0_12 := Vl.hide (Vo.Bx.below V0_11.out bb (by first | omega | (simp; done) | (simp; omega)))
  have QS_12 := Vl.hide (QS_11.out.below bb)
  have WV_12 := Vl.hide (Vo.Bx.below WV_11.out bb (by first | omega | (simp; done) | (simp; omega)))
  have QX_12 := Vl.hide (QX_11.out.below bb)
  have X_12 := Vl.hide (Vo.Bx.below X_11.out bb (by first | omega | (simp; done) | (simp; omega)))
  have QX1_12 := Vl.hide (QX1_11.out.below bb)
  obtain ⟨u0, u1⟩ := V0_12.out
  obtain ⟨v0, v1⟩ := WV_12.out
  obtain ⟨z0, z1⟩ := X_12.out
  clear bb
  have qq : Vl.OwnL W11.heap.size W12 (some ⟨W11.heap.size, 0, none⟩) r2 D2 := .inr ⟨_, rfl, Nat.le_refl _, by have qz := q12; (try simp only [World.size_alloc] at qz); exact qz⟩
  clear q12
  have QX2_12 := Vl.hide qq
  clear qq
  have uu := fun k q => QX2_12.out.blk (b := k) q
  try simp only [World.size_alloc] at uu
  have UQX2 := Vl.hide uu
  clear uu
  go_wp2_with fail
  refine (Vl.toIntS w.heap.size a3 r3 cap3 D3 _ (H3.out.below B12.out) B12.out.size lr3).mono ?_; rintro e W13 ⟨rfl, q13, t13, bb⟩
  have B13 := Vl.hide (B12.out.trans (Below.mono bb B12.out.size))
  have sz13 : W12.heap.size ≤ W13.heap.size := by have qz := bb.size; (try simp only [World.size_alloc] at qz); (try simp only [World.size_alloc]); exact qz
  try clear u0 u1 u2 u3
  try clear u0 u1
  try clear v0 v1 v2 v3
  try clear v0 v1
  try clear z0 z1 z2 z3
  try clear z0 z1
  try clear p0 p1 p2 p3
  try clear p0 p1
  try clear fa0 fa1 fa2 fa3
  try clear fa0 fa1
  try clear fb0 fb1 fb2 fb3
  try clear fb0 fb1
  try clear fc0 fc1 fc2 fc3
  try clear fc0 fc1
  try clear fd0 fd1 fd2 fd3
  try clear fd0 fd1
  have V0_13 := Vl.hide (Vo.Bx.below V0_12.out bb (by first | omega | (simp; done) | (simp; omega)))
  have QS_13 := Vl.hide (QS_12.out.below bb)
  have WV_13 := Vl.hide (Vo.Bx.below WV_12.out bb (by first | omega | (simp; done) | (simp; omega)))
  have QX_13 := Vl.hide (QX_12.out.below bb)
  have X_13 := Vl.hide (Vo.Bx.below X_12.out bb (by first | omega | (simp; done) | (simp; omega)))
  have QX1_13 := Vl.hide (QX1_12.out.below bb)
  have QX2_13 := Vl.hide (QX2_12.out.below bb)
  obtain ⟨u0, u1⟩ := V0_13.out
  obtain ⟨v0, v1⟩ := WV_13.out
  obtain ⟨z0, z1⟩ := X_13.out
  clear bb
  have qq : Vl.OwnL W12.heap.size W13 (some ⟨W12.heap.size, 0, none⟩) r3 D3 := .inr ⟨_, rfl, Nat.le_refl _, by have qz := q13; (try simp only [World.size_alloc] at qz); exact qz⟩
  clear q13
  have QX3_13 := Vl.hide qq
  clear qq
  have uu := fun k q => QX3_13.out.blk (b := k) q
  try simp only [World.size_alloc] at uu
  have UQX3 := Vl.hide uu
  clear uu
  go_wp2_with fail
  refine (HI.out _ _ _ _ _ _ _ _ _ _ _ _ _ Agx.out Cgx.out QX_13.out QX1_13.out QX2_13.out QX3_13.out).mono ?_; rintro e W14 ⟨Ga, Gb, Gc1, Gc2, Gd, Gdc, G1, G2, GE, rfl, hE, qG, qD, hlt, t1, t2, bb⟩
  have B14 := Vl.hide (B13.out.trans (Below.mono bb B13.out.size))
  have sz14 : W13.heap.size ≤ W14.heap.size := by have qz := bb.size; (try simp only [World.size_alloc] at qz); (try simp only [World.size_alloc]); exact qz
  try clear u0 u1 u2 u3
  try clear u0 u1
  try clear v0 v1 v2 v3
  try clear v0 v1
  try clear z0 z1 z2 z3
  try clear z0 z1
  try clear p0 p1 p2 p3
  try clear p0 p1
  try clear fa0 fa1 fa2 fa3
  try clear fa0 fa1
  try clear fb0 fb1 fb2 fb3
  try clear fb0 fb1
  try clear fc0 fc1 fc2 fc3
  try clear fc0 fc1
  try clear fd0 fd1 fd2 fd3
  try clear fd0 fd1
  have V0_14 := Vl.hide (Vo.Bx.below V0_13.out bb (by first | omega | (simp; done) | (simp; omega)))
  have QS_14 := Vl.hide (QS_13.out.below bb)
  have WV_14 := Vl.hide (Vo.Bx.below WV_13.out bb (by first | omega | (simp; done) | (simp; omega)))
  have QX_14 := Vl.hide (QX_13.out.below bb)
  have X_14 := Vl.hide (Vo.Bx.below X_13.out bb (by first | omega | (simp; done) | (simp; omega)))
  have QX1_14 := Vl.hide (QX1_13.out.below bb)
  have QX2_14 := Vl.hide (QX2_13.out.below bb)
  have QX3_14 := Vl.hide (QX3_13.out.below bb)
  obtain ⟨u0, u1⟩ := V0_14.out
  obtain ⟨v0, v1⟩ := WV_14.out
  obtain ⟨z0, z1⟩ := X_14.out
  clear bb
  have QG_14 := Vl.hide qG
  clear qG
  have uu := fun k q => QG_14.out.blk (k := k) q
  try simp only [World.size_alloc] at uu
  have UQG := Vl.hide uu
  clear uu
  have QGd_14 := Vl.hide qD
  clear qD
  have uu := fun k q => QGd_14.out.blk (b := k) q
  try simp only [World.size_alloc] at uu
  have UQGd := Vl.hide uu
  clear uu
  have EG := Vl.hide (show W13.heap.size ≤ GE by first | exact hE | (have qz := hE; simp only [World.size_alloc] at qz; exact qz))
  have LTG := Vl.hide hlt
  have TG1 := Vl.hide t1
  have TG2 := Vl.hide t2
  clear hE hlt t1 t2
  obtain ⟨l1, l2⟩ := PS.out.one TG1.out
  obtain ⟨l3, l4⟩ := PS.out.two TG2.out
  have NGa := Vl.hide l1
  have NGb := Vl.hide l3
  have NGc := Vl.hide l2
  have NGd := Vl.hide l4
  clear l1 l2 l3 l4
  have bb := (Below.refl W14.heap.size W14).alloc (Nat.le_refl _) (.cells #[.slice Ga P.n Gc1, .slice Gb P.m Gc2] 27)
  have GV_15 := Vl.hide (Vo.bx_new W14 (.slice Ga P.n Gc1) (.slice Gb P.m Gc2) 27)
  have B15 := Vl.hide (B14.out.trans (Below.mono bb B14.out.size))
  have sz15 : W14.heap.size ≤ (W14.alloc (.cells #[.slice Ga P.n Gc1, .slice Gb P.m Gc2] 27)).heap.size := by have qz := bb.size; (try simp only [World.size_alloc] at qz); (try simp only [World.size_alloc]); exact qz
  simp only [World.size_alloc] at sz15
  try clear u0 u1 u2 u3
  try clear u0 u1
  try clear v0 v1 v2 v3
  try clear v0 v1
  try clear z0 z1 z2 z3
  try clear z0 z1
  try clear p0 p1 p2 p3
  try clear p0 p1
  try clear fa0 fa1 fa2 fa3
  try clear fa0 fa1
  try clear fb0 fb1 fb2 fb3
  try clear fb0 fb1
  try clear fc0 fc1 fc2 fc3
  try clear fc0 fc1
  try clear fd0 fd1 fd2 fd3
  try clear fd0 fd1
  have V0_15 := Vl.hide (Vo.Bx.below V0_14.out bb (by first | omega | (simp; done) | (simp; omega)))
  have QS_15 := Vl.hide (QS_14.out.below bb)
  have WV_15 := Vl.hide (Vo.Bx.below WV_14.out bb (by first | omega | (simp; done) | (simp; omega)))
  have QX_15 := Vl.hide (QX_14.out.below bb)
  have X_15 := Vl.hide (Vo.Bx.below X_14.out bb (by first | omega | (simp; done) | (simp; omega)))
  have QX1_15 := Vl.hide (QX1_14.out.below bb)
  have QX2_15 := Vl.hide (QX2_14.out.below bb)
  have QX3_15 := Vl.hide (QX3_14.out.below bb)
  have QG_15 := Vl.hide (QG_14.out.below bb)
  have QGd_15 := Vl.hide (QGd_14.out.below bb)
  obtain ⟨u0, u1⟩ := V0_15.out
  obtain ⟨v0, v1⟩ := WV_15.out
  obtain ⟨z0, z1⟩ := X_15.out
  clear bb
  obtain ⟨p0, p1⟩ := GV_15.out
  go_wp2_with fail
  refine (Vo.eqCache _ Ga Gb sa sb P.n P.m Gc1 Gc2 sc1 sc2 G1 G2 S1 S2 _ (Nat.le_refl _) QG_15.out.read.1 QG_15.out.read.2 (QS_15.out.2.1.mono QS_15.out.1) (QS_15.out.2.2.1.mono QS_15.out.1) (Vo.LSame.both TG1.out TS1.out) (Vo.LSame.both TG2.out TS2.out) pn pm NGa.out NGb.out).mono ?_; rintro e W16 ⟨rfl, bb⟩
  have B16 := Vl.hide (B15.out.trans (Below.mono bb B15.out.size))
  have sz16 : (W14.heap.size + 1) ≤ W16.heap.size := by have qz := bb.size; (try simp only [World.size_alloc] at qz); (try simp only [World.size_alloc]); exact qz
  try clear u0 u1 u2 u3
  try clear u0 u1
  try clear v0 v1 v2 v3
  try clear v0 v1
  try clear z0 z1 z2 z3
  try clear z0 z1
  try clear p0 p1 p2 p3
  try clear p0 p1
  try clear fa0 fa1 fa2 fa3
  try clear fa0 fa1
  try clear fb0 fb1 fb2 fb3
  try clear fb0 fb1
  try clear fc0 fc1 fc2 fc3
  try clear fc0 fc1
  try clear fd0 fd1 fd2 fd3
  try clear fd0 fd1
  have V0_16 := Vl.hide (Vo.Bx.below V0_15.out bb (by first | omega | (simp; done) | (simp; omega)))
  have QS_16 := Vl.hide (QS_15.out.below bb)
  have WV_16 := Vl.hide (Vo.Bx.below WV_15.out bb (by first | omega | (simp; done) | (simp; omega)))
  have QX_16 := Vl.hide (QX_15.out.below bb)
  have X_16 := Vl.hide (Vo.Bx.below X_15.out bb (by first | omega | (simp; done) | (simp; omega)))
  have QX1_16 := Vl.hide (QX1_15.out.below bb)
  have QX2_16 := Vl.hide (QX2_15.out.below bb)
  have QX3_16 := Vl.hide (QX3_15.out.below bb)
  have QG_16 := Vl.hide (QG_15.out.below bb)
  have QGd_16 := Vl.hide (QGd_15.out.below bb)
  have GV_16 := Vl.hide (Vo.Bx.below GV_15.out bb (by first | omega | (simp; done) | (simp; omega)))
  obtain ⟨u0, u1⟩ := V0_16.out
  obtain ⟨v0, v1⟩ := WV_16.out
  obtain ⟨z0, z1⟩ := X_16.out
  obtain ⟨p0, p1⟩ := GV_16.out
  clear bb
  go_wp2_with fail
  refine (Vl.eqIntS _ _ _ P.s Gdc sdc P.S P.S _ QGd_16.out.ints (QS_16.out.2.2.2.mono QS_16.out.1) (fun _ _ => rfl) (by omega)).mono ?_; rintro e W17 ⟨rfl, bb⟩
  have B17 := Vl.hide (B16.out.trans (Below.mono bb B16.out.size))
  have sz17 : W16.heap.size ≤ W17.heap.size := by have qz := bb.size; (try simp only [World.size_alloc] at qz); (try simp only [World.size_alloc]); exact qz
  try clear u0 u1 u2 u3
  try clear u0 u1
  try clear v0 v1 v2 v3
  try clear v0 v1
  try clear z0 z1 z2 z3
  try clear z0 z1
  try clear p0 p1 p2 p3
  try clear p0 p1
  try clear fa0 fa1 fa2 fa3
  try clear fa0 fa1
  try clear fb0 fb1 fb2 fb3
  try clear fb0 fb1
  try clear fc0 fc1 fc2 fc3
  try clear fc0 fc1
  try clear fd0 fd1 fd2 fd3
  try clear fd0 fd1
  have V0_17 := Vl.hide (Vo.Bx.below V0_16.out bb (by first | omega | (simp; done) | (simp; omega)))
  have QS_17 := Vl.hide (QS_16.out.below bb)
  have WV_17 := Vl.hide (Vo.Bx.below WV_16.out bb (by first | omega | (simp; done) | (simp; omega)))
  have QX_17 := Vl.hide (QX_16.out.below bb)
  have X_17 := Vl.hide (Vo.Bx.below X_16.out bb (by first | omega | (simp; done) | (simp; omega)))
  have QX1_17 := Vl.hide (QX1_16.out.below bb)
  have QX2_17 := Vl.hide (QX2_16.out.below bb)
  have QX3_17 := Vl.hide (QX3_16.out.below bb)
  have QG_17 := Vl.hide (QG_16.out.below bb)
  have QGd_17 := Vl.hide (QGd_16.out.below bb)
  have GV_17 := Vl.hide (Vo.Bx.below GV_16.out bb (by first | omega | (simp; done) | (simp; omega)))
  obtain ⟨u0, u1⟩ := V0_17.out
  obtain ⟨v0, v1⟩ := WV_17.out
  obtain ⟨z0, z1⟩ := X_17.out
  obtain ⟨p0, p1⟩ := GV_17.out
  clear bb
  have HT := Vl.hide (fun (W : World) (hW : Below W17.heap.size W17 W) => Vo.toCacheN w.heap.size a0 b0 r0 s0 cap0 dap0 L0 M0 W (Nat.le_trans B17.out.size hW.size) (H0.out.below (B17.out.trans (hW.mono B17.out.size))) (K0.out.below (B17.out.trans (hW.mono B17.out.size))) lr0 ls0 NL.out NM.out)
  have HE := Vl.hide (fun (W : World) (hW : Below W17.heap.size W17 W) (E G g5 g6 : Nat) (L3 M3 : Nat → Vo.LV) (q : Vo.CO E G W (some ⟨g5, 0, none⟩) (some ⟨g6, 0, none⟩) r0 s0 L3 M3) (p : Vo.LAll L0 L3) (p' : Vo.LAll M0 M3) => Vo.eqCache W.heap.size (some ⟨gx, 0, none⟩) (some ⟨gx', 0, none⟩) (some ⟨g5, 0, none⟩) (some ⟨g6, 0, none⟩) r0 s0 r0 s0 r0 s0 Lgx Mgx L3 M3 W (Nat.le_refl _) (QX_17.out.below hW).read.1 (QX_17.out.below hW).read.2 q.read.1 q.read.2 (Vo.LSame.both (Agx.out.same r0) (p.same r0)) (Vo.LSame.both (Cgx.out.same s0) (p'.same s0)) lr0 ls0 (NL.out.all Agx.out) (NM.out.all Cgx.out))
  go_wp2_with fail
  go_region_held3 (fun w' => w'.cell? ⟨W9.heap.size, 0, none⟩ = some (.slice (some ⟨gx, 0, none⟩) r0 r0) ∧ w'.cell? ⟨W9.heap.size, 1, none⟩ = some (.slice (some ⟨gx', 0, none⟩) s0 s0) ∧ w'.cell? ⟨w.heap.size, 0, none⟩ = some (.slice a0 r0 cap0) ∧ w'.cell? ⟨w.heap.size, 1, none⟩ = some (.slice b0 s0 dap0))
    ((try dsimp only) <;> (repeat' apply And.intro) <;> (repeat (first | with_reducible assumption | with_reducible apply Vo.drew_old | (with_reducible apply Vo.below_old; (focus (with_reducible assumption))))))
    (first
      | (go_at_call 6
         refine (HT.out _ (by exact (Below.refl _ _).drew)).mono ?_
         rintro e wA ⟨g5, g6, L3, M3, rfl, pA, pB, qA, bA⟩)
      | (go_at_call 9
         refine (HE.out _ (by exact (Below.refl _ W17).drew.trans bA) _ _ g5 g6 L3 M3 qA pA pB).mono ?_
         rintro e wB ⟨rfl, bB⟩))
  have bb : Below W17.heap.size W17 wB := ((Below.refl _ W17).drew.trans bA).trans (bB.mono (Nat.le_trans (Nat.le_refl _) bA.size))
  clear bA bB qA pA pB HT HE
  have B18 := Vl.hide (B17.out.trans (Below.mono bb B17.out.size))
  have sz18 : W17.heap.size ≤ wB.heap.size := by have qz := bb.size; (try simp only [World.size_alloc] at qz); (try simp only [World.size_alloc]); exact qz
  try clear u0 u1 u2 u3
  try clear u0 u1
  try clear v0 v1 v2 v3
  try clear v0 v1
  try clear z0 z1 z2 z3
  try clear z0 z1
  try clear p0 p1 p2 p3
  try clear p0 p1
  try clear fa0 fa1 fa2 fa3
  try clear fa0 fa1
  try clear fb0 fb1 fb2 fb3
  try clear fb0 fb1
  try clear fc0 fc1 fc2 fc3
  try clear fc0 fc1
  try clear fd0 fd1 fd2 fd3
  try clear fd0 fd1
  have V0_18 := Vl.hide (Vo.Bx.below V0_17.out bb (by first | omega | (simp; done) | (simp; omega)))
  have QS_18 := Vl.hide (QS_17.out.below bb)
  have WV_18 := Vl.hide (Vo.Bx.below WV_17.out bb (by first | omega | (simp; done) | (simp; omega)))
  have QX_18 := Vl.hide (QX_17.out.below bb)
  have X_18 := Vl.hide (Vo.Bx.below X_17.out bb (by first | omega | (simp; done) | (simp; omega)))
  have QX1_18 := Vl.hide (QX1_17.out.below bb)
  have QX2_18 := Vl.hide (QX2_17.out.below bb)
  have QX3_18 := Vl.hide (QX3_17.out.below bb)
  have QG_18 := Vl.hide (QG_17.out.below bb)
  have QGd_18 := Vl.hide (QGd_17.out.below bb)
  have GV_18 := Vl.hide (Vo.Bx.below GV_17.out bb (by first | omega | (simp; done) | (simp; omega)))
  obtain ⟨u0, u1⟩ := V0_18.out
  obtain ⟨v0, v1⟩ := WV_18.out
  obtain ⟨z0, z1⟩ := X_18.out
  obtain ⟨p0, p1⟩ := GV_18.out
  clear bb
  go_wp2_with fail
  refine (Vl.toIntS w.heap.size a1 r1 cap1 D1 _ (H1.out.below B18.out) B18.out.size lr1).mono ?_; rintro e W19 ⟨rfl, q19, t19, bb⟩
  have B19 := Vl.hide (B18.out.trans (Below.mono bb B18.out.size))
  have sz19 : wB.heap.size ≤ W19.heap.size := by have qz := bb.size; (try simp only [World.size_alloc] at qz); (try simp only [World.size_alloc]); exact qz
  try clear u0 u1 u2 u3
  try clear u0 u1
  try clear v0 v1 v2 v3
  try clear v0 v1
  try clear z0 z1 z2 z3
  try clear z0 z1
  try clear p0 p1 p2 p3
  try clear p0 p1
  try clear fa0 fa1 fa2 fa3
  try clear fa0 fa1
  try clear fb0 fb1 fb2 fb3
  try clear fb0 fb1
  try clear fc0 fc1 fc2 fc3
  try clear fc0 fc1
  try clear fd0 fd1 fd2 fd3
  try clear fd0 fd1
  have V0_19 := Vl.hide (Vo.Bx.below V0_18.out bb (by first | omega | (simp; done) | (simp; omega)))
  have QS_19 := Vl.hide (QS_18.out.below bb)
  have WV_19 := Vl.hide (Vo.Bx.below WV_18.out bb (by first | omega | (simp; done) | (simp; omega)))
  have QX_19 := Vl.hide (QX_18.out.below bb)
  have X_19 := Vl.hide (Vo.Bx.below X_18.out bb (by first | omega | (simp; done) | (simp; omega)))
  have QX1_19 := Vl.hide (QX1_18.out.below bb)
  have QX2_19 := Vl.hide (QX2_18.out.below bb)
  have QX3_19 := Vl.hide (QX3_18.out.below bb)
  have QG_19 := Vl.hide (QG_18.out.below bb)
  have QGd_19 := Vl.hide (QGd_18.out.below bb)
  have GV_19 := Vl.hide (Vo.Bx.below GV_18.out bb (by first | omega | (simp; done) | (simp; omega)))
  obtain ⟨u0, u1⟩ := V0_19.out
  obtain ⟨v0, v1⟩ := WV_19.out
  obtain ⟨z0, z1⟩ := X_19.out
  obtain ⟨p0, p1⟩ := GV_19.out
  clear bb
  have qq : Vl.OwnL wB.heap.size W19 (some ⟨wB.heap.size, 0, none⟩) r1 D1 := .inr ⟨_, rfl, Nat.le_refl _, by have qz := q19; (try simp only [World.size_alloc] at qz); exact qz⟩
  clear q19
  have QZ1_19 := Vl.hide qq
  clear qq
  have uu := fun k q => QZ1_19.out.blk (b := k) q
  try simp only [World.size_alloc] at uu
  have UQZ1 := Vl.hide uu
  clear uu
  go_wp2_with fail
  refine (Vl.eqIntS _ _ _ r1 r1 r1 D1 D1 _ QX1_19.out.ints QZ1_19.out.ints (fun _ _ => rfl) lr1).mono ?_; rintro e W20 ⟨rfl, bb⟩
  have B20 := Vl.hide (B19.out.trans (Below.mono bb B19.out.size))
  have sz20 : W19.heap.size ≤ W20.heap.size := by have qz := bb.size; (try simp only [World.size_alloc] at qz); (try simp only [World.size_alloc]); exact qz
  try clear u0 u1 u2 u3
  try clear u0 u1
  try clear v0 v1 v2 v3
  try clear v0 v1
  try clear z0 z1 z2 z3
  try clear z0 z1
  try clear p0 p1 p2 p3
  try clear p0 p1
  try clear fa0 fa1 fa2 fa3
  try clear fa0 fa1
  try clear fb0 fb1 fb2 fb3
  try clear fb0 fb1
  try clear fc0 fc1 fc2 fc3
  try clear fc0 fc1
  try clear fd0 fd1 fd2 fd3
  try clear fd0 fd1
  have V0_20 := Vl.hide (Vo.Bx.below V0_19.out bb (by first | omega | (simp; done) | (simp; omega)))
  have QS_20 := Vl.hide (QS_19.out.below bb)
  have WV_20 := Vl.hide (Vo.Bx.below WV_19.out bb (by first | omega | (simp; done) | (simp; omega)))
  have QX_20 := Vl.hide (QX_19.out.below bb)
  have X_20 := Vl.hide (Vo.Bx.below X_19.out bb (by first | omega | (simp; done) | (simp; omega)))
  have QX1_20 := Vl.hide (QX1_19.out.below bb)
  have QX2_20 := Vl.hide (QX2_19.out.below bb)
  have QX3_20 := Vl.hide (QX3_19.out.below bb)
  have QG_20 := Vl.hide (QG_19.out.below bb)
  have QGd_20 := Vl.hide (QGd_19.out.below bb)
  have GV_20 := Vl.hide (Vo.Bx.below GV_19.out bb (by first | omega | (simp; done) | (simp; omega)))
  have QZ1_20 := Vl.hide (QZ1_19.out.below bb)
  obtain ⟨u0, u1⟩ := V0_20.out
  obtain ⟨v0, v1⟩ := WV_20.out
  obtain ⟨z0, z1⟩ := X_20.out
  obtain ⟨p0, p1⟩ := GV_20.out
  clear bb
  go_wp2_with fail
  refine (Vl.toIntS w.heap.size a2 r2 cap2 D2 _ (H2.out.below B20.out) B20.out.size lr2).mono ?_; rintro e W21 ⟨rfl, q21, t21, bb⟩
  have B21 := Vl.hide (B20.out.trans (Below.mono bb B20.out.size))
  have sz21 : W20.heap.size ≤ W21.heap.size := by have qz := bb.size; (try simp only [World.size_alloc] at qz); (try simp only [World.size_alloc]); exact qz
  try clear u0 u1 u2 u3
  try clear u0 u1
  try clear v0 v1 v2 v3
  try clear v0 v1
  try clear z0 z1 z2 z3
  try clear z0 z1
  try clear p0 p1 p2 p3
  try clear p0 p1
  try clear fa0 fa1 fa2 fa3
  try clear fa0 fa1
  try clear fb0 fb1 fb2 fb3
  try clear fb0 fb1
  try clear fc0 fc1 fc2 fc3
  try clear fc0 fc1
  try clear fd0 fd1 fd2 fd3
  try clear fd0 fd1
  have V0_21 := Vl.hide (Vo.Bx.below V0_20.out bb (by first | omega | (simp; done) | (simp; omega)))
  have QS_21 := Vl.hide (QS_20.out.below bb)
  have WV_21 := Vl.hide (Vo.Bx.below WV_20.out bb (by first | omega | (simp; done) | (simp; omega)))
  have QX_21 := Vl.hide (QX_20.out.below bb)
  have X_21 := Vl.hide (Vo.Bx.below X_20.out bb (by first | omega | (simp; done) | (simp; omega)))
  have QX1_21 := Vl.hide (QX1_20.out.below bb)
  have QX2_21 := Vl.hide (QX2_20.out.below bb)
  have QX3_21 := Vl.hide (QX3_20.out.below bb)
  have QG_21 := Vl.hide (QG_20.out.below bb)
  have QGd_21 := Vl.hide (QGd_20.out.below bb)
  have GV_21 := Vl.hide (Vo.Bx.below GV_20.out bb (by first | omega | (simp; done) | (simp; omega)))
  obtain ⟨u0, u1⟩ := V0_21.out
  obtain ⟨v0, v1⟩ := WV_21.out
  obtain ⟨z0, z1⟩ := X_21.out
  obtain ⟨p0, p1⟩ := GV_21.out
  clear bb
  have qq : Vl.OwnL W20.heap.size W21 (some ⟨W20.heap.size, 0, none⟩) r2 D2 := .inr ⟨_, rfl, Nat.le_refl _, by have qz := q21; (try simp only [World.size_alloc] at qz); exact qz⟩
  clear q21
  have QZ2_21 := Vl.hide qq
  clear qq
  have uu := fun k q => QZ2_21.out.blk (b := k) q
  try simp only [World.size_alloc] at uu
  have UQZ2 := Vl.hide uu
  clear uu
  go_wp2_with fail
  refine (Vl.eqIntS _ _ _ r2 r2 r2 D2 D2 _ QX2_21.out.ints QZ2_21.out.ints (fun _ _ => rfl) lr2).mono ?_; rintro e W22 ⟨rfl, bb⟩
  have B22 := Vl.hide (B21.out.trans (Below.mono bb B21.out.size))
  have sz22 : W21.heap.size ≤ W22.heap.size := by have qz := bb.size; (try simp only [World.size_alloc] at qz); (try simp only [World.size_alloc]); exact qz
  try clear u0 u1 u2 u3
  try clear u0 u1
  try clear v0 v1 v2 v3
  try clear v0 v1
  try clear z0 z1 z2 z3
  try clear z0 z1
  try clear p0 p1 p2 p3
  try clear p0 p1
  try clear fa0 fa1 fa2 fa3
  try clear fa0 fa1
  try clear fb0 fb1 fb2 fb3
  try clear fb0 fb1
  try clear fc0 fc1 fc2 fc3
  try clear fc0 fc1
  try clear fd0 fd1 fd2 fd3
  try clear fd0 fd1
  have V0_22 := Vl.hide (Vo.Bx.below V0_21.out bb (by first | omega | (simp; done) | (simp; omega)))
  have QS_22 := Vl.hide (QS_21.out.below bb)
  have WV_22 := Vl.hide (Vo.Bx.below WV_21.out bb (by first | omega | (simp; done) | (simp; omega)))
  have QX_22 := Vl.hide (QX_21.out.below bb)
  have X_22 := Vl.hide (Vo.Bx.below X_21.out bb (by first | omega | (simp; done) | (simp; omega)))
  have QX1_22 := Vl.hide (QX1_21.out.below bb)
  have QX2_22 := Vl.hide (QX2_21.out.below bb)
  have QX3_22 := Vl.hide (QX3_21.out.below bb)
  have QG_22 := Vl.hide (QG_21.out.below bb)
  have QGd_22 := Vl.hide (QGd_21.out.below bb)
  have GV_22 := Vl.hide (Vo.Bx.below GV_21.out bb (by first | omega | (simp; done) | (simp; omega)))
  have QZ2_22 := Vl.hide (QZ2_21.out.below bb)
  obtain ⟨u0, u1⟩ := V0_22.out
  obtain ⟨v0, v1⟩ := WV_22.out
  obtain ⟨z0, z1⟩ := X_22.out
  obtain ⟨p0, p1⟩ := GV_22.out
  clear bb
  go_wp2_with fail
  refine (Vl.toIntS w.heap.size a3 r3 cap3 D3 _ (H3.out.below B22.out) B22.out.size lr3).mono ?_; rintro e W23 ⟨rfl, q23, t23, bb⟩
  have B23 := Vl.hide (B22.out.trans (Below.mono bb B22.out.size))
  have sz23 : W22.heap.size ≤ W23.heap.size := by have qz := bb.size; (try simp only [World.size_alloc] at qz); (try simp only [World.size_alloc]); exact qz
  try clear u0 u1 u2 u3
  try clear u0 u1
  try clear v0 v1 v2 v3
  try clear v0 v1
  try clear z0 z1 z2 z3
  try clear z0 z1
  try clear p0 p1 p2 p3
  try clear p0 p1
  try clear fa0 fa1 fa2 fa3
  try clear fa0 fa1
  try clear fb0 fb1 fb2 fb3
  try clear fb0 fb1
  try clear fc0 fc1 fc2 fc3
  try clear fc0 fc1
  try clear fd0 fd1 fd2 fd3
  try clear fd0 fd1
  have V0_23 := Vl.hide (Vo.Bx.below V0_22.out bb (by first | omega | (simp; done) | (simp; omega)))
  have QS_23 := Vl.hide (QS_22.out.below bb)
  have WV_23 := Vl.hide (Vo.Bx.below WV_22.out bb (by first | omega | (simp; done) | (simp; omega)))
  have QX_23 := Vl.hide (QX_22.out.below bb)
  have X_23 := Vl.hide (Vo.Bx.below X_22.out bb (by first | omega | (simp; done) | (simp; omega)))
  have QX1_23 := Vl.hide (QX1_22.out.below bb)
  have QX2_23 := Vl.hide (QX2_22.out.below bb)
  have QX3_23 := Vl.hide (QX3_22.out.below bb)
  have QG_23 := Vl.hide (QG_22.out.below bb)
  have QGd_23 := Vl.hide (QGd_22.out.below bb)
  have GV_23 := Vl.hide (Vo.Bx.below GV_22.out bb (by first | omega | (simp; done) | (simp; omega)))
  obtain ⟨u0, u1⟩ := V0_23.out
  obtain ⟨v0, v1⟩ := WV_23.out
  obtain ⟨z0, z1⟩ := X_23.out
  obtain ⟨p0, p1⟩ := GV_23.out
  clear bb
  have qq : Vl.OwnL W22.heap.size W23 (some ⟨W22.heap.size, 0, none⟩) r3 D3 := .inr ⟨_, rfl, Nat.le_refl _, by have qz := q23; (try simp only [World.size_alloc] at qz); exact qz⟩
  clear q23
  have QZ3_23 := Vl.hide qq
  clear qq
  have uu := fun k q => QZ3_23.out.blk (b := k) q
  try simp only [World.size_alloc] at uu
  have UQZ3 := Vl.hide uu
  clear uu
  go_wp2_with fail
  refine (Vl.eqIntS _ _ _ r3 r3 r3 D3 D3 _ QX3_23.out.ints QZ3_23.out.ints (fun _ _ => rfl) lr3).mono ?_; rintro e W24 ⟨rfl, bb⟩
  have B24 := Vl.hide (B23.out.trans (Below.mono bb B23.out.size))
  have sz24 : W23.heap.size ≤ W24.heap.size := by have qz := bb.size; (try simp only [World.size_alloc] at qz); (try simp only [World.size_alloc]); exact qz
  try clear u0 u1 u2 u3
  try clear u0 u1
  try clear v0 v1 v2 v3
  try clear v0 v1
  try clear z0 z1 z2 z3
  try clear z0 z1
  try clear p0 p1 p2 p3
  try clear p0 p1
  try clear fa0 fa1 fa2 fa3
  try clear fa0 fa1
  try clear fb0 fb1 fb2 fb3
  try clear fb0 fb1
  try clear fc0 fc1 fc2 fc3
  try clear fc0 fc1
  try clear fd0 fd1 fd2 fd3
  try clear fd0 fd1
  have V0_24 := Vl.hide (Vo.Bx.below V0_23.out bb (by first | omega | (simp; done) | (simp; omega)))
  have QS_24 := Vl.hide (QS_23.out.below bb)
  have WV_24 := Vl.hide (Vo.Bx.below WV_23.out bb (by first | omega | (simp; done) | (simp; omega)))
  have QX_24 := Vl.hide (QX_23.out.below bb)
  have X_24 := Vl.hide (Vo.Bx.below X_23.out bb (by first | omega | (simp; done) | (simp; omega)))
  have QX1_24 := Vl.hide (QX1_23.out.below bb)
  have QX2_24 := Vl.hide (QX2_23.out.below bb)
  have QX3_24 := Vl.hide (QX3_23.out.below bb)
  have QG_24 := Vl.hide (QG_23.out.below bb)
  have QGd_24 := Vl.hide (QGd_23.out.below bb)
  have GV_24 := Vl.hide (Vo.Bx.below GV_23.out bb (by first | omega | (simp; done) | (simp; omega)))
  have QZ3_24 := Vl.hide (QZ3_23.out.below bb)
  obtain ⟨u0, u1⟩ := V0_24.out
  obtain ⟨v0, v1⟩ := WV_24.out
  obtain ⟨z0, z1⟩ := X_24.out
  obtain ⟨p0, p1⟩ := GV_24.out
  clear bb
  obtain ⟨zx, hzx⟩ : ∃ z : Int, z = 1 + Vo.lsum Lgx r0 + Vo.lsum Mgx s0 := ⟨_, rfl⟩
  have x1 : (Vo.lsum Lgx r0 : Int) ≤ 1048576 := by rw [Vo.lsum_all Agx.out]; exact SL.out
  have x2 : (Vo.lsum Mgx s0 : Int) ≤ 1048576 := by rw [Vo.lsum_all Cgx.out]; exact SM.out
  have zx0 : 1 ≤ zx := by omega
  have zx1 : zx ≤ 2097153 := by omega
  have ZX := Vl.hide hzx
  have X1 := Vl.hide x1
  have X2 := Vl.hide x2
  clear hzx x1 x2
  have EG' := EG.out
  go_wp2_with fail
  refine (Vo.markCO QX_24.out r0 s0 1 zx ZX.out (NL.out.all Agx.out) (NM.out.all Cgx.out) (by have := X1.out; omega) (by have := X2.out; omega) lr0 ls0 (by omega) (by omega)).mono ?_; rintro e W25 ⟨rfl, qs, bb⟩
  have B25 := Vl.hide (B24.out.trans (Vl.Kept.below bb B24.out.size (fun k q => by have := UQX.out _ q; omega)))
  have sz25 : W24.heap.size ≤ W25.heap.size := by have qz := bb.size; (try simp only [World.size_alloc] at qz); (try simp only [World.size_alloc]); exact qz
  try clear u0 u1 u2 u3
  try clear u0 u1
  try clear v0 v1 v2 v3
  try clear v0 v1
  try clear z0 z1 z2 z3
  try clear z0 z1
  try clear p0 p1 p2 p3
  try clear p0 p1
  try clear fa0 fa1 fa2 fa3
  try clear fa0 fa1
  try clear fb0 fb1 fb2 fb3
  try clear fb0 fb1
  try clear fc0 fc1 fc2 fc3
  try clear fc0 fc1
  try clear fd0 fd1 fd2 fd3
  try clear fd0 fd1
  have V0_25 := Vl.hide (Vo.Bx.kept V0_24.out bb (by omega) (fun q => by have := UQX.out _ q; omega))
  have QS_25 := Vl.hide (QS_24.out.kept bb (fun k q q' => by have := UQS.out _ q; have := UQX.out _ q'; omega))
  have WV_25 := Vl.hide (Vo.Bx.kept WV_24.out bb (by omega) (fun q => by have := UQX.out _ q; omega))
  have QX_25 := Vl.hide qs
  have X_25 := Vl.hide (Vo.Bx.kept X_24.out bb (by omega) (fun q => by have := UQX.out _ q; omega))
  have QX1_25 := Vl.hide (QX1_24.out.kept bb (fun k q q' => by have := UQX1.out _ q; have := UQX.out _ q'; omega))
  have QX2_25 := Vl.hide (QX2_24.out.kept bb (fun k q q' => by have := UQX2.out _ q; have := UQX.out _ q'; omega))
  have QX3_25 := Vl.hide (QX3_24.out.kept bb (fun k q q' => by have := UQX3.out _ q; have := UQX.out _ q'; omega))
  have QG_25 := Vl.hide (QG_24.out.kept bb (fun k q q' => by have := UQG.out _ q; have := UQX.out _ q'; omega))
  have QGd_25 := Vl.hide (QGd_24.out.kept bb (fun k q q' => by have := UQGd.out _ q; have := UQX.out _ q'; omega))
  have GV_25 := Vl.hide (Vo.Bx.kept GV_24.out bb (by omega) (fun q => by have := UQX.out _ q; omega))
  obtain ⟨u0, u1⟩ := V0_25.out
  obtain ⟨v0, v1⟩ := WV_25.out
  obtain ⟨z0, z1⟩ := X_25.out
  obtain ⟨p0, p1⟩ := GV_25.out
  clear bb
  clear qs
  go_wp2_with fail
  refine (Vl.markIntS _ _ r1 r1 D1 zx _ QX1_25.out lr1 (by omega) (by omega)).mono ?_; rintro e W26 ⟨rfl, qs, bb⟩
  have B26 := Vl.hide (B25.out.trans (Vl.Kept.below bb B25.out.size (fun k q => by have := UQX1.out _ q; omega)))
  have sz26 : W25.heap.size ≤ W26.heap.size := by have qz := bb.size; (try simp only [World.size_alloc] at qz); (try simp only [World.size_alloc]); exact qz
  try clear u0 u1 u2 u3
  try clear u0 u1
  try clear v0 v1 v2 v3
  try clear v0 v1
  try clear z0 z1 z2 z3
  try clear z0 z1
  try clear p0 p1 p2 p3
  try clear p0 p1
  try clear fa0 fa1 fa2 fa3
  try clear fa0 fa1
  try clear fb0 fb1 fb2 fb3
  try clear fb0 fb1
  try clear fc0 fc1 fc2 fc3
  try clear fc0 fc1
  try clear fd0 fd1 fd2 fd3
  try clear fd0 fd1
  have V0_26 := Vl.hide (Vo.Bx.kept V0_25.out bb (by omega) (fun q => by have := UQX1.out _ q; omega))
  have QS_26 := Vl.hide (QS_25.out.kept bb (fun k q q' => by have := UQS.out _ q; have := UQX1.out _ q'; omega))
  have WV_26 := Vl.hide (Vo.Bx.kept WV_25.out bb (by omega) (fun q => by have := UQX1.out _ q; omega))
  have QX_26 := Vl.hide (QX_25.out.kept bb (fun k q q' => by have := UQX.out _ q; have := UQX1.out _ q'; omega))
  have X_26 := Vl.hide (Vo.Bx.kept X_25.out bb (by omega) (fun q => by have := UQX1.out _ q; omega))
  have QX1_26 := Vl.hide qs
  have QX2_26 := Vl.hide (QX2_25.out.kept bb (fun k q q' => by have := UQX2.out _ q; have := UQX1.out _ q'; omega))
  have QX3_26 := Vl.hide (QX3_25.out.kept bb (fun k q q' => by have := UQX3.out _ q; have := UQX1.out _ q'; omega))
  have QG_26 := Vl.hide (QG_25.out.kept bb (fun k q q' => by have := UQG.out _ q; have := UQX1.out _ q'; omega))
  have QGd_26 := Vl.hide (QGd_25.out.kept bb (fun k q q' => by have := UQGd.out _ q; have := UQX1.out _ q'; omega))
  have GV_26 := Vl.hide (Vo.Bx.kept GV_25.out bb (by omega) (fun q => by have := UQX1.out _ q; omega))
  obtain ⟨u0, u1⟩ := V0_26.out
  obtain ⟨v0, v1⟩ := WV_26.out
  obtain ⟨z0, z1⟩ := X_26.out
  obtain ⟨p0, p1⟩ := GV_26.out
  clear bb
  clear qs
  go_wp2_with fail
  refine (Vl.markIntS _ _ r2 r2 D2 (zx + r1) _ QX2_26.out lr2 (by omega) (by omega)).mono ?_; rintro e W27 ⟨rfl, qs, bb⟩
  have B27 := Vl.hide (B26.out.trans (Vl.Kept.below bb B26.out.size (fun k q => by have := UQX2.out _ q; omega)))
  have sz27 : W26.heap.size ≤ W27.heap.size := by have qz := bb.size; (try simp only [World.size_alloc] at qz); (try simp only [World.size_alloc]); exact qz
  try clear u0 u1 u2 u3
  try clear u0 u1
  try clear v0 v1 v2 v3
  try clear v0 v1
  try clear z0 z1 z2 z3
  try clear z0 z1
  try clear p0 p1 p2 p3
  try clear p0 p1
  try clear fa0 fa1 fa2 fa3
  try clear fa0 fa1
  try clear fb0 fb1 fb2 fb3
  try clear fb0 fb1
  try clear fc0 fc1 fc2 fc3
  try clear fc0 fc1
  try clear fd0 fd1 fd2 fd3
  try clear fd0 fd1
  have V0_27 := Vl.hide (Vo.Bx.kept V0_26.out bb (by omega) (fun q => by have := UQX2.out _ q; omega))
  have QS_27 := Vl.hide (QS_26.out.kept bb (fun k q q' => by have := UQS.out _ q; have := UQX2.out _ q'; omega))
  have WV_27 := Vl.hide (Vo.Bx.kept WV_26.out bb (by omega) (fun q => by have := UQX2.out _ q; omega))
  have QX_27 := Vl.hide (QX_26.out.kept bb (fun k q q' => by have := UQX.out _ q; have := UQX2.out _ q'; omega))
  have X_27 := Vl.hide (Vo.Bx.kept X_26.out bb (by omega) (fun q => by have := UQX2.out _ q; omega))
  have QX1_27 := Vl.hide (QX1_26.out.kept bb (fun k q q' => by have := UQX1.out _ q; have := UQX2.out _ q'; omega))
  have QX2_27 := Vl.hide qs
  have QX3_27 := Vl.hide (QX3_26.out.kept bb (fun k q q' => by have := UQX3.out _ q; have := UQX2.out _ q'; omega))
  have QG_27 := Vl.hide (QG_26.out.kept bb (fun k q q' => by have := UQG.out _ q; have := UQX2.out _ q'; omega))
  have QGd_27 := Vl.hide (QGd_26.out.kept bb (fun k q q' => by have := UQGd.out _ q; have := UQX2.out _ q'; omega))
  have GV_27 := Vl.hide (Vo.Bx.kept GV_26.out bb (by omega) (fun q => by have := UQX2.out _ q; omega))
  obtain ⟨u0, u1⟩ := V0_27.out
  obtain ⟨v0, v1⟩ := WV_27.out
  obtain ⟨z0, z1⟩ := X_27.out
  obtain ⟨p0, p1⟩ := GV_27.out
  clear bb
  clear qs
  go_wp2_with fail
  refine (Vl.markIntS _ _ r3 r3 D3 (zx + r1 + r2) _ QX3_27.out lr3 (by omega) (by omega)).mono ?_; rintro e W28 ⟨rfl, qs, bb⟩
  have B28 := Vl.hide (B27.out.trans (Vl.Kept.below bb B27.out.size (fun k q => by have := UQX3.out _ q; omega)))
  have sz28 : W27.heap.size ≤ W28.heap.size := by have qz := bb.size; (try simp only [World.size_alloc] at qz); (try simp only [World.size_alloc]); exact qz
  try clear u0 u1 u2 u3
  try clear u0 u1
  try clear v0 v1 v2 v3
  try clear v0 v1
  try clear z0 z1 z2 z3
  try clear z0 z1
  try clear p0 p1 p2 p3
  try clear p0 p1
  try clear fa0 fa1 fa2 fa3
  try clear fa0 fa1
  try clear fb0 fb1 fb2 fb3
  try clear fb0 fb1
  try clear fc0 fc1 fc2 fc3
  try clear fc0 fc1
  try clear fd0 fd1 fd2 fd3
  try clear fd0 fd1
  have V0_28 := Vl.hide (Vo.Bx.kept V0_27.out bb (by omega) (fun q => by have := UQX3.out _ q; omega))
  have QS_28 := Vl.hide (QS_27.out.kept bb (fun k q q' => by have := UQS.out _ q; have := UQX3.out _ q'; omega))
  have WV_28 := Vl.hide (Vo.Bx.kept WV_27.out bb (by omega) (fun q => by have := UQX3.out _ q; omega))
  have QX_28 := Vl.hide (QX_27.out.kept bb (fun k q q' => by have := UQX.out _ q; have := UQX3.out _ q'; omega))
  have X_28 := Vl.hide (Vo.Bx.kept X_27.out bb (by omega) (fun q => by have := UQX3.out _ q; omega))
  have QX1_28 := Vl.hide (QX1_27.out.kept bb (fun k q q' => by have := UQX1.out _ q; have := UQX3.out _ q'; omega))
  have QX2_28 := Vl.hide (QX2_27.out.kept bb (fun k q q' => by have := UQX2.out _ q; have := UQX3.out _ q'; omega))
  have QX3_28 := Vl.hide qs
  have QG_28 := Vl.hide (QG_27.out.kept bb (fun k q q' => by have := UQG.out _ q; have := UQX3.out _ q'; omega))
  have QGd_28 := Vl.hide (QGd_27.out.kept bb (fun k q q' => by have := UQGd.out _ q; have := UQX3.out _ q'; omega))
  have GV_28 := Vl.hide (Vo.Bx.kept GV_27.out bb (by omega) (fun q => by have := UQX3.out _ q; omega))
  obtain ⟨u0, u1⟩ := V0_28.out
  obtain ⟨v0, v1⟩ := WV_28.out
  obtain ⟨z0, z1⟩ := X_28.out
  obtain ⟨p0, p1⟩ := GV_28.out
  clear bb
  clear qs
  have neg1 : decide (zx + r1 + r2 + r3 < 0) = false := by rw [decide_eq_false_iff_not]; omega
  go_wp2_with fail
  refine (Vo.eqCache _ Ga Gb sa sb P.n P.m Gc1 Gc2 sc1 sc2 G1 G2 S1 S2 _ (Nat.le_refl _) QG_28.out.read.1 QG_28.out.read.2 (QS_28.out.2.1.mono QS_28.out.1) (QS_28.out.2.2.1.mono QS_28.out.1) (Vo.LSame.both TG1.out TS1.out) (Vo.LSame.both TG2.out TS2.out) pn pm NGa.out NGb.out).mono ?_; rintro e W29 ⟨rfl, bb⟩
  have B29 := Vl.hide (B28.out.trans (Below.mono bb B28.out.size))
  have sz29 : W28.heap.size ≤ W29.heap.size := by have qz := bb.size; (try simp only [World.size_alloc] at qz); (try simp only [World.size_alloc]); exact qz
  try clear u0 u1 u2 u3
  try clear u0 u1
  try clear v0 v1 v2 v3
  try clear v0 v1
  try clear z0 z1 z2 z3
  try clear z0 z1
  try clear p0 p1 p2 p3
  try clear p0 p1
  try clear fa0 fa1 fa2 fa3
  try clear fa0 fa1
  try clear fb0 fb1 fb2 fb3
  try clear fb0 fb1
  try clear fc0 fc1 fc2 fc3
  try clear fc0 fc1
  try clear fd0 fd1 fd2 fd3
  try clear fd0 fd1
  have V0_29 := Vl.hide (Vo.Bx.below V0_28.out bb (by first | omega | (simp; done) | (simp; omega)))
  have QS_29 := Vl.hide (QS_28.out.below bb)
  have WV_29 := Vl.hide (Vo.Bx.below WV_28.out bb (by first | omega | (simp; done) | (simp; omega)))
  have QG_29 := Vl.hide (QG_28.out.below bb)
  have QGd_29 := Vl.hide (QGd_28.out.below bb)
  have GV_29 := Vl.hide (Vo.Bx.below GV_28.out bb (by first | omega | (simp; done) | (simp; omega)))
  obtain ⟨u0, u1⟩ := V0_29.out
  obtain ⟨v0, v1⟩ := WV_29.out
  obtain ⟨z0, z1⟩ := GV_29.out
  clear bb
  go_wp2_with fail
  refine (Vl.eqIntS _ _ _ P.s Gdc sdc P.S P.S _ QGd_29.out.ints (QS_29.out.2.2.2.mono QS_29.out.1) (fun _ _ => rfl) (by omega)).mono ?_; rintro e W30 ⟨rfl, bb⟩
  have B30 := Vl.hide (B29.out.trans (Below.mono bb B29.out.size))
  have sz30 : W29.heap.size ≤ W30.heap.size := by have qz := bb.size; (try simp only [World.size_alloc] at qz); (try simp only [World.size_alloc]); exact qz
  try clear u0 u1 u2 u3
  try clear u0 u1
  try clear v0 v1 v2 v3
  try clear v0 v1
  try clear z0 z1 z2 z3
  try clear z0 z1
  try clear p0 p1 p2 p3
  try clear p0 p1
  try clear fa0 fa1 fa2 fa3
  try clear fa0 fa1
  try clear fb0 fb1 fb2 fb3
  try clear fb0 fb1
  try clear fc0 fc1 fc2 fc3
  try clear fc0 fc1
  try clear fd0 fd1 fd2 fd3
  try clear fd0 fd1
  have V0_30 := Vl.hide (Vo.Bx.below V0_29.out bb (by first | omega | (simp; done) | (simp; omega)))
  have QS_30 := Vl.hide (QS_29.out.below bb)
  have WV_30 := Vl.hide (Vo.Bx.below WV_29.out bb (by first | omega | (simp; done) | (simp; omega)))
  have QG_30 := Vl.hide (QG_29.out.below bb)
  have QGd_30 := Vl.hide (QGd_29.out.below bb)
  have GV_30 := Vl.hide (Vo.Bx.below GV_29.out bb (by first | omega | (simp; done) | (simp; omega)))
  obtain ⟨u0, u1⟩ := V0_30.out
  obtain ⟨v0, v1⟩ := WV_30.out
  obtain ⟨z0, z1⟩ := GV_30.out
  clear bb
  obtain ⟨zg, hzg⟩ : ∃ z : Int, z = 1 + Vo.lsum G1 P.n + Vo.lsum G2 P.m := ⟨_, rfl⟩
  have zg0 : 1 ≤ zg := by omega
  have zg1 : zg ≤ 33562625 := by have := NGc.out; have := NGd.out; omega
  have ZG := Vl.hide hzg
  clear hzg
  go_wp2_with fail
  refine (Vo.markCO QG_30.out Gc1 Gc2 1 zg ZG.out NGa.out NGb.out NGc.out NGd.out pn pm (by omega) (by omega)).mono ?_; rintro e W31 ⟨rfl, qs, bb⟩
  have B31 := Vl.hide (B30.out.trans (Vl.Kept.below bb B30.out.size (fun k q => by have := UQG.out _ q; omega)))
  have sz31 : W30.heap.size ≤ W31.heap.size := by have qz := bb.size; (try simp only [World.size_alloc] at qz); (try simp only [World.size_alloc]); exact qz
  try clear u0 u1 u2 u3
  try clear u0 u1
  try clear v0 v1 v2 v3
  try clear v0 v1
  try clear z0 z1 z2 z3
  try clear z0 z1
  try clear p0 p1 p2 p3
  try clear p0 p1
  try clear fa0 fa1 fa2 fa3
  try clear fa0 fa1
  try clear fb0 fb1 fb2 fb3
  try clear fb0 fb1
  try clear fc0 fc1 fc2 fc3
  try clear fc0 fc1
  try clear fd0 fd1 fd2 fd3
  try clear fd0 fd1
  have V0_31 := Vl.hide (Vo.Bx.kept V0_30.out bb (by omega) (fun q => by have := UQG.out _ q; omega))
  have QS_31 := Vl.hide (QS_30.out.kept bb (fun k q q' => by have := UQS.out _ q; have := UQG.out _ q'; omega))
  have WV_31 := Vl.hide (Vo.Bx.kept WV_30.out bb (by omega) (fun q => by have := UQG.out _ q; omega))
  have QG_31 := Vl.hide qs
  have QGd_31 := Vl.hide (QGd_30.out.kept bb (fun k q q' => by have := LTG.out _ q; have := UQG.out _ q'; omega))
  have GV_31 := Vl.hide (Vo.Bx.kept GV_30.out bb (by omega) (fun q => by have := UQG.out _ q; omega))
  obtain ⟨u0, u1⟩ := V0_31.out
  obtain ⟨v0, v1⟩ := WV_31.out
  obtain ⟨z0, z1⟩ := GV_31.out
  clear bb
  clear qs
  go_wp2_with fail
  refine (Vl.markIntS _ _ P.s Gdc P.S zg _ QGd_31.out (by omega) (by omega) (by omega)).mono ?_; rintro e W32 ⟨rfl, qs, bb⟩
  have B32 := Vl.hide (B31.out.trans (Vl.Kept.below bb B31.out.size (fun k q => by have := UQGd.out _ q; omega)))
  have sz32 : W31.heap.size ≤ W32.heap.size := by have qz := bb.size; (try simp only [World.size_alloc] at qz); (try simp only [World.size_alloc]); exact qz
  try clear u0 u1 u2 u3
  try clear u0 u1
  try clear v0 v1 v2 v3
  try clear v0 v1
  try clear z0 z1 z2 z3
  try clear z0 z1
  try clear p0 p1 p2 p3
  try clear p0 p1
  try clear fa0 fa1 fa2 fa3
  try clear fa0 fa1
  try clear fb0 fb1 fb2 fb3
  try clear fb0 fb1
  try clear fc0 fc1 fc2 fc3
  try clear fc0 fc1
  try clear fd0 fd1 fd2 fd3
  try clear fd0 fd1
  have V0_32 := Vl.hide (Vo.Bx.kept V0_31.out bb (by omega) (fun q => by have := UQGd.out _ q; omega))
  have QS_32 := Vl.hide (QS_31.out.kept bb (fun k q q' => by have := UQS.out _ q; have := UQGd.out _ q'; omega))
  have WV_32 := Vl.hide (Vo.Bx.kept WV_31.out bb (by omega) (fun q => by have := UQGd.out _ q; omega))
  have QG_32 := Vl.hide (QG_31.out.kept bb (fun k q q' => by have := LTG.out _ q'; have := UQG.out _ q; omega))
  have QGd_32 := Vl.hide qs
  have GV_32 := Vl.hide (Vo.Bx.kept GV_31.out bb (by omega) (fun q => by have := UQGd.out _ q; omega))
  obtain ⟨u0, u1⟩ := V0_32.out
  obtain ⟨v0, v1⟩ := WV_32.out
  obtain ⟨z0, z1⟩ := GV_32.out
  clear bb
  clear qs
  have neg2 : decide (zg < 0) = false := by rw [decide_eq_false_iff_not]; omega
  have neg3 : decide (zg + (P.s : Int) < 0) = false := by rw [decide_eq_false_iff_not]; omega
  go_wp2_with fail
  refine (Vo.heldCO QG_32.out Gc1 Gc2 zg ZG.out NGa.out NGb.out NGc.out NGd.out pn pm (by omega) (by omega)).mono ?_; rintro e W33 ⟨rfl, bb⟩
  have B33 := Vl.hide (B32.out.trans (Below.mono bb B32.out.size))
  have sz33 : W32.heap.size ≤ W33.heap.size := by have qz := bb.size; (try simp only [World.size_alloc] at qz); (try simp only [World.size_alloc]); exact qz
  try clear u0 u1 u2 u3
  try clear u0 u1
  try clear v0 v1 v2 v3
  try clear v0 v1
  try clear z0 z1 z2 z3
  try clear z0 z1
  try clear p0 p1 p2 p3
  try clear p0 p1
  try clear fa0 fa1 fa2 fa3
  try clear fa0 fa1
  try clear fb0 fb1 fb2 fb3
  try clear fb0 fb1
  try clear fc0 fc1 fc2 fc3
  try clear fc0 fc1
  try clear fd0 fd1 fd2 fd3
  try clear fd0 fd1
  have V0_33 := Vl.hide (Vo.Bx.below V0_32.out bb (by first | omega | (simp; done) | (simp; omega)))
  have QS_33 := Vl.hide (QS_32.out.below bb)
  have WV_33 := Vl.hide (Vo.Bx.below WV_32.out bb (by first | omega | (simp; done) | (simp; omega)))
  have QG_33 := Vl.hide (QG_32.out.below bb)
  have QGd_33 := Vl.hide (QGd_32.out.below bb)
  have GV_33 := Vl.hide (Vo.Bx.below GV_32.out bb (by first | omega | (simp; done) | (simp; omega)))
  obtain ⟨u0, u1⟩ := V0_33.out
  obtain ⟨v0, v1⟩ := WV_33.out
  obtain ⟨z0, z1⟩ := GV_33.out
  clear bb
  go_wp2_with fail
  refine (Vo.heldIntB _ _ P.s Gdc zg _ QGd_33.out.ints (by omega) (by omega) (by omega)).mono ?_; rintro e w' ⟨rfl, hq⟩; have hq := hq.symm; subst hq
  go_wp2_with fail
  refine (Vo.toCacheN w.heap.size a0 b0 r0 s0 cap0 dap0 L0 M0 _ B33.out.size (H0.out.below B33.out) (K0.out.below B33.out) lr0 ls0 NL.out NM.out).mono ?_; rintro e W34 ⟨gh, gh', Lgh, Mgh, rfl, al, am, qq, bb⟩
  have B34 := Vl.hide (B33.out.trans (Below.mono bb B33.out.size))
  have sz34 : W33.heap.size ≤ W34.heap.size := by have qz := bb.size; (try simp only [World.size_alloc] at qz); (try simp only [World.size_alloc]); exact qz
  try clear u0 u1 u2 u3
  try clear u0 u1
  try clear v0 v1 v2 v3
  try clear v0 v1
  try clear z0 z1 z2 z3
  try clear z0 z1
  try clear p0 p1 p2 p3
  try clear p0 p1
  try clear fa0 fa1 fa2 fa3
  try clear fa0 fa1
  try clear fb0 fb1 fb2 fb3
  try clear fb0 fb1
  try clear fc0 fc1 fc2 fc3
  try clear fc0 fc1
  try clear fd0 fd1 fd2 fd3
  try clear fd0 fd1
  have V0_34 := Vl.hide (Vo.Bx.below V0_33.out bb (by first | omega | (simp; done) | (simp; omega)))
  have QS_34 := Vl.hide (QS_33.out.below bb)
  have WV_34 := Vl.hide (Vo.Bx.below WV_33.out bb (by first | omega | (simp; done) | (simp; omega)))
  have QG_34 := Vl.hide (QG_33.out.below bb)
  have QGd_34 := Vl.hide (QGd_33.out.below bb)
  have GV_34 := Vl.hide (Vo.Bx.below GV_33.out bb (by first | omega | (simp; done) | (simp; omega)))
  obtain ⟨u0, u1⟩ := V0_34.out
  obtain ⟨v0, v1⟩ := WV_34.out
  obtain ⟨z0, z1⟩ := GV_34.out
  clear bb
  have Agh := Vl.hide al
  have Cgh := Vl.hide am
  clear al am
  try simp only [World.size_alloc] at qq
  have QH_34 := Vl.hide qq
  clear qq
  have uu := fun k q => QH_34.out.blk (k := k) q
  try simp only [World.size_alloc] at uu
  have UQH := Vl.hide uu
  clear uu
  go_wp2_with fail
  refine (Vl.toIntS w.heap.size a1 r1 cap1 D1 _ (H1.out.below B34.out) B34.out.size lr1).mono ?_; rintro e W35 ⟨rfl, q35, t35, bb⟩
  have B35 := Vl.hide (B34.out.trans (Below.mono bb B34.out.size))
  have sz35 : W34.heap.size ≤ W35.heap.size := by have qz := bb.size; (try simp only [World.size_alloc] at qz); (try simp only [World.size_alloc]); exact qz
  try clear u0 u1 u2 u3
  try clear u0 u1
  try clear v0 v1 v2 v3
  try clear v0 v1
  try clear z0 z1 z2 z3
  try clear z0 z1
  try clear p0 p1 p2 p3
  try clear p0 p1
  try clear fa0 fa1 fa2 fa3
  try clear fa0 fa1
  try clear fb0 fb1 fb2 fb3
  try clear fb0 fb1
  try clear fc0 fc1 fc2 fc3
  try clear fc0 fc1
  try clear fd0 fd1 fd2 fd3
  try clear fd0 fd1
  have V0_35 := Vl.hide (Vo.Bx.below V0_34.out bb (by first | omega | (simp; done) | (simp; omega)))
  have QS_35 := Vl.hide (QS_34.out.below bb)
  have WV_35 := Vl.hide (Vo.Bx.below WV_34.out bb (by first | omega | (simp; done) | (simp; omega)))
  have QG_35 := Vl.hide (QG_34.out.below bb)
  have QGd_35 := Vl.hide (QGd_34.out.below bb)
  have GV_35 := Vl.hide (Vo.Bx.below GV_34.out bb (by first | omega | (simp; done) | (simp; omega)))
  have QH_35 := Vl.hide (QH_34.out.below bb)
  obtain ⟨u0, u1⟩ := V0_35.out
  obtain ⟨v0, v1⟩ := WV_35.out
  obtain ⟨z0, z1⟩ := GV_35.out
  clear bb
  have qq : Vl.OwnL W34.heap.size W35 (some ⟨W34.heap.size, 0, none⟩) r1 D1 := .inr ⟨_, rfl, Nat.le_refl _, by have qz := q35; (try simp only [World.size_alloc] at qz); exact qz⟩
  clear q35
  have QH1_35 := Vl.hide qq
  clear qq
  have uu := fun k q => QH1_35.out.blk (b := k) q
  try simp only [World.size_alloc] at uu
  have UQH1 := Vl.hide uu
  clear uu
  go_wp2_with fail
  refine (Vl.toIntS w.heap.size a2 r2 cap2 D2 _ (H2.out.below B35.out) B35.out.size lr2).mono ?_; rintro e W36 ⟨rfl, q36, t36, bb⟩
  have B36 := Vl.hide (B35.out.trans (Below.mono bb B35.out.size))
  have sz36 : W35.heap.size ≤ W36.heap.size := by have qz := bb.size; (try simp only [World.size_alloc] at qz); (try simp only [World.size_alloc]); exact qz
  try clear u0 u1 u2 u3
  try clear u0 u1
  try clear v0 v1 v2 v3
  try clear v0 v1
  try clear z0 z1 z2 z3
  try clear z0 z1
  try clear p0 p1 p2 p3
  try clear p0 p1
  try clear fa0 fa1 fa2 fa3
  try clear fa0 fa1
  try clear fb0 fb1 fb2 fb3
  try clear fb0 fb1
  try clear fc0 fc1 fc2 fc3
  try clear fc0 fc1
  try clear fd0 fd1 fd2 fd3
  try clear fd0 fd1
  have V0_36 := Vl.hide (Vo.Bx.below V0_35.out bb (by first | omega | (simp; done) | (simp; omega)))
  have QS_36 := Vl.hide (QS_35.out.below bb)
  have WV_36 := Vl.hide (Vo.Bx.below WV_35.out bb (by first | omega | (simp; done) | (simp; omega)))
  have QG_36 := Vl.hide (QG_35.out.below bb)
  have QGd_36 := Vl.hide (QGd_35.out.below bb)
  have GV_36 := Vl.hide (Vo.Bx.below GV_35.out bb (by first | omega | (simp; done) | (simp; omega)))
  have QH_36 := Vl.hide (QH_35.out.below bb)
  have QH1_36 := Vl.hide (QH1_35.out.below bb)
  obtain ⟨u0, u1⟩ := V0_36.out
  obtain ⟨v0, v1⟩ := WV_36.out
  obtain ⟨z0, z1⟩ := GV_36.out
  clear bb
  have qq : Vl.OwnL W35.heap.size W36 (some ⟨W35.heap.size, 0, none⟩) r2 D2 := .inr ⟨_, rfl, Nat.le_refl _, by have qz := q36; (try simp only [World.size_alloc] at qz); exact qz⟩
  clear q36
  have QH2_36 := Vl.hide qq
  clear qq
  have uu := fun k q => QH2_36.out.blk (b := k) q
  try simp only [World.size_alloc] at uu
  have UQH2 := Vl.hide uu
  clear uu
  go_wp2_with fail
  refine (Vl.toIntS w.heap.size a3 r3 cap3 D3 _ (H3.out.below B36.out) B36.out.size lr3).mono ?_; rintro e W37 ⟨rfl, q37, t37, bb⟩
  have B37 := Vl.hide (B36.out.trans (Below.mono bb B36.out.size))
  have sz37 : W36.heap.size ≤ W37.heap.size := by have qz := bb.size; (try simp only [World.size_alloc] at qz); (try simp only [World.size_alloc]); exact qz
  try clear u0 u1 u2 u3
  try clear u0 u1
  try clear v0 v1 v2 v3
  try clear v0 v1
  try clear z0 z1 z2 z3
  try clear z0 z1
  try clear p0 p1 p2 p3
  try clear p0 p1
  try clear fa0 fa1 fa2 fa3
  try clear fa0 fa1
  try clear fb0 fb1 fb2 fb3
  try clear fb0 fb1
  try clear fc0 fc1 fc2 fc3
  try clear fc0 fc1
  try clear fd0 fd1 fd2 fd3
  try clear fd0 fd1
  have V0_37 := Vl.hide (Vo.Bx.below V0_36.out bb (by first | omega | (simp; done) | (simp; omega)))
  have QS_37 := Vl.hide (QS_36.out.below bb)
  have WV_37 := Vl.hide (Vo.Bx.below WV_36.out bb (by first | omega | (simp; done) | (simp; omega)))
  have QG_37 := Vl.hide (QG_36.out.below bb)
  have QGd_37 := Vl.hide (QGd_36.out.below bb)
  have GV_37 := Vl.hide (Vo.Bx.below GV_36.out bb (by first | omega | (simp; done) | (simp; omega)))
  have QH_37 := Vl.hide (QH_36.out.below bb)
  have QH1_37 := Vl.hide (QH1_36.out.below bb)
  have QH2_37 := Vl.hide (QH2_36.out.below bb)
  obtain ⟨u0, u1⟩ := V0_37.out
  obtain ⟨v0, v1⟩ := WV_37.out
  obtain ⟨z0, z1⟩ := GV_37.out
  clear bb
  have qq : Vl.OwnL W36.heap.size W37 (some ⟨W36.heap.size, 0, none⟩) r3 D3 := .inr ⟨_, rfl, Nat.le_refl _, by have qz := q37; (try simp only [World.size_alloc] at qz); exact qz⟩
  clear q37
  have QH3_37 := Vl.hide qq
  clear qq
  have uu := fun k q => QH3_37.out.blk (b := k) q
  try simp only [World.size_alloc] at uu
  have UQH3 := Vl.hide uu
  clear uu
  go_wp2_with fail
  refine (HI.out _ _ _ _ _ _ _ _ _ _ _ _ _ Agh.out Cgh.out QH_37.out QH1_37.out QH2_37.out QH3_37.out).mono ?_; rintro e W38 ⟨Ja, Jb, Jc1, Jc2, Jd, Jdc, J1, J2, JE, rfl, hE, qG, qD, hlt, t1, t2, bb⟩
  have B38 := Vl.hide (B37.out.trans (Below.mono bb B37.out.size))
  have sz38 : W37.heap.size ≤ W38.heap.size := by have qz := bb.size; (try simp only [World.size_alloc] at qz); (try simp only [World.size_alloc]); exact qz
  try clear u0 u1 u2 u3
  try clear u0 u1
  try clear v0 v1 v2 v3
  try clear v0 v1
  try clear z0 z1 z2 z3
  try clear z0 z1
  try clear p0 p1 p2 p3
  try clear p0 p1
  try clear fa0 fa1 fa2 fa3
  try clear fa0 fa1
  try clear fb0 fb1 fb2 fb3
  try clear fb0 fb1
  try clear fc0 fc1 fc2 fc3
  try clear fc0 fc1
  try clear fd0 fd1 fd2 fd3
  try clear fd0 fd1
  have V0_38 := Vl.hide (Vo.Bx.below V0_37.out bb (by first | omega | (simp; done) | (simp; omega)))
  have QS_38 := Vl.hide (QS_37.out.below bb)
  have WV_38 := Vl.hide (Vo.Bx.below WV_37.out bb (by first | omega | (simp; done) | (simp; omega)))
  have QG_38 := Vl.hide (QG_37.out.below bb)
  have QGd_38 := Vl.hide (QGd_37.out.below bb)
  have GV_38 := Vl.hide (Vo.Bx.below GV_37.out bb (by first | omega | (simp; done) | (simp; omega)))
  have QH_38 := Vl.hide (QH_37.out.below bb)
  have QH1_38 := Vl.hide (QH1_37.out.below bb)
  have QH2_38 := Vl.hide (QH2_37.out.below bb)
  have QH3_38 := Vl.hide (QH3_37.out.below bb)
  obtain ⟨u0, u1⟩ := V0_38.out
  obtain ⟨v0, v1⟩ := WV_38.out
  obtain ⟨z0, z1⟩ := GV_38.out
  clear bb
  have QJ_38 := Vl.hide qG
  clear qG
  have uu := fun k q => QJ_38.out.blk (k := k) q
  try simp only [World.size_alloc] at uu
  have UQJ := Vl.hide uu
  clear uu
  have QJd_38 := Vl.hide qD
  clear qD
  have uu := fun k q => QJd_38.out.blk (b := k) q
  try simp only [World.size_alloc] at uu
  have UQJd := Vl.hide uu
  clear uu
  have EJ := Vl.hide (show W37.heap.size ≤ JE by first | exact hE | (have qz := hE; simp only [World.size_alloc] at qz; exact qz))
  have LTJ := Vl.hide hlt
  have TJ1 := Vl.hide t1
  have TJ2 := Vl.hide t2
  clear hE hlt t1 t2
  obtain ⟨l1, l2⟩ := PS.out.one TJ1.out
  obtain ⟨l3, l4⟩ := PS.out.two TJ2.out
  have NJa := Vl.hide l1
  have NJb := Vl.hide l3
  have NJc := Vl.hide l2
  have NJd := Vl.hide l4
  clear l1 l2 l3 l4
  have bb := (Below.refl W38.heap.size W38).alloc (Nat.le_refl _) (.cells #[.slice Ja P.n Jc1, .slice Jb P.m Jc2] 27)
  have JV_39 := Vl.hide (Vo.bx_new W38 (.slice Ja P.n Jc1) (.slice Jb P.m Jc2) 27)
  have B39 := Vl.hide (B38.out.trans (Below.mono bb B38.out.size))
  have sz39 : W38.heap.size ≤ (W38.alloc (.cells #[.slice Ja P.n Jc1, .slice Jb P.m Jc2] 27)).heap.size := by have qz := bb.size; (try simp only [World.size_alloc] at qz); (try simp only [World.size_alloc]); exact qz
  simp only [World.size_alloc] at sz39
  try clear u0 u1 u2 u3
  try clear u0 u1
  try clear v0 v1 v2 v3
  try clear v0 v1
  try clear z0 z1 z2 z3
  try clear z0 z1
  try clear p0 p1 p2 p3
  try clear p0 p1
  try clear fa0 fa1 fa2 fa3
  try clear fa0 fa1
  try clear fb0 fb1 fb2 fb3
  try clear fb0 fb1
  try clear fc0 fc1 fc2 fc3
  try clear fc0 fc1
  try clear fd0 fd1 fd2 fd3
  try clear fd0 fd1
  have V0_39 := Vl.hide (Vo.Bx.below V0_38.out bb (by first | omega | (simp; done) | (simp; omega)))
  have QS_39 := Vl.hide (QS_38.out.below bb)
  have WV_39 := Vl.hide (Vo.Bx.below WV_38.out bb (by first | omega | (simp; done) | (simp; omega)))
  have QG_39 := Vl.hide (QG_38.out.below bb)
  have QGd_39 := Vl.hide (QGd_38.out.below bb)
  have GV_39 := Vl.hide (Vo.Bx.below GV_38.out bb (by first | omega | (simp; done) | (simp; omega)))
  have QH_39 := Vl.hide (QH_38.out.below bb)
  have QH1_39 := Vl.hide (QH1_38.out.below bb)
  have QH2_39 := Vl.hide (QH2_38.out.below bb)
  have QH3_39 := Vl.hide (QH3_38.out.below bb)
  have QJ_39 := Vl.hide (QJ_38.out.below bb)
  have QJd_39 := Vl.hide (QJd_38.out.below bb)
  obtain ⟨u0, u1⟩ := V0_39.out
  obtain ⟨v0, v1⟩ := WV_39.out
  obtain ⟨z0, z1⟩ := GV_39.out
  clear bb
  obtain ⟨p0, p1⟩ := JV_39.out
  go_wp2_with fail
  refine (Vo.eqCache _ Ja Jb sa sb P.n P.m Jc1 Jc2 sc1 sc2 J1 J2 S1 S2 _ (Nat.le_refl _) QJ_39.out.read.1 QJ_39.out.read.2 (QS_39.out.2.1.mono QS_39.out.1) (QS_39.out.2.2.1.mono QS_39.out.1) (Vo.LSame.both TJ1.out TS1.out) (Vo.LSame.both TJ2.out TS2.out) pn pm NJa.out NJb.out).mono ?_; rintro e W40 ⟨rfl, bb⟩
  have B40 := Vl.hide (B39.out.trans (Below.mono bb B39.out.size))
  have sz40 : (W38.heap.size + 1) ≤ W40.heap.size := by have qz := bb.size; (try simp only [World.size_alloc] at qz); (try simp only [World.size_alloc]); exact qz
  try clear u0 u1 u2 u3
  try clear u0 u1
  try clear v0 v1 v2 v3
  try clear v0 v1
  try clear z0 z1 z2 z3
  try clear z0 z1
  try clear p0 p1 p2 p3
  try clear p0 p1
  try clear fa0 fa1 fa2 fa3
  try clear fa0 fa1
  try clear fb0 fb1 fb2 fb3
  try clear fb0 fb1
  try clear fc0 fc1 fc2 fc3
  try clear fc0 fc1
  try clear fd0 fd1 fd2 fd3
  try clear fd0 fd1
  have V0_40 := Vl.hide (Vo.Bx.below V0_39.out bb (by first | omega | (simp; done) | (simp; omega)))
  have QS_40 := Vl.hide (QS_39.out.below bb)
  have WV_40 := Vl.hide (Vo.Bx.below WV_39.out bb (by first | omega | (simp; done) | (simp; omega)))
  have QG_40 := Vl.hide (QG_39.out.below bb)
  have QGd_40 := Vl.hide (QGd_39.out.below bb)
  have GV_40 := Vl.hide (Vo.Bx.below GV_39.out bb (by first | omega | (simp; done) | (simp; omega)))
  have QJ_40 := Vl.hide (QJ_39.out.below bb)
  have QJd_40 := Vl.hide (QJd_39.out.below bb)
  have JV_40 := Vl.hide (Vo.Bx.below JV_39.out bb (by first | omega | (simp; done) | (simp; omega)))
  obtain ⟨u0, u1⟩ := V0_40.out
  obtain ⟨v0, v1⟩ := WV_40.out
  obtain ⟨z0, z1⟩ := GV_40.out
  obtain ⟨p0, p1⟩ := JV_40.out
  clear bb
  go_wp2_with fail
  refine (Vl.eqIntS _ _ _ P.s Jdc sdc P.S P.S _ QJd_40.out.ints (QS_40.out.2.2.2.mono QS_40.out.1) (fun _ _ => rfl) (by omega)).mono ?_; rintro e W41 ⟨rfl, bb⟩
  have B41 := Vl.hide (B40.out.trans (Below.mono bb B40.out.size))
  have sz41 : W40.heap.size ≤ W41.heap.size := by have qz := bb.size; (try simp only [World.size_alloc] at qz); (try simp only [World.size_alloc]); exact qz
  try clear u0 u1 u2 u3
  try clear u0 u1
  try clear v0 v1 v2 v3
  try clear v0 v1
  try clear z0 z1 z2 z3
  try clear z0 z1
  try clear p0 p1 p2 p3
  try clear p0 p1
  try clear fa0 fa1 fa2 fa3
  try clear fa0 fa1
  try clear fb0 fb1 fb2 fb3
  try clear fb0 fb1
  try clear fc0 fc1 fc2 fc3
  try clear fc0 fc1
  try clear fd0 fd1 fd2 fd3
  try clear fd0 fd1
  have V0_41 := Vl.hide (Vo.Bx.below V0_40.out bb (by first | omega | (simp; done) | (simp; omega)))
  have QS_41 := Vl.hide (QS_40.out.below bb)
  have WV_41 := Vl.hide (Vo.Bx.below WV_40.out bb (by first | omega | (simp; done) | (simp; omega)))
  have QG_41 := Vl.hide (QG_40.out.below bb)
  have QGd_41 := Vl.hide (QGd_40.out.below bb)
  have GV_41 := Vl.hide (Vo.Bx.below GV_40.out bb (by first | omega | (simp; done) | (simp; omega)))
  have QJ_41 := Vl.hide (QJ_40.out.below bb)
  have QJd_41 := Vl.hide (QJd_40.out.below bb)
  have JV_41 := Vl.hide (Vo.Bx.below JV_40.out bb (by first | omega | (simp; done) | (simp; omega)))
  obtain ⟨u0, u1⟩ := V0_41.out
  obtain ⟨v0, v1⟩ := WV_41.out
  obtain ⟨z0, z1⟩ := GV_41.out
  obtain ⟨p0, p1⟩ := JV_41.out
  clear bb
  go_wp2_with fail
  refine (Vo.heldCO QG_41.out Gc1 Gc2 zg ZG.out NGa.out NGb.out NGc.out NGd.out pn pm (by omega) (by omega)).mono ?_; rintro e W42 ⟨rfl, bb⟩
  have B42 := Vl.hide (B41.out.trans (Below.mono bb B41.out.size))
  have sz42 : W41.heap.size ≤ W42.heap.size := by have qz := bb.size; (try simp only [World.size_alloc] at qz); (try simp only [World.size_alloc]); exact qz
  try clear u0 u1 u2 u3
  try clear u0 u1
  try clear v0 v1 v2 v3
  try clear v0 v1
  try clear z0 z1 z2 z3
  try clear z0 z1
  try clear p0 p1 p2 p3
  try clear p0 p1
  try clear fa0 fa1 fa2 fa3
  try clear fa0 fa1
  try clear fb0 fb1 fb2 fb3
  try clear fb0 fb1
  try clear fc0 fc1 fc2 fc3
  try clear fc0 fc1
  try clear fd0 fd1 fd2 fd3
  try clear fd0 fd1
  have V0_42 := Vl.hide (Vo.Bx.below V0_41.out bb (by first | omega | (simp; done) | (simp; omega)))
  have QG_42 := Vl.hide (QG_41.out.below bb)
  have QGd_42 := Vl.hide (QGd_41.out.below bb)
  have GV_42 := Vl.hide (Vo.Bx.below GV_41.out bb (by first | omega | (simp; done) | (simp; omega)))
  obtain ⟨u0, u1⟩ := V0_42.out
  obtain ⟨v0, v1⟩ := GV_42.out
  clear bb
  go_wp2_with fail
  refine (Vo.heldIntB _ _ P.s Gdc zg _ QGd_42.out.ints (by omega) (by omega) (by omega)).mono ?_; rintro e w' ⟨rfl, hq⟩; have hq := hq.symm; subst hq
  go_wp2_with fail
  go_ret
  exact ⟨rfl, B42.out⟩

set_option maxRecDepth 100000 in
theorem lifted (os : Os) (started : os.Started) (H : Type) (enc : TypeId × Value → H) :
    ReturnsInHanded {} Try.checked os 3 .any (Rows.fnExactAttendNextSpec.pre6 enc Try.prog Try.f3 Rows.fnExactAttendNextRow.domain false) (Rows.fnExactAttendNextSpec.post enc Try.prog Try.f3 false true false false) := by
  refine returnsInHanded_of_change (C := Try.checked) own started (by kernel_rfl) Try.func3
    (ChangeSpec.witness6 (enc := enc) (C := Try.checked) false ⟨#[], #[.agg #[.slice none 0 0, .slice none 0 0], .slice none 0 0, .slice none 0 0, .slice none 0 0, .int .i64 0], []⟩ 8 (by kernel_rfl) (by kernel_rfl) (by kernel_rfl) (by kernel_rfl)) ?_
  intro W base args ds gs before hval0 hW hcnd _
  have hval : ∀ (j : Nat) t v, Try.f3.params[j]? = some t → args[j]? = some v → Value.okWide Try.prog W .any base t v := hval0
  have hW' := hW
  obtain ⟨p, q, hA0, hV, rfl, hfz, hnd⟩ := hW
  have hA : DataW.TrodAll enc Try.prog W 0 (fun _ => true) true Try.f3.params.toList args.toList ds p := hA0
  rw [Try.params3] at hA hval
  obtain ⟨v0, vs0, d0, ds0, p0, q0, hargs, rfl, rfl, h0, rst0⟩ := trodAll_cons hA
  obtain ⟨v1, vs1, d1, ds1, p1, q1, rfl, rfl, rfl, h1, rst1⟩ := trodAll_cons rst0
  obtain ⟨v2, vs2, d2, ds2, p2, q2, rfl, rfl, rfl, h2, rst2⟩ := trodAll_cons rst1
  obtain ⟨v3, vs3, d3, ds3, p3, q3, rfl, rfl, rfl, h3, rst3⟩ := trodAll_cons rst2
  obtain ⟨v4, vs4, d4, ds4, p4, q4, rfl, rfl, rfl, h4, rst4⟩ := trodAll_cons rst3
  obtain ⟨rfl, rfl, rfl⟩ := trodAll_nil rst4
  obtain rfl : args = #[v0, v1, v2, v3, v4] := by cases args; simp_all
  obtain ⟨rfl, rfl⟩ := trodVars_none hV
  have k0 := h0
  have lt0 : ∀ x ∈ p0, x.block < W.heap.size := by obtain ⟨m, hm⟩ := k0; exact DataW.trod_lt m _ _ _ hm
  obtain ⟨c00, c01, u00, u01, m0, rfl, _, _, hy00, hy01⟩ := open_agg2 Try.underlying24 (by kernel_rfl) (by kernel_rfl) (hval 0 24 v0 rfl rfl) h0
  obtain ⟨a0, r0, cap0, rfl, w0⟩ := Vo.arg2_of hy00
  obtain ⟨b0, s0, dap0, rfl, y0⟩ := Vo.arg2_of hy01
  have k1 := h1
  have lt1 : ∀ x ∈ p1, x.block < W.heap.size := by obtain ⟨m, hm⟩ := k1; exact DataW.trod_lt m _ _ _ hm
  obtain ⟨a1, r1, cap1, rfl⟩ := okWide_slice Try.underlying25 (hval 1 25 v1 rfl rfl)
  have w1 : Vl.Arg W a1 r1 := Vl.arg_at h1
  have k2 := h2
  have lt2 : ∀ x ∈ p2, x.block < W.heap.size := by obtain ⟨m, hm⟩ := k2; exact DataW.trod_lt m _ _ _ hm
  obtain ⟨a2, r2, cap2, rfl⟩ := okWide_slice Try.underlying25 (hval 2 25 v2 rfl rfl)
  have w2 : Vl.Arg W a2 r2 := Vl.arg_at h2
  have k3 := h3
  have lt3 : ∀ x ∈ p3, x.block < W.heap.size := by obtain ⟨m, hm⟩ := k3; exact DataW.trod_lt m _ _ _ hm
  obtain ⟨a3, r3, cap3, rfl⟩ := okWide_slice Try.underlying25 (hval 3 25 v3 rfl rfl)
  have w3 : Vl.Arg W a3 r3 := Vl.arg_at h3
  have k4 := h4
  have lt4 : ∀ x ∈ p4, x.block < W.heap.size := by obtain ⟨m, hm⟩ := k4; exact DataW.trod_lt m _ _ _ hm
  obtain ⟨a4, rfl, e4, _, w4⟩ := open_int Try.underlying3 (hval 4 3 v4 rfl rfl) h4
  clear hA0 hval0
  refine (walk a0 r0 cap0 b0 s0 dap0 a1 r1 cap1 a2 r2 cap2 a3 r3 cap3 a4 w4 W w0 y0 w1 w2 w3).mono fun e W' ⟨he, bel⟩ => ?_
  subst he
  exact ⟨_, rfl, _, _, _, [], _, [], hW', trodAll_mk1 (shut_bool Try.underlying4 _), (trodAll_cons_mk (Below.trod laidOut (by kernel_rfl) (of_decide_eq_true (by kernel_rfl)) k0 bel lt0) (trodAll_cons_mk (Below.trod laidOut (by kernel_rfl) (of_decide_eq_true (by kernel_rfl)) k1 bel lt1) (trodAll_cons_mk (Below.trod laidOut (by kernel_rfl) (of_decide_eq_true (by kernel_rfl)) k2 bel lt2) (trodAll_cons_mk (Below.trod laidOut (by kernel_rfl) (of_decide_eq_true (by kernel_rfl)) k3 bel lt3) (trodAll_cons_mk (Below.trod laidOut (by kernel_rfl) (of_decide_eq_true (by kernel_rfl)) k4 bel lt4) trodAll_mk0))))), rfl, bel.frame _, fun h => by cases h⟩

theorem over : Rows.fnExactAttendNextRow.holds Try.pinned (OpenSpec.ofChange Rows.fnExactAttendNextSpec) :=
  OpenClaim.holds_of_wide 3 Try.f3 rfl rfl rfl rfl rfl rfl rfl ⟨rfl, rfl, rfl, rfl, rfl⟩ rfl rfl rfl rfl rfl (by kernel_rfl) Try.func3 (by kernel_rfl)
    (of_decide_eq_true (by kernel_rfl)) (by unfold Func.isWrapper; first | (rw [if_pos (by decide +kernel)]; kernel_rfl) | (rw [if_neg (by decide +kernel)]; exact ⟨rfl, rfl⟩))
    (fun os started H enc _ => lifted os started H enc)

theorem proved : Rows.FnExactAttendNextSaid := over
#print axioms proved
end Go.Proofs.Ytjlmbeachanlfaa.fnExactAttendNext
