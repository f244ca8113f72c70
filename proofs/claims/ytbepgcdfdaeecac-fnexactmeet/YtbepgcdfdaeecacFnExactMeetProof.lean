/-
  Proved: whatever the arguments, 'FnExactMeet' returns true: the landed function answers as its model, and what came in reads as it did. No condition.
-/
import Derived.Test.YtbepgcdfdaeecacRows
import Derived.Test.YtbepgcdfdaeecacVl
import Derived.Test.YtbepgcdfdaeecacVp
import Derived.Test.YtbepgcdfdaeecacVs
import Derived.Test.YtbepgcdfdaeecacVq
import Derived.Test.YtbepgcdfdaeecacVo
import Derived.Test.YtbepgcdfdaeecacVm
import Derived.Test.YtbepgcdfdaeecacVn
import Derived.Test.YtbepgcdfdaeecacVt
import Derived.Test.YtbepgcdfdaeecacVv
import Derived.Test.YtbepgcdfdaeecacVr
import Derived.Test.YtbepgcdfdaeecacVw
import Derived.Test.YtbepgcdfdaeecacVx
import Derived.Test.YtbepgcdfdaeecacVy
import Derived.Test.YtbepgcdfdaeecacVz
import Derived.Test.YtbepgcdfdaeecacVaa
import Derived.Test.YtbepgcdfdaeecacVab
import Derived.WalkKit
import Derived.ProofKit
import Derived.OpenShut
import Derived.ShutString
import Derived.ChangeOld
import Derived.Below
import Derived.Lib.SmallJoins
import Derived.OpenVars
import Derived.ChangeVars
import Derived.Deep.RegionHeld3
namespace Go.Proofs.Ytbepgcdfdaeecac.fnExactMeet
open Go.ChangeShapes Go.WideShapes Go.ChangeAt Go.RowKit Go.Joins
open Go.ChangeMaps (open_string shut_string)
set_option linter.unusedVariables false

theorem own : ownKnob Try.prog.godebug = none := by kernel_rfl
theorem laidOut : laidOutB Try.prog = true := by kernel_rfl

theorem walk (a0 : Option Addr) (r0 cap0 : Nat) (b0 : Option Addr) (s0 dap0 : Nat) (o0 n0 : Int) (wo0 : (Lit.int .i64 o0).wf = true) (wn0 : (Lit.int .i64 n0).wf = true) (a1 : Option Addr) (r1 cap1 : Nat) (b1 : Option Addr) (s1 dap1 : Nat) (o1 n1 : Int) (wo1 : (Lit.int .i64 o1).wf = true) (wn1 : (Lit.int .i64 n1).wf = true) (w : World) (w0 : Vl.Arg w a0 r0) (y0 : Vl.Arg w b0 s0) (w1 : Vl.Arg w a1 r1) (y1 : Vl.Arg w b1 s1) :
    Calls Try.prog 5 #[.agg #[.slice a0 r0 cap0, .slice b0 s0 dap0, .int .i64 o0, .int .i64 n0], .agg #[.slice a1 r1 cap1, .slice b1 s1 dap1, .int .i64 o1, .int .i64 n1]] w fun e w' => e = .returned (.bool true) ∧ Below w.heap.size w w' := by
  obtain ⟨hr0, D0, hh0⟩ := w0
  obtain ⟨hs0, S0, hk0⟩ := y0
  have H0 := Vl.hide hh0
  have K0 := Vl.hide hk0
  clear hh0 hk0
  obtain ⟨hr1, D1, hh1⟩ := w1
  obtain ⟨hs1, S1, hk1⟩ := y1
  have H1 := Vl.hide hh1
  have K1 := Vl.hide hk1
  clear hh1 hk1
  have B0 := Vl.hide (Below.refl w.heap.size w)
  have bb := (Below.refl w.heap.size w).alloc (Nat.le_refl _) (.cells #[.slice a0 r0 cap0, .slice b0 s0 dap0, .int .i64 o0, .int .i64 n0] 28)
  have V0_1 := Vl.hide (Vo.box_new w (.slice a0 r0 cap0) (.slice b0 s0 dap0) (.int .i64 o0) (.int .i64 n0) 28)
  have B1 := Vl.hide (B0.out.trans (Below.mono bb B0.out.size))
  have sz1 : w.heap.size ≤ (w.alloc (.cells #[.slice a0 r0 cap0, .slice b0 s0 dap0, .int .i64 o0, .int .i64 n0] 28)).heap.size := by have qz := bb.size; (try simp only [World.size_alloc] at qz); (try simp only [World.size_alloc]); exact qz
  simp only [World.size_alloc] at sz1
  try clear u0 u1 u2 u3
  try clear v0 v1 v2 v3
  try clear z0 z1 z2 z3
  try clear p0 p1 p2 p3
  clear bb
  obtain ⟨u0, u1, u2, u3⟩ := V0_1.out
  have bb := (Below.refl (w.alloc (.cells #[.slice a0 r0 cap0, .slice b0 s0 dap0, .int .i64 o0, .int .i64 n0] 28)).heap.size (w.alloc (.cells #[.slice a0 r0 cap0, .slice b0 s0 dap0, .int .i64 o0, .int .i64 n0] 28))).alloc (Nat.le_refl _) (.cells #[.slice a1 r1 cap1, .slice b1 s1 dap1, .int .i64 o1, .int .i64 n1] 28)
  have V1_2 := Vl.hide (Vo.box_new (w.alloc (.cells #[.slice a0 r0 cap0, .slice b0 s0 dap0, .int .i64 o0, .int .i64 n0] 28)) (.slice a1 r1 cap1) (.slice b1 s1 dap1) (.int .i64 o1) (.int .i64 n1) 28)
  simp only [World.size_alloc] at V1_2
  have B2 := Vl.hide (B1.out.trans (Below.mono bb B1.out.size))
  have sz2 : (w.heap.size + 1) ≤ ((w.alloc (.cells #[.slice a0 r0 cap0, .slice b0 s0 dap0, .int .i64 o0, .int .i64 n0] 28)).alloc (.cells #[.slice a1 r1 cap1, .slice b1 s1 dap1, .int .i64 o1, .int .i64 n1] 28)).heap.size := by have qz := bb.size; (try simp only [World.size_alloc] at qz); (try simp only [World.size_alloc]); exact qz
  simp only [World.size_alloc] at sz2
  try clear u0 u1 u2 u3
  try clear v0 v1 v2 v3
  try clear z0 z1 z2 z3
  try clear p0 p1 p2 p3
  have V0_2 := Vl.hide (Vo.Box.below V0_1.out bb (by first | omega | (simp; done) | (simp; omega)))
  obtain ⟨u0, u1, u2, u3⟩ := V0_2.out
  clear bb
  obtain ⟨v0, v1, v2, v3⟩ := V1_2.out
  go_enter Try.func5, Try.ntmps5
  go_wp2_with fail
  refine (Vo.szView a0 b0 r0 s0 cap0 dap0 o0 n0 1048576 _ (by omega) (by omega) hr0 hs0).mono ?_; rintro e W3 ⟨x0, rfl, hx0, bb⟩
  have B3 := Vl.hide (B2.out.trans (Below.mono bb B2.out.size))
  have sz3 : ((w.heap.size + 1) + 1) ≤ W3.heap.size := by have qz := bb.size; (try simp only [World.size_alloc] at qz); (try simp only [World.size_alloc]); exact qz
  try clear u0 u1 u2 u3
  try clear v0 v1 v2 v3
  try clear z0 z1 z2 z3
  try clear p0 p1 p2 p3
  have V0_3 := Vl.hide (Vo.Box.below V0_2.out bb (by first | omega | (simp; done) | (simp; omega)))
  have V1_3 := Vl.hide (Vo.Box.below V1_2.out bb (by first | omega | (simp; done) | (simp; omega)))
  obtain ⟨u0, u1, u2, u3⟩ := V0_3.out
  obtain ⟨v0, v1, v2, v3⟩ := V1_3.out
  clear bb
  by_cases hn0 : x0 < 0
  · clear hx0
    go_wp2_with fail
    go_ret
    exact ⟨rfl, B3.out⟩
  have hm0 : decide (x0 < 0) = false := by rw [decide_eq_false_iff_not]; exact hn0
  obtain ⟨lx0, lr0, ls0⟩ := hx0 (by omega)
  have lz0 : 0 ≤ x0 := by omega
  clear hn0 hx0 hr0 hs0
  go_wp2_with fail
  refine (Vo.szView a1 b1 r1 s1 cap1 dap1 o1 n1 x0 _ (by omega) (by omega) hr1 hs1).mono ?_; rintro e W4 ⟨x1, rfl, hx1, bb⟩
  have B4 := Vl.hide (B3.out.trans (Below.mono bb B3.out.size))
  have sz4 : W3.heap.size ≤ W4.heap.size := by have qz := bb.size; (try simp only [World.size_alloc] at qz); (try simp only [World.size_alloc]); exact qz
  try clear u0 u1 u2 u3
  try clear v0 v1 v2 v3
  try clear z0 z1 z2 z3
  try clear p0 p1 p2 p3
  have V0_4 := Vl.hide (Vo.Box.below V0_3.out bb (by first | omega | (simp; done) | (simp; omega)))
  have V1_4 := Vl.hide (Vo.Box.below V1_3.out bb (by first | omega | (simp; done) | (simp; omega)))
  obtain ⟨u0, u1, u2, u3⟩ := V0_4.out
  obtain ⟨v0, v1, v2, v3⟩ := V1_4.out
  clear bb
  by_cases hn1 : x1 < 0
  · clear hx1
    go_wp2_with fail
    go_ret
    exact ⟨rfl, B4.out⟩
  have hm1 : decide (x1 < 0) = false := by rw [decide_eq_false_iff_not]; exact hn1
  obtain ⟨lx1, lr1, ls1⟩ := hx1 (by omega)
  have lz1 : 0 ≤ x1 := by omega
  clear hn1 hx1 hr1 hs1
  have HT0 := Vl.hide (fun (W : World) (hW : Below W4.heap.size W4 W) => Vo.toView w.heap.size a0 b0 r0 s0 cap0 dap0 D0 S0 o0 n0 W (H0.out.below (B4.out.trans (hW.mono B4.out.size))) (K0.out.below (B4.out.trans (hW.mono B4.out.size))) (Nat.le_trans B4.out.size hW.size) lr0 ls0)
  have HT1 := Vl.hide (fun (W : World) (hW : Below W4.heap.size W4 W) => Vo.toView w.heap.size a1 b1 r1 s1 cap1 dap1 D1 S1 o1 n1 W (H1.out.below (B4.out.trans (hW.mono B4.out.size))) (K1.out.below (B4.out.trans (hW.mono B4.out.size))) (Nat.le_trans B4.out.size hW.size) lr1 ls1)
  have HM := Vl.hide (fun (W : World) (g5 g6 g7 g8 : Nat) (B B' : Nat) (q : Vo.VOwn B W (some ⟨g5, 0, none⟩) (some ⟨g6, 0, none⟩) r0 s0 D0 S0) (q' : Vo.VOwn B' W (some ⟨g7, 0, none⟩) (some ⟨g8, 0, none⟩) r1 s1 D1 S1) => Vo.specMeet W.heap.size (some ⟨g5, 0, none⟩) (some ⟨g6, 0, none⟩) (some ⟨g7, 0, none⟩) (some ⟨g8, 0, none⟩) r0 s0 r1 s1 r0 s0 r1 s1 D0 S0 D1 S1 o0 n0 o1 n1 W (Nat.le_refl _) q.d.ints q.t.ints q'.d.ints q'.t.ints lr0 ls0 lr1 ls1)
  go_wp2_with fail
  go_region_held3 (fun w' => w'.cell? ⟨w.heap.size, 0, none⟩ = some (.slice a0 r0 cap0) ∧ w'.cell? ⟨w.heap.size, 1, none⟩ = some (.slice b0 s0 dap0) ∧ w'.cell? ⟨w.heap.size, 2, none⟩ = some (.int .i64 o0) ∧ w'.cell? ⟨w.heap.size, 3, none⟩ = some (.int .i64 n0) ∧ w'.cell? ⟨(w.heap.size + 1), 0, none⟩ = some (.slice a1 r1 cap1) ∧ w'.cell? ⟨(w.heap.size + 1), 1, none⟩ = some (.slice b1 s1 dap1) ∧ w'.cell? ⟨(w.heap.size + 1), 2, none⟩ = some (.int .i64 o1) ∧ w'.cell? ⟨(w.heap.size + 1), 3, none⟩ = some (.int .i64 n1))
    ((try dsimp only) <;> (repeat' apply And.intro) <;> (repeat (first | with_reducible assumption | with_reducible apply Vo.drew_old | (with_reducible apply Vo.below_old; (focus (with_reducible assumption))))))
    (first
      | (go_at_call_of 14 (Value.slice a0 r0 cap0)
         refine (HT0.out _ (by exact (Below.refl _ _).drew)).mono ?_
         rintro e wA ⟨g5, g6, rfl, qA, bA⟩)
      | (go_at_call_of 14 (Value.slice a1 r1 cap1)
         refine (HT1.out _ (by exact (Below.refl _ W4).drew.trans bA)).mono ?_
         rintro e wB ⟨g7, g8, rfl, qB, bB⟩)
      | (go_at_call 17
         refine (HM.out _ g5 g6 g7 g8 _ _ (qA.below bB) qB).mono ?_
         rintro e wC ⟨rfl, bC⟩))
  have bb : Below W4.heap.size W4 wC := (((Below.refl _ W4).drew.trans bA).trans (Below.mono bB bA.size)).trans (Below.mono bC (Nat.le_trans bA.size bB.size))
  clear bA bB bC qA qB HT0 HT1 HM
  have B5 := Vl.hide (B4.out.trans (Below.mono bb B4.out.size))
  have sz5 : W4.heap.size ≤ wC.heap.size := by have qz := bb.size; (try simp only [World.size_alloc] at qz); (try simp only [World.size_alloc]); exact qz
  try clear u0 u1 u2 u3
  try clear v0 v1 v2 v3
  try clear z0 z1 z2 z3
  try clear p0 p1 p2 p3
  have V0_5 := Vl.hide (Vo.Box.below V0_4.out bb (by first | omega | (simp; done) | (simp; omega)))
  have V1_5 := Vl.hide (Vo.Box.below V1_4.out bb (by first | omega | (simp; done) | (simp; omega)))
  obtain ⟨u0, u1, u2, u3⟩ := V0_5.out
  obtain ⟨v0, v1, v2, v3⟩ := V1_5.out
  clear bb
  go_wp2_with fail
  refine (Vo.toView w.heap.size a0 b0 r0 s0 cap0 dap0 D0 S0 o0 n0 _ (H0.out.below B5.out) (K0.out.below B5.out) B5.out.size lr0 ls0).mono ?_; rintro e W6 ⟨gx, gx', rfl, q6, bb⟩
  have B6 := Vl.hide (B5.out.trans (Below.mono bb B5.out.size))
  have sz6 : wC.heap.size ≤ W6.heap.size := by have qz := bb.size; (try simp only [World.size_alloc] at qz); (try simp only [World.size_alloc]); exact qz
  try clear u0 u1 u2 u3
  try clear v0 v1 v2 v3
  try clear z0 z1 z2 z3
  try clear p0 p1 p2 p3
  have V0_6 := Vl.hide (Vo.Box.below V0_5.out bb (by first | omega | (simp; done) | (simp; omega)))
  have V1_6 := Vl.hide (Vo.Box.below V1_5.out bb (by first | omega | (simp; done) | (simp; omega)))
  obtain ⟨u0, u1, u2, u3⟩ := V0_6.out
  obtain ⟨v0, v1, v2, v3⟩ := V1_6.out
  clear bb
  have QX_6 := Vl.hide q6
  clear q6
  have UQX := Vl.hide (fun k q => QX_6.out.blk (k := k) q)
  have bb := (Below.refl W6.heap.size W6).alloc (Nat.le_refl _) (.cells #[.slice (some ⟨gx, 0, none⟩) r0 r0, .slice (some ⟨gx', 0, none⟩) s0 s0, .int .i64 o0, .int .i64 n0] 31)
  have X_7 := Vl.hide (Vo.box_new W6 (.slice (some ⟨gx, 0, none⟩) r0 r0) (.slice (some ⟨gx', 0, none⟩) s0 s0) (.int .i64 o0) (.int .i64 n0) 31)
  have B7 := Vl.hide (B6.out.trans (Below.mono bb B6.out.size))
  have sz7 : W6.heap.size ≤ (W6.alloc (.cells #[.slice (some ⟨gx, 0, none⟩) r0 r0, .slice (some ⟨gx', 0, none⟩) s0 s0, .int .i64 o0, .int .i64 n0] 31)).heap.size := by have qz := bb.size; (try simp only [World.size_alloc] at qz); (try simp only [World.size_alloc]); exact qz
  simp only [World.size_alloc] at sz7
  try clear u0 u1 u2 u3
  try clear v0 v1 v2 v3
  try clear z0 z1 z2 z3
  try clear p0 p1 p2 p3
  have V0_7 := Vl.hide (Vo.Box.below V0_6.out bb (by first | omega | (simp; done) | (simp; omega)))
  have V1_7 := Vl.hide (Vo.Box.below V1_6.out bb (by first | omega | (simp; done) | (simp; omega)))
  have QX_7 := Vl.hide (QX_6.out.below bb)
  obtain ⟨u0, u1, u2, u3⟩ := V0_7.out
  obtain ⟨v0, v1, v2, v3⟩ := V1_7.out
  clear bb
  obtain ⟨z0, z1, z2, z3⟩ := X_7.out
  go_wp2_with fail
  refine (Vo.toView w.heap.size a1 b1 r1 s1 cap1 dap1 D1 S1 o1 n1 _ (H1.out.below B7.out) (K1.out.below B7.out) B7.out.size lr1 ls1).mono ?_; rintro e W8 ⟨gy, gy', rfl, q8, bb⟩
  have B8 := Vl.hide (B7.out.trans (Below.mono bb B7.out.size))
  have sz8 : (W6.heap.size + 1) ≤ W8.heap.size := by have qz := bb.size; (try simp only [World.size_alloc] at qz); (try simp only [World.size_alloc]); exact qz
  try clear u0 u1 u2 u3
  try clear v0 v1 v2 v3
  try clear z0 z1 z2 z3
  try clear p0 p1 p2 p3
  have V0_8 := Vl.hide (Vo.Box.below V0_7.out bb (by first | omega | (simp; done) | (simp; omega)))
  have V1_8 := Vl.hide (Vo.Box.below V1_7.out bb (by first | omega | (simp; done) | (simp; omega)))
  have QX_8 := Vl.hide (QX_7.out.below bb)
  have X_8 := Vl.hide (Vo.Box.below X_7.out bb (by first | omega | (simp; done) | (simp; omega)))
  obtain ⟨u0, u1, u2, u3⟩ := V0_8.out
  obtain ⟨v0, v1, v2, v3⟩ := V1_8.out
  obtain ⟨z0, z1, z2, z3⟩ := X_8.out
  clear bb
  have QY_8 := Vl.hide q8
  clear q8
  have UQY := Vl.hide (fun k q => QY_8.out.blk (k := k) q)
  have bb := (Below.refl W8.heap.size W8).alloc (Nat.le_refl _) (.cells #[.slice (some ⟨gy, 0, none⟩) r1 r1, .slice (some ⟨gy', 0, none⟩) s1 s1, .int .i64 o1, .int .i64 n1] 31)
  have Y_9 := Vl.hide (Vo.box_new W8 (.slice (some ⟨gy, 0, none⟩) r1 r1) (.slice (some ⟨gy', 0, none⟩) s1 s1) (.int .i64 o1) (.int .i64 n1) 31)
  have B9 := Vl.hide (B8.out.trans (Below.mono bb B8.out.size))
  have sz9 : W8.heap.size ≤ (W8.alloc (.cells #[.slice (some ⟨gy, 0, none⟩) r1 r1, .slice (some ⟨gy', 0, none⟩) s1 s1, .int .i64 o1, .int .i64 n1] 31)).heap.size := by have qz := bb.size; (try simp only [World.size_alloc] at qz); (try simp only [World.size_alloc]); exact qz
  simp only [World.size_alloc] at sz9
  try clear u0 u1 u2 u3
  try clear v0 v1 v2 v3
  try clear z0 z1 z2 z3
  try clear p0 p1 p2 p3
  have V0_9 := Vl.hide (Vo.Box.below V0_8.out bb (by first | omega | (simp; done) | (simp; omega)))
  have V1_9 := Vl.hide (Vo.Box.below V1_8.out bb (by first | omega | (simp; done) | (simp; omega)))
  have QX_9 := Vl.hide (QX_8.out.below bb)
  have X_9 := Vl.hide (Vo.Box.below X_8.out bb (by first | omega | (simp; done) | (simp; omega)))
  have QY_9 := Vl.hide (QY_8.out.below bb)
  obtain ⟨u0, u1, u2, u3⟩ := V0_9.out
  obtain ⟨v0, v1, v2, v3⟩ := V1_9.out
  obtain ⟨z0, z1, z2, z3⟩ := X_9.out
  clear bb
  obtain ⟨p0, p1, p2, p3⟩ := Y_9.out
  go_wp2_with fail
  refine (Vo.meet _ _ _ _ _ r0 s0 r1 s1 _ _ _ _ D0 S0 D1 S1 o0 n0 o1 n1 _ (Nat.le_refl _) QX_9.out.d.ints QX_9.out.t.ints QY_9.out.d.ints QY_9.out.t.ints lr0 ls0 lr1 ls1).mono ?_; rintro e W10 ⟨rfl, bb⟩
  have B10 := Vl.hide (B9.out.trans (Below.mono bb B9.out.size))
  have sz10 : (W8.heap.size + 1) ≤ W10.heap.size := by have qz := bb.size; (try simp only [World.size_alloc] at qz); (try simp only [World.size_alloc]); exact qz
  try clear u0 u1 u2 u3
  try clear v0 v1 v2 v3
  try clear z0 z1 z2 z3
  try clear p0 p1 p2 p3
  have V0_10 := Vl.hide (Vo.Box.below V0_9.out bb (by first | omega | (simp; done) | (simp; omega)))
  have V1_10 := Vl.hide (Vo.Box.below V1_9.out bb (by first | omega | (simp; done) | (simp; omega)))
  have QX_10 := Vl.hide (QX_9.out.below bb)
  have X_10 := Vl.hide (Vo.Box.below X_9.out bb (by first | omega | (simp; done) | (simp; omega)))
  have QY_10 := Vl.hide (QY_9.out.below bb)
  have Y_10 := Vl.hide (Vo.Box.below Y_9.out bb (by first | omega | (simp; done) | (simp; omega)))
  obtain ⟨u0, u1, u2, u3⟩ := V0_10.out
  obtain ⟨v0, v1, v2, v3⟩ := V1_10.out
  obtain ⟨z0, z1, z2, z3⟩ := X_10.out
  obtain ⟨p0, p1, p2, p3⟩ := Y_10.out
  clear bb
  have HT := Vl.hide (fun (W : World) (hW : Below W10.heap.size W10 W) => Vo.toView w.heap.size a0 b0 r0 s0 cap0 dap0 D0 S0 o0 n0 W (H0.out.below (B10.out.trans (hW.mono B10.out.size))) (K0.out.below (B10.out.trans (hW.mono B10.out.size))) (Nat.le_trans B10.out.size hW.size) lr0 ls0)
  have HE := Vl.hide (fun (W : World) (hW : Below W10.heap.size W10 W) (g5 g6 : Nat) (B : Nat) (q : Vo.VOwn B W (some ⟨g5, 0, none⟩) (some ⟨g6, 0, none⟩) r0 s0 D0 S0) => Vo.eqView W.heap.size (some ⟨gx, 0, none⟩) (some ⟨gx', 0, none⟩) (some ⟨g5, 0, none⟩) (some ⟨g6, 0, none⟩) r0 s0 r0 s0 r0 s0 D0 S0 D0 S0 o0 n0 W (Nat.le_refl _) (QX_10.out.below hW).d.ints (QX_10.out.below hW).t.ints q.d.ints q.t.ints (fun _ _ => rfl) (fun _ _ => rfl) lr0 ls0)
  go_wp2_with fail
  go_region_held3 (fun w' => w'.cell? ⟨W6.heap.size, 0, none⟩ = some (.slice (some ⟨gx, 0, none⟩) r0 r0) ∧ w'.cell? ⟨W6.heap.size, 1, none⟩ = some (.slice (some ⟨gx', 0, none⟩) s0 s0) ∧ w'.cell? ⟨W6.heap.size, 2, none⟩ = some (.int .i64 o0) ∧ w'.cell? ⟨W6.heap.size, 3, none⟩ = some (.int .i64 n0) ∧ w'.cell? ⟨w.heap.size, 0, none⟩ = some (.slice a0 r0 cap0) ∧ w'.cell? ⟨w.heap.size, 1, none⟩ = some (.slice b0 s0 dap0) ∧ w'.cell? ⟨w.heap.size, 2, none⟩ = some (.int .i64 o0) ∧ w'.cell? ⟨w.heap.size, 3, none⟩ = some (.int .i64 n0))
    ((try dsimp only) <;> (repeat' apply And.intro) <;> (repeat (first | with_reducible assumption | with_reducible apply Vo.drew_old | (with_reducible apply Vo.below_old; (focus (with_reducible assumption))))))
    (first
      | (go_at_call 14
         refine (HT.out _ (by exact (Below.refl _ _).drew)).mono ?_
         rintro e wA ⟨g5, g6, rfl, qA, bA⟩)
      | (go_at_call 16
         refine (HE.out _ (by exact (Below.refl _ W10).drew.trans bA) g5 g6 _ qA).mono ?_
         rintro e wB11 ⟨rfl, bB⟩))
  have bb : Below W10.heap.size W10 wB11 := ((Below.refl _ W10).drew.trans bA).trans (bB.mono (Nat.le_trans (Nat.le_refl _) bA.size))
  clear bA bB qA HT HE
  have B11 := Vl.hide (B10.out.trans (Below.mono bb B10.out.size))
  have sz11 : W10.heap.size ≤ wB11.heap.size := by have qz := bb.size; (try simp only [World.size_alloc] at qz); (try simp only [World.size_alloc]); exact qz
  try clear u0 u1 u2 u3
  try clear v0 v1 v2 v3
  try clear z0 z1 z2 z3
  try clear p0 p1 p2 p3
  have V0_11 := Vl.hide (Vo.Box.below V0_10.out bb (by first | omega | (simp; done) | (simp; omega)))
  have V1_11 := Vl.hide (Vo.Box.below V1_10.out bb (by first | omega | (simp; done) | (simp; omega)))
  have QX_11 := Vl.hide (QX_10.out.below bb)
  have X_11 := Vl.hide (Vo.Box.below X_10.out bb (by first | omega | (simp; done) | (simp; omega)))
  have QY_11 := Vl.hide (QY_10.out.below bb)
  have Y_11 := Vl.hide (Vo.Box.below Y_10.out bb (by first | omega | (simp; done) | (simp; omega)))
  obtain ⟨u0, u1, u2, u3⟩ := V0_11.out
  obtain ⟨v0, v1, v2, v3⟩ := V1_11.out
  obtain ⟨z0, z1, z2, z3⟩ := X_11.out
  obtain ⟨p0, p1, p2, p3⟩ := Y_11.out
  clear bb
  have HT := Vl.hide (fun (W : World) (hW : Below wB11.heap.size wB11 W) => Vo.toView w.heap.size a1 b1 r1 s1 cap1 dap1 D1 S1 o1 n1 W (H1.out.below (B11.out.trans (hW.mono B11.out.size))) (K1.out.below (B11.out.trans (hW.mono B11.out.size))) (Nat.le_trans B11.out.size hW.size) lr1 ls1)
  have HE := Vl.hide (fun (W : World) (hW : Below wB11.heap.size wB11 W) (g5 g6 : Nat) (B : Nat) (q : Vo.VOwn B W (some ⟨g5, 0, none⟩) (some ⟨g6, 0, none⟩) r1 s1 D1 S1) => Vo.eqView W.heap.size (some ⟨gy, 0, none⟩) (some ⟨gy', 0, none⟩) (some ⟨g5, 0, none⟩) (some ⟨g6, 0, none⟩) r1 s1 r1 s1 r1 s1 D1 S1 D1 S1 o1 n1 W (Nat.le_refl _) (QY_11.out.below hW).d.ints (QY_11.out.below hW).t.ints q.d.ints q.t.ints (fun _ _ => rfl) (fun _ _ => rfl) lr1 ls1)
  go_wp2_with fail
  go_region_held3 (fun w' => w'.cell? ⟨W8.heap.size, 0, none⟩ = some (.slice (some ⟨gy, 0, none⟩) r1 r1) ∧ w'.cell? ⟨W8.heap.size, 1, none⟩ = some (.slice (some ⟨gy', 0, none⟩) s1 s1) ∧ w'.cell? ⟨W8.heap.size, 2, none⟩ = some (.int .i64 o1) ∧ w'.cell? ⟨W8.heap.size, 3, none⟩ = some (.int .i64 n1) ∧ w'.cell? ⟨(w.heap.size + 1), 0, none⟩ = some (.slice a1 r1 cap1) ∧ w'.cell? ⟨(w.heap.size + 1), 1, none⟩ = some (.slice b1 s1 dap1) ∧ w'.cell? ⟨(w.heap.size + 1), 2, none⟩ = some (.int .i64 o1) ∧ w'.cell? ⟨(w.heap.size + 1), 3, none⟩ = some (.int .i64 n1))
    ((try dsimp only) <;> (repeat' apply And.intro) <;> (repeat (first | with_reducible assumption | with_reducible apply Vo.drew_old | (with_reducible apply Vo.below_old; (focus (with_reducible assumption))))))
    (first
      | (go_at_call 14
         refine (HT.out _ (by exact (Below.refl _ _).drew)).mono ?_
         rintro e wA ⟨g5, g6, rfl, qA, bA⟩)
      | (go_at_call 16
         refine (HE.out _ (by exact (Below.refl _ wB11).drew.trans bA) g5 g6 _ qA).mono ?_
         rintro e wB12 ⟨rfl, bB⟩))
  have bb : Below wB11.heap.size wB11 wB12 := ((Below.refl _ wB11).drew.trans bA).trans (bB.mono (Nat.le_trans (Nat.le_refl _) bA.size))
  clear bA bB qA HT HE
  have B12 := Vl.hide (B11.out.trans (Below.mono bb B11.out.size))
  have sz12 : wB11.heap.size ≤ wB12.heap.size := by have qz := bb.size; (try simp only [World.size_alloc] at qz); (try simp only [World.size_alloc]); exact qz
  try clear u0 u1 u2 u3
  try clear v0 v1 v2 v3
  try clear z0 z1 z2 z3
  try clear p0 p1 p2 p3
  have V0_12 := Vl.hide (Vo.Box.below V0_11.out bb (by first | omega | (simp; done) | (simp; omega)))
  have V1_12 := Vl.hide (Vo.Box.below V1_11.out bb (by first | omega | (simp; done) | (simp; omega)))
  have QX_12 := Vl.hide (QX_11.out.below bb)
  have X_12 := Vl.hide (Vo.Box.below X_11.out bb (by first | omega | (simp; done) | (simp; omega)))
  have QY_12 := Vl.hide (QY_11.out.below bb)
  have Y_12 := Vl.hide (Vo.Box.below Y_11.out bb (by first | omega | (simp; done) | (simp; omega)))
  obtain ⟨u0, u1, u2, u3⟩ := V0_12.out
  obtain ⟨v0, v1, v2, v3⟩ := V1_12.out
  obtain ⟨z0, z1, z2, z3⟩ := X_12.out
  obtain ⟨p0, p1, p2, p3⟩ := Y_12.out
  clear bb
  go_wp2_with fail
  go_ret
  exact ⟨rfl, B12.out⟩

set_option maxRecDepth 100000 in
theorem lifted (os : Os) (started : os.Started) (H : Type) (enc : TypeId × Value → H) :
    ReturnsInHanded {} Try.checked os 5 .any (Rows.fnExactMeetSpec.pre6 enc Try.prog Try.f5 Rows.fnExactMeetRow.domain false) (Rows.fnExactMeetSpec.post enc Try.prog Try.f5 false true false false) := by
  refine returnsInHanded_of_change (C := Try.checked) own started (by kernel_rfl) Try.func5
    (ChangeSpec.witness6 (enc := enc) (C := Try.checked) false ⟨#[], #[.agg #[.slice none 0 0, .slice none 0 0, .int .i64 0, .int .i64 0], .agg #[.slice none 0 0, .slice none 0 0, .int .i64 0, .int .i64 0]], []⟩ 8 (by kernel_rfl) (by kernel_rfl) (by kernel_rfl) (by kernel_rfl)) ?_
  intro W base args ds gs before hval0 hW hcnd _
  have hval : ∀ (j : Nat) t v, Try.f5.params[j]? = some t → args[j]? = some v → Value.okWide Try.prog W .any base t v := hval0
  have hW' := hW
  obtain ⟨p, q, hA0, hV, rfl, hfz, hnd⟩ := hW
  have hA : DataW.TrodAll enc Try.prog W 0 (fun _ => true) true Try.f5.params.toList args.toList ds p := hA0
  rw [Try.params5] at hA hval
  obtain ⟨v0, vs0, d0, ds0, p0, q0, hargs, rfl, rfl, h0, rst0⟩ := trodAll_cons hA
  obtain ⟨v1, vs1, d1, ds1, p1, q1, rfl, rfl, rfl, h1, rst1⟩ := trodAll_cons rst0
  obtain ⟨rfl, rfl, rfl⟩ := trodAll_nil rst1
  obtain rfl : args = #[v0, v1] := by cases args; simp_all
  obtain ⟨rfl, rfl⟩ := trodVars_none hV
  have k0 := h0
  have lt0 : ∀ x ∈ p0, x.block < W.heap.size := by obtain ⟨m, hm⟩ := k0; exact DataW.trod_lt m _ _ _ hm
  obtain ⟨c00, c01, c02, c03, u00, u01, u02, u03, m0, rfl, _, _, hy00, hy01, hy02, hy03⟩ := open_agg4 Try.underlying28 (by kernel_rfl) (by kernel_rfl) (hval 0 28 v0 rfl rfl) h0
  obtain ⟨a0, r0, cap0, rfl, w0⟩ := Vl.arg_of hy00
  obtain ⟨b0, s0, dap0, rfl, y0⟩ := Vl.arg_of hy01
  obtain ⟨o0, e02, _, wo0⟩ := DataW.trod_int Try.underlying3 hy02
  obtain ⟨n0, e03, _, wn0⟩ := DataW.trod_int Try.underlying3 hy03
  simp at e02 e03
  subst e02 e03
  have k1 := h1
  have lt1 : ∀ x ∈ p1, x.block < W.heap.size := by obtain ⟨m, hm⟩ := k1; exact DataW.trod_lt m _ _ _ hm
  obtain ⟨c10, c11, c12, c13, u10, u11, u12, u13, m1, rfl, _, _, hy10, hy11, hy12, hy13⟩ := open_agg4 Try.underlying28 (by kernel_rfl) (by kernel_rfl) (hval 1 28 v1 rfl rfl) h1
  obtain ⟨a1, r1, cap1, rfl, w1⟩ := Vl.arg_of hy10
  obtain ⟨b1, s1, dap1, rfl, y1⟩ := Vl.arg_of hy11
  obtain ⟨o1, e12, _, wo1⟩ := DataW.trod_int Try.underlying3 hy12
  obtain ⟨n1, e13, _, wn1⟩ := DataW.trod_int Try.underlying3 hy13
  simp at e12 e13
  subst e12 e13
  clear hA0 hval0
  refine (walk a0 r0 cap0 b0 s0 dap0 o0 n0 wo0 wn0 a1 r1 cap1 b1 s1 dap1 o1 n1 wo1 wn1 W w0 y0 w1 y1).mono fun e W' ⟨he, bel⟩ => ?_
  subst he
  exact ⟨_, rfl, _, _, _, [], _, [], hW', trodAll_mk1 (shut_bool Try.underlying4 _), (trodAll_cons_mk (Below.trod laidOut (by kernel_rfl) (of_decide_eq_true (by kernel_rfl)) k0 bel lt0) (trodAll_cons_mk (Below.trod laidOut (by kernel_rfl) (of_decide_eq_true (by kernel_rfl)) k1 bel lt1) trodAll_mk0)), rfl, bel.frame _, fun h => by cases h⟩

theorem over : Rows.fnExactMeetRow.holds Try.pinned (OpenSpec.ofChange Rows.fnExactMeetSpec) :=
  OpenClaim.holds_of_wide 5 Try.f5 rfl rfl rfl rfl rfl rfl rfl ⟨rfl, rfl, rfl, rfl, rfl⟩ rfl rfl rfl rfl rfl (by kernel_rfl) Try.func5 (by kernel_rfl)
    (of_decide_eq_true (by kernel_rfl)) (by unfold Func.isWrapper; first | (rw [if_pos (by decide +kernel)]; kernel_rfl) | (rw [if_neg (by decide +kernel)]; exact ⟨rfl, rfl⟩))
    (fun os started H enc _ => lifted os started H enc)

theorem proved : Rows.FnExactMeetSaid := over
#print axioms proved
end Go.Proofs.Ytbepgcdfdaeecac.fnExactMeet
