/-
  Proved: whatever the arguments, 'FnExactPlaces' returns true: the landed function answers as its model, and what came in reads as it did. No condition.
-/
import Derived.Test.YtbepgcdfdaeecaaRows
import Derived.Test.YtbepgcdfdaeecaaVl
import Derived.Test.YtbepgcdfdaeecaaVp
import Derived.Test.YtbepgcdfdaeecaaVs
import Derived.Test.YtbepgcdfdaeecaaVq
import Derived.Test.YtbepgcdfdaeecaaVo
import Derived.Test.YtbepgcdfdaeecaaVm
import Derived.Test.YtbepgcdfdaeecaaVn
import Derived.Test.YtbepgcdfdaeecaaVt
import Derived.Test.YtbepgcdfdaeecaaVv
import Derived.Test.YtbepgcdfdaeecaaVc
import Derived.Test.YtbepgcdfdaeecaaVr
import Derived.Test.YtbepgcdfdaeecaaVw
import Derived.Test.YtbepgcdfdaeecaaVx
import Derived.Test.YtbepgcdfdaeecaaVy
import Derived.Test.YtbepgcdfdaeecaaVz
import Derived.Test.YtbepgcdfdaeecaaVac
import Derived.WalkKit
import Derived.ProofKit
import Derived.OpenShut
import Derived.ShutString
import Derived.ChangeOld
import Derived.Below
import Derived.Lib.SmallJoins
import Derived.OpenVars
import Derived.ChangeVars
import Derived.Deep.RegionHeld3
namespace Go.Proofs.Ytbepgcdfdaeecaa.fnExactPlaces
open Go.ChangeShapes Go.WideShapes Go.ChangeAt Go.RowKit Go.Joins
open Go.ChangeMaps (open_string shut_string)
set_option linter.unusedVariables false

theorem own : ownKnob Try.prog.godebug = none := by kernel_rfl
theorem laidOut : laidOutB Try.prog = true := by kernel_rfl

theorem walk (a0 : Option Addr) (r0 cap0 : Nat) (b0 : Option Addr) (s0 dap0 : Nat) (o0 n0 : Int) (wo0 : (Lit.int .i64 o0).wf = true) (wn0 : (Lit.int .i64 n0).wf = true) (w : World) (w0 : Vl.Arg w a0 r0) (y0 : Vl.Arg w b0 s0) :
    Calls Try.prog 8 #[.agg #[.slice a0 r0 cap0, .slice b0 s0 dap0, .int .i64 o0, .int .i64 n0]] w fun e w' => e = .returned (.bool true) ∧ Below w.heap.size w w' := by
  obtain ⟨hr0, D0, hh0⟩ := w0
  obtain ⟨hs0, S0, hk0⟩ := y0
  have H0 := Vl.hide hh0
  have K0 := Vl.hide hk0
  clear hh0 hk0
  have B0 := Vl.hide (Below.refl w.heap.size w)
  have bb := (Below.refl w.heap.size w).alloc (Nat.le_refl _) (.cells #[.slice a0 r0 cap0, .slice b0 s0 dap0, .int .i64 o0, .int .i64 n0] 27)
  have V0_1 := Vl.hide (Vo.box_new w (.slice a0 r0 cap0) (.slice b0 s0 dap0) (.int .i64 o0) (.int .i64 n0) 27)
  have B1 := Vl.hide (B0.out.trans (Below.mono bb B0.out.size))
  have sz1 : w.heap.size ≤ (w.alloc (.cells #[.slice a0 r0 cap0, .slice b0 s0 dap0, .int .i64 o0, .int .i64 n0] 27)).heap.size := by have qz := bb.size; (try simp only [World.size_alloc] at qz); (try simp only [World.size_alloc]); exact qz
  simp only [World.size_alloc] at sz1
  try clear u0 u1 u2 u3
  try clear v0 v1 v2 v3
  try clear z0 z1 z2 z3
  try clear p0 p1 p2 p3
  clear bb
  obtain ⟨u0, u1, u2, u3⟩ := V0_1.out
  go_enter Try.func8, Try.ntmps8
  go_wp2_with fail
  refine (Vo.szView a0 b0 r0 s0 cap0 dap0 o0 n0 1048576 _ (by omega) (by omega) hr0 hs0).mono ?_; rintro e W2 ⟨x0, rfl, hx0, bb⟩
  have B2 := Vl.hide (B1.out.trans (Below.mono bb B1.out.size))
  have sz2 : (w.heap.size + 1) ≤ W2.heap.size := by have qz := bb.size; (try simp only [World.size_alloc] at qz); (try simp only [World.size_alloc]); exact qz
  try clear u0 u1 u2 u3
  try clear v0 v1 v2 v3
  try clear z0 z1 z2 z3
  try clear p0 p1 p2 p3
  have V0_2 := Vl.hide (Vo.Box.below V0_1.out bb (by first | omega | (simp; done) | (simp; omega)))
  obtain ⟨u0, u1, u2, u3⟩ := V0_2.out
  clear bb
  by_cases hn0 : x0 < 0
  · clear hx0
    go_wp2_with fail
    go_ret
    exact ⟨rfl, B2.out⟩
  have hm0 : decide (x0 < 0) = false := by rw [decide_eq_false_iff_not]; exact hn0
  obtain ⟨lx0, lr0, ls0⟩ := hx0 (by omega)
  have lz0 : 0 ≤ x0 := by omega
  clear hn0 hx0 hr0 hs0
  have lj : ((Vo.cntS r0 s0 D0 S0 o0 n0 : Nat) : Int) ≤ 1048576 := by have := Vo.cntS_le r0 s0 D0 S0 o0 n0; omega
  go_wp2_with fail
  refine (Vo.toView w.heap.size a0 b0 r0 s0 cap0 dap0 D0 S0 o0 n0 _ (H0.out.below B2.out) (K0.out.below B2.out) B2.out.size lr0 ls0).mono ?_; rintro e W3 ⟨ga, ga', rfl, q3, bb⟩
  have B3 := Vl.hide (B2.out.trans (Below.mono bb B2.out.size))
  have sz3 : W2.heap.size ≤ W3.heap.size := by have qz := bb.size; (try simp only [World.size_alloc] at qz); (try simp only [World.size_alloc]); exact qz
  try clear u0 u1 u2 u3
  try clear v0 v1 v2 v3
  try clear z0 z1 z2 z3
  try clear p0 p1 p2 p3
  have V0_3 := Vl.hide (Vo.Box.below V0_2.out bb (by first | omega | (simp; done) | (simp; omega)))
  obtain ⟨u0, u1, u2, u3⟩ := V0_3.out
  clear bb
  have QA_3 := Vl.hide q3
  clear q3
  have uu := fun k q => QA_3.out.blk (k := k) q
  try simp only [World.size_alloc] at uu
  have UQA := Vl.hide uu
  clear uu
  go_wp2_with fail
  refine (Vo.specPlaces _ _ _ r0 s0 _ _ D0 S0 o0 n0 _ (Nat.le_refl _) QA_3.out.d.ints QA_3.out.t.ints lr0 ls0).mono ?_; rintro e W4 ⟨sa, sc, rfl, qS, bb⟩
  have B4 := Vl.hide (B3.out.trans (Below.mono bb B3.out.size))
  have sz4 : W3.heap.size ≤ W4.heap.size := by have qz := bb.size; (try simp only [World.size_alloc] at qz); (try simp only [World.size_alloc]); exact qz
  try clear u0 u1 u2 u3
  try clear v0 v1 v2 v3
  try clear z0 z1 z2 z3
  try clear p0 p1 p2 p3
  have V0_4 := Vl.hide (Vo.Box.below V0_3.out bb (by first | omega | (simp; done) | (simp; omega)))
  have QA_4 := Vl.hide (QA_3.out.below bb)
  obtain ⟨u0, u1, u2, u3⟩ := V0_4.out
  clear bb
  have QS_4 := Vl.hide qS
  clear qS
  have uu := fun k q => QS_4.out.blk (b := k) q
  try simp only [World.size_alloc] at uu
  have UQS := Vl.hide uu
  clear uu
  go_wp2_with fail
  refine (Vo.toView w.heap.size a0 b0 r0 s0 cap0 dap0 D0 S0 o0 n0 _ (H0.out.below B4.out) (K0.out.below B4.out) B4.out.size lr0 ls0).mono ?_; rintro e W5 ⟨gx, gx', rfl, q5, bb⟩
  have B5 := Vl.hide (B4.out.trans (Below.mono bb B4.out.size))
  have sz5 : W4.heap.size ≤ W5.heap.size := by have qz := bb.size; (try simp only [World.size_alloc] at qz); (try simp only [World.size_alloc]); exact qz
  try clear u0 u1 u2 u3
  try clear v0 v1 v2 v3
  try clear z0 z1 z2 z3
  try clear p0 p1 p2 p3
  have V0_5 := Vl.hide (Vo.Box.below V0_4.out bb (by first | omega | (simp; done) | (simp; omega)))
  have QS_5 := Vl.hide (QS_4.out.below bb)
  obtain ⟨u0, u1, u2, u3⟩ := V0_5.out
  clear bb
  have QX_5 := Vl.hide q5
  clear q5
  have uu := fun k q => QX_5.out.blk (k := k) q
  try simp only [World.size_alloc] at uu
  have UQX := Vl.hide uu
  clear uu
  have bb := (Below.refl W5.heap.size W5).alloc (Nat.le_refl _) (.cells #[.slice (some ⟨gx, 0, none⟩) r0 r0, .slice (some ⟨gx', 0, none⟩) s0 s0, .int .i64 o0, .int .i64 n0] 30)
  have X_6 := Vl.hide (Vo.box_new W5 (.slice (some ⟨gx, 0, none⟩) r0 r0) (.slice (some ⟨gx', 0, none⟩) s0 s0) (.int .i64 o0) (.int .i64 n0) 30)
  have B6 := Vl.hide (B5.out.trans (Below.mono bb B5.out.size))
  have sz6 : W5.heap.size ≤ (W5.alloc (.cells #[.slice (some ⟨gx, 0, none⟩) r0 r0, .slice (some ⟨gx', 0, none⟩) s0 s0, .int .i64 o0, .int .i64 n0] 30)).heap.size := by have qz := bb.size; (try simp only [World.size_alloc] at qz); (try simp only [World.size_alloc]); exact qz
  simp only [World.size_alloc] at sz6
  try clear u0 u1 u2 u3
  try clear v0 v1 v2 v3
  try clear z0 z1 z2 z3
  try clear p0 p1 p2 p3
  have V0_6 := Vl.hide (Vo.Box.below V0_5.out bb (by first | omega | (simp; done) | (simp; omega)))
  have QS_6 := Vl.hide (QS_5.out.below bb)
  have QX_6 := Vl.hide (QX_5.out.below bb)
  obtain ⟨u0, u1, u2, u3⟩ := V0_6.out
  clear bb
  obtain ⟨v0, v1, v2, v3⟩ := X_6.out
  go_wp2_with fail
  refine (Vo.placesS _ _ _ r0 s0 _ _ D0 S0 o0 n0 _ (Nat.le_refl _) QX_6.out.d.ints QX_6.out.t.ints lr0 ls0).mono ?_; rintro e W7 ⟨ga, gc, rfl, qg, bb⟩
  have B7 := Vl.hide (B6.out.trans (Below.mono bb B6.out.size))
  have sz7 : (W5.heap.size + 1) ≤ W7.heap.size := by have qz := bb.size; (try simp only [World.size_alloc] at qz); (try simp only [World.size_alloc]); exact qz
  try clear u0 u1 u2 u3
  try clear v0 v1 v2 v3
  try clear z0 z1 z2 z3
  try clear p0 p1 p2 p3
  have V0_7 := Vl.hide (Vo.Box.below V0_6.out bb (by first | omega | (simp; done) | (simp; omega)))
  have QS_7 := Vl.hide (QS_6.out.below bb)
  have QX_7 := Vl.hide (QX_6.out.below bb)
  have X_7 := Vl.hide (Vo.Box.below X_6.out bb (by first | omega | (simp; done) | (simp; omega)))
  obtain ⟨u0, u1, u2, u3⟩ := V0_7.out
  obtain ⟨v0, v1, v2, v3⟩ := X_7.out
  clear bb
  have QG_7 := Vl.hide qg
  clear qg
  have uu := fun k q => QG_7.out.blk (b := k) q
  try simp only [World.size_alloc] at uu
  have UQG := Vl.hide uu
  clear uu
  go_wp2_with fail
  refine (Vl.eqIntS _ _ _ (Vo.cntS r0 s0 D0 S0 o0 n0) gc sc (Vo.plcN D0 S0 r0 o0) (Vo.plcN D0 S0 r0 o0) _ QG_7.out.ints QS_7.out.ints (fun _ _ => rfl) lj).mono ?_; rintro e W8 ⟨rfl, bb⟩
  have B8 := Vl.hide (B7.out.trans (Below.mono bb B7.out.size))
  have sz8 : W7.heap.size ≤ W8.heap.size := by have qz := bb.size; (try simp only [World.size_alloc] at qz); (try simp only [World.size_alloc]); exact qz
  try clear u0 u1 u2 u3
  try clear v0 v1 v2 v3
  try clear z0 z1 z2 z3
  try clear p0 p1 p2 p3
  have V0_8 := Vl.hide (Vo.Box.below V0_7.out bb (by first | omega | (simp; done) | (simp; omega)))
  have QS_8 := Vl.hide (QS_7.out.below bb)
  have QX_8 := Vl.hide (QX_7.out.below bb)
  have X_8 := Vl.hide (Vo.Box.below X_7.out bb (by first | omega | (simp; done) | (simp; omega)))
  have QG_8 := Vl.hide (QG_7.out.below bb)
  obtain ⟨u0, u1, u2, u3⟩ := V0_8.out
  obtain ⟨v0, v1, v2, v3⟩ := X_8.out
  clear bb
  have HT := Vl.hide (fun (W : World) (hW : Below W8.heap.size W8 W) => Vo.toView w.heap.size a0 b0 r0 s0 cap0 dap0 D0 S0 o0 n0 W (H0.out.below (B8.out.trans (hW.mono B8.out.size))) (K0.out.below (B8.out.trans (hW.mono B8.out.size))) (Nat.le_trans B8.out.size hW.size) lr0 ls0)
  have HE := Vl.hide (fun (W : World) (hW : Below W8.heap.size W8 W) (g5 g6 : Nat) (B : Nat) (q : Vo.VOwn B W (some ⟨g5, 0, none⟩) (some ⟨g6, 0, none⟩) r0 s0 D0 S0) => Vo.eqView W.heap.size (some ⟨gx, 0, none⟩) (some ⟨gx', 0, none⟩) (some ⟨g5, 0, none⟩) (some ⟨g6, 0, none⟩) r0 s0 r0 s0 r0 s0 D0 S0 D0 S0 o0 n0 W (Nat.le_refl _) (QX_8.out.below hW).d.ints (QX_8.out.below hW).t.ints q.d.ints q.t.ints (fun _ _ => rfl) (fun _ _ => rfl) lr0 ls0)
  go_wp2_with fail
  go_region_held3 (fun w' => w'.cell? ⟨W5.heap.size, 0, none⟩ = some (.slice (some ⟨gx, 0, none⟩) r0 r0) ∧ w'.cell? ⟨W5.heap.size, 1, none⟩ = some (.slice (some ⟨gx', 0, none⟩) s0 s0) ∧ w'.cell? ⟨W5.heap.size, 2, none⟩ = some (.int .i64 o0) ∧ w'.cell? ⟨W5.heap.size, 3, none⟩ = some (.int .i64 n0) ∧ w'.cell? ⟨w.heap.size, 0, none⟩ = some (.slice a0 r0 cap0) ∧ w'.cell? ⟨w.heap.size, 1, none⟩ = some (.slice b0 s0 dap0) ∧ w'.cell? ⟨w.heap.size, 2, none⟩ = some (.int .i64 o0) ∧ w'.cell? ⟨w.heap.size, 3, none⟩ = some (.int .i64 n0))
    ((try dsimp only) <;> (repeat' apply And.intro) <;> (repeat (first | with_reducible assumption | with_reducible apply Vo.drew_old | (with_reducible apply Vo.below_old; (focus (with_reducible assumption))))))
    (first
      | (go_at_call 15
         refine (HT.out _ (by exact (Below.refl _ _).drew)).mono ?_
         rintro e wA ⟨g5, g6, rfl, qA, bA⟩)
      | (go_at_call 17
         refine (HE.out _ (by exact (Below.refl _ W8).drew.trans bA) g5 g6 _ qA).mono ?_
         rintro e wB9 ⟨rfl, bB⟩))
  have bb : Below W8.heap.size W8 wB9 := ((Below.refl _ W8).drew.trans bA).trans (bB.mono (Nat.le_trans (Nat.le_refl _) bA.size))
  clear bA bB qA HT HE
  have B9 := Vl.hide (B8.out.trans (Below.mono bb B8.out.size))
  have sz9 : W8.heap.size ≤ wB9.heap.size := by have qz := bb.size; (try simp only [World.size_alloc] at qz); (try simp only [World.size_alloc]); exact qz
  try clear u0 u1 u2 u3
  try clear v0 v1 v2 v3
  try clear z0 z1 z2 z3
  try clear p0 p1 p2 p3
  have V0_9 := Vl.hide (Vo.Box.below V0_8.out bb (by first | omega | (simp; done) | (simp; omega)))
  have QS_9 := Vl.hide (QS_8.out.below bb)
  have QX_9 := Vl.hide (QX_8.out.below bb)
  have X_9 := Vl.hide (Vo.Box.below X_8.out bb (by first | omega | (simp; done) | (simp; omega)))
  have QG_9 := Vl.hide (QG_8.out.below bb)
  obtain ⟨u0, u1, u2, u3⟩ := V0_9.out
  obtain ⟨v0, v1, v2, v3⟩ := X_9.out
  clear bb
  go_wp2_with fail
  refine (Vo.markView _ _ _ r0 s0 r0 s0 D0 S0 o0 n0 1 _ QX_9.out lr0 ls0 (by omega) (by omega)).mono ?_; rintro e W10 ⟨rfl, qs, bb⟩
  have B10 := Vl.hide (B9.out.trans (Vl.Kept.below bb B9.out.size (fun k q => by have := UQX.out _ q; omega)))
  have sz10 : wB9.heap.size ≤ W10.heap.size := by have qz := bb.size; (try simp only [World.size_alloc] at qz); (try simp only [World.size_alloc]); exact qz
  try clear u0 u1 u2 u3
  try clear v0 v1 v2 v3
  try clear z0 z1 z2 z3
  try clear p0 p1 p2 p3
  have V0_10 := Vl.hide (Vo.Box.kept V0_9.out bb (by omega) (fun q => by have := UQX.out _ q; omega))
  have QS_10 := Vl.hide (QS_9.out.kept bb (fun k q q' => by have := UQS.out _ q; have := UQX.out _ q'; omega))
  have QX_10 := Vl.hide qs
  have X_10 := Vl.hide (Vo.Box.kept X_9.out bb (by omega) (fun q => by have := UQX.out _ q; omega))
  have QG_10 := Vl.hide (QG_9.out.kept bb (fun k q q' => by have := UQG.out _ q; have := UQX.out _ q'; omega))
  obtain ⟨u0, u1, u2, u3⟩ := V0_10.out
  obtain ⟨v0, v1, v2, v3⟩ := X_10.out
  clear bb
  clear qs
  have neg1 : decide ((1 : Int) + r0 + s0 < 0) = false := by rw [decide_eq_false_iff_not]; omega
  go_wp2_with fail
  refine (Vl.eqIntS _ _ _ (Vo.cntS r0 s0 D0 S0 o0 n0) gc sc (Vo.plcN D0 S0 r0 o0) (Vo.plcN D0 S0 r0 o0) _ QG_10.out.ints QS_10.out.ints (fun _ _ => rfl) lj).mono ?_; rintro e W11 ⟨rfl, bb⟩
  have B11 := Vl.hide (B10.out.trans (Below.mono bb B10.out.size))
  have sz11 : W10.heap.size ≤ W11.heap.size := by have qz := bb.size; (try simp only [World.size_alloc] at qz); (try simp only [World.size_alloc]); exact qz
  try clear u0 u1 u2 u3
  try clear v0 v1 v2 v3
  try clear z0 z1 z2 z3
  try clear p0 p1 p2 p3
  have V0_11 := Vl.hide (Vo.Box.below V0_10.out bb (by first | omega | (simp; done) | (simp; omega)))
  have QS_11 := Vl.hide (QS_10.out.below bb)
  have QG_11 := Vl.hide (QG_10.out.below bb)
  obtain ⟨u0, u1, u2, u3⟩ := V0_11.out
  clear bb
  go_wp2_with fail
  refine (Vl.markIntS _ _ (Vo.cntS r0 s0 D0 S0 o0 n0) gc (Vo.plcN D0 S0 r0 o0) 1 _ QG_11.out lj (by omega) (by omega)).mono ?_; rintro e W12 ⟨rfl, qs, bb⟩
  have B12 := Vl.hide (B11.out.trans (Vl.Kept.below bb B11.out.size (fun k q => by have := UQG.out _ q; omega)))
  have sz12 : W11.heap.size ≤ W12.heap.size := by have qz := bb.size; (try simp only [World.size_alloc] at qz); (try simp only [World.size_alloc]); exact qz
  try clear u0 u1 u2 u3
  try clear v0 v1 v2 v3
  try clear z0 z1 z2 z3
  try clear p0 p1 p2 p3
  have V0_12 := Vl.hide (Vo.Box.kept V0_11.out bb (by omega) (fun q => by have := UQG.out _ q; omega))
  have QS_12 := Vl.hide (QS_11.out.kept bb (fun k q q' => by have := UQS.out _ q; have := UQG.out _ q'; omega))
  have QG_12 := Vl.hide qs
  obtain ⟨u0, u1, u2, u3⟩ := V0_12.out
  clear bb
  clear qs
  have neg2 : decide ((1 : Int) + (Vo.cntS r0 s0 D0 S0 o0 n0 : Nat) < 0) = false := by rw [decide_eq_false_iff_not]; omega
  go_wp2_with fail
  refine (Vl.heldIntS _ _ (Vo.cntS r0 s0 D0 S0 o0 n0) gc 1 _ QG_12.out.ints lj (by omega) (by omega)).mono ?_; rintro e w' ⟨rfl, hq⟩; have hq := hq.symm; subst hq
  go_wp2_with fail
  refine (Vo.toView w.heap.size a0 b0 r0 s0 cap0 dap0 D0 S0 o0 n0 _ (H0.out.below B12.out) (K0.out.below B12.out) B12.out.size lr0 ls0).mono ?_; rintro e W13 ⟨gm, gm', rfl, q13, bb⟩
  have B13 := Vl.hide (B12.out.trans (Below.mono bb B12.out.size))
  have sz13 : W12.heap.size ≤ W13.heap.size := by have qz := bb.size; (try simp only [World.size_alloc] at qz); (try simp only [World.size_alloc]); exact qz
  try clear u0 u1 u2 u3
  try clear v0 v1 v2 v3
  try clear z0 z1 z2 z3
  try clear p0 p1 p2 p3
  have V0_13 := Vl.hide (Vo.Box.below V0_12.out bb (by first | omega | (simp; done) | (simp; omega)))
  have QS_13 := Vl.hide (QS_12.out.below bb)
  have QG_13 := Vl.hide (QG_12.out.below bb)
  obtain ⟨u0, u1, u2, u3⟩ := V0_13.out
  clear bb
  have QM_13 := Vl.hide q13
  clear q13
  have uu := fun k q => QM_13.out.blk (k := k) q
  try simp only [World.size_alloc] at uu
  have UQM := Vl.hide uu
  clear uu
  go_wp2_with fail
  refine (Vo.placesS _ _ _ r0 s0 _ _ D0 S0 o0 n0 _ (Nat.le_refl _) QM_13.out.d.ints QM_13.out.t.ints lr0 ls0).mono ?_; rintro e W14 ⟨ha, hc, rfl, qh, bb⟩
  have B14 := Vl.hide (B13.out.trans (Below.mono bb B13.out.size))
  have sz14 : W13.heap.size ≤ W14.heap.size := by have qz := bb.size; (try simp only [World.size_alloc] at qz); (try simp only [World.size_alloc]); exact qz
  try clear u0 u1 u2 u3
  try clear v0 v1 v2 v3
  try clear z0 z1 z2 z3
  try clear p0 p1 p2 p3
  have V0_14 := Vl.hide (Vo.Box.below V0_13.out bb (by first | omega | (simp; done) | (simp; omega)))
  have QS_14 := Vl.hide (QS_13.out.below bb)
  have QG_14 := Vl.hide (QG_13.out.below bb)
  have QM_14 := Vl.hide (QM_13.out.below bb)
  obtain ⟨u0, u1, u2, u3⟩ := V0_14.out
  clear bb
  have QH_14 := Vl.hide qh
  clear qh
  have uu := fun k q => QH_14.out.blk (b := k) q
  try simp only [World.size_alloc] at uu
  have UQH := Vl.hide uu
  clear uu
  go_wp2_with fail
  refine (Vl.eqIntS _ _ _ (Vo.cntS r0 s0 D0 S0 o0 n0) hc sc (Vo.plcN D0 S0 r0 o0) (Vo.plcN D0 S0 r0 o0) _ QH_14.out.ints QS_14.out.ints (fun _ _ => rfl) lj).mono ?_; rintro e W15 ⟨rfl, bb⟩
  have B15 := Vl.hide (B14.out.trans (Below.mono bb B14.out.size))
  have sz15 : W14.heap.size ≤ W15.heap.size := by have qz := bb.size; (try simp only [World.size_alloc] at qz); (try simp only [World.size_alloc]); exact qz
  try clear u0 u1 u2 u3
  try clear v0 v1 v2 v3
  try clear z0 z1 z2 z3
  try clear p0 p1 p2 p3
  have V0_15 := Vl.hide (Vo.Box.below V0_14.out bb (by first | omega | (simp; done) | (simp; omega)))
  have QS_15 := Vl.hide (QS_14.out.below bb)
  have QG_15 := Vl.hide (QG_14.out.below bb)
  have QH_15 := Vl.hide (QH_14.out.below bb)
  obtain ⟨u0, u1, u2, u3⟩ := V0_15.out
  clear bb
  go_wp2_with fail
  refine (Vl.heldIntS _ _ (Vo.cntS r0 s0 D0 S0 o0 n0) gc 1 _ QG_15.out.ints lj (by omega) (by omega)).mono ?_; rintro e w' ⟨rfl, hq⟩; have hq := hq.symm; subst hq
  go_wp2_with fail
  go_ret
  exact ⟨rfl, B15.out⟩

set_option maxRecDepth 100000 in
theorem lifted (os : Os) (started : os.Started) (H : Type) (enc : TypeId × Value → H) :
    ReturnsInHanded {} Try.checked os 8 .any (Rows.fnExactPlacesSpec.pre6 enc Try.prog Try.f8 Rows.fnExactPlacesRow.domain false) (Rows.fnExactPlacesSpec.post enc Try.prog Try.f8 false true false false) := by
  refine returnsInHanded_of_change (C := Try.checked) own started (by kernel_rfl) Try.func8
    (ChangeSpec.witness6 (enc := enc) (C := Try.checked) false ⟨#[], #[.agg #[.slice none 0 0, .slice none 0 0, .int .i64 0, .int .i64 0]], []⟩ 8 (by kernel_rfl) (by kernel_rfl) (by kernel_rfl) (by kernel_rfl)) ?_
  intro W base args ds gs before hval0 hW hcnd _
  have hval : ∀ (j : Nat) t v, Try.f8.params[j]? = some t → args[j]? = some v → Value.okWide Try.prog W .any base t v := hval0
  have hW' := hW
  obtain ⟨p, q, hA0, hV, rfl, hfz, hnd⟩ := hW
  have hA : DataW.TrodAll enc Try.prog W 0 (fun _ => true) true Try.f8.params.toList args.toList ds p := hA0
  rw [Try.params8] at hA hval
  obtain ⟨v0, vs0, d0, ds0, p0, q0, hargs, rfl, rfl, h0, rst0⟩ := trodAll_cons hA
  obtain ⟨rfl, rfl, rfl⟩ := trodAll_nil rst0
  obtain rfl : args = #[v0] := by cases args; simp_all
  obtain ⟨rfl, rfl⟩ := trodVars_none hV
  have k0 := h0
  have lt0 : ∀ x ∈ p0, x.block < W.heap.size := by obtain ⟨m, hm⟩ := k0; exact DataW.trod_lt m _ _ _ hm
  obtain ⟨c00, c01, c02, c03, u00, u01, u02, u03, m0, rfl, _, _, hy00, hy01, hy02, hy03⟩ := open_agg4 Try.underlying27 (by kernel_rfl) (by kernel_rfl) (hval 0 27 v0 rfl rfl) h0
  obtain ⟨a0, r0, cap0, rfl, w0⟩ := Vl.arg_of hy00
  obtain ⟨b0, s0, dap0, rfl, y0⟩ := Vl.arg_of hy01
  obtain ⟨o0, e02, _, wo0⟩ := DataW.trod_int Try.underlying3 hy02
  obtain ⟨n0, e03, _, wn0⟩ := DataW.trod_int Try.underlying3 hy03
  simp at e02 e03
  subst e02 e03
  clear hA0 hval0
  refine (walk a0 r0 cap0 b0 s0 dap0 o0 n0 wo0 wn0 W w0 y0).mono fun e W' ⟨he, bel⟩ => ?_
  subst he
  exact ⟨_, rfl, _, _, _, [], _, [], hW', trodAll_mk1 (shut_bool Try.underlying4 _), (trodAll_cons_mk (Below.trod laidOut (by kernel_rfl) (of_decide_eq_true (by kernel_rfl)) k0 bel lt0) trodAll_mk0), rfl, bel.frame _, fun h => by cases h⟩

theorem over : Rows.fnExactPlacesRow.holds Try.pinned (OpenSpec.ofChange Rows.fnExactPlacesSpec) :=
  OpenClaim.holds_of_wide 8 Try.f8 rfl rfl rfl rfl rfl rfl rfl ⟨rfl, rfl, rfl, rfl, rfl⟩ rfl rfl rfl rfl rfl (by kernel_rfl) Try.func8 (by kernel_rfl)
    (of_decide_eq_true (by kernel_rfl)) (by unfold Func.isWrapper; first | (rw [if_pos (by decide +kernel)]; kernel_rfl) | (rw [if_neg (by decide +kernel)]; exact ⟨rfl, rfl⟩))
    (fun os started H enc _ => lifted os started H enc)

theorem proved : Rows.FnExactPlacesSaid := over
#print axioms proved
end Go.Proofs.Ytbepgcdfdaeecaa.fnExactPlaces
