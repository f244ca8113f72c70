/-
  Proved: whatever the arguments, 'FnExactShowTensor' returns true: the landed function answers as its model, and what came in reads as it did. No condition.
-/
import Derived.Test.YtjibidbnkchpdaaDoorRows
import Derived.Test.YtjibidbnkchpdaaDoorShelf
import Derived.Test.YtjibidbnkchpdaaDoorVl
import Derived.Test.YtjibidbnkchpdaaDoorVp
import Derived.Test.YtjibidbnkchpdaaDoorVs
import Derived.Test.YtjibidbnkchpdaaDoorVq
import Derived.Test.YtjibidbnkchpdaaDoorVo
import Derived.Test.YtjibidbnkchpdaaDoorVm
import Derived.Test.YtjibidbnkchpdaaDoorVn
import Derived.Test.YtjibidbnkchpdaaDoorVt
import Derived.Test.YtjibidbnkchpdaaDoorVv
import Derived.Test.YtjibidbnkchpdaaDoorNum
import Derived.Test.YtjibidbnkchpdaaDoorBase
import Derived.Test.YtjibidbnkchpdaaDoorFrac
import Derived.Test.YtjibidbnkchpdaaDoorRec
import Derived.Test.YtjibidbnkchpdaaDoorToFrac
import Derived.Test.YtjibidbnkchpdaaDoorShow
import Derived.Test.YtjibidbnkchpdaaDoorTa
import Derived.Test.YtjibidbnkchpdaaDoorTb
import Derived.Test.YtjibidbnkchpdaaDoorSb
import Derived.Test.YtjibidbnkchpdaaDoorSc
import Derived.Test.YtjibidbnkchpdaaDoorRb
import Derived.Test.YtjibidbnkchpdaaDoorSd
import Derived.Test.YtjibidbnkchpdaaDoorLaid
import Derived.WalkKit
import Derived.ProofKit
import Derived.OpenShut
import Derived.ShutString
import Derived.ChangeOld
import Derived.Below
import Derived.Lib.SmallJoins
import Derived.OpenVars
import Derived.ChangeVars
import Derived.Deep.RegionHeld3
import Derived.Test.YtjibidbnkchpdaaDoorTie
import Derived.Test.YtjibidbnkchpdaaDoorCards
import Derived.LaidMore
import Derived.Lay
import Derived.SevenTiedAt
import Derived.Stop.Joined
namespace Go.Proofs.YtjibidbnkchpdaaDoor.fnExactShowTensor
open Go.ChangeShapes Go.WideShapes Go.ChangeAt Go.RowKit Go.Joins
open Go.ChangeMaps (open_string shut_string)
set_option linter.unusedVariables false

theorem own : ownKnob Tryd.prog.godebug = none := by kernel_rfl
theorem laidOut : laidOutB Tryd.prog = true := by kernel_rfl

theorem walk (a0 : Option Addr) (r0 cap0 : Nat) (b0 : Option Addr) (s0 dap0 : Nat) (w : World) (hL : laidMetH Tryd.prog Rows.fnExactShowTensorRow.laid w) (w0 : Vl.Arg w a0 r0) (y0 : Vl.Arg w b0 s0) :
    Calls Tryd.prog 3 #[.agg #[.slice a0 r0 cap0, .slice b0 s0 dap0]] w fun e w' => e = .returned (.bool true) ∧ Below w.heap.size w w' := by
  have hp := Vl.hide (Base.showTensor_pows hL)
  clear hL
  obtain ⟨hr0, D0, hh0⟩ := w0
  obtain ⟨hs0, S0, hk0⟩ := y0
  have H0 := Vl.hide hh0
  have K0 := Vl.hide hk0
  clear hh0 hk0
  have B0 := Vl.hide (Below.refl w.heap.size w)
  have bb := (Below.refl w.heap.size w).alloc (Nat.le_refl _) (.cells #[.slice a0 r0 cap0, .slice b0 s0 dap0] 24)
  have V0_1 := Vl.hide (Vo.bx_new w (.slice a0 r0 cap0) (.slice b0 s0 dap0) 24)
  have B1 := Vl.hide (B0.out.trans (Below.mono bb B0.out.size))
  have sz1 : w.heap.size ≤ (w.alloc (.cells #[.slice a0 r0 cap0, .slice b0 s0 dap0] 24)).heap.size := by have qz := bb.size; (try simp only [World.size_alloc] at qz); (try simp only [World.size_alloc]); exact qz
  simp only [World.size_alloc] at sz1
  try clear u0 u1 u2 u3
  try clear u0 u1
  try clear v0 v1 v2 v3
  try clear v0 v1
  try clear z0 z1 z2 z3
  try clear z0 z1
  try clear p0 p1 p2 p3
  try clear p0 p1
  try clear fa0 fa1 fa2 fa3
  try clear fa0 fa1
  try clear fb0 fb1 fb2 fb3
  try clear fb0 fb1
  try clear fc0 fc1 fc2 fc3
  try clear fc0 fc1
  try clear fd0 fd1 fd2 fd3
  try clear fd0 fd1
  clear bb
  obtain ⟨u0, u1⟩ := V0_1.out
  go_enter Tryd.func3, Tryd.ntmps3
  go_wp2_with fail
  refine (Vo.szTensor a0 b0 r0 s0 cap0 dap0 1048576 _ (by omega) (by omega) hr0 hs0).mono ?_; rintro e W2 ⟨x0, rfl, hx0, bb⟩
  have B2 := Vl.hide (B1.out.trans (Below.mono bb B1.out.size))
  have sz2 : (w.heap.size + 1) ≤ W2.heap.size := by have qz := bb.size; (try simp only [World.size_alloc] at qz); (try simp only [World.size_alloc]); exact qz
  try clear u0 u1 u2 u3
  try clear u0 u1
  try clear v0 v1 v2 v3
  try clear v0 v1
  try clear z0 z1 z2 z3
  try clear z0 z1
  try clear p0 p1 p2 p3
  try clear p0 p1
  try clear fa0 fa1 fa2 fa3
  try clear fa0 fa1
  try clear fb0 fb1 fb2 fb3
  try clear fb0 fb1
  try clear fc0 fc1 fc2 fc3
  try clear fc0 fc1
  try clear fd0 fd1 fd2 fd3
  try clear fd0 fd1
  have V0_2 := Vl.hide (Vo.Bx.below V0_1.out bb (by first | omega | (simp; done) | (simp; omega)))
  obtain ⟨u0, u1⟩ := V0_2.out
  clear bb
  by_cases hn0 : x0 < 0
  · clear hx0
    go_wp2_with fail
    go_ret
    exact ⟨rfl, B2.out⟩
  have hm0 : decide (x0 < 0) = false := by rw [decide_eq_false_iff_not]; exact hn0
  obtain ⟨lx0, lr0, ls0⟩ := hx0 (by omega)
  have lz0 : 0 ≤ x0 := by omega
  clear hn0 hx0 hr0 hs0
  go_wp2_with fail
  refine (Vo.toTensor w.heap.size a0 b0 r0 s0 cap0 dap0 D0 S0 _ (H0.out.below B2.out) (K0.out.below B2.out) B2.out.size lr0 ls0).mono ?_; rintro e W3 ⟨ga, ga', rfl, q3, bb⟩
  have B3 := Vl.hide (B2.out.trans (Below.mono bb B2.out.size))
  have sz3 : W2.heap.size ≤ W3.heap.size := by have qz := bb.size; (try simp only [World.size_alloc] at qz); (try simp only [World.size_alloc]); exact qz
  try clear u0 u1 u2 u3
  try clear u0 u1
  try clear v0 v1 v2 v3
  try clear v0 v1
  try clear z0 z1 z2 z3
  try clear z0 z1
  try clear p0 p1 p2 p3
  try clear p0 p1
  try clear fa0 fa1 fa2 fa3
  try clear fa0 fa1
  try clear fb0 fb1 fb2 fb3
  try clear fb0 fb1
  try clear fc0 fc1 fc2 fc3
  try clear fc0 fc1
  try clear fd0 fd1 fd2 fd3
  try clear fd0 fd1
  have V0_3 := Vl.hide (Vo.Bx.below V0_2.out bb (by first | omega | (simp; done) | (simp; omega)))
  obtain ⟨u0, u1⟩ := V0_3.out
  clear bb
  have QA_3 := Vl.hide q3
  clear q3
  have uu := fun k q => QA_3.out.blk (k := k) q
  try simp only [World.size_alloc] at uu
  have UQA := Vl.hide uu
  clear uu
  go_wp2_with fail
  refine (Vo.specShowTensor _ _ _ r0 s0 _ _ D0 S0 _ (Nat.le_refl _) QA_3.out.d.ints QA_3.out.t.ints lr0 ls0).mono ?_; rintro e W4 ⟨rfl, bb⟩
  have B4 := Vl.hide (B3.out.trans (Below.mono bb B3.out.size))
  have sz4 : W3.heap.size ≤ W4.heap.size := by have qz := bb.size; (try simp only [World.size_alloc] at qz); (try simp only [World.size_alloc]); exact qz
  try clear u0 u1 u2 u3
  try clear u0 u1
  try clear v0 v1 v2 v3
  try clear v0 v1
  try clear z0 z1 z2 z3
  try clear z0 z1
  try clear p0 p1 p2 p3
  try clear p0 p1
  try clear fa0 fa1 fa2 fa3
  try clear fa0 fa1
  try clear fb0 fb1 fb2 fb3
  try clear fb0 fb1
  try clear fc0 fc1 fc2 fc3
  try clear fc0 fc1
  try clear fd0 fd1 fd2 fd3
  try clear fd0 fd1
  have V0_4 := Vl.hide (Vo.Bx.below V0_3.out bb (by first | omega | (simp; done) | (simp; omega)))
  have QA_4 := Vl.hide (QA_3.out.below bb)
  obtain ⟨u0, u1⟩ := V0_4.out
  clear bb
  go_wp2_with fail
  refine (Vo.toTensor w.heap.size a0 b0 r0 s0 cap0 dap0 D0 S0 _ (H0.out.below B4.out) (K0.out.below B4.out) B4.out.size lr0 ls0).mono ?_; rintro e W5 ⟨gx, gx', rfl, q5, bb⟩
  have B5 := Vl.hide (B4.out.trans (Below.mono bb B4.out.size))
  have sz5 : W4.heap.size ≤ W5.heap.size := by have qz := bb.size; (try simp only [World.size_alloc] at qz); (try simp only [World.size_alloc]); exact qz
  try clear u0 u1 u2 u3
  try clear u0 u1
  try clear v0 v1 v2 v3
  try clear v0 v1
  try clear z0 z1 z2 z3
  try clear z0 z1
  try clear p0 p1 p2 p3
  try clear p0 p1
  try clear fa0 fa1 fa2 fa3
  try clear fa0 fa1
  try clear fb0 fb1 fb2 fb3
  try clear fb0 fb1
  try clear fc0 fc1 fc2 fc3
  try clear fc0 fc1
  try clear fd0 fd1 fd2 fd3
  try clear fd0 fd1
  have V0_5 := Vl.hide (Vo.Bx.below V0_4.out bb (by first | omega | (simp; done) | (simp; omega)))
  have QA_5 := Vl.hide (QA_4.out.below bb)
  obtain ⟨u0, u1⟩ := V0_5.out
  clear bb
  have QX_5 := Vl.hide q5
  clear q5
  have uu := fun k q => QX_5.out.blk (k := k) q
  try simp only [World.size_alloc] at uu
  have UQX := Vl.hide uu
  clear uu
  have bb := (Below.refl W5.heap.size W5).alloc (Nat.le_refl _) (.cells #[.slice (some ⟨gx, 0, none⟩) r0 r0, .slice (some ⟨gx', 0, none⟩) s0 s0] 27)
  have X_6 := Vl.hide (Vo.bx_new W5 (.slice (some ⟨gx, 0, none⟩) r0 r0) (.slice (some ⟨gx', 0, none⟩) s0 s0) 27)
  have B6 := Vl.hide (B5.out.trans (Below.mono bb B5.out.size))
  have sz6 : W5.heap.size ≤ (W5.alloc (.cells #[.slice (some ⟨gx, 0, none⟩) r0 r0, .slice (some ⟨gx', 0, none⟩) s0 s0] 27)).heap.size := by have qz := bb.size; (try simp only [World.size_alloc] at qz); (try simp only [World.size_alloc]); exact qz
  simp only [World.size_alloc] at sz6
  try clear u0 u1 u2 u3
  try clear u0 u1
  try clear v0 v1 v2 v3
  try clear v0 v1
  try clear z0 z1 z2 z3
  try clear z0 z1
  try clear p0 p1 p2 p3
  try clear p0 p1
  try clear fa0 fa1 fa2 fa3
  try clear fa0 fa1
  try clear fb0 fb1 fb2 fb3
  try clear fb0 fb1
  try clear fc0 fc1 fc2 fc3
  try clear fc0 fc1
  try clear fd0 fd1 fd2 fd3
  try clear fd0 fd1
  have V0_6 := Vl.hide (Vo.Bx.below V0_5.out bb (by first | omega | (simp; done) | (simp; omega)))
  have QA_6 := Vl.hide (QA_5.out.below bb)
  have QX_6 := Vl.hide (QX_5.out.below bb)
  obtain ⟨u0, u1⟩ := V0_6.out
  clear bb
  obtain ⟨v0, v1⟩ := X_6.out
  go_wp2_with fail
  refine (Vo.showTensorF _ _ _ r0 s0 _ _ D0 S0 _ (Nat.le_refl _) QX_6.out.d.ints QX_6.out.t.ints lr0 ls0 (Base.pows_below B6.out hp.out)).mono ?_; rintro e W7 ⟨rfl, bb⟩
  have B7 := Vl.hide (B6.out.trans (Below.mono bb B6.out.size))
  have sz7 : (W5.heap.size + 1) ≤ W7.heap.size := by have qz := bb.size; (try simp only [World.size_alloc] at qz); (try simp only [World.size_alloc]); exact qz
  try clear u0 u1 u2 u3
  try clear u0 u1
  try clear v0 v1 v2 v3
  try clear v0 v1
  try clear z0 z1 z2 z3
  try clear z0 z1
  try clear p0 p1 p2 p3
  try clear p0 p1
  try clear fa0 fa1 fa2 fa3
  try clear fa0 fa1
  try clear fb0 fb1 fb2 fb3
  try clear fb0 fb1
  try clear fc0 fc1 fc2 fc3
  try clear fc0 fc1
  try clear fd0 fd1 fd2 fd3
  try clear fd0 fd1
  have V0_7 := Vl.hide (Vo.Bx.below V0_6.out bb (by first | omega | (simp; done) | (simp; omega)))
  have QA_7 := Vl.hide (QA_6.out.below bb)
  have QX_7 := Vl.hide (QX_6.out.below bb)
  have X_7 := Vl.hide (Vo.Bx.below X_6.out bb (by first | omega | (simp; done) | (simp; omega)))
  obtain ⟨u0, u1⟩ := V0_7.out
  obtain ⟨v0, v1⟩ := X_7.out
  clear bb
  have HT := Vl.hide (fun (W : World) (hW : Below W7.heap.size W7 W) => Vo.toTensor w.heap.size a0 b0 r0 s0 cap0 dap0 D0 S0 W (H0.out.below (B7.out.trans (hW.mono B7.out.size))) (K0.out.below (B7.out.trans (hW.mono B7.out.size))) (Nat.le_trans B7.out.size hW.size) lr0 ls0)
  have HE := Vl.hide (fun (W : World) (hW : Below W7.heap.size W7 W) (g5 g6 : Nat) (B : Nat) (q : Vo.VOwn B W (some ⟨g5, 0, none⟩) (some ⟨g6, 0, none⟩) r0 s0 D0 S0) => Vo.eqTensor W.heap.size (some ⟨gx, 0, none⟩) (some ⟨gx', 0, none⟩) (some ⟨g5, 0, none⟩) (some ⟨g6, 0, none⟩) r0 s0 r0 s0 r0 s0 D0 S0 D0 S0 W (Nat.le_refl _) (QX_7.out.below hW).d.ints (QX_7.out.below hW).t.ints q.d.ints q.t.ints (fun _ _ => rfl) (fun _ _ => rfl) lr0 ls0)
  go_wp2_with fail
  go_region_held3 (fun w' => w'.cell? ⟨W5.heap.size, 0, none⟩ = some (.slice (some ⟨gx, 0, none⟩) r0 r0) ∧ w'.cell? ⟨W5.heap.size, 1, none⟩ = some (.slice (some ⟨gx', 0, none⟩) s0 s0) ∧ w'.cell? ⟨w.heap.size, 0, none⟩ = some (.slice a0 r0 cap0) ∧ w'.cell? ⟨w.heap.size, 1, none⟩ = some (.slice b0 s0 dap0))
    ((try dsimp only) <;> (repeat' apply And.intro) <;> (repeat (first | with_reducible assumption | with_reducible apply Vo.drew_old | (with_reducible apply Vo.below_old; (focus (with_reducible assumption))))))
    (first
      | (go_at_call 6
         refine (HT.out _ (by exact (Below.refl _ _).drew)).mono ?_
         rintro e wA ⟨g5, g6, rfl, qA, bA⟩)
      | (go_at_call 8
         refine (HE.out _ (by exact (Below.refl _ W7).drew.trans bA) g5 g6 _ qA).mono ?_
         rintro e wB8 ⟨rfl, bB⟩))
  have bb : Below W7.heap.size W7 wB8 := ((Below.refl _ W7).drew.trans bA).trans (bB.mono (Nat.le_trans (Nat.le_refl _) bA.size))
  clear bA bB qA HT HE
  have B8 := Vl.hide (B7.out.trans (Below.mono bb B7.out.size))
  have sz8 : W7.heap.size ≤ wB8.heap.size := by have qz := bb.size; (try simp only [World.size_alloc] at qz); (try simp only [World.size_alloc]); exact qz
  try clear u0 u1 u2 u3
  try clear u0 u1
  try clear v0 v1 v2 v3
  try clear v0 v1
  try clear z0 z1 z2 z3
  try clear z0 z1
  try clear p0 p1 p2 p3
  try clear p0 p1
  try clear fa0 fa1 fa2 fa3
  try clear fa0 fa1
  try clear fb0 fb1 fb2 fb3
  try clear fb0 fb1
  try clear fc0 fc1 fc2 fc3
  try clear fc0 fc1
  try clear fd0 fd1 fd2 fd3
  try clear fd0 fd1
  have V0_8 := Vl.hide (Vo.Bx.below V0_7.out bb (by first | omega | (simp; done) | (simp; omega)))
  have QA_8 := Vl.hide (QA_7.out.below bb)
  have QX_8 := Vl.hide (QX_7.out.below bb)
  have X_8 := Vl.hide (Vo.Bx.below X_7.out bb (by first | omega | (simp; done) | (simp; omega)))
  obtain ⟨u0, u1⟩ := V0_8.out
  obtain ⟨v0, v1⟩ := X_8.out
  clear bb
  go_wp2_with fail
  go_ret
  exact ⟨rfl, B8.out⟩

set_option maxRecDepth 100000 in
theorem lifted (os : Os) (started : os.Started) (H : Type) (enc : TypeId × Value → H) :
    ReturnsInHanded {} Tryd.checked os 3 .any (fun w args => (Rows.fnExactShowTensorSpec.pre enc Tryd.prog Tryd.f3 Rows.fnExactShowTensorRow.domain false w args ∧ laidMetH Tryd.prog Rows.fnExactShowTensorRow.laid w) ∧ sizedMet enc Tryd.prog Tryd.f3 (OpenSpec.ofChange Rows.fnExactShowTensorSpec) false w args) (Rows.fnExactShowTensorSpec.post enc Tryd.prog Tryd.f3 false true false false) := by
  refine returnsInHanded_of_change_and (C := Tryd.checked) (X := fun w _ => laidMetH Tryd.prog Rows.fnExactShowTensorRow.laid w) (fun _ _ _ hh h => h.of_heap hh) own started (by kernel_rfl) Tryd.func3
    (ChangeSpec.witness_shaped (enc := enc) (C := Tryd.checked) (os := os) (X := fun w _ => laidMetH Tryd.prog Rows.fnExactShowTensorRow.laid w) false (World.laidAll Tryd.prog os Rows.fnExactShowTensorRow.laid) #[.agg #[.slice none 0 0, .slice none 0 0]] 8 (World.laidAll_os _ _ _)
      (World.shaped_of_ZipB (by kernel_rfl) (by kernel_rfl)) (by kernel_rfl) (by kernel_rfl) (by kernel_rfl)
      (by rw [MakeChecks.laidMetH_plain _ _ _ (by kernel_rfl)]; exact laidMet_laidAll _ (by kernel_rfl) (by kernel_rfl))) ?_
  intro W base args ds gs before hval0 hW hcnd _ hL _
  have hval : ∀ (j : Nat) t v, Tryd.f3.params[j]? = some t → args[j]? = some v → Value.okWide Tryd.prog W .any base t v := hval0
  have hW' := hW
  obtain ⟨p, q, hA0, hV, rfl, hfz, hnd⟩ := hW
  have hA : DataW.TrodAll enc Tryd.prog W 0 (fun _ => true) true Tryd.f3.params.toList args.toList ds p := hA0
  rw [Tryd.params3] at hA hval
  obtain ⟨v0, vs0, d0, ds0, p0, q0, hargs, rfl, rfl, h0, rst0⟩ := trodAll_cons hA
  obtain ⟨rfl, rfl, rfl⟩ := trodAll_nil rst0
  obtain rfl : args = #[v0] := by cases args; simp_all
  obtain ⟨rfl, rfl⟩ := trodVars_none hV
  have k0 := h0
  have lt0 : ∀ x ∈ p0, x.block < W.heap.size := by obtain ⟨m, hm⟩ := k0; exact DataW.trod_lt m _ _ _ hm
  obtain ⟨c00, c01, u00, u01, m0, rfl, _, _, hy00, hy01⟩ := open_agg2 Tryd.underlying24 (by kernel_rfl) (by kernel_rfl) (hval 0 24 v0 rfl rfl) h0
  obtain ⟨a0, r0, cap0, rfl, w0⟩ := Vl.arg_of hy00
  obtain ⟨b0, s0, dap0, rfl, y0⟩ := Vl.arg_of hy01
  clear hA0 hval0
  refine (walk a0 r0 cap0 b0 s0 dap0 W hL w0 y0).mono fun e W' ⟨he, bel⟩ => ?_
  subst he
  exact ⟨_, rfl, _, _, _, [], _, [], hW', trodAll_mk1 (shut_bool Tryd.underlying4 _), (trodAll_cons_mk (Below.trod laidOut (by kernel_rfl) (of_decide_eq_true (by kernel_rfl)) k0 bel lt0) trodAll_mk0), rfl, bel.frame _, fun h => by cases h⟩

theorem over : Rows.fnExactShowTensorRow.holds Tryd.pinned (OpenSpec.ofChange Rows.fnExactShowTensorSpec) :=
  OpenClaim.holds_of_wide 3 Tryd.f3 rfl rfl rfl rfl rfl rfl rfl ⟨rfl, rfl, rfl, rfl, rfl⟩ rfl rfl rfl rfl rfl (by kernel_rfl) Tryd.func3 (by kernel_rfl)
    (of_decide_eq_true (by kernel_rfl)) (by unfold Func.isWrapper; first | (rw [if_pos (by decide +kernel)]; kernel_rfl) | (rw [if_neg (by decide +kernel)]; exact ⟨rfl, rfl⟩))
    (fun os started H enc _ => lifted os started H enc)

theorem card : Rows.FnExactShowTensorCardSaid :=
  Claim7.holds_tied_plain_at .later [] [.data, .data, .data] true (true, "37bcc1b7ee9d1b6f7f564bb291063ab3814dff9c90fb93615f733158d218168e") false over (fun _ h => by cases h) (by kernel_rfl) (fun _ h => by cases h) fnExactShowTensor_row_tie rfl ⟨rfl, rfl⟩ (by kernel_rfl) rfl
    (fun f fn hf hfn => by
      obtain rfl : f = 3 := Option.some.inj ((show Tryd.prog.funcNamed Tryd.f3.name = some 3 by kernel_rfl).symm.trans hf) |>.symm
      obtain rfl : fn = Tryd.f3 := (Option.some.inj (Tryd.func3.symm.trans hfn)).symm
      exact ⟨by kernel_rfl, fun j t ht => by
        rw [Tryd.params3] at ht
        have hm : t ∈ [24] := by simpa using Array.mem_of_getElem? ht
        have hall : ([24].all fun u => !Tryd.prog.wantsStandIn u) = true := by kernel_rfl
        exact (show Tryd.prog.wantsStandIn t = false by simpa using List.all_eq_true.1 hall t hm)⟩)
    (by kernel_rfl)
#print axioms card
end Go.Proofs.YtjibidbnkchpdaaDoor.fnExactShowTensor
