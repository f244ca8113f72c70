/- For the laws: a tensor that is answered and stored within a region that draws its order. -/
import Derived.Test.YtldcacdopijfdabTi
namespace Go.Proofs.Ytldcacdopijfdab
namespace Vo
open Go.ChangeShapes Go.WideShapes Go.ChangeAt Go.RowKit Go.Joins Go.Sort
open Vl Vp Vr
set_option linter.unusedVariables false
set_option linter.unusedSimpArgs false
theorem drewSz (w : World) : w.drew.heap.size = w.heap.size := rfl
theorem vapart {B : Nat} {w : World} {a b : Option Addr} {r s : Nat} {D S : Nat → Int} (h : VOwn B w a b r s D S) {P : Nat} {x y : Option Addr} {n c n' c' : Nat} (hb : Bx w P (.slice x n c) (.slice y n' c')) : ∀ k, VBlk a b r s k → k ≠ P := by
  rintro k q rfl
  rcases q with q | q
  · obtain ⟨q0, ad, e1, e2⟩ := q
    rcases h.d with h0 | ⟨g, e, _, rw1⟩
    · exact q0 h0
    · rw [e] at e1
      injection e1 with e1
      subst e1
      have e2 : g = k := e2
      subst e2
      have := (rw1 0 (by omega)).1
      rw [hb.1] at this
      cases this
  · obtain ⟨q0, ad, e1, e2⟩ := q
    rcases h.t with h0 | ⟨g, e, _, rw1⟩
    · exact q0 h0
    · rw [e] at e1
      injection e1 with e1
      subst e1
      have e2 : g = k := e2
      subst e2
      have := (rw1 0 (by omega)).1
      rw [hb.1] at this
      cases this
/-- what a region leaves that answers a tensor into a variable of its own -/
def Left (S : World) (v : PT) (p : Value) (wx : World) : Prop := ∃ (P : Nat) (ta tb : Option Addr) (tc td : Nat), p = .pointer (some ⟨P, 0, none⟩) ∧ P < wx.heap.size ∧ Bx wx P (.slice ta v.r tc) (.slice tb v.s td) ∧ VOwn S.heap.size wx ta tb v.r v.s v.D v.S ∧ Below S.heap.size S wx
theorem left_fresh {S wC : World} {v : PT} {B : Nat} {ta tb : Option Addr} {tc td : Nat} {t : TypeId} (hv : VOwn B wC ta tb v.r v.s v.D v.S) (hB : S.heap.size ≤ B) (hb : Below S.heap.size S wC) :
    Left S v (.pointer (some ⟨wC.heap.size, 0, none⟩)) (wC.alloc (.cells #[.slice ta v.r tc, .slice tb v.s td] t)) :=
  ⟨_, ta, tb, tc, td, rfl, by simp, bx_new wC _ _ t, (hv.below ((Below.refl _ _).alloc (Nat.le_refl _) _)).mono hB, hb.alloc hb.size _⟩
theorem left_set {S wC : World} {v : PT} {B P : Nat} {ta tb : Option Addr} {tc td : Nat} {x y : Option Addr} {n c n' c' : Nat} (hv : VOwn B wC ta tb v.r v.s v.D v.S) (hB : S.heap.size ≤ B) (hb : Below S.heap.size S wC) (hz : Bx wC P (.slice x n c) (.slice y n' c')) (hP : S.heap.size ≤ P) :
    Left S v (.pointer (some ⟨P, 0, none⟩)) ((wC.setCell ⟨P, 0, none⟩ (.slice ta v.r tc)).setCell ⟨P, 1, none⟩ (.slice tb v.s td)) := by
  have k2 := kept_sets2 wC P (.slice ta v.r tc) (.slice tb v.s td)
  have lt : P < wC.heap.size := World.block_lt_of_cell? _ _ hz.1
  refine ⟨P, ta, tb, tc, td, rfl, by simpa [World.setCell] using lt, ⟨?_, ?_⟩, (hv.kept k2 (fun k q e => vapart hv hz k q e)).mono hB, hb.trans (k2.below hb.size (fun j e => by have e : j = P := e; omega))⟩
  · rw [World.cell?_setCell_other _ _ _ _ (by intro e; cases e)]
    exact World.cell?_setCell_same _ _ _ hz.1
  · refine World.cell?_setCell_same _ _ _ (u := .slice y n' c') ?_
    rw [World.cell?_setCell_other _ _ _ _ (by intro e; cases e)]
    exact hz.2
theorem markViewB (B : Nat) (a b : Option Addr) (r s cap dap : Nat) (D S : Nat → Int) (o n k : Int) (w : World) (h : VOwn B w a b r s D S) (hr : (r : Int) ≤ 1048576) (hs : (s : Int) ≤ 1048576) (k0 : 0 ≤ k) (k1 : k ≤ 3145728) :
    Calls Try.prog 11 #[.agg #[.slice a r cap, .slice b s dap, .int .i64 o, .int .i64 n], .int .i64 k] w fun e w' => e = .returned (.int .i64 (k + r + s)) ∧ VOwn B w' a b r s (fun j => k + j) (fun j => k + r + j) ∧ Kept (VBlk a b r s) w w' := by
  have B0 := hide (show Below w.heap.size w (w.alloc (.cells #[.slice a r cap, .slice b s dap, .int .i64 o, .int .i64 n] 26)) from (Below.refl _ _).alloc (Nat.le_refl _) _)
  have H := hide (h.below B0.out)
  have HB := hide (fun k (q : VBlk a b r s k) => h.blk q)
  clear h
  go_enter Try.func11, Try.ntmps11
  go_wp2_with fail
  refine (markIntS B a r cap D k _ H.out.d hr k0 (by omega)).mono ?_
  rintro e w1 ⟨rfl, q1, t1⟩
  have c10 : ∀ i, w1.cell? ⟨w.heap.size, i, none⟩ = (w.alloc (.cells #[.slice a r cap, .slice b s dap, .int .i64 o, .int .i64 n] 26)).cell? ⟨w.heap.size, i, none⟩ := fun i =>
    World.cell?_of_block (w := w.alloc _) (a := ⟨w.heap.size, i, none⟩) (t1.block w.heap.size (by simp) (fun q => by have := (HB.out _ (.inl q)).2; omega))
  have T1 := hide t1
  have Q1 := hide q1
  have Q2 := hide (H.out.t.kept t1 (fun k q q' => H.out.ne k q' q))
  clear t1 q1
  go_wp2_with fail
  refine (markIntS B b s dap S _ _ Q2.out hs (by omega) (by omega)).mono ?_
  rintro e w2 ⟨rfl, q2, t2⟩
  have T2 := hide t2
  have Q3 := hide q2
  have Q4 := hide (Q1.out.kept t2 (fun k q q' => H.out.ne k q q'))
  clear t2 q2
  go_wp2_with fail
  go_ret
  exact ⟨rfl, ⟨Q4.out, Q3.out, H.out.ne⟩, ((Kept.of_below B0.out).trans (T1.out.mono (fun k _ q => .inl q))).trans (T2.out.mono (fun k _ q => .inr q))⟩
theorem markTensorB (B : Nat) (a b : Option Addr) (r s cap dap : Nat) (D S : Nat → Int) (k : Int) (w : World) (h : VOwn B w a b r s D S) (hr : (r : Int) ≤ 1048576) (hs : (s : Int) ≤ 1048576) (k0 : 0 ≤ k) (k1 : k ≤ 33554432) :
    Calls Try.prog 18 #[.agg #[.slice a r cap, .slice b s dap], .int .i64 k] w fun e w' => e = .returned (.int .i64 (k + r + s)) ∧ VOwn B w' a b r s (fun j => k + j) (fun j => k + r + j) ∧ Kept (VBlk a b r s) w w' := by
  have B0 := hide (show Below w.heap.size w (w.alloc (.cells #[.slice a r cap, .slice b s dap] 35)) from (Below.refl _ _).alloc (Nat.le_refl _) _)
  have H := hide (h.below B0.out)
  have HB := hide (fun k (q : VBlk a b r s k) => h.blk q)
  clear h
  go_enter Try.func18, Try.ntmps18
  go_wp2_with fail
  refine (markIntS B a r cap D k _ H.out.d hr k0 (by omega)).mono ?_
  rintro e w1 ⟨rfl, q1, t1⟩
  have c10 : ∀ i, w1.cell? ⟨w.heap.size, i, none⟩ = (w.alloc (.cells #[.slice a r cap, .slice b s dap] 35)).cell? ⟨w.heap.size, i, none⟩ := fun i =>
    World.cell?_of_block (w := w.alloc _) (a := ⟨w.heap.size, i, none⟩) (t1.block w.heap.size (by simp) (fun q => by have := (HB.out _ (.inl q)).2; omega))
  have T1 := hide t1
  have Q1 := hide q1
  have Q2 := hide (H.out.t.kept t1 (fun k q q' => H.out.ne k q' q))
  clear t1 q1
  go_wp2_with fail
  refine (markIntS B b s dap S _ _ Q2.out hs (by omega) (by omega)).mono ?_
  rintro e w2 ⟨rfl, q2, t2⟩
  have T2 := hide t2
  have Q3 := hide q2
  have Q4 := hide (Q1.out.kept t2 (fun k q q' => H.out.ne k q q'))
  clear t2 q2
  go_wp2_with fail
  go_ret
  exact ⟨rfl, ⟨Q4.out, Q3.out, H.out.ne⟩, ((Kept.of_below B0.out).trans (T1.out.mono (fun k _ q => .inl q))).trans (T2.out.mono (fun k _ q => .inr q))⟩
end Vo
end Go.Proofs.Ytldcacdopijfdab
