/- Lemmas for the proof of the law. -/
import Derived.Test.YtjlmbeachanlfaaMgbb
import Derived.Test.YtjlmbeachanlfaaMgbf
/- For the laws: a tensor that is answered and stored within a region that draws its order. -/
namespace Go.Proofs.Ytjlmbeachanlfaa
namespace Vo
open Go.ChangeShapes Go.WideShapes Go.ChangeAt Go.RowKit Go.Joins Go.Sort
open Vl Vp Vr
set_option linter.unusedVariables false
set_option linter.unusedSimpArgs false
theorem drewSz (w : World) : w.drew.heap.size = w.heap.size := rfl
theorem vapart {B : Nat} {w : World} {a b : Option Addr} {r s : Nat} {D S : Nat → Int} (h : VOwn B w a b r s D S) {P : Nat} {x y : Option Addr} {n c n' c' : Nat} (hb : Bx w P (.slice x n c) (.slice y n' c')) : ∀ k, VBlk a b r s k → k ≠ P := by
  rintro k q rfl
  rcases q with q | q
  · obtain ⟨q0, ad, e1, e2⟩ := q
    rcases h.d with h0 | ⟨g, e, _, rw1⟩
    · exact q0 h0
    · rw [e] at e1
      injection e1 with e1
      subst e1
      have e2 : g = k := e2
      subst e2
      have := (rw1 0 (by omega)).1
      rw [hb.1] at this
      cases this
  · obtain ⟨q0, ad, e1, e2⟩ := q
    rcases h.t with h0 | ⟨g, e, _, rw1⟩
    · exact q0 h0
    · rw [e] at e1
      injection e1 with e1
      subst e1
      have e2 : g = k := e2
      subst e2
      have := (rw1 0 (by omega)).1
      rw [hb.1] at this
      cases this
/-- what a region leaves that answers a tensor into a variable of its own -/
def Left (S : World) (v : PT) (p : Value) (wx : World) : Prop := ∃ (P : Nat) (ta tb : Option Addr) (tc td : Nat), p = .pointer (some ⟨P, 0, none⟩) ∧ P < wx.heap.size ∧ Bx wx P (.slice ta v.r tc) (.slice tb v.s td) ∧ VOwn S.heap.size wx ta tb v.r v.s v.D v.S ∧ Below S.heap.size S wx
theorem left_fresh {S wC : World} {v : PT} {B : Nat} {ta tb : Option Addr} {tc td : Nat} {t : TypeId} (hv : VOwn B wC ta tb v.r v.s v.D v.S) (hB : S.heap.size ≤ B) (hb : Below S.heap.size S wC) :
    Left S v (.pointer (some ⟨wC.heap.size, 0, none⟩)) (wC.alloc (.cells #[.slice ta v.r tc, .slice tb v.s td] t)) :=
  ⟨_, ta, tb, tc, td, rfl, by simp, bx_new wC _ _ t, (hv.below ((Below.refl _ _).alloc (Nat.le_refl _) _)).mono hB, hb.alloc hb.size _⟩
theorem left_set {S wC : World} {v : PT} {B P : Nat} {ta tb : Option Addr} {tc td : Nat} {x y : Option Addr} {n c n' c' : Nat} (hv : VOwn B wC ta tb v.r v.s v.D v.S) (hB : S.heap.size ≤ B) (hb : Below S.heap.size S wC) (hz : Bx wC P (.slice x n c) (.slice y n' c')) (hP : S.heap.size ≤ P) :
    Left S v (.pointer (some ⟨P, 0, none⟩)) ((wC.setCell ⟨P, 0, none⟩ (.slice ta v.r tc)).setCell ⟨P, 1, none⟩ (.slice tb v.s td)) := by
  have k2 := kept_sets2 wC P (.slice ta v.r tc) (.slice tb v.s td)
  have lt : P < wC.heap.size := World.block_lt_of_cell? _ _ hz.1
  refine ⟨P, ta, tb, tc, td, rfl, by simpa [World.setCell] using lt, ⟨?_, ?_⟩, (hv.kept k2 (fun k q e => vapart hv hz k q e)).mono hB, hb.trans (k2.below hb.size (fun j e => by have e : j = P := e; omega))⟩
  · rw [World.cell?_setCell_other _ _ _ _ (by intro e; cases e)]
    exact World.cell?_setCell_same _ _ _ hz.1
  · refine World.cell?_setCell_same _ _ _ (u := .slice y n' c') ?_
    rw [World.cell?_setCell_other _ _ _ _ (by intro e; cases e)]
    exact hz.2
end Vo
end Go.Proofs.Ytjlmbeachanlfaa

/- For the laws: what the operations of a drawn region leave: tensors that were made, a variable laid. -/
namespace Go.Proofs.Ytjlmbeachanlfaa
namespace Vo
open Go.ChangeShapes Go.WideShapes Go.ChangeAt Go.RowKit Go.Joins Go.Sort
open Vl Vp Vr
set_option linter.unusedVariables false
set_option linter.unusedSimpArgs false
/-- a tensor that was made anew of what came in -/
def TenV (B : Nat) (r s : Nat) (D S : Nat → Int) (v : Value) (wx : World) : Prop := ∃ g g', v = .agg #[.slice (some ⟨g, 0, none⟩) r r, .slice (some ⟨g', 0, none⟩) s s] ∧ VOwn B wx (some ⟨g, 0, none⟩) (some ⟨g', 0, none⟩) r s D S
theorem TenV.below {B r s : Nat} {D S : Nat → Int} {v : Value} {w1 w2 : World} (h : TenV B r s D S v w1) (hb : Below w1.heap.size w1 w2) : TenV B r s D S v w2 := by
  obtain ⟨g, g', e, q⟩ := h
  exact ⟨g, g', e, q.below hb⟩
/-- a tensor that was answered -/
def TenW (B : Nat) (T : PT) (v : Value) (wx : World) : Prop := ∃ a b c d, v = .agg #[.slice a T.r c, .slice b T.s d] ∧ VOwn B wx a b T.r T.s T.D T.S
theorem TenW.below {B : Nat} {T : PT} {v : Value} {w1 w2 : World} (h : TenW B T v w1) (hb : Below w1.heap.size w1 w2) : TenW B T v w2 := by
  obtain ⟨a, b, c, d, e, q⟩ := h
  exact ⟨a, b, c, d, e, q.below hb⟩
/-- a variable that was laid for a tensor -/
def PtrZ (B : Nat) (v : Value) (wx : World) : Prop := ∃ p, v = .pointer (some ⟨p, 0, none⟩) ∧ B ≤ p ∧ p < wx.heap.size ∧ Bx wx p (.slice none 0 0) (.slice none 0 0) ∧ Free wx p
theorem PtrZ.below {B : Nat} {v : Value} {w1 w2 : World} (h : PtrZ B v w1) (hb : Below w1.heap.size w1 w2) : PtrZ B v w2 := by
  obtain ⟨p, e, hB, hp, q, f⟩ := h
  exact ⟨p, e, hB, Nat.lt_of_lt_of_le hp hb.size, q.below hb hp, f.below hb hp⟩
theorem left_set2 {S wC : World} {v : PT} {P : Nat} {ta tb : Option Addr} {tc td : Nat} (hv : VOwn S.heap.size wC ta tb v.r v.s v.D v.S) (hb : Below S.heap.size S wC) (hz : Bx wC P (.slice none 0 0) (.slice none 0 0)) (hP : S.heap.size ≤ P) (lt : P < wC.heap.size) :
    P < ((wC.setCell ⟨P, 0, none⟩ (.slice ta v.r tc)).setCell ⟨P, 1, none⟩ (.slice tb v.s td)).heap.size ∧ Bx ((wC.setCell ⟨P, 0, none⟩ (.slice ta v.r tc)).setCell ⟨P, 1, none⟩ (.slice tb v.s td)) P (.slice ta v.r tc) (.slice tb v.s td) ∧ VOwn S.heap.size ((wC.setCell ⟨P, 0, none⟩ (.slice ta v.r tc)).setCell ⟨P, 1, none⟩ (.slice tb v.s td)) ta tb v.r v.s v.D v.S ∧ Below S.heap.size S ((wC.setCell ⟨P, 0, none⟩ (.slice ta v.r tc)).setCell ⟨P, 1, none⟩ (.slice tb v.s td)) := by
  have k2 := kept_sets2 wC P (.slice ta v.r tc) (.slice tb v.s td)
  refine ⟨by simpa [World.setCell] using lt, ⟨?_, ?_⟩, hv.kept k2 (fun k q e => vapart hv hz k q e), hb.trans (k2.below hb.size (fun j e => by have e : j = P := e; omega))⟩
  · rw [World.cell?_setCell_other _ _ _ _ (by intro e; cases e)]
    exact World.cell?_setCell_same _ _ _ hz.1
  · refine World.cell?_setCell_same _ _ _ (u := .slice none 0 0) ?_
    rw [World.cell?_setCell_other _ _ _ _ (by intro e; cases e)]
    exact hz.2
theorem runAllocT {o : Oper} {A : Act} {w : World} (ho : o.op = .alloc 43) : (execOp A.eval o).run Try.prog w = .ok (.value (.pointer (some ⟨w.heap.size, 0, none⟩))) (w.alloc (.cells #[.slice none 0 0, .slice none 0 0] 43)) := by
  unfold execOp
  rw [ho]
  go_simp
theorem ptrZ_new (B : Nat) (w : World) (hB : B ≤ w.heap.size) : Below w.heap.size w (w.alloc (.cells #[.slice none 0 0, .slice none 0 0] 43)) ∧ PtrZ B (.pointer (some ⟨w.heap.size, 0, none⟩)) (w.alloc (.cells #[.slice none 0 0, .slice none 0 0] 43)) :=
  ⟨(Below.refl _ _).alloc (Nat.le_refl _) _, _, rfl, hB, by simp, bx_new w _ _ _, free_new w #[.slice none 0 0, .slice none 0 0] 43⟩
end Vo
end Go.Proofs.Ytjlmbeachanlfaa
