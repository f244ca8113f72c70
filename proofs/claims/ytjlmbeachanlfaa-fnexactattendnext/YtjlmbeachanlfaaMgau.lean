/- Lemmas for the proof of the law. -/
import Derived.Test.YtjlmbeachanlfaaMgaj
import Derived.Test.YtjlmbeachanlfaaMgak
/- The table of turns by their names. -/
namespace Go.Proofs.Ytjlmbeachanlfaa
namespace Vo
open Go.ChangeShapes Go.WideShapes Go.ChangeAt Go.RowKit Go.Joins
open Vl Vp Vr
set_option linter.unusedVariables false

end Vo
end Go.Proofs.Ytjlmbeachanlfaa

/- A turn of a view: the frame that all of them share. -/
namespace Go.Proofs.Ytjlmbeachanlfaa
namespace Vo
open Go.ChangeShapes Go.WideShapes Go.ChangeAt Go.RowKit Go.Joins
open Vl Vp Vr
set_option linter.unusedVariables false
set_option linter.unusedSimpArgs false

theorem drewSize (w : World) : w.drew.heap.size = w.heap.size := rfl
/-- where a list stands no view stands -/
theorem VOwn.apart {B : Nat} {w : World} {a b : Option Addr} {r s : Nat} {D S : Nat → Int} {P : Nat} (h : VOwn B w a b r s D S) (hc : w.cell? ⟨P, 0, none⟩ = some (.slice none 0 0)) : ∀ k, VBlk a b r s k → k ≠ P := by
  have key : ∀ (x : Option Addr) (m : Nat) (E : Nat → Int), OwnL B w x m E → ∀ k, Blk x m k → k ≠ P := by
    rintro x m E ho k ⟨hm, ad, rfl, rfl⟩ e
    rcases ho with h0 | ⟨g, e1, _, hw⟩
    · exact hm h0
    · injection e1 with e1
      subst e1
      have e : g = P := e
      subst e
      have := (hw 0 (by omega)).1
      rw [hc] at this
      injection this with this
      cases this
  rintro k (q | q)
  · exact key _ _ _ h.d k q
  · exact key _ _ _ h.t k q
/-- the new variable, and what a turn has answered in it -/
theorem turn_at {T : PV} {w wc W wE wx : World} {P : Nat} {ta tb : Option Addr} {tc td : Nat} {S : Nat → Prop} (hke : Kept S W wE) (bW : Below wc.heap.size wc W) (hS : ∀ k, S k → w.heap.size + 2 ≤ k) (hM : Box wc (w.heap.size + 1) (.slice none 0 0) (.slice none 0 0) (.int .i64 0) (.int .i64 0)) (hG : Free wc (w.heap.size + 1)) (hW : Below w.heap.size w wc) (hsz : w.heap.size + 2 ≤ wc.heap.size)
    (hvo : VOwn (w.heap.size + 2) wE ta tb T.r T.s T.D T.S) (hk : Kept (· = P) wE wx) (hne : ∀ k, VBlk ta tb T.r T.s k → k ≠ P) (p1 : w.heap.size + 2 ≤ P) (pX : P < wx.heap.size) (hbox : Box wx P (.slice ta T.r tc) (.slice tb T.s td) (.int .i64 T.o) (.int .i64 T.n)) :
    w.heap.size + 2 ≤ P ∧ P < wx.heap.size ∧ Box wx P (.slice ta T.r tc) (.slice tb T.s td) (.int .i64 T.o) (.int .i64 T.n) ∧ VOwn (w.heap.size + 2) wx ta tb T.r T.s T.D T.S ∧ Box wx (w.heap.size + 1) (.slice none 0 0) (.slice none 0 0) (.int .i64 0) (.int .i64 0) ∧ Free wx (w.heap.size + 1) ∧ Below w.heap.size w wx := by
  have s1 := bW.size
  have s2 := hke.size
  have hn1 : ¬ S (w.heap.size + 1) := fun q => by have := hS _ q; omega
  have hW' : Below w.heap.size w wE := (hW.trans (bW.mono hW.size)).trans (hke.below (by omega) (fun j q => by have := hS j q; omega))
  exact ⟨p1, pX, hbox, hvo.kept hk (fun k q e => hne k q e), ((hM.below bW (by omega)).kept hke (by omega) hn1).kept hk (by omega) (by omega), ((hG.below bW (by omega)).kept hke (by omega) hn1).kept hk (by omega) (by omega), hW'.trans (hk.below hW'.size (fun j e => by have e : j = P := e; omega))⟩
end Vo
end Go.Proofs.Ytjlmbeachanlfaa
