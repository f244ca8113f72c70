/- slices.Clone at lists of ints; rows that may grow. -/
import Derived.Test.YtabjpemneimljaaVn
import Derived.OwnWalk
import Derived.Lib.BufferMore
namespace Go.Proofs.Ytabjpemneimljaa
namespace Vo
open Go.ChangeShapes Go.WideShapes Go.ChangeAt Go.RowKit Go.Joins
open Vl Vp
set_option linter.unusedVariables false

/-- a list of one's own that may grow -/
def RowV (B : Nat) (w : World) (v : Value) (r : Nat) (D : Nat → Int) : Prop := w.ownsRow B 3 1 v r (ints r D) ∧ ∀ j, j < r → bd (D j)
theorem RowV.own {B : Nat} {w : World} {v : Value} {r : Nat} {D : Nat → Int} (h : RowV B w v r D) : ∃ a c, v = .slice a r c ∧ OwnL B w a r D := by
  obtain ⟨h, hb⟩ := h
  have h0 := h
  obtain ⟨_, ⟨rfl, rfl⟩ | ⟨g, cap, cur, rfl, hg, rest⟩⟩ := h
  · exact ⟨none, 0, rfl, .inl rfl⟩
  · exact ⟨_, _, rfl, .inr ⟨g, rfl, hg, rw_of_row h0 hb⟩⟩
theorem ints_of {B : Nat} {w : World} {a : Option Addr} {r : Nat} {D : Nat → Int} (h : Ints B w a r D) {ad : Addr} (e : a = some ad) : ∀ j u, (ints r D)[j]? = some u → w.cell? (ad.add j) = some u := by
  intro j u hu
  have hj : j < r := by
    have := (List.getElem?_eq_some_iff.1 hu).1
    simpa [ints] using this
  rw [ints_get r D j hj] at hu
  rcases h with h0 | ⟨b, off, e', _, hc⟩
  · omega
  · rw [e] at e'
    obtain rfl := Option.some.inj e'
    rw [← hu]
    have := (hc j hj).1
    rw [Addr.add_mid]
    exact this
theorem ints_one (r : Nat) (D : Nat → Int) : ∀ u ∈ ints r D, u.oneCell' = true := by
  intro u hu
  unfold ints at hu
  obtain ⟨t, _, rfl⟩ := List.mem_map.1 hu
  rfl
theorem ints_len (r : Nat) (D : Nat → Int) : (ints r D).length = r := by simp [ints]

end Vo
end Go.Proofs.Ytabjpemneimljaa
