/- Arguments that are structs, and lists of them. -/
import Derived.Test.YtflbhlepmjiejaaVl
import Derived.Lib.SmallJoins
namespace Go.Proofs.Ytflbhlepmjiejaa
namespace Vo
open Go.ChangeShapes Go.WideShapes Go.ChangeAt Go.RowKit Go.Joins Go.Sort
open Vl
set_option linter.unusedVariables false
theorem choose_of {α : Type} (d : α) {l : Nat} {P : Nat → α → Prop} (h : ∀ i, i < l → ∃ v, P i v) : ∃ A : Nat → α, ∀ i, i < l → P i (A i) :=
  ⟨fun i => if c : i < l then Classical.choose (h i c) else d, fun i hi => by dsimp only; rw [dif_pos hi]; exact Classical.choose_spec (h i hi)⟩
section
variable {H : Type} {enc : TypeId × Value → H} {w : World} {base : Nat} {spare : Nat → Bool} {held : Bool} {fuel : Nat}
theorem field_of {t : TypeId} {fs : Array Field} {cs : List Value} {x : DataW H × List MemPlace} (ht : Try.prog.underlying t = some (.struct fs)) (h : DataW.trod enc Try.prog w base spare held fuel t cs = some x) (k : Nat) (f : Field) (hk : fs[k]? = some f) (m : Nat) (hm : Try.prog.cellsOf f.type = m) :
    ∃ y n, DataW.trod enc Try.prog w base spare held n f.type ((cs.drop f.offset).take m) = some y := by
  obtain ⟨xs, n, _, _, _, hlen, hf⟩ := DataW.trod_struct ht h
  have q := hf k f hk
  have hk' : k < fs.size := (Array.getElem?_eq_some_iff.1 hk).1
  rw [hm, List.getElem?_eq_getElem (by omega)] at q
  exact ⟨_, n, q⟩
theorem els_at {S T : TypeId} {n : Nat} (hs : Try.prog.underlying S = some (.slice T)) (hn : Try.prog.cellsOf T = n) (n0 : 0 < n) {c : Value} {x : DataW H × List MemPlace} (h : DataW.trod enc Try.prog w base spare held fuel S [c] = some x) :
    ∃ a l cap, c = .slice a l cap ∧ (l : Int) ≤ 9223372036854775807 ∧ (l = 0 ∨ ∃ blk off, a = some ⟨blk, off, none⟩ ∧ blk < w.heap.size ∧ ∀ i, i < l → ∃ cs m y, cs.length = n ∧ (∀ q, q < n → w.cell? ⟨blk, off + i * n + q, none⟩ = cs[q]?) ∧ DataW.trod enc Try.prog w base spare held m T cs = some y) := by
  rcases DataW.trod_slice hs h with ⟨hc, _⟩ | ⟨a, len, cap, elems, rest, m, _, hc, _, hb, hl, hm, hlen, hel, _, _⟩
  · simp at hc
    exact ⟨none, 0, 0, hc, by omega, .inl rfl⟩
  · simp at hc
    refine ⟨some a, len, cap, hc, by unfold maxLen at hm; omega, ?_⟩
    have each : ∀ i, i < len → ∃ cs m y, cs.length = n ∧ (∀ q, q < n → w.cell? ((a.add (i * n)).add q) = cs[q]?) ∧ DataW.trod enc Try.prog w base spare held m T cs = some y := by
      intro i hi
      have q := hel i hi
      rw [hn, List.getElem?_eq_getElem (by omega), Option.bind_eq_some_iff] at q
      obtain ⟨cs, hcs, hy⟩ := q
      obtain ⟨_, hcl, hce⟩ := World.cells?_some hcs
      exact ⟨cs, m, _, hcl, hce, hy⟩
    by_cases h0 : len = 0
    · exact .inl h0
    · obtain ⟨b, off, spot⟩ := a
      obtain ⟨cs, _, _, hcl, hce, _⟩ := each 0 (by omega)
      have q0 := hce 0 n0
      rw [List.getElem?_eq_getElem (by omega)] at q0
      have hs : spot = none := by simpa [Addr.add] using World.cell?_spot q0
      subst hs
      have q1 := World.block_lt_of_cell? _ _ q0
      rw [Go.WideShapes.add_plain, Go.WideShapes.add_plain] at q1
      refine .inr ⟨b, off, rfl, q1, fun i hi => ?_⟩
      obtain ⟨cs, m, y, hcl, hce, hy⟩ := each i hi
      refine ⟨cs, m, y, hcl, fun q hq => ?_, hy⟩
      have e0 : (⟨b, off + i * n + q, none⟩ : Addr) = ((⟨b, off, none⟩ : Addr).add (i * n)).add q := by rw [Go.WideShapes.add_plain, Go.WideShapes.add_plain]
      rw [e0]
      exact hce q hq
theorem int_of {c : Value} {x : DataW H × List MemPlace} (h : DataW.trod enc Try.prog w base spare held fuel 3 [c] = some x) : ∃ u, c = .int .i64 u ∧ bd u := by
  obtain ⟨u, e, _, hw⟩ := DataW.trod_int Try.underlying3 h
  simp at e
  exact ⟨u, e, bounds_i64 hw⟩
end
end Vo
end Go.Proofs.Ytflbhlepmjiejaa
