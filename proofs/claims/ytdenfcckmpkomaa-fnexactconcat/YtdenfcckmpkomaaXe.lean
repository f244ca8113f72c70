/- Lists of tensors that come in. -/
import Derived.Test.YtdenfcckmpkomaaTza
import Derived.Lib.SmallJoins
namespace Go.Proofs.Ytdenfcckmpkomaa
namespace Vo
open Go.ChangeShapes Go.WideShapes Go.ChangeAt Go.RowKit Go.Joins Go.Sort
open Vl Vp
set_option linter.unusedVariables false
/-- an argument: a list of tensors -/
def ArgT (w : World) (a : Option Addr) (n : Nat) : Prop := (n : Int) ≤ 9223372036854775807 ∧ ∃ T, TL w.heap.size w a n T ∧ TLen n T 9223372036854775807
set_option maxRecDepth 100000 in
theorem argT_of {H : Type} {enc : TypeId × Value → H} {w : World} {base : Nat} {spare : Nat → Bool} {held : Bool} {fuel : Nat} {c : Value} {x : DataW H × List MemPlace}
    (h : DataW.trod enc Try.prog w base spare held fuel 34 [c] = some x) : ∃ a n cap, c = .slice a n cap ∧ ArgT w a n := by
  rcases DataW.trod_slice Try.underlying34 h with ⟨hc, _⟩ | ⟨a, len, cap, elems, rest, m, _, hc, _, hb, hl, hm, hlen, hel, _, _⟩
  · simp at hc
    exact ⟨none, 0, 0, hc, by omega, fun _ => ⟨none, none, 0, 0, 0, 0, fun _ => 0, fun _ => 0⟩, .inl rfl, fun i hi => by omega⟩
  · simp at hc
    refine ⟨some a, len, cap, hc, ?_⟩
    unfold maxLen at hm
    have c2 : Try.prog.cellsOf 24 = 2 := by kernel_rfl
    have c1 : Try.prog.cellsOf 22 = 1 := by kernel_rfl
    have each : ∀ i, i < len → ∃ v : TV, w.cell? ((a.add (i * 2)).add 0) = some (.slice v.a v.r v.cap) ∧ w.cell? ((a.add (i * 2)).add 1) = some (.slice v.b v.s v.dap) ∧ ((v.r : Int) ≤ 9223372036854775807 ∧ (v.s : Int) ≤ 9223372036854775807) ∧ Ints w.heap.size w v.a v.r v.D ∧ Ints w.heap.size w v.b v.s v.S := by
      intro i hi
      have q := hel i hi
      rw [c2, List.getElem?_eq_getElem (by omega), Option.bind_eq_some_iff] at q
      obtain ⟨cs, hcs, hy⟩ := q
      obtain ⟨y0, y1, n, _, hcl, h0, h1⟩ := trod_struct2 Try.underlying24 hy
      rw [c2] at hcl
      obtain ⟨_, _, hce⟩ := World.cells?_some hcs
      obtain ⟨v0, v1, rfl⟩ : ∃ v0 v1, cs = [v0, v1] := by
        match cs, hcl with
        | [v0, v1], _ => exact ⟨v0, v1, rfl⟩
      have h0 : DataW.trod enc Try.prog w base spare held n 22 [v0] = some y0 := by simpa [c1] using h0
      have h1 : DataW.trod enc Try.prog w base spare held n 22 [v1] = some y1 := by simpa [c1] using h1
      obtain ⟨a0, r0, cap0, rfl, hr0, D, hD⟩ := arg_of h0
      obtain ⟨a1, r1, cap1, rfl, hr1, S, hS⟩ := arg_of h1
      exact ⟨⟨a0, a1, r0, r1, cap0, cap1, D, S⟩, hce 0 (by omega), hce 1 (by omega), ⟨hr0, hr1⟩, hD, hS⟩
    refine ⟨by omega, fun i => if h : i < len then Classical.choose (each i h) else ⟨none, none, 0, 0, 0, 0, fun _ => 0, fun _ => 0⟩, ?_, fun i hi => ?_⟩
    · by_cases h0 : len = 0
      · exact .inl h0
      · obtain ⟨b, off, spot⟩ := a
        have hs : spot = none := by simpa [Addr.add] using World.cell?_spot (Classical.choose_spec (each 0 (by omega))).1
        subst hs
        refine .inr ⟨b, off, rfl, ?_, fun i hi => ?_⟩
        · have q := (Classical.choose_spec (each 0 (by omega))).1
          exact World.block_lt_of_cell? _ _ q
        · have q := Classical.choose_spec (each i hi)
          dsimp only
          rw [dif_pos hi]
          refine ⟨?_, ?_, q.2.2.2⟩
          · have e0 : (⟨b, off + i * 2, none⟩ : Addr) = ((⟨b, off, none⟩ : Addr).add (i * 2)).add 0 := by rw [Go.WideShapes.add_plain, Go.WideShapes.add_plain, Nat.add_zero]
            rw [e0]
            exact q.1
          · have e0 : (⟨b, off + i * 2 + 1, none⟩ : Addr) = ((⟨b, off, none⟩ : Addr).add (i * 2)).add 1 := by rw [Go.WideShapes.add_plain, Go.WideShapes.add_plain]
            rw [e0]
            exact q.2.1
    · dsimp only
      rw [dif_pos hi]
      exact (Classical.choose_spec (each i hi)).2.2.1
theorem argT_at {H : Type} {enc : TypeId × Value → H} {w : World} {base : Nat} {spare : Nat → Bool} {held : Bool} {a : Option Addr} {r cap : Nat} {d : DataW H} {p : List MemPlace}
    (h : DataW.Trod enc Try.prog w base spare held 34 (.slice a r cap) d p) : ArgT w a r := by
  obtain ⟨fuel, hf⟩ := h
  obtain ⟨a', r', cap', e, h'⟩ := argT_of (c := .slice a r cap) (by simpa [Value.cells] using hf)
  simp at e
  obtain ⟨rfl, rfl, rfl⟩ := e
  exact h'
end Vo
end Go.Proofs.Ytdenfcckmpkomaa
