/- slices.Clone at lists of ints; rows that may grow. -/
import Derived.Test.YtflbhlepmjiejaaVn
import Derived.OwnWalk
import Derived.Lib.BufferMore
namespace Go.Proofs.Ytflbhlepmjiejaa
namespace Vo
open Go.ChangeShapes Go.WideShapes Go.ChangeAt Go.RowKit Go.Joins
open Vl Vp
set_option linter.unusedVariables false

/-- a list of one's own that may grow -/
def RowV (B : Nat) (w : World) (v : Value) (r : Nat) (D : Nat → Int) : Prop := w.ownsRow B 3 1 v r (ints r D) ∧ ∀ j, j < r → bd (D j)
theorem RowV.own {B : Nat} {w : World} {v : Value} {r : Nat} {D : Nat → Int} (h : RowV B w v r D) : ∃ a c, v = .slice a r c ∧ OwnL B w a r D := by
  obtain ⟨h, hb⟩ := h
  have h0 := h
  obtain ⟨_, ⟨rfl, rfl⟩ | ⟨g, cap, cur, rfl, hg, rest⟩⟩ := h
  · exact ⟨none, 0, rfl, .inl rfl⟩
  · exact ⟨_, _, rfl, .inr ⟨g, rfl, hg, rw_of_row h0 hb⟩⟩
theorem ints_of {B : Nat} {w : World} {a : Option Addr} {r : Nat} {D : Nat → Int} (h : Ints B w a r D) {ad : Addr} (e : a = some ad) : ∀ j u, (ints r D)[j]? = some u → w.cell? (ad.add j) = some u := by
  intro j u hu
  have hj : j < r := by
    have := (List.getElem?_eq_some_iff.1 hu).1
    simpa [ints] using this
  rw [ints_get r D j hj] at hu
  rcases h with h0 | ⟨b, off, e', _, hc⟩
  · omega
  · rw [e] at e'
    obtain rfl := Option.some.inj e'
    rw [← hu]
    have := (hc j hj).1
    rw [Addr.add_mid]
    exact this
theorem ints_one (r : Nat) (D : Nat → Int) : ∀ u ∈ ints r D, u.oneCell' = true := by
  intro u hu
  unfold ints at hu
  obtain ⟨t, _, rfl⟩ := List.mem_map.1 hu
  rfl
theorem ints_len (r : Nat) (D : Nat → Int) : (ints r D).length = r := by simp [ints]

set_option maxHeartbeats 1000000 in
theorem clone (B : Nat) (a : Option Addr) (r cap : Nat) (D : Nat → Int) (w : World) (h : Ints B w a r D) (hB : B ≤ w.heap.size) (hr : (r : Int) ≤ 1048576) (hn : a = none → r = 0 ∧ cap = 0) :
    Calls Try.prog 50 #[.slice a r cap] w fun e w' => ∃ v, e = .returned v ∧ RowV w.heap.size w' v r D ∧ Below w.heap.size w w' := by
  obtain ⟨i0, hi0, hz0, hz1, hz2⟩ := info_parts infoInt
  have hbd : ∀ j, j < r → bd (D j) := fun j hj => h.bd j hj
  cases a with
  | none =>
    obtain ⟨rfl, rfl⟩ := hn rfl
    have heq := fun (W : World) => Lib.run_eql_slice_nil_nil (P := Try.prog) W 0 0 Try.underlying28
    clear h
    go_enter Try.func50, Try.ntmps50
    go_wp2_with fail
    go_ret
    exact ⟨_, rfl, ⟨World.ownsRow_nil _ _ _ _, hbd⟩, Below.refl _ _⟩
  | some ad =>
    have H := hide h
    have HB := hide hbd
    clear h hn hbd
    have hown0 : (w.alloc (.cells #[] 3)).ownsRow w.heap.size 3 1 (.slice (some ⟨w.heap.size, 0, none⟩) 0 0) 0 [] :=
      ⟨rfl, .inr ⟨w.heap.size, 0, #[], rfl, Nat.le_refl _, heap_alloc_new w _, Nat.le_refl _, by simp [maxLen], rfl, rfl⟩⟩
    have B0 := hide (show Below w.heap.size w (w.alloc (.cells #[] 3)) from (Below.refl _ _).alloc (Nat.le_refl _) _)
    have heq := fun (W : World) => Lib.run_eql_slice_some_nil (P := Try.prog) W ad r cap Try.underlying28
    have hnews := hide (ints_of (H.out.below (B0.out.mono hB)) rfl)
    go_enter Try.func50, Try.ntmps50
    go_wp2_with (at_builtin; refine wpList_append_own _ rfl _ _ 28 rfl w.heap.size 3 i0 (.int .i64 0) 1 8 Try.underlying28 hi0 hz0 hz1 hz2 rfl (by decide) _ _ _ rfl hown0 ad r cap (ints r D) rfl (by rw [ints_len]; omega) hnews.out (ints_one r D) (by unfold maxLen; omega) (by omega) (by simp) ?_; intro v' w1 hown1 hgrow1 _)
    go_ret
    rw [List.nil_append, Nat.zero_add] at hown1
    exact ⟨v', rfl, ⟨hown1, HB.out⟩, B0.out.grown hgrow1 (by simp) (by rintro k ⟨⟩; exact Nat.le_refl _)⟩
end Vo
end Go.Proofs.Ytflbhlepmjiejaa
