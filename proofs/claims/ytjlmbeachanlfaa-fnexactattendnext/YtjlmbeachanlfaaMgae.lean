/- Lemmas for the proof of the law. -/
import Derived.Test.YtjlmbeachanlfaaMgad
import Derived.OwnWalk
import Derived.Lib.BufferMore
/- All places, the model's side. -/
namespace Go.Proofs.Ytjlmbeachanlfaa
namespace Vo
open Go.ChangeShapes Go.WideShapes Go.ChangeAt Go.RowKit Go.Joins
open Vl Vp
set_option linter.unusedVariables false
theorem infoInt : (Try.prog.info? 3).map (fun i => (i.zero, i.size, i.bytes)) = some (some (.int .i64 0), 1, 8) := by kernel_rfl
def ints (n : Nat) (f : Nat → Int) : List Value := (List.range n).map (fun t => .int .i64 (f t))
theorem ints_succ (n : Nat) (f : Nat → Int) : ints n f ++ [.int .i64 (f n)] = ints (n + 1) f := by unfold ints; rw [List.range_succ, List.map_append]; rfl
theorem ints_get (n : Nat) (f : Nat → Int) (t : Nat) (ht : t < n) : (ints n f)[t]? = some (.int .i64 (f t)) := by unfold ints; simp [ht]
theorem rw_of_row {w : World} {base g n cap : Nat} {f : Nat → Int} (h : w.ownsRow base 3 1 (.slice (some ⟨g, 0, none⟩) n cap) n (ints n f)) (hb : ∀ t, t < n → bd (f t)) : Rw w g n f := by
  intro t ht
  refine ⟨?_, h.frozenAt t, hb t ht⟩
  rw [h.cellAt t (by omega), ints_get n f t ht]

theorem drew_old {w : World} {a : Addr} {v : Value} (h : w.cell? a = some v) : w.drew.cell? a = some v := h
theorem alloc_old {w : World} {o : Obj} {a : Addr} {v : Value} (h : w.cell? a = some v) : (w.alloc o).cell? a = some v := by
  rw [World.cell?_of_block (w := w) (Below.heap_alloc w o a.block (block_lt_of_cell h))]; exact h
theorem below_old {w w' : World} {a : Addr} {v : Value} (b : Below w.heap.size w w') (h : w.cell? a = some v) : w'.cell? a = some v := (b.cell (block_lt_of_cell h)).trans h
theorem grown_old {w w' : World} {g : Nat} {a : Addr} {v : Value} (hg : w.grownBy w' (some g)) (hn : a.block ≠ g) (h : w.cell? a = some v) : w'.cell? a = some v :=
  (World.cell?_of_block (w := w) (hg.block a.block (block_lt_of_cell h) (by intro e; injection e with e; exact hn e))).trans h
theorem own_below {w w' : World} {base : Nat} {e : TypeId} {z : Nat} {v : Value} {n : Nat} {xs : List Value} (h : w.ownsRow base e z v n xs) (b : Below w.heap.size w w') : w'.ownsRow base e z v n xs := by
  cases hv : v.ownBlock with
  | none => exact h.kept (row := none) ⟨b.os, b.tape, b.output, b.size, fun k hk _ => b.block k hk⟩ (.inl hv)
  | some q => exact h.kept (row := none) ⟨b.os, b.tape, b.output, b.size, fun k hk _ => b.block k hk⟩ (.inr (by rw [hv]; simp))

end Vo
end Go.Proofs.Ytjlmbeachanlfaa

/- slices.Clone at lists of ints; rows that may grow. -/
namespace Go.Proofs.Ytjlmbeachanlfaa
namespace Vo
open Go.ChangeShapes Go.WideShapes Go.ChangeAt Go.RowKit Go.Joins
open Vl Vp
set_option linter.unusedVariables false

/-- a list of one's own that may grow -/
def RowV (B : Nat) (w : World) (v : Value) (r : Nat) (D : Nat → Int) : Prop := w.ownsRow B 3 1 v r (ints r D) ∧ ∀ j, j < r → bd (D j)
theorem RowV.own {B : Nat} {w : World} {v : Value} {r : Nat} {D : Nat → Int} (h : RowV B w v r D) : ∃ a c, v = .slice a r c ∧ OwnL B w a r D := by
  obtain ⟨h, hb⟩ := h
  have h0 := h
  obtain ⟨_, ⟨rfl, rfl⟩ | ⟨g, cap, cur, rfl, hg, rest⟩⟩ := h
  · exact ⟨none, 0, rfl, .inl rfl⟩
  · exact ⟨_, _, rfl, .inr ⟨g, rfl, hg, rw_of_row h0 hb⟩⟩
theorem ints_of {B : Nat} {w : World} {a : Option Addr} {r : Nat} {D : Nat → Int} (h : Ints B w a r D) {ad : Addr} (e : a = some ad) : ∀ j u, (ints r D)[j]? = some u → w.cell? (ad.add j) = some u := by
  intro j u hu
  have hj : j < r := by
    have := (List.getElem?_eq_some_iff.1 hu).1
    simpa [ints] using this
  rw [ints_get r D j hj] at hu
  rcases h with h0 | ⟨b, off, e', _, hc⟩
  · omega
  · rw [e] at e'
    obtain rfl := Option.some.inj e'
    rw [← hu]
    have := (hc j hj).1
    rw [Addr.add_mid]
    exact this
theorem ints_one (r : Nat) (D : Nat → Int) : ∀ u ∈ ints r D, u.oneCell' = true := by
  intro u hu
  unfold ints at hu
  obtain ⟨t, _, rfl⟩ := List.mem_map.1 hu
  rfl
theorem ints_len (r : Nat) (D : Nat → Int) : (ints r D).length = r := by simp [ints]

set_option maxHeartbeats 1000000 in
theorem clone (B : Nat) (a : Option Addr) (r cap : Nat) (D : Nat → Int) (w : World) (h : Ints B w a r D) (hB : B ≤ w.heap.size) (hr : (r : Int) ≤ 1048576) (hn : a = none → r = 0 ∧ cap = 0) :
    Calls Try.prog 59 #[.slice a r cap] w fun e w' => ∃ v, e = .returned v ∧ RowV w.heap.size w' v r D ∧ Below w.heap.size w w' := by
  obtain ⟨i0, hi0, hz0, hz1, hz2⟩ := info_parts infoInt
  have hbd : ∀ j, j < r → bd (D j) := fun j hj => h.bd j hj
  cases a with
  | none =>
    obtain ⟨rfl, rfl⟩ := hn rfl
    have heq := fun (W : World) => Lib.run_eql_slice_nil_nil (P := Try.prog) W 0 0 Try.underlying25
    clear h
    go_enter Try.func59, Try.ntmps59
    go_wp2_with fail
    go_ret
    exact ⟨_, rfl, ⟨World.ownsRow_nil _ _ _ _, hbd⟩, Below.refl _ _⟩
  | some ad =>
    have H := hide h
    have HB := hide hbd
    clear h hn hbd
    have hown0 : (w.alloc (.cells #[] 3)).ownsRow w.heap.size 3 1 (.slice (some ⟨w.heap.size, 0, none⟩) 0 0) 0 [] :=
      ⟨rfl, .inr ⟨w.heap.size, 0, #[], rfl, Nat.le_refl _, heap_alloc_new w _, Nat.le_refl _, by simp [maxLen], rfl, rfl⟩⟩
    have B0 := hide (show Below w.heap.size w (w.alloc (.cells #[] 3)) from (Below.refl _ _).alloc (Nat.le_refl _) _)
    have heq := fun (W : World) => Lib.run_eql_slice_some_nil (P := Try.prog) W ad r cap Try.underlying25
    have hnews := hide (ints_of (H.out.below (B0.out.mono hB)) rfl)
    go_enter Try.func59, Try.ntmps59
    go_wp2_with (at_builtin; refine wpList_append_own _ rfl _ _ 25 rfl w.heap.size 3 i0 (.int .i64 0) 1 8 Try.underlying25 hi0 hz0 hz1 hz2 rfl (by decide) _ _ _ rfl hown0 ad r cap (ints r D) rfl (by rw [ints_len]; omega) hnews.out (ints_one r D) (by unfold maxLen; omega) (by omega) (by simp) ?_; intro v' w1 hown1 hgrow1 _)
    go_ret
    rw [List.nil_append, Nat.zero_add] at hown1
    exact ⟨v', rfl, ⟨hown1, HB.out⟩, B0.out.grown hgrow1 (by simp) (by rintro k ⟨⟩; exact Nat.le_refl _)⟩
end Vo
end Go.Proofs.Ytjlmbeachanlfaa
