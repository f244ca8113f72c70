/- All places, the model's side. -/
import Derived.Test.YtflbhlepmjiejaaVm
namespace Go.Proofs.Ytflbhlepmjiejaa
namespace Vo
open Go.ChangeShapes Go.WideShapes Go.ChangeAt Go.RowKit Go.Joins
open Vl Vp
set_option linter.unusedVariables false
theorem infoInt : (Try.prog.info? 3).map (fun i => (i.zero, i.size, i.bytes)) = some (some (.int .i64 0), 1, 8) := by kernel_rfl
def ints (n : Nat) (f : Nat → Int) : List Value := (List.range n).map (fun t => .int .i64 (f t))
theorem ints_succ (n : Nat) (f : Nat → Int) : ints n f ++ [.int .i64 (f n)] = ints (n + 1) f := by unfold ints; rw [List.range_succ, List.map_append]; rfl
theorem ints_get (n : Nat) (f : Nat → Int) (t : Nat) (ht : t < n) : (ints n f)[t]? = some (.int .i64 (f t)) := by unfold ints; simp [ht]
theorem rw_of_row {w : World} {base g n cap : Nat} {f : Nat → Int} (h : w.ownsRow base 3 1 (.slice (some ⟨g, 0, none⟩) n cap) n (ints n f)) (hb : ∀ t, t < n → bd (f t)) : Rw w g n f := by
  intro t ht
  refine ⟨?_, h.frozenAt t, hb t ht⟩
  rw [h.cellAt t (by omega), ints_get n f t ht]

theorem drew_old {w : World} {a : Addr} {v : Value} (h : w.cell? a = some v) : w.drew.cell? a = some v := h
theorem alloc_old {w : World} {o : Obj} {a : Addr} {v : Value} (h : w.cell? a = some v) : (w.alloc o).cell? a = some v := by
  rw [World.cell?_of_block (w := w) (Below.heap_alloc w o a.block (block_lt_of_cell h))]; exact h
theorem below_old {w w' : World} {a : Addr} {v : Value} (b : Below w.heap.size w w') (h : w.cell? a = some v) : w'.cell? a = some v := (b.cell (block_lt_of_cell h)).trans h
theorem grown_old {w w' : World} {g : Nat} {a : Addr} {v : Value} (hg : w.grownBy w' (some g)) (hn : a.block ≠ g) (h : w.cell? a = some v) : w'.cell? a = some v :=
  (World.cell?_of_block (w := w) (hg.block a.block (block_lt_of_cell h) (by intro e; injection e with e; exact hn e))).trans h
theorem own_below {w w' : World} {base : Nat} {e : TypeId} {z : Nat} {v : Value} {n : Nat} {xs : List Value} (h : w.ownsRow base e z v n xs) (b : Below w.heap.size w w') : w'.ownsRow base e z v n xs := by
  cases hv : v.ownBlock with
  | none => exact h.kept (row := none) ⟨b.os, b.tape, b.output, b.size, fun k hk _ => b.block k hk⟩ (.inl hv)
  | some q => exact h.kept (row := none) ⟨b.os, b.tape, b.output, b.size, fun k hk _ => b.block k hk⟩ (.inr (by rw [hv]; simp))

end Vo
end Go.Proofs.Ytflbhlepmjiejaa
