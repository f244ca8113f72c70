/- A step moves the parameters: the program (written by tools/genom.py). -/
import Derived.Test.YtflbhlepmjiejaaOj
import Derived.Test.YtflbhlepmjiejaaQf
import Derived.BigRegion
namespace Go.Proofs.Ytflbhlepmjiejaa
namespace Vo
open Go.ChangeShapes Go.WideShapes Go.ChangeAt Go.RowKit Go.Joins Go.Sort
open Vl
set_option linter.unusedVariables false
set_option linter.unusedSimpArgs false
/-- what lies where -/
def Lis (l : List (Addr × Value)) (w : World) : Prop := ∀ x, x ∈ l → w.cell? x.1 = some x.2
theorem Lis.below {l : List (Addr × Value)} {w w' : World} (h : Lis l w) (b : Below w.heap.size w w') : Lis l w' := fun x hx => by
  have := World.block_lt_of_cell? _ _ (h x hx)
  rw [b.cell (p := x.1) this]; exact h x hx
/-- six cells of a variable that can be written -/
structure C6 (w : World) (p : Nat) (V : Nat → Value) : Prop where
  c : ∀ i, i < 6 → w.cell? ⟨p, i, none⟩ = some (V i)
  f : ∀ i, w.frozen? ⟨p, i, none⟩ = false
  z : p < w.heap.size
theorem C6.kept {T : Nat → Prop} {p : Nat} {w w' : World} {V : Nat → Value} (h : C6 w p V) (k : Kept T w w') (hp : ¬ T p) : C6 w' p V where
  c i hi := by rw [World.cell?_of_block (w := w) (a := ⟨p, i, none⟩) (k.block p h.z hp)]; exact h.c i hi
  f i := by rw [World.frozen?_of_block (w := w) (a := ⟨p, i, none⟩) (k.block p h.z hp)]; exact h.f i
  z := Nat.lt_of_lt_of_le h.z k.size
theorem C6.set {p : Nat} {w : World} {V : Nat → Value} (h : C6 w p V) (k : Nat) (x : Value) (hk : k < 6) : C6 (w.setCell ⟨p, k, none⟩ x) p (upv V k x) where
  c i hi := by
    unfold upv
    by_cases c : i = k
    · subst c; rw [if_pos rfl]; exact World.cell?_setCell_same _ _ _ (h.c i hi)
    · rw [if_neg c, cell_oth (by omega)]; exact h.c i hi
  f i := by rw [World.frozen?_setCell]; exact h.f i
  z := by simpa [World.setCell] using h.z
/-- a state in a variable -/
def OV (aP aF aS : Option Addr) (n cP cF cS : Nat) (cnt fac good : Int) (i : Nat) : Value := #[Value.slice aP n cP, .slice aF n cF, .slice aS n cS, .int .i64 cnt, .int .i64 fac, .int .i64 good].getD i undef
def T3 (gP gF gS : Nat) (b : Nat) : Prop := b = gP ∨ b = gF ∨ b = gS
section
variable {o : Oper} {A : Act} {w : World} {x y z : Operand}
theorem runNilC {p : Addr} (ho : o.op = .nilCheck x) (hx : A.eval x = .pointer (some p)) : (execOp A.eval o).run Try.prog w = .ok (.value (.pointer (some p))) w := by
  unfold execOp
  rw [ho]
  simp only [hx]
  go_simp
theorem runFO0 {b : Nat} (ho : o.op = .fieldAddr 30 x 0) (hx : A.eval x = .pointer (some ⟨b, 0, none⟩)) : (execOp A.eval o).run Try.prog w = .ok (.value (.pointer (some ⟨b, 0, none⟩))) w := by
  unfold execOp
  rw [ho]
  simp only [hx]
  go_simp
theorem runFO1 {b : Nat} (ho : o.op = .fieldAddr 30 x 1) (hx : A.eval x = .pointer (some ⟨b, 0, none⟩)) : (execOp A.eval o).run Try.prog w = .ok (.value (.pointer (some ⟨b, 1, none⟩))) w := by
  unfold execOp
  rw [ho]
  simp only [hx]
  go_simp
theorem runFO2 {b : Nat} (ho : o.op = .fieldAddr 30 x 2) (hx : A.eval x = .pointer (some ⟨b, 0, none⟩)) : (execOp A.eval o).run Try.prog w = .ok (.value (.pointer (some ⟨b, 2, none⟩))) w := by
  unfold execOp
  rw [ho]
  simp only [hx]
  go_simp
theorem runFO4 {b : Nat} (ho : o.op = .fieldAddr 30 x 4) (hx : A.eval x = .pointer (some ⟨b, 0, none⟩)) : (execOp A.eval o).run Try.prog w = .ok (.value (.pointer (some ⟨b, 4, none⟩))) w := by
  unfold execOp
  rw [ho]
  simp only [hx]
  go_simp
theorem runLI {b f : Nat} {v : Value} (ho : o.op = .load 3 x) (hx : A.eval x = .pointer (some ⟨b, f, none⟩)) (h : w.cell? ⟨b, f, none⟩ = some v) : (execOp A.eval o).run Try.prog w = .ok (.value v) w := by
  unfold execOp
  rw [ho]
  simp only [hx]
  go_simp
theorem runLL {b f : Nat} {v : Value} (ho : o.op = .load 28 x) (hx : A.eval x = .pointer (some ⟨b, f, none⟩)) (h : w.cell? ⟨b, f, none⟩ = some v) : (execOp A.eval o).run Try.prog w = .ok (.value v) w := by
  unfold execOp
  rw [ho]
  simp only [hx]
  go_simp
theorem runIx {b n c j : Nat} (ho : o.op = .indexAddr 28 x y) (hx : A.eval x = .slice (some ⟨b, 0, none⟩) n c) (hy : A.eval y = .int .i64 ((j : Nat) : Int)) (hj : j < n) : (execOp A.eval o).run Try.prog w = .ok (.value (.pointer (some ⟨b, j, none⟩))) w := by
  have hj' : (j : Int) < (n : Int) := by omega
  unfold execOp
  rw [ho]
  simp only [hx, hy]
  go_simp
theorem runBP {a b c : Int} (ho : o.op = .build 89 #[(0, x), (1, y), (2, z)]) (hx : A.eval x = .int .i64 a) (hy : A.eval y = .int .i64 b) (hz : A.eval z = .int .i64 c) : (execOp A.eval o).run Try.prog w = .ok (.value (.agg #[.int .i64 a, .int .i64 b, .int .i64 c])) w := by
  unfold execOp
  rw [ho]
  simp only [List.map_toArray, List.map_cons, List.map_nil, hx, hy, hz]
  go_simp
theorem runAP (ho : o.op = .alloc 89) : (execOp A.eval o).run Try.prog w = .ok (.value (.pointer (some ⟨w.heap.size, 0, none⟩))) (w.alloc (.cells #[.int .i64 0, .int .i64 0, .int .i64 0] 89)) := by
  unfold execOp
  rw [ho]
  go_simp
theorem runLn {a : Option Addr} {n c : Nat} (ho : o.op = .call { callee := .builtin .len, args := #[x], argTypes := #[28] }) (hx : A.eval x = .slice a n c) : (execOp A.eval o).run Try.prog w = .ok (.value (.int .i64 (n : Int))) w := by
  have hx2 : (#[x] : Array Operand).map A.eval = #[.slice a n c] := by simp [hx]
  unfold execOp
  simp only [ho, resolve, hx2]
  go_simp
theorem runLR {b : Nat} {r0 r1 r2 r3 r4 r5 r6 r7 r8 r9 r10 : Int} (ho : o.op = .load 27 x) (hx : A.eval x = .pointer (some ⟨b, 0, none⟩)) (h0 : w.cell? ⟨b, 0, none⟩ = some (.int .i64 r0)) (h1 : w.cell? ⟨b, 1, none⟩ = some (.int .i64 r1)) (h2 : w.cell? ⟨b, 2, none⟩ = some (.int .i64 r2)) (h3 : w.cell? ⟨b, 3, none⟩ = some (.int .i64 r3)) (h4 : w.cell? ⟨b, 4, none⟩ = some (.int .i64 r4)) (h5 : w.cell? ⟨b, 5, none⟩ = some (.int .i64 r5)) (h6 : w.cell? ⟨b, 6, none⟩ = some (.int .i64 r6)) (h7 : w.cell? ⟨b, 7, none⟩ = some (.int .i64 r7)) (h8 : w.cell? ⟨b, 8, none⟩ = some (.int .i64 r8)) (h9 : w.cell? ⟨b, 9, none⟩ = some (.int .i64 r9)) (h10 : w.cell? ⟨b, 10, none⟩ = some (.int .i64 r10)) : (execOp A.eval o).run Try.prog w = .ok (.value (.agg #[.int .i64 r0, .int .i64 r1, .int .i64 r2, .int .i64 r3, .int .i64 r4, .int .i64 r5, .int .i64 r6, .int .i64 r7, .int .i64 r8, .int .i64 r9, .int .i64 r10])) w := by
  unfold execOp
  rw [ho]
  simp only [hx]
  go_simp
end
end Vo
end Go.Proofs.Ytflbhlepmjiejaa
