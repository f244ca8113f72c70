/- Clipped gradients on both sides. -/
import Derived.Test.YtnnjkanmcfjblaaEg
import Derived.Test.YtnnjkanmcfjblaaVc
namespace Go.Proofs.Ytnnjkanmcfjblaa
namespace Vo
open Go.ChangeShapes Go.WideShapes Go.ChangeAt Go.RowKit Go.Joins Go.Sort
open Vl
set_option linter.unusedVariables false
set_option linter.unusedSimpArgs false
/-- n by d, rounded -/
def nrv (n d : Int) : Int := if n.tmod d < 0 then Nea.rd (n.tdiv d - 1) (n.tmod d + d) d else Nea.rd (n.tdiv d) (n.tmod d) d
theorem nearS (n d K : Int) (n0 : -K ≤ n) (n1 : n ≤ K) (K1 : K ≤ 4611686018427387904) (d0 : 1 ≤ d) (d1 : d ≤ 4611686018427387904) (w : World) :
    Calls Try.prog 43 #[.int .i64 n, .int .i64 d] w fun e w' => e = .returned (.int .i64 (nrv n d)) ∧ Below w.heap.size w w' := by
  obtain ⟨r, -, er, hS, -⟩ := nearB n d K n0 n1 K1 d0 d1
  rw [show nrv n d = r from er.symm]
  exact hS w
theorem nearI (n d K : Int) (n0 : -K ≤ n) (n1 : n ≤ K) (K1 : K ≤ 4611686018427387904) (d0 : 1 ≤ d) (d1 : d ≤ 4611686018427387904) (w : World) :
    Calls Try.prog 46 #[.int .i64 n, .int .i64 d] w fun e w' => e = .returned (.int .i64 (nrv n d)) ∧ Below w.heap.size w w' := by
  obtain ⟨r, -, er, -, hI⟩ := nearB n d K n0 n1 K1 d0 d1
  rw [show nrv n d = r from er.symm]
  exact hI w
theorem nrv_bd (n d K : Int) (n0 : -K ≤ n) (n1 : n ≤ K) : -K - 1 ≤ nrv n d ∧ nrv n d ≤ K + 1 := near_bd n d K n0 n1
theorem mul_gm {x m : Int} (x0 : -16777216 ≤ x) (x1 : x ≤ 16777216) (m0 : 0 ≤ m) (m1 : m ≤ 1073741824) : -18014398509481984 ≤ x * m ∧ x * m ≤ 18014398509481984 := by
  have h : (x * m).natAbs ≤ 16777216 * 1073741824 := by
    rw [Int.natAbs_mul]; exact Nat.mul_le_mul (by omega) (by omega)
  generalize x * m = z at *
  omega
/-- what is clipped: v how long it was -/
def clp (S : Nat → Int) (m v : Int) (j : Nat) : Int := if m < v then nrv (S j * m) v else S j
theorem ints_snoc' (r : Nat) (D : Nat → Int) (x : Int) (hx : D r = x) : ints r D ++ [.int .i64 x] = ints (r + 1) D := by rw [← hx]; exact ints_succ r D
/-- a list of one's own comes back -/
def ListR (n : Nat) (G : Nat → Int) (w : World) (e : Ending) (w' : World) : Prop := ∃ a c, e = .returned (.slice a n c) ∧ OwnL w.heap.size w' a n G ∧ Below w.heap.size w w'
end Vo
end Go.Proofs.Ytnnjkanmcfjblaa
