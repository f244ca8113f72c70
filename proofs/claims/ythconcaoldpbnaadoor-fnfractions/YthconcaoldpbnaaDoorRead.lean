/- ReadNum on both sides: each ends with the reading of the text. -/
import Derived.Test.YthconcaoldpbnaaDoorOfFrac
import Derived.Test.YthconcaoldpbnaaDoorGuess
import Derived.WalkSpells
namespace Go.Proofs.YthconcaoldpbnaaDoor
namespace Base
open Go.ChangeShapes Go.WideShapes Go.ChangeAt Go.RowKit
set_option linter.unusedVariables false

theorem ret_two {k : IntKind} {a a' : Int} {b b' : Int} (h : a = a') (h2 : b = b') : Ending.returned (.tuple #[.int k a, .int k b]) = .returned (.tuple #[.int k a', .int k b']) := by rw [h, h2]


/-- how a call of ReadNum at the text l ends -/
def Reads (l : List UInt8) (w : World) (e : Ending) (w' : World) : Prop :=
  ∃ r b, e = .returned (.tuple #[.int .i64 r, .bool b]) ∧ Reading l r b ∧ Below w.heap.size w w'

theorem head_at (s : ByteArray) (h : 0 < s.size) : s.data.toList.head? = some s[0] := by
  rw [List.head?_eq_getElem?, Array.getElem?_toList, Array.getElem?_eq_getElem h]; rfl
theorem byte_eq {c : UInt8} {k : Nat} (hk : k < 256) : ((c.toNat : Int) == (k : Int)) = true ↔ c = UInt8.ofNat k := by
  rw [beq_iff_eq, ← UInt8.toNat_inj, UInt8.toNat_ofNat']
  omega


end Base
end Go.Proofs.YthconcaoldpbnaaDoor
