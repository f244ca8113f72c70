/- Places in order of a list of ints; ranked. -/
import Derived.Test.YtbdcbanbnbaoiaaSy
namespace Go.Proofs.Ytbdcbanbnbaoiaa
namespace Vo
open Go.ChangeShapes Go.WideShapes Go.ChangeAt Go.RowKit Go.Joins Go.Sort
open Vl Vp
set_option linter.unusedVariables false
set_option linter.unusedSimpArgs false
theorem kept_cell {S : Nat → Prop} {w w' : World} {p : Addr} (hk : Kept S w w') (hp : p.block < w.heap.size) (hn : ¬ S p.block) : w'.cell? p = w.cell? p := World.cell?_of_block (w := w) (a := p) (hk.block _ hp hn)
/-- the key of a place: its number, signed -/
def keyI (L : Nat → Int) (p : Int) : Int := sgs (L p.toNat)
end Vo
end Go.Proofs.Ytbdcbanbnbaoiaa
