/-
  No cell of these rows narrows 'for every input' (looked for: loops, veiled, ifaces, maps, wideKeys, modest, calm, conditions, laid).
  DERIVED. THE GIVEN ROWS OF THIS SEAT. 2 by the template 'for every input the law returns true; each argument reads behind the call as it read before'; 0 by the template 'total and deterministic' (their statements: YtflbhlepmjiejaaTotals.lean).
  GIVEN WITH THE SEED: the statements are not yours to turn. If you find one false, say at which input.
  Laid BY PROGRAM, IN A SANDBOX (cutbox-rows.mjs): the forced cells as the released guide's own fill.sh prints them over the translation 6251fbb45d1d63ac… (all of the seat's roots in one cut). By AI agents, Wed Nov 11 2026. No macro, syntax, notation, axiom, sorry.
-/
import Derived.Test.YtflbhlepmjiejaaChecked
import GoSem.Claim
import GoSem.ClaimJoined
import GoSem.ClaimMapViews
import Derived.JoinedTies
import Derived.KernelRfl
namespace Go.Proofs.Ytflbhlepmjiejaa
/- THE CELL 'sum', in the pinned program and in every row, IS THE sha256 OF THE DUMP (.gsa) THAT YtflbhlepmjiejaaProg.lean LOADS. Nothing in Lean hashes anything: it is a label: what it is worth is what the hold of that sum in a sandbox is worth. -/
noncomputable def Try.pinned : Pinned := { name := "ytflbhlepmjiejaa", sum := "6251fbb45d1d63ac7a63767f2959ea0e4d1902e76d1813c3b0499458af3c1251", checked := Try.checked }
namespace Rows
def none {H : Type} : Left H := { results := [], args := [] }

/-- 'laws.FnOptPieces': WHATEVER THE INPUT: true; the input reads as it did. -/
def fnOptPiecesSpec : ChangeSpec := { name := "fnOptPieces", fn := fun _ => fun
  | [d1, d2] => { results := [.lit (.bool true)], args := [d1, d2] }
  | _ => none }
def fnOptPiecesRow : OpenClaim := { program := "ytflbhlepmjiejaa", sum := "6251fbb45d1d63ac7a63767f2959ea0e4d1902e76d1813c3b0499458af3c1251", func := "loop.example/g00033/laws.FnOptPieces", spec := "fnOptPieces", unfollowed := true, recurses := true, apart := false }
def FnOptPiecesSaid : Prop := fnOptPiecesRow.holds Try.pinned (OpenSpec.ofChange fnOptPiecesSpec)

/-- ITS FALSE NEIGHBOUR: 'it returns false'. Refute it at one input. -/
def fnOptPiecesWrong : ChangeSpec := { name := "fnOptPieces", fn := fun _ => fun
  | [d1, d2] => { results := [.lit (.bool false)], args := [d1, d2] }
  | _ => none }
def FnOptPiecesWrongFalsely : Prop := fnOptPiecesRow.holds Try.pinned (OpenSpec.ofChange fnOptPiecesWrong)

/-- 'laws.FnFactor': WHATEVER THE INPUT: true; the input reads as it did. -/
def fnFactorSpec : ChangeSpec := { name := "fnFactor", fn := fun _ => fun
  | [d1, d2] => { results := [.lit (.bool true)], args := [d1, d2] }
  | _ => none }
def fnFactorRow : OpenClaim := { program := "ytflbhlepmjiejaa", sum := "6251fbb45d1d63ac7a63767f2959ea0e4d1902e76d1813c3b0499458af3c1251", func := "loop.example/g00033/laws.FnFactor", spec := "fnFactor", unfollowed := true, recurses := true, apart := false }
def FnFactorSaid : Prop := fnFactorRow.holds Try.pinned (OpenSpec.ofChange fnFactorSpec)

/-- ITS FALSE NEIGHBOUR: 'it returns false'. Refute it at one input. -/
def fnFactorWrong : ChangeSpec := { name := "fnFactor", fn := fun _ => fun
  | [d1, d2] => { results := [.lit (.bool false)], args := [d1, d2] }
  | _ => none }
def FnFactorWrongFalsely : Prop := fnFactorRow.holds Try.pinned (OpenSpec.ofChange fnFactorWrong)

/- THE SECOND FORM. 'bulk': how many values and letters a reading holds, each counted each time it is reached (what is shared counts as often as it is met; a slice's spare places count too). A statement '..UptoSaid' is the law's where the arguments, and the package variables that the reading takes, are together of bulk at most 1048576: NARROWER than '..Said'. Prove '..Said' where nothing that the law and all that it calls make is longer than what came in: it says more and counts as full. Else prove '..UptoSaid'. A law counts once. -/
mutual
def uptoBulk {H : Type} : DataW H → Nat
  | .lit (.string bytes) => bytes.length + 1
  | .lit _ => 1
  | .nil => 1
  | .ptr d => uptoBulk d + 1
  | .slice elems spare => uptoBulkAll elems + uptoBulkAll spare + 1
  | .agg parts => uptoBulkAll parts + 1
  | .iface _ d => uptoBulk d + 1
  | .map entries => uptoBulkEntries entries + 1
  | .held _ => 1
def uptoBulkAll {H : Type} : List (DataW H) → Nat
  | [] => 0
  | d :: r => uptoBulk d + uptoBulkAll r
def uptoBulkEntries {H : Type} : List (Lit × DataW H) → Nat
  | [] => 0
  | x :: r => uptoBulkEntry x + uptoBulkEntries r
def uptoBulkEntry {H : Type} : Lit × DataW H → Nat
  | (.string bytes, d) => bytes.length + uptoBulk d + 1
  | (_, d) => uptoBulk d + 1
 end
def uptoSmall : (H : Type) → List (DataW H) → Bool := fun _ ds => decide (uptoBulkAll ds ≤ 1048576)
def OpenSpec.upto (s : _root_.Go.ChangeSpec) : _root_.Go.OpenSpec := { _root_.Go.OpenSpec.ofChange s with cond := some uptoSmall }

/-- 'laws.FnOptPieces', WHERE WHAT IT READS IS OF BULK AT MOST 1048576: true; the input reads as it did. -/
def fnOptPiecesUptoRow : OpenClaim := { program := "ytflbhlepmjiejaa", sum := "6251fbb45d1d63ac7a63767f2959ea0e4d1902e76d1813c3b0499458af3c1251", func := "loop.example/g00033/laws.FnOptPieces", spec := "fnOptPieces", unfollowed := true, recurses := true, apart := false, narrowed := true }
def FnOptPiecesUptoSaid : Prop := fnOptPiecesUptoRow.holds Try.pinned (OpenSpec.upto fnOptPiecesSpec)

/-- 'laws.FnFactor', WHERE WHAT IT READS IS OF BULK AT MOST 1048576: true; the input reads as it did. -/
def fnFactorUptoRow : OpenClaim := { program := "ytflbhlepmjiejaa", sum := "6251fbb45d1d63ac7a63767f2959ea0e4d1902e76d1813c3b0499458af3c1251", func := "loop.example/g00033/laws.FnFactor", spec := "fnFactor", unfollowed := true, recurses := true, apart := false, narrowed := true }
def FnFactorUptoSaid : Prop := fnFactorUptoRow.holds Try.pinned (OpenSpec.upto fnFactorSpec)

end Rows
end Go.Proofs.Ytflbhlepmjiejaa
