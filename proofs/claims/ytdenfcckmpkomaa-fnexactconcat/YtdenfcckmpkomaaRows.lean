/-
  No cell of these rows narrows 'for every input' (looked for: loops, veiled, ifaces, maps, wideKeys, modest, calm, conditions, laid).
  DERIVED. THE GIVEN ROWS OF THIS SEAT. 6 by the template 'for every input the law returns true; each argument reads behind the call as it read before'; 0 by the template 'total and deterministic' (their statements: YtdenfcckmpkomaaTotals.lean).
  GIVEN WITH THE SEED: the statements are not yours to turn. If you find one false, say at which input.
  Laid BY PROGRAM, IN A SANDBOX (cutbox-rows.mjs): the forced cells as the released guide's own fill.sh prints them over the translation 674c3718ac68d2f8… (all of the seat's roots in one cut). By AI agents, Wed Nov 11 2026. No macro, syntax, notation, axiom, sorry.
-/
import Derived.Test.YtdenfcckmpkomaaChecked
import GoSem.Claim
import GoSem.ClaimJoined
import GoSem.ClaimMapViews
import Derived.JoinedTies
import Derived.KernelRfl
namespace Go.Proofs.Ytdenfcckmpkomaa
/- THE CELL 'sum', in the pinned program and in every row, IS THE sha256 OF THE DUMP (.gsa) THAT YtdenfcckmpkomaaProg.lean LOADS. Nothing in Lean hashes anything: it is a label: what it is worth is what the hold of that sum in a sandbox is worth. -/
noncomputable def Try.pinned : Pinned := { name := "ytdenfcckmpkomaa", sum := "674c3718ac68d2f8e5cbb110b95245389b7420093ff4e5d2d696841cf40ae65a", checked := Try.checked }
namespace Rows
def none {H : Type} : Left H := { results := [], args := [] }

/-- 'laws.FnExactFold': WHATEVER THE INPUT: true; the input reads as it did. -/
def fnExactFoldSpec : ChangeSpec := { name := "fnExactFold", fn := fun _ => fun
  | [d1, d2, d3, d4] => { results := [.lit (.bool true)], args := [d1, d2, d3, d4] }
  | _ => none }
def fnExactFoldRow : OpenClaim := { program := "ytdenfcckmpkomaa", sum := "674c3718ac68d2f8e5cbb110b95245389b7420093ff4e5d2d696841cf40ae65a", func := "loop.example/g00033/laws.FnExactFold", spec := "fnExactFold", unfollowed := true, recurses := true, apart := false }
def FnExactFoldSaid : Prop := fnExactFoldRow.holds Try.pinned (OpenSpec.ofChange fnExactFoldSpec)

/-- ITS FALSE NEIGHBOUR: 'it returns false'. Refute it at one input. -/
def fnExactFoldWrong : ChangeSpec := { name := "fnExactFold", fn := fun _ => fun
  | [d1, d2, d3, d4] => { results := [.lit (.bool false)], args := [d1, d2, d3, d4] }
  | _ => none }
def FnExactFoldWrongFalsely : Prop := fnExactFoldRow.holds Try.pinned (OpenSpec.ofChange fnExactFoldWrong)

/-- 'laws.FnExactMaxPool': WHATEVER THE INPUT: true; the input reads as it did. -/
def fnExactMaxPoolSpec : ChangeSpec := { name := "fnExactMaxPool", fn := fun _ => fun
  | [d1, d2, d3] => { results := [.lit (.bool true)], args := [d1, d2, d3] }
  | _ => none }
def fnExactMaxPoolRow : OpenClaim := { program := "ytdenfcckmpkomaa", sum := "674c3718ac68d2f8e5cbb110b95245389b7420093ff4e5d2d696841cf40ae65a", func := "loop.example/g00033/laws.FnExactMaxPool", spec := "fnExactMaxPool", unfollowed := true, recurses := true, apart := false }
def FnExactMaxPoolSaid : Prop := fnExactMaxPoolRow.holds Try.pinned (OpenSpec.ofChange fnExactMaxPoolSpec)

/-- ITS FALSE NEIGHBOUR: 'it returns false'. Refute it at one input. -/
def fnExactMaxPoolWrong : ChangeSpec := { name := "fnExactMaxPool", fn := fun _ => fun
  | [d1, d2, d3] => { results := [.lit (.bool false)], args := [d1, d2, d3] }
  | _ => none }
def FnExactMaxPoolWrongFalsely : Prop := fnExactMaxPoolRow.holds Try.pinned (OpenSpec.ofChange fnExactMaxPoolWrong)

/-- 'laws.FnExactSumPool': WHATEVER THE INPUT: true; the input reads as it did. -/
def fnExactSumPoolSpec : ChangeSpec := { name := "fnExactSumPool", fn := fun _ => fun
  | [d1, d2, d3] => { results := [.lit (.bool true)], args := [d1, d2, d3] }
  | _ => none }
def fnExactSumPoolRow : OpenClaim := { program := "ytdenfcckmpkomaa", sum := "674c3718ac68d2f8e5cbb110b95245389b7420093ff4e5d2d696841cf40ae65a", func := "loop.example/g00033/laws.FnExactSumPool", spec := "fnExactSumPool", unfollowed := true, recurses := true, apart := false }
def FnExactSumPoolSaid : Prop := fnExactSumPoolRow.holds Try.pinned (OpenSpec.ofChange fnExactSumPoolSpec)

/-- ITS FALSE NEIGHBOUR: 'it returns false'. Refute it at one input. -/
def fnExactSumPoolWrong : ChangeSpec := { name := "fnExactSumPool", fn := fun _ => fun
  | [d1, d2, d3] => { results := [.lit (.bool false)], args := [d1, d2, d3] }
  | _ => none }
def FnExactSumPoolWrongFalsely : Prop := fnExactSumPoolRow.holds Try.pinned (OpenSpec.ofChange fnExactSumPoolWrong)

/-- 'laws.FnExactConcat': WHATEVER THE INPUT: true; the input reads as it did. -/
def fnExactConcatSpec : ChangeSpec := { name := "fnExactConcat", fn := fun _ => fun
  | [d1, d2] => { results := [.lit (.bool true)], args := [d1, d2] }
  | _ => none }
def fnExactConcatRow : OpenClaim := { program := "ytdenfcckmpkomaa", sum := "674c3718ac68d2f8e5cbb110b95245389b7420093ff4e5d2d696841cf40ae65a", func := "loop.example/g00033/laws.FnExactConcat", spec := "fnExactConcat", unfollowed := true, recurses := true, apart := false }
def FnExactConcatSaid : Prop := fnExactConcatRow.holds Try.pinned (OpenSpec.ofChange fnExactConcatSpec)

/-- ITS FALSE NEIGHBOUR: 'it returns false'. Refute it at one input. -/
def fnExactConcatWrong : ChangeSpec := { name := "fnExactConcat", fn := fun _ => fun
  | [d1, d2] => { results := [.lit (.bool false)], args := [d1, d2] }
  | _ => none }
def FnExactConcatWrongFalsely : Prop := fnExactConcatRow.holds Try.pinned (OpenSpec.ofChange fnExactConcatWrong)

/-- 'laws.FnExactCacheOk': WHATEVER THE INPUT: true; the input reads as it did. -/
def fnExactCacheOkSpec : ChangeSpec := { name := "fnExactCacheOk", fn := fun _ => fun
  | [d] => { results := [.lit (.bool true)], args := [d] }
  | _ => none }
def fnExactCacheOkRow : OpenClaim := { program := "ytdenfcckmpkomaa", sum := "674c3718ac68d2f8e5cbb110b95245389b7420093ff4e5d2d696841cf40ae65a", func := "loop.example/g00033/laws.FnExactCacheOk", spec := "fnExactCacheOk", unfollowed := true, recurses := true, apart := false }
def FnExactCacheOkSaid : Prop := fnExactCacheOkRow.holds Try.pinned (OpenSpec.ofChange fnExactCacheOkSpec)

/-- ITS FALSE NEIGHBOUR: 'it returns false'. Refute it at one input. -/
def fnExactCacheOkWrong : ChangeSpec := { name := "fnExactCacheOk", fn := fun _ => fun
  | [d] => { results := [.lit (.bool false)], args := [d] }
  | _ => none }
def FnExactCacheOkWrongFalsely : Prop := fnExactCacheOkRow.holds Try.pinned (OpenSpec.ofChange fnExactCacheOkWrong)

/-- 'laws.FnExactSorted': WHATEVER THE INPUT: true; the input reads as it did. -/
def fnExactSortedSpec : ChangeSpec := { name := "fnExactSorted", fn := fun _ => fun
  | [d1, d2] => { results := [.lit (.bool true)], args := [d1, d2] }
  | _ => none }
def fnExactSortedRow : OpenClaim := { program := "ytdenfcckmpkomaa", sum := "674c3718ac68d2f8e5cbb110b95245389b7420093ff4e5d2d696841cf40ae65a", func := "loop.example/g00033/laws.FnExactSorted", spec := "fnExactSorted", unfollowed := true, recurses := true, apart := false }
def FnExactSortedSaid : Prop := fnExactSortedRow.holds Try.pinned (OpenSpec.ofChange fnExactSortedSpec)

/-- ITS FALSE NEIGHBOUR: 'it returns false'. Refute it at one input. -/
def fnExactSortedWrong : ChangeSpec := { name := "fnExactSorted", fn := fun _ => fun
  | [d1, d2] => { results := [.lit (.bool false)], args := [d1, d2] }
  | _ => none }
def FnExactSortedWrongFalsely : Prop := fnExactSortedRow.holds Try.pinned (OpenSpec.ofChange fnExactSortedWrong)

/- THE SECOND FORM. 'bulk': how many values and letters a reading holds, each counted each time it is reached (what is shared counts as often as it is met; a slice's spare places count too). A statement '..UptoSaid' is the law's where the arguments, and the package variables that the reading takes, are together of bulk at most 1048576: NARROWER than '..Said'. Prove '..Said' where nothing that the law and all that it calls make is longer than what came in: it says more and counts as full. Else prove '..UptoSaid'. A law counts once. -/
mutual
def uptoBulk {H : Type} : DataW H → Nat
  | .lit (.string bytes) => bytes.length + 1
  | .lit _ => 1
  | .nil => 1
  | .ptr d => uptoBulk d + 1
  | .slice elems spare => uptoBulkAll elems + uptoBulkAll spare + 1
  | .agg parts => uptoBulkAll parts + 1
  | .iface _ d => uptoBulk d + 1
  | .map entries => uptoBulkEntries entries + 1
  | .held _ => 1
def uptoBulkAll {H : Type} : List (DataW H) → Nat
  | [] => 0
  | d :: r => uptoBulk d + uptoBulkAll r
def uptoBulkEntries {H : Type} : List (Lit × DataW H) → Nat
  | [] => 0
  | x :: r => uptoBulkEntry x + uptoBulkEntries r
def uptoBulkEntry {H : Type} : Lit × DataW H → Nat
  | (.string bytes, d) => bytes.length + uptoBulk d + 1
  | (_, d) => uptoBulk d + 1
 end
def uptoSmall : (H : Type) → List (DataW H) → Bool := fun _ ds => decide (uptoBulkAll ds ≤ 1048576)
def OpenSpec.upto (s : _root_.Go.ChangeSpec) : _root_.Go.OpenSpec := { _root_.Go.OpenSpec.ofChange s with cond := some uptoSmall }

/-- 'laws.FnExactFold', WHERE WHAT IT READS IS OF BULK AT MOST 1048576: true; the input reads as it did. -/
def fnExactFoldUptoRow : OpenClaim := { program := "ytdenfcckmpkomaa", sum := "674c3718ac68d2f8e5cbb110b95245389b7420093ff4e5d2d696841cf40ae65a", func := "loop.example/g00033/laws.FnExactFold", spec := "fnExactFold", unfollowed := true, recurses := true, apart := false, narrowed := true }
def FnExactFoldUptoSaid : Prop := fnExactFoldUptoRow.holds Try.pinned (OpenSpec.upto fnExactFoldSpec)

/-- 'laws.FnExactMaxPool', WHERE WHAT IT READS IS OF BULK AT MOST 1048576: true; the input reads as it did. -/
def fnExactMaxPoolUptoRow : OpenClaim := { program := "ytdenfcckmpkomaa", sum := "674c3718ac68d2f8e5cbb110b95245389b7420093ff4e5d2d696841cf40ae65a", func := "loop.example/g00033/laws.FnExactMaxPool", spec := "fnExactMaxPool", unfollowed := true, recurses := true, apart := false, narrowed := true }
def FnExactMaxPoolUptoSaid : Prop := fnExactMaxPoolUptoRow.holds Try.pinned (OpenSpec.upto fnExactMaxPoolSpec)

/-- 'laws.FnExactSumPool', WHERE WHAT IT READS IS OF BULK AT MOST 1048576: true; the input reads as it did. -/
def fnExactSumPoolUptoRow : OpenClaim := { program := "ytdenfcckmpkomaa", sum := "674c3718ac68d2f8e5cbb110b95245389b7420093ff4e5d2d696841cf40ae65a", func := "loop.example/g00033/laws.FnExactSumPool", spec := "fnExactSumPool", unfollowed := true, recurses := true, apart := false, narrowed := true }
def FnExactSumPoolUptoSaid : Prop := fnExactSumPoolUptoRow.holds Try.pinned (OpenSpec.upto fnExactSumPoolSpec)

/-- 'laws.FnExactConcat', WHERE WHAT IT READS IS OF BULK AT MOST 1048576: true; the input reads as it did. -/
def fnExactConcatUptoRow : OpenClaim := { program := "ytdenfcckmpkomaa", sum := "674c3718ac68d2f8e5cbb110b95245389b7420093ff4e5d2d696841cf40ae65a", func := "loop.example/g00033/laws.FnExactConcat", spec := "fnExactConcat", unfollowed := true, recurses := true, apart := false, narrowed := true }
def FnExactConcatUptoSaid : Prop := fnExactConcatUptoRow.holds Try.pinned (OpenSpec.upto fnExactConcatSpec)

/-- 'laws.FnExactCacheOk', WHERE WHAT IT READS IS OF BULK AT MOST 1048576: true; the input reads as it did. -/
def fnExactCacheOkUptoRow : OpenClaim := { program := "ytdenfcckmpkomaa", sum := "674c3718ac68d2f8e5cbb110b95245389b7420093ff4e5d2d696841cf40ae65a", func := "loop.example/g00033/laws.FnExactCacheOk", spec := "fnExactCacheOk", unfollowed := true, recurses := true, apart := false, narrowed := true }
def FnExactCacheOkUptoSaid : Prop := fnExactCacheOkUptoRow.holds Try.pinned (OpenSpec.upto fnExactCacheOkSpec)

/-- 'laws.FnExactSorted', WHERE WHAT IT READS IS OF BULK AT MOST 1048576: true; the input reads as it did. -/
def fnExactSortedUptoRow : OpenClaim := { program := "ytdenfcckmpkomaa", sum := "674c3718ac68d2f8e5cbb110b95245389b7420093ff4e5d2d696841cf40ae65a", func := "loop.example/g00033/laws.FnExactSorted", spec := "fnExactSorted", unfollowed := true, recurses := true, apart := false, narrowed := true }
def FnExactSortedUptoSaid : Prop := fnExactSortedUptoRow.holds Try.pinned (OpenSpec.upto fnExactSortedSpec)

end Rows
end Go.Proofs.Ytdenfcckmpkomaa
