/-
  No cell of these rows narrows 'for every input' (looked for: loops, veiled, ifaces, maps, wideKeys, modest, calm, conditions, laid).
  DERIVED. THE GIVEN ROWS OF THIS SEAT. 5 by the template 'for every input the law returns true; each argument reads behind the call as it read before'; 0 by the template 'total and deterministic' (their statements: YtkohmhelfdnfdaaTotals.lean).
  GIVEN WITH THE SEED: the statements are not yours to turn. If you find one false, say at which input.
  Laid BY PROGRAM, IN A SANDBOX (cutbox-rows.mjs): the forced cells as the released guide's own fill.sh prints them over the translation 6e1b0fc7d1198f3b… (all of the seat's roots in one cut). By AI agents, Wed Nov 11 2026. No macro, syntax, notation, axiom, sorry.
-/
import Derived.Test.YtkohmhelfdnfdaaChecked
import GoSem.Claim
import GoSem.ClaimJoined
import GoSem.ClaimMapViews
import Derived.JoinedTies
import Derived.KernelRfl
namespace Go.Proofs.Ytkohmhelfdnfdaa
/- THE CELL 'sum', in the pinned program and in every row, IS THE sha256 OF THE DUMP (.gsa) THAT YtkohmhelfdnfdaaProg.lean LOADS. Nothing in Lean hashes anything: it is a label: what it is worth is what the hold of that sum in a sandbox is worth. -/
noncomputable def Try.pinned : Pinned := { name := "ytkohmhelfdnfdaa", sum := "6e1b0fc7d1198f3bf7bc0e0a39c0b79e16f7bc9d2aa31723a19a8df30c947338", checked := Try.checked }
namespace Rows
def none {H : Type} : Left H := { results := [], args := [] }

/-- 'laws.FnExactTop': WHATEVER THE INPUT: true; the input reads as it did. -/
def fnExactTopSpec : ChangeSpec := { name := "fnExactTop", fn := fun _ => fun
  | [d1, d2] => { results := [.lit (.bool true)], args := [d1, d2] }
  | _ => none }
def fnExactTopRow : OpenClaim := { program := "ytkohmhelfdnfdaa", sum := "6e1b0fc7d1198f3bf7bc0e0a39c0b79e16f7bc9d2aa31723a19a8df30c947338", func := "loop.example/g00033/laws.FnExactTop", spec := "fnExactTop", unfollowed := true, recurses := true, apart := false }
def FnExactTopSaid : Prop := fnExactTopRow.holds Try.pinned (OpenSpec.ofChange fnExactTopSpec)

/-- ITS FALSE NEIGHBOUR: 'it returns false'. Refute it at one input. -/
def fnExactTopWrong : ChangeSpec := { name := "fnExactTop", fn := fun _ => fun
  | [d1, d2] => { results := [.lit (.bool false)], args := [d1, d2] }
  | _ => none }
def FnExactTopWrongFalsely : Prop := fnExactTopRow.holds Try.pinned (OpenSpec.ofChange fnExactTopWrong)

/-- 'laws.FnExactMaxPool': WHATEVER THE INPUT: true; the input reads as it did. -/
def fnExactMaxPoolSpec : ChangeSpec := { name := "fnExactMaxPool", fn := fun _ => fun
  | [d1, d2, d3] => { results := [.lit (.bool true)], args := [d1, d2, d3] }
  | _ => none }
def fnExactMaxPoolRow : OpenClaim := { program := "ytkohmhelfdnfdaa", sum := "6e1b0fc7d1198f3bf7bc0e0a39c0b79e16f7bc9d2aa31723a19a8df30c947338", func := "loop.example/g00033/laws.FnExactMaxPool", spec := "fnExactMaxPool", unfollowed := true, recurses := true, apart := false }
def FnExactMaxPoolSaid : Prop := fnExactMaxPoolRow.holds Try.pinned (OpenSpec.ofChange fnExactMaxPoolSpec)

/-- ITS FALSE NEIGHBOUR: 'it returns false'. Refute it at one input. -/
def fnExactMaxPoolWrong : ChangeSpec := { name := "fnExactMaxPool", fn := fun _ => fun
  | [d1, d2, d3] => { results := [.lit (.bool false)], args := [d1, d2, d3] }
  | _ => none }
def FnExactMaxPoolWrongFalsely : Prop := fnExactMaxPoolRow.holds Try.pinned (OpenSpec.ofChange fnExactMaxPoolWrong)

/-- 'laws.FnExactSumPool': WHATEVER THE INPUT: true; the input reads as it did. -/
def fnExactSumPoolSpec : ChangeSpec := { name := "fnExactSumPool", fn := fun _ => fun
  | [d1, d2, d3] => { results := [.lit (.bool true)], args := [d1, d2, d3] }
  | _ => none }
def fnExactSumPoolRow : OpenClaim := { program := "ytkohmhelfdnfdaa", sum := "6e1b0fc7d1198f3bf7bc0e0a39c0b79e16f7bc9d2aa31723a19a8df30c947338", func := "loop.example/g00033/laws.FnExactSumPool", spec := "fnExactSumPool", unfollowed := true, recurses := true, apart := false }
def FnExactSumPoolSaid : Prop := fnExactSumPoolRow.holds Try.pinned (OpenSpec.ofChange fnExactSumPoolSpec)

/-- ITS FALSE NEIGHBOUR: 'it returns false'. Refute it at one input. -/
def fnExactSumPoolWrong : ChangeSpec := { name := "fnExactSumPool", fn := fun _ => fun
  | [d1, d2, d3] => { results := [.lit (.bool false)], args := [d1, d2, d3] }
  | _ => none }
def FnExactSumPoolWrongFalsely : Prop := fnExactSumPoolRow.holds Try.pinned (OpenSpec.ofChange fnExactSumPoolWrong)

/-- 'laws.FnExactNormalise': WHATEVER THE INPUT: true; the input reads as it did. -/
def fnExactNormaliseSpec : ChangeSpec := { name := "fnExactNormalise", fn := fun _ => fun
  | [d1, d2, d3] => { results := [.lit (.bool true)], args := [d1, d2, d3] }
  | _ => none }
def fnExactNormaliseRow : OpenClaim := { program := "ytkohmhelfdnfdaa", sum := "6e1b0fc7d1198f3bf7bc0e0a39c0b79e16f7bc9d2aa31723a19a8df30c947338", func := "loop.example/g00033/laws.FnExactNormalise", spec := "fnExactNormalise", unfollowed := true, recurses := true, apart := false }
def FnExactNormaliseSaid : Prop := fnExactNormaliseRow.holds Try.pinned (OpenSpec.ofChange fnExactNormaliseSpec)

/-- ITS FALSE NEIGHBOUR: 'it returns false'. Refute it at one input. -/
def fnExactNormaliseWrong : ChangeSpec := { name := "fnExactNormalise", fn := fun _ => fun
  | [d1, d2, d3] => { results := [.lit (.bool false)], args := [d1, d2, d3] }
  | _ => none }
def FnExactNormaliseWrongFalsely : Prop := fnExactNormaliseRow.holds Try.pinned (OpenSpec.ofChange fnExactNormaliseWrong)

/-- 'laws.FnExactCacheOk': WHATEVER THE INPUT: true; the input reads as it did. -/
def fnExactCacheOkSpec : ChangeSpec := { name := "fnExactCacheOk", fn := fun _ => fun
  | [d] => { results := [.lit (.bool true)], args := [d] }
  | _ => none }
def fnExactCacheOkRow : OpenClaim := { program := "ytkohmhelfdnfdaa", sum := "6e1b0fc7d1198f3bf7bc0e0a39c0b79e16f7bc9d2aa31723a19a8df30c947338", func := "loop.example/g00033/laws.FnExactCacheOk", spec := "fnExactCacheOk", unfollowed := true, recurses := true, apart := false }
def FnExactCacheOkSaid : Prop := fnExactCacheOkRow.holds Try.pinned (OpenSpec.ofChange fnExactCacheOkSpec)

/-- ITS FALSE NEIGHBOUR: 'it returns false'. Refute it at one input. -/
def fnExactCacheOkWrong : ChangeSpec := { name := "fnExactCacheOk", fn := fun _ => fun
  | [d] => { results := [.lit (.bool false)], args := [d] }
  | _ => none }
def FnExactCacheOkWrongFalsely : Prop := fnExactCacheOkRow.holds Try.pinned (OpenSpec.ofChange fnExactCacheOkWrong)

/- THE SECOND FORM. 'bulk': how many values and letters a reading holds, each counted each time it is reached (what is shared counts as often as it is met; a slice's spare places count too). A statement '..UptoSaid' is the law's where the arguments, and the package variables that the reading takes, are together of bulk at most 1048576: NARROWER than '..Said'. Prove '..Said' where nothing that the law and all that it calls make is longer than what came in: it says more and counts as full. Else prove '..UptoSaid'. A law counts once. -/
mutual
def uptoBulk {H : Type} : DataW H → Nat
  | .lit (.string bytes) => bytes.length + 1
  | .lit _ => 1
  | .nil => 1
  | .ptr d => uptoBulk d + 1
  | .slice elems spare => uptoBulkAll elems + uptoBulkAll spare + 1
  | .agg parts => uptoBulkAll parts + 1
  | .iface _ d => uptoBulk d + 1
  | .map entries => uptoBulkEntries entries + 1
  | .held _ => 1
def uptoBulkAll {H : Type} : List (DataW H) → Nat
  | [] => 0
  | d :: r => uptoBulk d + uptoBulkAll r
def uptoBulkEntries {H : Type} : List (Lit × DataW H) → Nat
  | [] => 0
  | x :: r => uptoBulkEntry x + uptoBulkEntries r
def uptoBulkEntry {H : Type} : Lit × DataW H → Nat
  | (.string bytes, d) => bytes.length + uptoBulk d + 1
  | (_, d) => uptoBulk d + 1
 end
def uptoSmall : (H : Type) → List (DataW H) → Bool := fun _ ds => decide (uptoBulkAll ds ≤ 1048576)
def OpenSpec.upto (s : _root_.Go.ChangeSpec) : _root_.Go.OpenSpec := { _root_.Go.OpenSpec.ofChange s with cond := some uptoSmall }

/-- 'laws.FnExactTop', WHERE WHAT IT READS IS OF BULK AT MOST 1048576: true; the input reads as it did. -/
def fnExactTopUptoRow : OpenClaim := { program := "ytkohmhelfdnfdaa", sum := "6e1b0fc7d1198f3bf7bc0e0a39c0b79e16f7bc9d2aa31723a19a8df30c947338", func := "loop.example/g00033/laws.FnExactTop", spec := "fnExactTop", unfollowed := true, recurses := true, apart := false, narrowed := true }
def FnExactTopUptoSaid : Prop := fnExactTopUptoRow.holds Try.pinned (OpenSpec.upto fnExactTopSpec)

/-- 'laws.FnExactMaxPool', WHERE WHAT IT READS IS OF BULK AT MOST 1048576: true; the input reads as it did. -/
def fnExactMaxPoolUptoRow : OpenClaim := { program := "ytkohmhelfdnfdaa", sum := "6e1b0fc7d1198f3bf7bc0e0a39c0b79e16f7bc9d2aa31723a19a8df30c947338", func := "loop.example/g00033/laws.FnExactMaxPool", spec := "fnExactMaxPool", unfollowed := true, recurses := true, apart := false, narrowed := true }
def FnExactMaxPoolUptoSaid : Prop := fnExactMaxPoolUptoRow.holds Try.pinned (OpenSpec.upto fnExactMaxPoolSpec)

/-- 'laws.FnExactSumPool', WHERE WHAT IT READS IS OF BULK AT MOST 1048576: true; the input reads as it did. -/
def fnExactSumPoolUptoRow : OpenClaim := { program := "ytkohmhelfdnfdaa", sum := "6e1b0fc7d1198f3bf7bc0e0a39c0b79e16f7bc9d2aa31723a19a8df30c947338", func := "loop.example/g00033/laws.FnExactSumPool", spec := "fnExactSumPool", unfollowed := true, recurses := true, apart := false, narrowed := true }
def FnExactSumPoolUptoSaid : Prop := fnExactSumPoolUptoRow.holds Try.pinned (OpenSpec.upto fnExactSumPoolSpec)

/-- 'laws.FnExactNormalise', WHERE WHAT IT READS IS OF BULK AT MOST 1048576: true; the input reads as it did. -/
def fnExactNormaliseUptoRow : OpenClaim := { program := "ytkohmhelfdnfdaa", sum := "6e1b0fc7d1198f3bf7bc0e0a39c0b79e16f7bc9d2aa31723a19a8df30c947338", func := "loop.example/g00033/laws.FnExactNormalise", spec := "fnExactNormalise", unfollowed := true, recurses := true, apart := false, narrowed := true }
def FnExactNormaliseUptoSaid : Prop := fnExactNormaliseUptoRow.holds Try.pinned (OpenSpec.upto fnExactNormaliseSpec)

/-- 'laws.FnExactCacheOk', WHERE WHAT IT READS IS OF BULK AT MOST 1048576: true; the input reads as it did. -/
def fnExactCacheOkUptoRow : OpenClaim := { program := "ytkohmhelfdnfdaa", sum := "6e1b0fc7d1198f3bf7bc0e0a39c0b79e16f7bc9d2aa31723a19a8df30c947338", func := "loop.example/g00033/laws.FnExactCacheOk", spec := "fnExactCacheOk", unfollowed := true, recurses := true, apart := false, narrowed := true }
def FnExactCacheOkUptoSaid : Prop := fnExactCacheOkUptoRow.holds Try.pinned (OpenSpec.upto fnExactCacheOkSpec)

end Rows
end Go.Proofs.Ytkohmhelfdnfdaa
