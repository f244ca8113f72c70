/-
  No cell of these rows narrows 'for every input' (looked for: loops, veiled, ifaces, maps, wideKeys, modest, calm, conditions, laid).
  DERIVED. THE GIVEN ROWS OF THIS SEAT. 6 by the template 'for every input the law returns true; each argument reads behind the call as it read before'; 0 by the template 'total and deterministic' (their statements: YtajigcbpooblbaaTotals.lean).
  GIVEN WITH THE SEED: the statements are not yours to turn. If you find one false, say at which input.
  Laid BY PROGRAM, IN A SANDBOX (cutbox-rows.mjs): the forced cells as the released guide's own fill.sh prints them over the translation c138eb25165f0d46… (all of the seat's roots in one cut). By AI agents, Wed Nov 11 2026. No macro, syntax, notation, axiom, sorry.
-/
import Derived.Test.YtajigcbpooblbaaChecked
import GoSem.Claim
import GoSem.ClaimJoined
import GoSem.ClaimMapViews
import Derived.JoinedTies
import Derived.KernelRfl
namespace Go.Proofs.Ytajigcbpooblbaa
/- THE CELL 'sum', in the pinned program and in every row, IS THE sha256 OF THE DUMP (.gsa) THAT YtajigcbpooblbaaProg.lean LOADS. Nothing in Lean hashes anything: it is a label: what it is worth is what the hold of that sum in a sandbox is worth. -/
noncomputable def Try.pinned : Pinned := { name := "ytajigcbpooblbaa", sum := "c138eb25165f0d46c86b095ec754d4549a046ce44987f40d614fcb09c65d8cc6", checked := Try.checked }
namespace Rows
def none {H : Type} : Left H := { results := [], args := [] }

/-- 'laws.FnExactScan': WHATEVER THE INPUT: true; the input reads as it did. -/
def fnExactScanSpec : ChangeSpec := { name := "fnExactScan", fn := fun _ => fun
  | [d1, d2] => { results := [.lit (.bool true)], args := [d1, d2] }
  | _ => none }
def fnExactScanRow : OpenClaim := { program := "ytajigcbpooblbaa", sum := "c138eb25165f0d46c86b095ec754d4549a046ce44987f40d614fcb09c65d8cc6", func := "loop.example/g00033/laws.FnExactScan", spec := "fnExactScan", unfollowed := true, recurses := true, apart := false }
def FnExactScanSaid : Prop := fnExactScanRow.holds Try.pinned (OpenSpec.ofChange fnExactScanSpec)

/-- ITS FALSE NEIGHBOUR: 'it returns false'. Refute it at one input. -/
def fnExactScanWrong : ChangeSpec := { name := "fnExactScan", fn := fun _ => fun
  | [d1, d2] => { results := [.lit (.bool false)], args := [d1, d2] }
  | _ => none }
def FnExactScanWrongFalsely : Prop := fnExactScanRow.holds Try.pinned (OpenSpec.ofChange fnExactScanWrong)

/-- 'laws.FnExactGather': WHATEVER THE INPUT: true; the input reads as it did. -/
def fnExactGatherSpec : ChangeSpec := { name := "fnExactGather", fn := fun _ => fun
  | [d1, d2, d3] => { results := [.lit (.bool true)], args := [d1, d2, d3] }
  | _ => none }
def fnExactGatherRow : OpenClaim := { program := "ytajigcbpooblbaa", sum := "c138eb25165f0d46c86b095ec754d4549a046ce44987f40d614fcb09c65d8cc6", func := "loop.example/g00033/laws.FnExactGather", spec := "fnExactGather", unfollowed := true, recurses := true, apart := false }
def FnExactGatherSaid : Prop := fnExactGatherRow.holds Try.pinned (OpenSpec.ofChange fnExactGatherSpec)

/-- ITS FALSE NEIGHBOUR: 'it returns false'. Refute it at one input. -/
def fnExactGatherWrong : ChangeSpec := { name := "fnExactGather", fn := fun _ => fun
  | [d1, d2, d3] => { results := [.lit (.bool false)], args := [d1, d2, d3] }
  | _ => none }
def FnExactGatherWrongFalsely : Prop := fnExactGatherRow.holds Try.pinned (OpenSpec.ofChange fnExactGatherWrong)

/-- 'laws.FnExactScatter': WHATEVER THE INPUT: true; the input reads as it did. -/
def fnExactScatterSpec : ChangeSpec := { name := "fnExactScatter", fn := fun _ => fun
  | [d1, d2, d3, d4] => { results := [.lit (.bool true)], args := [d1, d2, d3, d4] }
  | _ => none }
def fnExactScatterRow : OpenClaim := { program := "ytajigcbpooblbaa", sum := "c138eb25165f0d46c86b095ec754d4549a046ce44987f40d614fcb09c65d8cc6", func := "loop.example/g00033/laws.FnExactScatter", spec := "fnExactScatter", unfollowed := true, recurses := true, apart := false }
def FnExactScatterSaid : Prop := fnExactScatterRow.holds Try.pinned (OpenSpec.ofChange fnExactScatterSpec)

/-- ITS FALSE NEIGHBOUR: 'it returns false'. Refute it at one input. -/
def fnExactScatterWrong : ChangeSpec := { name := "fnExactScatter", fn := fun _ => fun
  | [d1, d2, d3, d4] => { results := [.lit (.bool false)], args := [d1, d2, d3, d4] }
  | _ => none }
def FnExactScatterWrongFalsely : Prop := fnExactScatterRow.holds Try.pinned (OpenSpec.ofChange fnExactScatterWrong)

/-- 'laws.FnExactPad': WHATEVER THE INPUT: true; the input reads as it did. -/
def fnExactPadSpec : ChangeSpec := { name := "fnExactPad", fn := fun _ => fun
  | [d1, d2, d3, d4, d5] => { results := [.lit (.bool true)], args := [d1, d2, d3, d4, d5] }
  | _ => none }
def fnExactPadRow : OpenClaim := { program := "ytajigcbpooblbaa", sum := "c138eb25165f0d46c86b095ec754d4549a046ce44987f40d614fcb09c65d8cc6", func := "loop.example/g00033/laws.FnExactPad", spec := "fnExactPad", unfollowed := true, recurses := true, apart := false }
def FnExactPadSaid : Prop := fnExactPadRow.holds Try.pinned (OpenSpec.ofChange fnExactPadSpec)

/-- ITS FALSE NEIGHBOUR: 'it returns false'. Refute it at one input. -/
def fnExactPadWrong : ChangeSpec := { name := "fnExactPad", fn := fun _ => fun
  | [d1, d2, d3, d4, d5] => { results := [.lit (.bool false)], args := [d1, d2, d3, d4, d5] }
  | _ => none }
def FnExactPadWrongFalsely : Prop := fnExactPadRow.holds Try.pinned (OpenSpec.ofChange fnExactPadWrong)

/-- 'laws.FnExactLook': WHATEVER THE INPUT: true; the input reads as it did. -/
def fnExactLookSpec : ChangeSpec := { name := "fnExactLook", fn := fun _ => fun
  | [d1, d2] => { results := [.lit (.bool true)], args := [d1, d2] }
  | _ => none }
def fnExactLookRow : OpenClaim := { program := "ytajigcbpooblbaa", sum := "c138eb25165f0d46c86b095ec754d4549a046ce44987f40d614fcb09c65d8cc6", func := "loop.example/g00033/laws.FnExactLook", spec := "fnExactLook", unfollowed := true, recurses := true, apart := false }
def FnExactLookSaid : Prop := fnExactLookRow.holds Try.pinned (OpenSpec.ofChange fnExactLookSpec)

/-- ITS FALSE NEIGHBOUR: 'it returns false'. Refute it at one input. -/
def fnExactLookWrong : ChangeSpec := { name := "fnExactLook", fn := fun _ => fun
  | [d1, d2] => { results := [.lit (.bool false)], args := [d1, d2] }
  | _ => none }
def FnExactLookWrongFalsely : Prop := fnExactLookRow.holds Try.pinned (OpenSpec.ofChange fnExactLookWrong)

/-- 'laws.FnExactTwo': WHATEVER THE INPUT: true; the input reads as it did. -/
def fnExactTwoSpec : ChangeSpec := { name := "fnExactTwo", fn := fun _ => fun
  | [d1, d2, d3] => { results := [.lit (.bool true)], args := [d1, d2, d3] }
  | _ => none }
def fnExactTwoRow : OpenClaim := { program := "ytajigcbpooblbaa", sum := "c138eb25165f0d46c86b095ec754d4549a046ce44987f40d614fcb09c65d8cc6", func := "loop.example/g00033/laws.FnExactTwo", spec := "fnExactTwo", unfollowed := true, recurses := true, apart := false }
def FnExactTwoSaid : Prop := fnExactTwoRow.holds Try.pinned (OpenSpec.ofChange fnExactTwoSpec)

/-- ITS FALSE NEIGHBOUR: 'it returns false'. Refute it at one input. -/
def fnExactTwoWrong : ChangeSpec := { name := "fnExactTwo", fn := fun _ => fun
  | [d1, d2, d3] => { results := [.lit (.bool false)], args := [d1, d2, d3] }
  | _ => none }
def FnExactTwoWrongFalsely : Prop := fnExactTwoRow.holds Try.pinned (OpenSpec.ofChange fnExactTwoWrong)

/- THE SECOND FORM. 'bulk': how many values and letters a reading holds, each counted each time it is reached (what is shared counts as often as it is met; a slice's spare places count too). A statement '..UptoSaid' is the law's where the arguments, and the package variables that the reading takes, are together of bulk at most 1048576: NARROWER than '..Said'. Prove '..Said' where nothing that the law and all that it calls make is longer than what came in: it says more and counts as full. Else prove '..UptoSaid'. A law counts once. -/
mutual
def uptoBulk {H : Type} : DataW H → Nat
  | .lit (.string bytes) => bytes.length + 1
  | .lit _ => 1
  | .nil => 1
  | .ptr d => uptoBulk d + 1
  | .slice elems spare => uptoBulkAll elems + uptoBulkAll spare + 1
  | .agg parts => uptoBulkAll parts + 1
  | .iface _ d => uptoBulk d + 1
  | .map entries => uptoBulkEntries entries + 1
  | .held _ => 1
def uptoBulkAll {H : Type} : List (DataW H) → Nat
  | [] => 0
  | d :: r => uptoBulk d + uptoBulkAll r
def uptoBulkEntries {H : Type} : List (Lit × DataW H) → Nat
  | [] => 0
  | x :: r => uptoBulkEntry x + uptoBulkEntries r
def uptoBulkEntry {H : Type} : Lit × DataW H → Nat
  | (.string bytes, d) => bytes.length + uptoBulk d + 1
  | (_, d) => uptoBulk d + 1
 end
def uptoSmall : (H : Type) → List (DataW H) → Bool := fun _ ds => decide (uptoBulkAll ds ≤ 1048576)
def OpenSpec.upto (s : _root_.Go.ChangeSpec) : _root_.Go.OpenSpec := { _root_.Go.OpenSpec.ofChange s with cond := some uptoSmall }

/-- 'laws.FnExactScan', WHERE WHAT IT READS IS OF BULK AT MOST 1048576: true; the input reads as it did. -/
def fnExactScanUptoRow : OpenClaim := { program := "ytajigcbpooblbaa", sum := "c138eb25165f0d46c86b095ec754d4549a046ce44987f40d614fcb09c65d8cc6", func := "loop.example/g00033/laws.FnExactScan", spec := "fnExactScan", unfollowed := true, recurses := true, apart := false, narrowed := true }
def FnExactScanUptoSaid : Prop := fnExactScanUptoRow.holds Try.pinned (OpenSpec.upto fnExactScanSpec)

/-- 'laws.FnExactGather', WHERE WHAT IT READS IS OF BULK AT MOST 1048576: true; the input reads as it did. -/
def fnExactGatherUptoRow : OpenClaim := { program := "ytajigcbpooblbaa", sum := "c138eb25165f0d46c86b095ec754d4549a046ce44987f40d614fcb09c65d8cc6", func := "loop.example/g00033/laws.FnExactGather", spec := "fnExactGather", unfollowed := true, recurses := true, apart := false, narrowed := true }
def FnExactGatherUptoSaid : Prop := fnExactGatherUptoRow.holds Try.pinned (OpenSpec.upto fnExactGatherSpec)

/-- 'laws.FnExactScatter', WHERE WHAT IT READS IS OF BULK AT MOST 1048576: true; the input reads as it did. -/
def fnExactScatterUptoRow : OpenClaim := { program := "ytajigcbpooblbaa", sum := "c138eb25165f0d46c86b095ec754d4549a046ce44987f40d614fcb09c65d8cc6", func := "loop.example/g00033/laws.FnExactScatter", spec := "fnExactScatter", unfollowed := true, recurses := true, apart := false, narrowed := true }
def FnExactScatterUptoSaid : Prop := fnExactScatterUptoRow.holds Try.pinned (OpenSpec.upto fnExactScatterSpec)

/-- 'laws.FnExactPad', WHERE WHAT IT READS IS OF BULK AT MOST 1048576: true; the input reads as it did. -/
def fnExactPadUptoRow : OpenClaim := { program := "ytajigcbpooblbaa", sum := "c138eb25165f0d46c86b095ec754d4549a046ce44987f40d614fcb09c65d8cc6", func := "loop.example/g00033/laws.FnExactPad", spec := "fnExactPad", unfollowed := true, recurses := true, apart := false, narrowed := true }
def FnExactPadUptoSaid : Prop := fnExactPadUptoRow.holds Try.pinned (OpenSpec.upto fnExactPadSpec)

/-- 'laws.FnExactLook', WHERE WHAT IT READS IS OF BULK AT MOST 1048576: true; the input reads as it did. -/
def fnExactLookUptoRow : OpenClaim := { program := "ytajigcbpooblbaa", sum := "c138eb25165f0d46c86b095ec754d4549a046ce44987f40d614fcb09c65d8cc6", func := "loop.example/g00033/laws.FnExactLook", spec := "fnExactLook", unfollowed := true, recurses := true, apart := false, narrowed := true }
def FnExactLookUptoSaid : Prop := fnExactLookUptoRow.holds Try.pinned (OpenSpec.upto fnExactLookSpec)

/-- 'laws.FnExactTwo', WHERE WHAT IT READS IS OF BULK AT MOST 1048576: true; the input reads as it did. -/
def fnExactTwoUptoRow : OpenClaim := { program := "ytajigcbpooblbaa", sum := "c138eb25165f0d46c86b095ec754d4549a046ce44987f40d614fcb09c65d8cc6", func := "loop.example/g00033/laws.FnExactTwo", spec := "fnExactTwo", unfollowed := true, recurses := true, apart := false, narrowed := true }
def FnExactTwoUptoSaid : Prop := fnExactTwoUptoRow.holds Try.pinned (OpenSpec.upto fnExactTwoSpec)

end Rows
end Go.Proofs.Ytajigcbpooblbaa
