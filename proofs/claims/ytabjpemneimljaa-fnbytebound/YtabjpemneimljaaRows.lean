/-
  No cell of these rows narrows 'for every input' (looked for: loops, veiled, ifaces, maps, wideKeys, modest, calm, conditions, laid).
  DERIVED. THE GIVEN ROWS OF THIS SEAT. 5 by the template 'for every input the law returns true; each argument reads behind the call as it read before'; 0 by the template 'total and deterministic' (their statements: YtabjpemneimljaaTotals.lean).
  GIVEN WITH THE SEED: the statements are not yours to turn. If you find one false, say at which input.
  Laid BY PROGRAM, IN A SANDBOX (cutbox-rows.mjs): the forced cells as the released guide's own fill.sh prints them over the translation 80ab816a9ce3adf0… (all of the seat's roots in one cut). By AI agents, Wed Nov 11 2026. No macro, syntax, notation, axiom, sorry.
-/
import Derived.Test.YtabjpemneimljaaChecked
import GoSem.Claim
import GoSem.ClaimJoined
import GoSem.ClaimMapViews
import Derived.JoinedTies
import Derived.KernelRfl
namespace Go.Proofs.Ytabjpemneimljaa
/- THE CELL 'sum', in the pinned program and in every row, IS THE sha256 OF THE DUMP (.gsa) THAT YtabjpemneimljaaProg.lean LOADS. Nothing in Lean hashes anything: it is a label: what it is worth is what the hold of that sum in a sandbox is worth. -/
noncomputable def Try.pinned : Pinned := { name := "ytabjpemneimljaa", sum := "80ab816a9ce3adf0de3a6c4d9384405caf9d7be695de494a22544561193ff874", checked := Try.checked }
namespace Rows
def none {H : Type} : Left H := { results := [], args := [] }

/-- 'laws.FnByteBound': WHATEVER THE INPUT: true; the input reads as it did. -/
def fnByteBoundSpec : ChangeSpec := { name := "fnByteBound", fn := fun _ => fun
  | [d] => { results := [.lit (.bool true)], args := [d] }
  | _ => none }
def fnByteBoundRow : OpenClaim := { program := "ytabjpemneimljaa", sum := "80ab816a9ce3adf0de3a6c4d9384405caf9d7be695de494a22544561193ff874", func := "loop.example/g00033/laws.FnByteBound", spec := "fnByteBound", unfollowed := true, recurses := true, apart := false }
def FnByteBoundSaid : Prop := fnByteBoundRow.holds Try.pinned (OpenSpec.ofChange fnByteBoundSpec)

/-- ITS FALSE NEIGHBOUR: 'it returns false'. Refute it at one input. -/
def fnByteBoundWrong : ChangeSpec := { name := "fnByteBound", fn := fun _ => fun
  | [d] => { results := [.lit (.bool false)], args := [d] }
  | _ => none }
def FnByteBoundWrongFalsely : Prop := fnByteBoundRow.holds Try.pinned (OpenSpec.ofChange fnByteBoundWrong)

/-- 'laws.FnExactQuantise': WHATEVER THE INPUT: true; the input reads as it did. -/
def fnExactQuantiseSpec : ChangeSpec := { name := "fnExactQuantise", fn := fun _ => fun
  | [d1, d2] => { results := [.lit (.bool true)], args := [d1, d2] }
  | _ => none }
def fnExactQuantiseRow : OpenClaim := { program := "ytabjpemneimljaa", sum := "80ab816a9ce3adf0de3a6c4d9384405caf9d7be695de494a22544561193ff874", func := "loop.example/g00033/laws.FnExactQuantise", spec := "fnExactQuantise", unfollowed := true, recurses := true, apart := false }
def FnExactQuantiseSaid : Prop := fnExactQuantiseRow.holds Try.pinned (OpenSpec.ofChange fnExactQuantiseSpec)

/-- ITS FALSE NEIGHBOUR: 'it returns false'. Refute it at one input. -/
def fnExactQuantiseWrong : ChangeSpec := { name := "fnExactQuantise", fn := fun _ => fun
  | [d1, d2] => { results := [.lit (.bool false)], args := [d1, d2] }
  | _ => none }
def FnExactQuantiseWrongFalsely : Prop := fnExactQuantiseRow.holds Try.pinned (OpenSpec.ofChange fnExactQuantiseWrong)

/-- 'laws.FnExactValue': WHATEVER THE INPUT: true; the input reads as it did. -/
def fnExactValueSpec : ChangeSpec := { name := "fnExactValue", fn := fun _ => fun
  | [d1, d2] => { results := [.lit (.bool true)], args := [d1, d2] }
  | _ => none }
def fnExactValueRow : OpenClaim := { program := "ytabjpemneimljaa", sum := "80ab816a9ce3adf0de3a6c4d9384405caf9d7be695de494a22544561193ff874", func := "loop.example/g00033/laws.FnExactValue", spec := "fnExactValue", unfollowed := true, recurses := true, apart := false }
def FnExactValueSaid : Prop := fnExactValueRow.holds Try.pinned (OpenSpec.ofChange fnExactValueSpec)

/-- ITS FALSE NEIGHBOUR: 'it returns false'. Refute it at one input. -/
def fnExactValueWrong : ChangeSpec := { name := "fnExactValue", fn := fun _ => fun
  | [d1, d2] => { results := [.lit (.bool false)], args := [d1, d2] }
  | _ => none }
def FnExactValueWrongFalsely : Prop := fnExactValueRow.holds Try.pinned (OpenSpec.ofChange fnExactValueWrong)

/-- 'laws.FnExactCalibrate': WHATEVER THE INPUT: true; the input reads as it did. -/
def fnExactCalibrateSpec : ChangeSpec := { name := "fnExactCalibrate", fn := fun _ => fun
  | [d] => { results := [.lit (.bool true)], args := [d] }
  | _ => none }
def fnExactCalibrateRow : OpenClaim := { program := "ytabjpemneimljaa", sum := "80ab816a9ce3adf0de3a6c4d9384405caf9d7be695de494a22544561193ff874", func := "loop.example/g00033/laws.FnExactCalibrate", spec := "fnExactCalibrate", unfollowed := true, recurses := true, apart := false }
def FnExactCalibrateSaid : Prop := fnExactCalibrateRow.holds Try.pinned (OpenSpec.ofChange fnExactCalibrateSpec)

/-- ITS FALSE NEIGHBOUR: 'it returns false'. Refute it at one input. -/
def fnExactCalibrateWrong : ChangeSpec := { name := "fnExactCalibrate", fn := fun _ => fun
  | [d] => { results := [.lit (.bool false)], args := [d] }
  | _ => none }
def FnExactCalibrateWrongFalsely : Prop := fnExactCalibrateRow.holds Try.pinned (OpenSpec.ofChange fnExactCalibrateWrong)

/-- 'laws.FnExactWorst': WHATEVER THE INPUT: true; the input reads as it did. -/
def fnExactWorstSpec : ChangeSpec := { name := "fnExactWorst", fn := fun _ => fun
  | [d1, d2] => { results := [.lit (.bool true)], args := [d1, d2] }
  | _ => none }
def fnExactWorstRow : OpenClaim := { program := "ytabjpemneimljaa", sum := "80ab816a9ce3adf0de3a6c4d9384405caf9d7be695de494a22544561193ff874", func := "loop.example/g00033/laws.FnExactWorst", spec := "fnExactWorst", unfollowed := true, recurses := true, apart := false }
def FnExactWorstSaid : Prop := fnExactWorstRow.holds Try.pinned (OpenSpec.ofChange fnExactWorstSpec)

/-- ITS FALSE NEIGHBOUR: 'it returns false'. Refute it at one input. -/
def fnExactWorstWrong : ChangeSpec := { name := "fnExactWorst", fn := fun _ => fun
  | [d1, d2] => { results := [.lit (.bool false)], args := [d1, d2] }
  | _ => none }
def FnExactWorstWrongFalsely : Prop := fnExactWorstRow.holds Try.pinned (OpenSpec.ofChange fnExactWorstWrong)

/- THE SECOND FORM. 'bulk': how many values and letters a reading holds, each counted each time it is reached (what is shared counts as often as it is met; a slice's spare places count too). A statement '..UptoSaid' is the law's where the arguments, and the package variables that the reading takes, are together of bulk at most 1048576: NARROWER than '..Said'. Prove '..Said' where nothing that the law and all that it calls make is longer than what came in: it says more and counts as full. Else prove '..UptoSaid'. A law counts once. -/
mutual
def uptoBulk {H : Type} : DataW H → Nat
  | .lit (.string bytes) => bytes.length + 1
  | .lit _ => 1
  | .nil => 1
  | .ptr d => uptoBulk d + 1
  | .slice elems spare => uptoBulkAll elems + uptoBulkAll spare + 1
  | .agg parts => uptoBulkAll parts + 1
  | .iface _ d => uptoBulk d + 1
  | .map entries => uptoBulkEntries entries + 1
  | .held _ => 1
def uptoBulkAll {H : Type} : List (DataW H) → Nat
  | [] => 0
  | d :: r => uptoBulk d + uptoBulkAll r
def uptoBulkEntries {H : Type} : List (Lit × DataW H) → Nat
  | [] => 0
  | x :: r => uptoBulkEntry x + uptoBulkEntries r
def uptoBulkEntry {H : Type} : Lit × DataW H → Nat
  | (.string bytes, d) => bytes.length + uptoBulk d + 1
  | (_, d) => uptoBulk d + 1
 end
def uptoSmall : (H : Type) → List (DataW H) → Bool := fun _ ds => decide (uptoBulkAll ds ≤ 1048576)
def OpenSpec.upto (s : _root_.Go.ChangeSpec) : _root_.Go.OpenSpec := { _root_.Go.OpenSpec.ofChange s with cond := some uptoSmall }

/-- 'laws.FnByteBound', WHERE WHAT IT READS IS OF BULK AT MOST 1048576: true; the input reads as it did. -/
def fnByteBoundUptoRow : OpenClaim := { program := "ytabjpemneimljaa", sum := "80ab816a9ce3adf0de3a6c4d9384405caf9d7be695de494a22544561193ff874", func := "loop.example/g00033/laws.FnByteBound", spec := "fnByteBound", unfollowed := true, recurses := true, apart := false, narrowed := true }
def FnByteBoundUptoSaid : Prop := fnByteBoundUptoRow.holds Try.pinned (OpenSpec.upto fnByteBoundSpec)

/-- 'laws.FnExactQuantise', WHERE WHAT IT READS IS OF BULK AT MOST 1048576: true; the input reads as it did. -/
def fnExactQuantiseUptoRow : OpenClaim := { program := "ytabjpemneimljaa", sum := "80ab816a9ce3adf0de3a6c4d9384405caf9d7be695de494a22544561193ff874", func := "loop.example/g00033/laws.FnExactQuantise", spec := "fnExactQuantise", unfollowed := true, recurses := true, apart := false, narrowed := true }
def FnExactQuantiseUptoSaid : Prop := fnExactQuantiseUptoRow.holds Try.pinned (OpenSpec.upto fnExactQuantiseSpec)

/-- 'laws.FnExactValue', WHERE WHAT IT READS IS OF BULK AT MOST 1048576: true; the input reads as it did. -/
def fnExactValueUptoRow : OpenClaim := { program := "ytabjpemneimljaa", sum := "80ab816a9ce3adf0de3a6c4d9384405caf9d7be695de494a22544561193ff874", func := "loop.example/g00033/laws.FnExactValue", spec := "fnExactValue", unfollowed := true, recurses := true, apart := false, narrowed := true }
def FnExactValueUptoSaid : Prop := fnExactValueUptoRow.holds Try.pinned (OpenSpec.upto fnExactValueSpec)

/-- 'laws.FnExactCalibrate', WHERE WHAT IT READS IS OF BULK AT MOST 1048576: true; the input reads as it did. -/
def fnExactCalibrateUptoRow : OpenClaim := { program := "ytabjpemneimljaa", sum := "80ab816a9ce3adf0de3a6c4d9384405caf9d7be695de494a22544561193ff874", func := "loop.example/g00033/laws.FnExactCalibrate", spec := "fnExactCalibrate", unfollowed := true, recurses := true, apart := false, narrowed := true }
def FnExactCalibrateUptoSaid : Prop := fnExactCalibrateUptoRow.holds Try.pinned (OpenSpec.upto fnExactCalibrateSpec)

/-- 'laws.FnExactWorst', WHERE WHAT IT READS IS OF BULK AT MOST 1048576: true; the input reads as it did. -/
def fnExactWorstUptoRow : OpenClaim := { program := "ytabjpemneimljaa", sum := "80ab816a9ce3adf0de3a6c4d9384405caf9d7be695de494a22544561193ff874", func := "loop.example/g00033/laws.FnExactWorst", spec := "fnExactWorst", unfollowed := true, recurses := true, apart := false, narrowed := true }
def FnExactWorstUptoSaid : Prop := fnExactWorstUptoRow.holds Try.pinned (OpenSpec.upto fnExactWorstSpec)

end Rows
end Go.Proofs.Ytabjpemneimljaa
