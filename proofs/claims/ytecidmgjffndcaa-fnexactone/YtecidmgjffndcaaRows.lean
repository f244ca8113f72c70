/-
  No cell of these rows narrows 'for every input' (looked for: loops, veiled, ifaces, maps, wideKeys, modest, calm, conditions, laid).
  DERIVED. THE GIVEN ROWS OF THIS SEAT. 5 by the template 'for every input the law returns true; each argument reads behind the call as it read before'; 0 by the template 'total and deterministic' (their statements: YtecidmgjffndcaaTotals.lean).
  GIVEN WITH THE SEED: the statements are not yours to turn. If you find one false, say at which input.
  Laid BY PROGRAM, IN A SANDBOX (cutbox-rows.mjs): the forced cells as the released guide's own fill.sh prints them over the translation e2012779787b2fdb… (all of the seat's roots in one cut). By AI agents, Wed Nov 11 2026. No macro, syntax, notation, axiom, sorry.
-/
import Derived.Test.YtecidmgjffndcaaChecked
import GoSem.Claim
import GoSem.ClaimJoined
import GoSem.ClaimMapViews
import Derived.JoinedTies
import Derived.KernelRfl
namespace Go.Proofs.Ytecidmgjffndcaa
/- THE CELL 'sum', in the pinned program and in every row, IS THE sha256 OF THE DUMP (.gsa) THAT YtecidmgjffndcaaProg.lean LOADS. Nothing in Lean hashes anything: it is a label: what it is worth is what the hold of that sum in a sandbox is worth. -/
noncomputable def Try.pinned : Pinned := { name := "ytecidmgjffndcaa", sum := "e2012779787b2fdb3ab174bbb2d93784b8dbdefdf18b312fe93611e70bba24bf", checked := Try.checked }
namespace Rows
def none {H : Type} : Left H := { results := [], args := [] }

/-- 'laws.FnExactTensorOk': WHATEVER THE INPUT: true; the input reads as it did. -/
def fnExactTensorOkSpec : ChangeSpec := { name := "fnExactTensorOk", fn := fun _ => fun
  | [d] => { results := [.lit (.bool true)], args := [d] }
  | _ => none }
def fnExactTensorOkRow : OpenClaim := { program := "ytecidmgjffndcaa", sum := "e2012779787b2fdb3ab174bbb2d93784b8dbdefdf18b312fe93611e70bba24bf", func := "loop.example/g00033/laws.FnExactTensorOk", spec := "fnExactTensorOk", unfollowed := true, recurses := true, apart := false }
def FnExactTensorOkSaid : Prop := fnExactTensorOkRow.holds Try.pinned (OpenSpec.ofChange fnExactTensorOkSpec)

/-- ITS FALSE NEIGHBOUR: 'it returns false'. Refute it at one input. -/
def fnExactTensorOkWrong : ChangeSpec := { name := "fnExactTensorOk", fn := fun _ => fun
  | [d] => { results := [.lit (.bool false)], args := [d] }
  | _ => none }
def FnExactTensorOkWrongFalsely : Prop := fnExactTensorOkRow.holds Try.pinned (OpenSpec.ofChange fnExactTensorOkWrong)

/-- 'laws.FnExactFill': WHATEVER THE INPUT: true; the input reads as it did. -/
def fnExactFillSpec : ChangeSpec := { name := "fnExactFill", fn := fun _ => fun
  | [d1, d2] => { results := [.lit (.bool true)], args := [d1, d2] }
  | _ => none }
def fnExactFillRow : OpenClaim := { program := "ytecidmgjffndcaa", sum := "e2012779787b2fdb3ab174bbb2d93784b8dbdefdf18b312fe93611e70bba24bf", func := "loop.example/g00033/laws.FnExactFill", spec := "fnExactFill", unfollowed := true, recurses := true, apart := false }
def FnExactFillSaid : Prop := fnExactFillRow.holds Try.pinned (OpenSpec.ofChange fnExactFillSpec)

/-- ITS FALSE NEIGHBOUR: 'it returns false'. Refute it at one input. -/
def fnExactFillWrong : ChangeSpec := { name := "fnExactFill", fn := fun _ => fun
  | [d1, d2] => { results := [.lit (.bool false)], args := [d1, d2] }
  | _ => none }
def FnExactFillWrongFalsely : Prop := fnExactFillRow.holds Try.pinned (OpenSpec.ofChange fnExactFillWrong)

/-- 'laws.FnExactLook': WHATEVER THE INPUT: true; the input reads as it did. -/
def fnExactLookSpec : ChangeSpec := { name := "fnExactLook", fn := fun _ => fun
  | [d1, d2] => { results := [.lit (.bool true)], args := [d1, d2] }
  | _ => none }
def fnExactLookRow : OpenClaim := { program := "ytecidmgjffndcaa", sum := "e2012779787b2fdb3ab174bbb2d93784b8dbdefdf18b312fe93611e70bba24bf", func := "loop.example/g00033/laws.FnExactLook", spec := "fnExactLook", unfollowed := true, recurses := true, apart := false }
def FnExactLookSaid : Prop := fnExactLookRow.holds Try.pinned (OpenSpec.ofChange fnExactLookSpec)

/-- ITS FALSE NEIGHBOUR: 'it returns false'. Refute it at one input. -/
def fnExactLookWrong : ChangeSpec := { name := "fnExactLook", fn := fun _ => fun
  | [d1, d2] => { results := [.lit (.bool false)], args := [d1, d2] }
  | _ => none }
def FnExactLookWrongFalsely : Prop := fnExactLookRow.holds Try.pinned (OpenSpec.ofChange fnExactLookWrong)

/-- 'laws.FnExactOne': WHATEVER THE INPUT: true; the input reads as it did. -/
def fnExactOneSpec : ChangeSpec := { name := "fnExactOne", fn := fun _ => fun
  | [d1, d2] => { results := [.lit (.bool true)], args := [d1, d2] }
  | _ => none }
def fnExactOneRow : OpenClaim := { program := "ytecidmgjffndcaa", sum := "e2012779787b2fdb3ab174bbb2d93784b8dbdefdf18b312fe93611e70bba24bf", func := "loop.example/g00033/laws.FnExactOne", spec := "fnExactOne", unfollowed := true, recurses := true, apart := false }
def FnExactOneSaid : Prop := fnExactOneRow.holds Try.pinned (OpenSpec.ofChange fnExactOneSpec)

/-- ITS FALSE NEIGHBOUR: 'it returns false'. Refute it at one input. -/
def fnExactOneWrong : ChangeSpec := { name := "fnExactOne", fn := fun _ => fun
  | [d1, d2] => { results := [.lit (.bool false)], args := [d1, d2] }
  | _ => none }
def FnExactOneWrongFalsely : Prop := fnExactOneRow.holds Try.pinned (OpenSpec.ofChange fnExactOneWrong)

/-- 'laws.FnExactTwo': WHATEVER THE INPUT: true; the input reads as it did. -/
def fnExactTwoSpec : ChangeSpec := { name := "fnExactTwo", fn := fun _ => fun
  | [d1, d2, d3] => { results := [.lit (.bool true)], args := [d1, d2, d3] }
  | _ => none }
def fnExactTwoRow : OpenClaim := { program := "ytecidmgjffndcaa", sum := "e2012779787b2fdb3ab174bbb2d93784b8dbdefdf18b312fe93611e70bba24bf", func := "loop.example/g00033/laws.FnExactTwo", spec := "fnExactTwo", unfollowed := true, recurses := true, apart := false }
def FnExactTwoSaid : Prop := fnExactTwoRow.holds Try.pinned (OpenSpec.ofChange fnExactTwoSpec)

/-- ITS FALSE NEIGHBOUR: 'it returns false'. Refute it at one input. -/
def fnExactTwoWrong : ChangeSpec := { name := "fnExactTwo", fn := fun _ => fun
  | [d1, d2, d3] => { results := [.lit (.bool false)], args := [d1, d2, d3] }
  | _ => none }
def FnExactTwoWrongFalsely : Prop := fnExactTwoRow.holds Try.pinned (OpenSpec.ofChange fnExactTwoWrong)

/- THE SECOND FORM. 'bulk': how many values and letters a reading holds, each counted each time it is reached (what is shared counts as often as it is met; a slice's spare places count too). A statement '..UptoSaid' is the law's where the arguments, and the package variables that the reading takes, are together of bulk at most 1048576: NARROWER than '..Said'. Prove '..Said' where nothing that the law and all that it calls make is longer than what came in: it says more and counts as full. Else prove '..UptoSaid'. A law counts once. -/
mutual
def uptoBulk {H : Type} : DataW H → Nat
  | .lit (.string bytes) => bytes.length + 1
  | .lit _ => 1
  | .nil => 1
  | .ptr d => uptoBulk d + 1
  | .slice elems spare => uptoBulkAll elems + uptoBulkAll spare + 1
  | .agg parts => uptoBulkAll parts + 1
  | .iface _ d => uptoBulk d + 1
  | .map entries => uptoBulkEntries entries + 1
  | .held _ => 1
def uptoBulkAll {H : Type} : List (DataW H) → Nat
  | [] => 0
  | d :: r => uptoBulk d + uptoBulkAll r
def uptoBulkEntries {H : Type} : List (Lit × DataW H) → Nat
  | [] => 0
  | x :: r => uptoBulkEntry x + uptoBulkEntries r
def uptoBulkEntry {H : Type} : Lit × DataW H → Nat
  | (.string bytes, d) => bytes.length + uptoBulk d + 1
  | (_, d) => uptoBulk d + 1
 end
def uptoSmall : (H : Type) → List (DataW H) → Bool := fun _ ds => decide (uptoBulkAll ds ≤ 1048576)
def OpenSpec.upto (s : _root_.Go.ChangeSpec) : _root_.Go.OpenSpec := { _root_.Go.OpenSpec.ofChange s with cond := some uptoSmall }

/-- 'laws.FnExactTensorOk', WHERE WHAT IT READS IS OF BULK AT MOST 1048576: true; the input reads as it did. -/
def fnExactTensorOkUptoRow : OpenClaim := { program := "ytecidmgjffndcaa", sum := "e2012779787b2fdb3ab174bbb2d93784b8dbdefdf18b312fe93611e70bba24bf", func := "loop.example/g00033/laws.FnExactTensorOk", spec := "fnExactTensorOk", unfollowed := true, recurses := true, apart := false, narrowed := true }
def FnExactTensorOkUptoSaid : Prop := fnExactTensorOkUptoRow.holds Try.pinned (OpenSpec.upto fnExactTensorOkSpec)

/-- 'laws.FnExactFill', WHERE WHAT IT READS IS OF BULK AT MOST 1048576: true; the input reads as it did. -/
def fnExactFillUptoRow : OpenClaim := { program := "ytecidmgjffndcaa", sum := "e2012779787b2fdb3ab174bbb2d93784b8dbdefdf18b312fe93611e70bba24bf", func := "loop.example/g00033/laws.FnExactFill", spec := "fnExactFill", unfollowed := true, recurses := true, apart := false, narrowed := true }
def FnExactFillUptoSaid : Prop := fnExactFillUptoRow.holds Try.pinned (OpenSpec.upto fnExactFillSpec)

/-- 'laws.FnExactLook', WHERE WHAT IT READS IS OF BULK AT MOST 1048576: true; the input reads as it did. -/
def fnExactLookUptoRow : OpenClaim := { program := "ytecidmgjffndcaa", sum := "e2012779787b2fdb3ab174bbb2d93784b8dbdefdf18b312fe93611e70bba24bf", func := "loop.example/g00033/laws.FnExactLook", spec := "fnExactLook", unfollowed := true, recurses := true, apart := false, narrowed := true }
def FnExactLookUptoSaid : Prop := fnExactLookUptoRow.holds Try.pinned (OpenSpec.upto fnExactLookSpec)

/-- 'laws.FnExactOne', WHERE WHAT IT READS IS OF BULK AT MOST 1048576: true; the input reads as it did. -/
def fnExactOneUptoRow : OpenClaim := { program := "ytecidmgjffndcaa", sum := "e2012779787b2fdb3ab174bbb2d93784b8dbdefdf18b312fe93611e70bba24bf", func := "loop.example/g00033/laws.FnExactOne", spec := "fnExactOne", unfollowed := true, recurses := true, apart := false, narrowed := true }
def FnExactOneUptoSaid : Prop := fnExactOneUptoRow.holds Try.pinned (OpenSpec.upto fnExactOneSpec)

/-- 'laws.FnExactTwo', WHERE WHAT IT READS IS OF BULK AT MOST 1048576: true; the input reads as it did. -/
def fnExactTwoUptoRow : OpenClaim := { program := "ytecidmgjffndcaa", sum := "e2012779787b2fdb3ab174bbb2d93784b8dbdefdf18b312fe93611e70bba24bf", func := "loop.example/g00033/laws.FnExactTwo", spec := "fnExactTwo", unfollowed := true, recurses := true, apart := false, narrowed := true }
def FnExactTwoUptoSaid : Prop := fnExactTwoUptoRow.holds Try.pinned (OpenSpec.upto fnExactTwoSpec)

end Rows
end Go.Proofs.Ytecidmgjffndcaa
