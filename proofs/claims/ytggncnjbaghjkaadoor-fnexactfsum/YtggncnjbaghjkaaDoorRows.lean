/-
  NARROWER THAN 'FOR EVERY INPUT', by the rows' own cells (each row's printed sentence says how): FnExactFAdd: laid · FnExactFSum: laid · FnExactFTree: laid.
  DERIVED. THE GIVEN ROWS OF THIS SEAT. 3 by the template 'for every input the law returns true; each argument reads behind the call as it read before'; 0 by the template 'total and deterministic' (their statements: YtggncnjbaghjkaaDoorTotals.lean).
  GIVEN WITH THE SEED: the statements are not yours to turn. If you find one false, say at which input.
  Laid BY PROGRAM, IN A SANDBOX (cutbox-rows.mjs): the forced cells as the released guide's own fill.sh prints them over the translation ac899306207320f4… (all of the seat's roots in one cut). By AI agents, Wed Nov 11 2026. No macro, syntax, notation, axiom, sorry.
-/
import Derived.Test.YtggncnjbaghjkaaDoorChecked
import GoSem.Claim
import GoSem.ClaimJoined
import GoSem.ClaimMapViews
import Derived.JoinedTies
import Derived.KernelRfl
namespace Go.Proofs.YtggncnjbaghjkaaDoor
/- THE CELL 'sum', in the pinned program and in every row, IS THE sha256 OF THE DUMP (.gsa) THAT YtggncnjbaghjkaaDoorProg.lean LOADS. Nothing in Lean hashes anything: it is a label: what it is worth is what the hold of that sum in a sandbox is worth. -/
noncomputable def Tryd.pinned : Pinned := { name := "ytggncnjbaghjkaadoor", sum := "ac899306207320f4cd2045733607a0790a97164b91fd8d465a26b2621d751ff0", checked := Tryd.checked }
namespace Rows
def none {H : Type} : Left H := { results := [], args := [] }

/- WHAT THE LISTED PACKAGE-LEVEL VARIABLES READ AS WHEN THE CALL BEGINS. Each datum BY PROGRAM (the guide's laid-datum.mjs) off the statement by which the dump's own 'gosem.cut.vars' lays the variable. In a bare row this is a premise. The card (YtggncnjbaghjkaaDoorCards.lean) ties it to the program's text. -/
def laid_loop_example_g00033_impl_singleFloat {H : Type} : DataW H := .agg [.lit (.int .u8 8), .lit (.int .u8 23)]

/-- 'laws.FnExactFAdd': WHATEVER THE INPUT: true; the input reads as it did. -/
def fnExactFAddSpec : ChangeSpec := { name := "fnExactFAdd", vars := ["loop.example/g00033/impl.singleFloat"], fn := fun _ => fun
  | [d1, d2, g1] => { results := [.lit (.bool true)], args := [d1, d2], vars := [g1] }
  | _ => none }
def fnExactFAddRow : OpenClaim := { program := "ytggncnjbaghjkaadoor", sum := "ac899306207320f4cd2045733607a0790a97164b91fd8d465a26b2621d751ff0", func := "loop.example/g00033/laws.FnExactFAdd", spec := "fnExactFAdd", inPlace := ["math/bits.Sub64", "math/bits.Add64"], named := ["loop.example/g00033/impl.singleFloat"], apart := false, laid := [("loop.example/g00033/impl.singleFloat", laid_loop_example_g00033_impl_singleFloat)] }
def FnExactFAddSaid : Prop := fnExactFAddRow.holds Tryd.pinned (OpenSpec.ofChange fnExactFAddSpec)

/-- ITS FALSE NEIGHBOUR: 'it returns false'. Refute it at one input. -/
def fnExactFAddWrong : ChangeSpec := { name := "fnExactFAdd", vars := ["loop.example/g00033/impl.singleFloat"], fn := fun _ => fun
  | [d1, d2, g1] => { results := [.lit (.bool false)], args := [d1, d2], vars := [g1] }
  | _ => none }
def FnExactFAddWrongFalsely : Prop := fnExactFAddRow.holds Tryd.pinned (OpenSpec.ofChange fnExactFAddWrong)

/-- 'laws.FnExactFSum': WHATEVER THE INPUT: true; the input reads as it did. -/
def fnExactFSumSpec : ChangeSpec := { name := "fnExactFSum", vars := ["loop.example/g00033/impl.singleFloat"], fn := fun _ => fun
  | [d, g1] => { results := [.lit (.bool true)], args := [d], vars := [g1] }
  | _ => none }
def fnExactFSumRow : OpenClaim := { program := "ytggncnjbaghjkaadoor", sum := "ac899306207320f4cd2045733607a0790a97164b91fd8d465a26b2621d751ff0", func := "loop.example/g00033/laws.FnExactFSum", spec := "fnExactFSum", inPlace := ["math/bits.Sub64", "math/bits.Add64"], named := ["loop.example/g00033/impl.singleFloat"], apart := false, laid := [("loop.example/g00033/impl.singleFloat", laid_loop_example_g00033_impl_singleFloat)] }
def FnExactFSumSaid : Prop := fnExactFSumRow.holds Tryd.pinned (OpenSpec.ofChange fnExactFSumSpec)

/-- ITS FALSE NEIGHBOUR: 'it returns false'. Refute it at one input. -/
def fnExactFSumWrong : ChangeSpec := { name := "fnExactFSum", vars := ["loop.example/g00033/impl.singleFloat"], fn := fun _ => fun
  | [d, g1] => { results := [.lit (.bool false)], args := [d], vars := [g1] }
  | _ => none }
def FnExactFSumWrongFalsely : Prop := fnExactFSumRow.holds Tryd.pinned (OpenSpec.ofChange fnExactFSumWrong)

/-- 'laws.FnExactFTree': WHATEVER THE INPUT: true; the input reads as it did. -/
def fnExactFTreeSpec : ChangeSpec := { name := "fnExactFTree", vars := ["loop.example/g00033/impl.singleFloat"], fn := fun _ => fun
  | [d, g1] => { results := [.lit (.bool true)], args := [d], vars := [g1] }
  | _ => none }
def fnExactFTreeRow : OpenClaim := { program := "ytggncnjbaghjkaadoor", sum := "ac899306207320f4cd2045733607a0790a97164b91fd8d465a26b2621d751ff0", func := "loop.example/g00033/laws.FnExactFTree", spec := "fnExactFTree", inPlace := ["math/bits.Sub64", "math/bits.Add64"], recurses := true, named := ["loop.example/g00033/impl.singleFloat"], apart := false, laid := [("loop.example/g00033/impl.singleFloat", laid_loop_example_g00033_impl_singleFloat)] }
def FnExactFTreeSaid : Prop := fnExactFTreeRow.holds Tryd.pinned (OpenSpec.ofChange fnExactFTreeSpec)

/-- ITS FALSE NEIGHBOUR: 'it returns false'. Refute it at one input. -/
def fnExactFTreeWrong : ChangeSpec := { name := "fnExactFTree", vars := ["loop.example/g00033/impl.singleFloat"], fn := fun _ => fun
  | [d, g1] => { results := [.lit (.bool false)], args := [d], vars := [g1] }
  | _ => none }
def FnExactFTreeWrongFalsely : Prop := fnExactFTreeRow.holds Tryd.pinned (OpenSpec.ofChange fnExactFTreeWrong)

/- THE SECOND FORM. 'bulk': how many values and letters a reading holds, each counted each time it is reached (what is shared counts as often as it is met; a slice's spare places count too). A statement '..UptoSaid' is the law's where the arguments, and the package variables that the reading takes, are together of bulk at most 1048576: NARROWER than '..Said'. Prove '..Said' where nothing that the law and all that it calls make is longer than what came in: it says more and counts as full. Else prove '..UptoSaid'. A law counts once. -/
mutual
def uptoBulk {H : Type} : DataW H → Nat
  | .lit (.string bytes) => bytes.length + 1
  | .lit _ => 1
  | .nil => 1
  | .ptr d => uptoBulk d + 1
  | .slice elems spare => uptoBulkAll elems + uptoBulkAll spare + 1
  | .agg parts => uptoBulkAll parts + 1
  | .iface _ d => uptoBulk d + 1
  | .map entries => uptoBulkEntries entries + 1
  | .held _ => 1
def uptoBulkAll {H : Type} : List (DataW H) → Nat
  | [] => 0
  | d :: r => uptoBulk d + uptoBulkAll r
def uptoBulkEntries {H : Type} : List (Lit × DataW H) → Nat
  | [] => 0
  | x :: r => uptoBulkEntry x + uptoBulkEntries r
def uptoBulkEntry {H : Type} : Lit × DataW H → Nat
  | (.string bytes, d) => bytes.length + uptoBulk d + 1
  | (_, d) => uptoBulk d + 1
 end
def uptoSmall : (H : Type) → List (DataW H) → Bool := fun _ ds => decide (uptoBulkAll ds ≤ 1048576)
def OpenSpec.upto (s : _root_.Go.ChangeSpec) : _root_.Go.OpenSpec := { _root_.Go.OpenSpec.ofChange s with cond := some uptoSmall }

/-- 'laws.FnExactFAdd', WHERE WHAT IT READS IS OF BULK AT MOST 1048576: true; the input reads as it did. -/
def fnExactFAddUptoRow : OpenClaim := { program := "ytggncnjbaghjkaadoor", sum := "ac899306207320f4cd2045733607a0790a97164b91fd8d465a26b2621d751ff0", func := "loop.example/g00033/laws.FnExactFAdd", spec := "fnExactFAdd", inPlace := ["math/bits.Sub64", "math/bits.Add64"], named := ["loop.example/g00033/impl.singleFloat"], apart := false, laid := [("loop.example/g00033/impl.singleFloat", laid_loop_example_g00033_impl_singleFloat)], narrowed := true }
def FnExactFAddUptoSaid : Prop := fnExactFAddUptoRow.holds Tryd.pinned (OpenSpec.upto fnExactFAddSpec)

/-- 'laws.FnExactFSum', WHERE WHAT IT READS IS OF BULK AT MOST 1048576: true; the input reads as it did. -/
def fnExactFSumUptoRow : OpenClaim := { program := "ytggncnjbaghjkaadoor", sum := "ac899306207320f4cd2045733607a0790a97164b91fd8d465a26b2621d751ff0", func := "loop.example/g00033/laws.FnExactFSum", spec := "fnExactFSum", inPlace := ["math/bits.Sub64", "math/bits.Add64"], named := ["loop.example/g00033/impl.singleFloat"], apart := false, laid := [("loop.example/g00033/impl.singleFloat", laid_loop_example_g00033_impl_singleFloat)], narrowed := true }
def FnExactFSumUptoSaid : Prop := fnExactFSumUptoRow.holds Tryd.pinned (OpenSpec.upto fnExactFSumSpec)

/-- 'laws.FnExactFTree', WHERE WHAT IT READS IS OF BULK AT MOST 1048576: true; the input reads as it did. -/
def fnExactFTreeUptoRow : OpenClaim := { program := "ytggncnjbaghjkaadoor", sum := "ac899306207320f4cd2045733607a0790a97164b91fd8d465a26b2621d751ff0", func := "loop.example/g00033/laws.FnExactFTree", spec := "fnExactFTree", inPlace := ["math/bits.Sub64", "math/bits.Add64"], recurses := true, named := ["loop.example/g00033/impl.singleFloat"], apart := false, laid := [("loop.example/g00033/impl.singleFloat", laid_loop_example_g00033_impl_singleFloat)], narrowed := true }
def FnExactFTreeUptoSaid : Prop := fnExactFTreeUptoRow.holds Tryd.pinned (OpenSpec.upto fnExactFTreeSpec)

end Rows
end Go.Proofs.YtggncnjbaghjkaaDoor
