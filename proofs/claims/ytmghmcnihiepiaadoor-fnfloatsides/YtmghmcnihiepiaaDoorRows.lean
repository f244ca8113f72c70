/-
  NARROWER THAN 'FOR EVERY INPUT', by the rows' own cells (each row's printed sentence says how): FnFloatSides: laid · FnFloatWhole: laid · FnExactFAdd: laid · FnExactFMul: laid · FnExactFDiv: laid · FnExactFLess: laid.
  DERIVED. THE GIVEN ROWS OF THIS SEAT. 6 by the template 'for every input the law returns true; each argument reads behind the call as it read before'; 0 by the template 'total and deterministic' (their statements: YtmghmcnihiepiaaDoorTotals.lean).
  GIVEN WITH THE SEED: the statements are not yours to turn. If you find one false, say at which input.
  Laid BY PROGRAM, IN A SANDBOX (cutbox-rows.mjs): the forced cells as the released guide's own fill.sh prints them over the translation 1256fac902bf364e… (all of the seat's roots in one cut). By AI agents, Wed Nov 11 2026. No macro, syntax, notation, axiom, sorry.
-/
import Derived.Test.YtmghmcnihiepiaaDoorChecked
import GoSem.Claim
import GoSem.ClaimJoined
import GoSem.ClaimMapViews
import Derived.JoinedTies
import Derived.KernelRfl
namespace Go.Proofs.YtmghmcnihiepiaaDoor
/- THE CELL 'sum', in the pinned program and in every row, IS THE sha256 OF THE DUMP (.gsa) THAT YtmghmcnihiepiaaDoorProg.lean LOADS. Nothing in Lean hashes anything: it is a label: what it is worth is what the hold of that sum in a sandbox is worth. -/
noncomputable def Tryd.pinned : Pinned := { name := "ytmghmcnihiepiaadoor", sum := "1256fac902bf364e333ca21bf66f65513a77ca60cb692d7fb1dc48f5cc822019", checked := Tryd.checked }
namespace Rows
def none {H : Type} : Left H := { results := [], args := [] }

/- WHAT THE LISTED PACKAGE-LEVEL VARIABLES READ AS WHEN THE CALL BEGINS. Each datum BY PROGRAM (the guide's laid-datum.mjs) off the statement by which the dump's own 'gosem.cut.vars' lays the variable. In a bare row this is a premise. The card (YtmghmcnihiepiaaDoorCards.lean) ties it to the program's text. -/
def laid_loop_example_g00033_impl_singleFloat {H : Type} : DataW H := .agg [.lit (.int .u8 8), .lit (.int .u8 23)]

/-- 'laws.FnFloatSides': WHATEVER THE INPUT: true; the input reads as it did. -/
def fnFloatSidesSpec : ChangeSpec := { name := "fnFloatSides", vars := ["loop.example/g00033/impl.singleFloat"], fn := fun _ => fun
  | [d, g1] => { results := [.lit (.bool true)], args := [d], vars := [g1] }
  | _ => none }
def fnFloatSidesRow : OpenClaim := { program := "ytmghmcnihiepiaadoor", sum := "1256fac902bf364e333ca21bf66f65513a77ca60cb692d7fb1dc48f5cc822019", func := "loop.example/g00033/laws.FnFloatSides", spec := "fnFloatSides", inPlace := ["math/bits.Sub64", "math/bits.Add64"], recurses := true, named := ["loop.example/g00033/impl.singleFloat"], apart := false, laid := [("loop.example/g00033/impl.singleFloat", laid_loop_example_g00033_impl_singleFloat)] }
def FnFloatSidesSaid : Prop := fnFloatSidesRow.holds Tryd.pinned (OpenSpec.ofChange fnFloatSidesSpec)

/-- ITS FALSE NEIGHBOUR: 'it returns false'. Refute it at one input. -/
def fnFloatSidesWrong : ChangeSpec := { name := "fnFloatSides", vars := ["loop.example/g00033/impl.singleFloat"], fn := fun _ => fun
  | [d, g1] => { results := [.lit (.bool false)], args := [d], vars := [g1] }
  | _ => none }
def FnFloatSidesWrongFalsely : Prop := fnFloatSidesRow.holds Tryd.pinned (OpenSpec.ofChange fnFloatSidesWrong)

/-- 'laws.FnFloatWhole': WHATEVER THE INPUT: true; the input reads as it did. -/
def fnFloatWholeSpec : ChangeSpec := { name := "fnFloatWhole", vars := ["loop.example/g00033/impl.singleFloat"], fn := fun _ => fun
  | [d, g1] => { results := [.lit (.bool true)], args := [d], vars := [g1] }
  | _ => none }
def fnFloatWholeRow : OpenClaim := { program := "ytmghmcnihiepiaadoor", sum := "1256fac902bf364e333ca21bf66f65513a77ca60cb692d7fb1dc48f5cc822019", func := "loop.example/g00033/laws.FnFloatWhole", spec := "fnFloatWhole", inPlace := ["math/bits.Sub64", "math/bits.Add64"], named := ["loop.example/g00033/impl.singleFloat"], apart := false, laid := [("loop.example/g00033/impl.singleFloat", laid_loop_example_g00033_impl_singleFloat)] }
def FnFloatWholeSaid : Prop := fnFloatWholeRow.holds Tryd.pinned (OpenSpec.ofChange fnFloatWholeSpec)

/-- ITS FALSE NEIGHBOUR: 'it returns false'. Refute it at one input. -/
def fnFloatWholeWrong : ChangeSpec := { name := "fnFloatWhole", vars := ["loop.example/g00033/impl.singleFloat"], fn := fun _ => fun
  | [d, g1] => { results := [.lit (.bool false)], args := [d], vars := [g1] }
  | _ => none }
def FnFloatWholeWrongFalsely : Prop := fnFloatWholeRow.holds Tryd.pinned (OpenSpec.ofChange fnFloatWholeWrong)

/-- 'laws.FnExactFAdd': WHATEVER THE INPUT: true; the input reads as it did. -/
def fnExactFAddSpec : ChangeSpec := { name := "fnExactFAdd", vars := ["loop.example/g00033/impl.singleFloat"], fn := fun _ => fun
  | [d1, d2, g1] => { results := [.lit (.bool true)], args := [d1, d2], vars := [g1] }
  | _ => none }
def fnExactFAddRow : OpenClaim := { program := "ytmghmcnihiepiaadoor", sum := "1256fac902bf364e333ca21bf66f65513a77ca60cb692d7fb1dc48f5cc822019", func := "loop.example/g00033/laws.FnExactFAdd", spec := "fnExactFAdd", inPlace := ["math/bits.Sub64", "math/bits.Add64"], named := ["loop.example/g00033/impl.singleFloat"], apart := false, laid := [("loop.example/g00033/impl.singleFloat", laid_loop_example_g00033_impl_singleFloat)] }
def FnExactFAddSaid : Prop := fnExactFAddRow.holds Tryd.pinned (OpenSpec.ofChange fnExactFAddSpec)

/-- ITS FALSE NEIGHBOUR: 'it returns false'. Refute it at one input. -/
def fnExactFAddWrong : ChangeSpec := { name := "fnExactFAdd", vars := ["loop.example/g00033/impl.singleFloat"], fn := fun _ => fun
  | [d1, d2, g1] => { results := [.lit (.bool false)], args := [d1, d2], vars := [g1] }
  | _ => none }
def FnExactFAddWrongFalsely : Prop := fnExactFAddRow.holds Tryd.pinned (OpenSpec.ofChange fnExactFAddWrong)

/-- 'laws.FnExactFMul': WHATEVER THE INPUT: true; the input reads as it did. -/
def fnExactFMulSpec : ChangeSpec := { name := "fnExactFMul", vars := ["loop.example/g00033/impl.singleFloat"], fn := fun _ => fun
  | [d1, d2, g1] => { results := [.lit (.bool true)], args := [d1, d2], vars := [g1] }
  | _ => none }
def fnExactFMulRow : OpenClaim := { program := "ytmghmcnihiepiaadoor", sum := "1256fac902bf364e333ca21bf66f65513a77ca60cb692d7fb1dc48f5cc822019", func := "loop.example/g00033/laws.FnExactFMul", spec := "fnExactFMul", named := ["loop.example/g00033/impl.singleFloat"], apart := false, laid := [("loop.example/g00033/impl.singleFloat", laid_loop_example_g00033_impl_singleFloat)] }
def FnExactFMulSaid : Prop := fnExactFMulRow.holds Tryd.pinned (OpenSpec.ofChange fnExactFMulSpec)

/-- ITS FALSE NEIGHBOUR: 'it returns false'. Refute it at one input. -/
def fnExactFMulWrong : ChangeSpec := { name := "fnExactFMul", vars := ["loop.example/g00033/impl.singleFloat"], fn := fun _ => fun
  | [d1, d2, g1] => { results := [.lit (.bool false)], args := [d1, d2], vars := [g1] }
  | _ => none }
def FnExactFMulWrongFalsely : Prop := fnExactFMulRow.holds Tryd.pinned (OpenSpec.ofChange fnExactFMulWrong)

/-- 'laws.FnExactFDiv': WHATEVER THE INPUT: true; the input reads as it did. -/
def fnExactFDivSpec : ChangeSpec := { name := "fnExactFDiv", vars := ["loop.example/g00033/impl.singleFloat"], fn := fun _ => fun
  | [d1, d2, g1] => { results := [.lit (.bool true)], args := [d1, d2], vars := [g1] }
  | _ => none }
def fnExactFDivRow : OpenClaim := { program := "ytmghmcnihiepiaadoor", sum := "1256fac902bf364e333ca21bf66f65513a77ca60cb692d7fb1dc48f5cc822019", func := "loop.example/g00033/laws.FnExactFDiv", spec := "fnExactFDiv", named := ["loop.example/g00033/impl.singleFloat"], apart := false, laid := [("loop.example/g00033/impl.singleFloat", laid_loop_example_g00033_impl_singleFloat)] }
def FnExactFDivSaid : Prop := fnExactFDivRow.holds Tryd.pinned (OpenSpec.ofChange fnExactFDivSpec)

/-- ITS FALSE NEIGHBOUR: 'it returns false'. Refute it at one input. -/
def fnExactFDivWrong : ChangeSpec := { name := "fnExactFDiv", vars := ["loop.example/g00033/impl.singleFloat"], fn := fun _ => fun
  | [d1, d2, g1] => { results := [.lit (.bool false)], args := [d1, d2], vars := [g1] }
  | _ => none }
def FnExactFDivWrongFalsely : Prop := fnExactFDivRow.holds Tryd.pinned (OpenSpec.ofChange fnExactFDivWrong)

/-- 'laws.FnExactFLess': WHATEVER THE INPUT: true; the input reads as it did. -/
def fnExactFLessSpec : ChangeSpec := { name := "fnExactFLess", vars := ["loop.example/g00033/impl.singleFloat"], fn := fun _ => fun
  | [d1, d2, g1] => { results := [.lit (.bool true)], args := [d1, d2], vars := [g1] }
  | _ => none }
def fnExactFLessRow : OpenClaim := { program := "ytmghmcnihiepiaadoor", sum := "1256fac902bf364e333ca21bf66f65513a77ca60cb692d7fb1dc48f5cc822019", func := "loop.example/g00033/laws.FnExactFLess", spec := "fnExactFLess", named := ["loop.example/g00033/impl.singleFloat"], apart := false, laid := [("loop.example/g00033/impl.singleFloat", laid_loop_example_g00033_impl_singleFloat)] }
def FnExactFLessSaid : Prop := fnExactFLessRow.holds Tryd.pinned (OpenSpec.ofChange fnExactFLessSpec)

/-- ITS FALSE NEIGHBOUR: 'it returns false'. Refute it at one input. -/
def fnExactFLessWrong : ChangeSpec := { name := "fnExactFLess", vars := ["loop.example/g00033/impl.singleFloat"], fn := fun _ => fun
  | [d1, d2, g1] => { results := [.lit (.bool false)], args := [d1, d2], vars := [g1] }
  | _ => none }
def FnExactFLessWrongFalsely : Prop := fnExactFLessRow.holds Tryd.pinned (OpenSpec.ofChange fnExactFLessWrong)

/- THE SECOND FORM. 'bulk': how many values and letters a reading holds, each counted each time it is reached (what is shared counts as often as it is met; a slice's spare places count too). A statement '..UptoSaid' is the law's where the arguments, and the package variables that the reading takes, are together of bulk at most 1048576: NARROWER than '..Said'. Prove '..Said' where nothing that the law and all that it calls make is longer than what came in: it says more and counts as full. Else prove '..UptoSaid'. A law counts once. -/
mutual
def uptoBulk {H : Type} : DataW H → Nat
  | .lit (.string bytes) => bytes.length + 1
  | .lit _ => 1
  | .nil => 1
  | .ptr d => uptoBulk d + 1
  | .slice elems spare => uptoBulkAll elems + uptoBulkAll spare + 1
  | .agg parts => uptoBulkAll parts + 1
  | .iface _ d => uptoBulk d + 1
  | .map entries => uptoBulkEntries entries + 1
  | .held _ => 1
def uptoBulkAll {H : Type} : List (DataW H) → Nat
  | [] => 0
  | d :: r => uptoBulk d + uptoBulkAll r
def uptoBulkEntries {H : Type} : List (Lit × DataW H) → Nat
  | [] => 0
  | x :: r => uptoBulkEntry x + uptoBulkEntries r
def uptoBulkEntry {H : Type} : Lit × DataW H → Nat
  | (.string bytes, d) => bytes.length + uptoBulk d + 1
  | (_, d) => uptoBulk d + 1
 end
def uptoSmall : (H : Type) → List (DataW H) → Bool := fun _ ds => decide (uptoBulkAll ds ≤ 1048576)
def OpenSpec.upto (s : _root_.Go.ChangeSpec) : _root_.Go.OpenSpec := { _root_.Go.OpenSpec.ofChange s with cond := some uptoSmall }

/-- 'laws.FnFloatSides', WHERE WHAT IT READS IS OF BULK AT MOST 1048576: true; the input reads as it did. -/
def fnFloatSidesUptoRow : OpenClaim := { program := "ytmghmcnihiepiaadoor", sum := "1256fac902bf364e333ca21bf66f65513a77ca60cb692d7fb1dc48f5cc822019", func := "loop.example/g00033/laws.FnFloatSides", spec := "fnFloatSides", inPlace := ["math/bits.Sub64", "math/bits.Add64"], recurses := true, named := ["loop.example/g00033/impl.singleFloat"], apart := false, laid := [("loop.example/g00033/impl.singleFloat", laid_loop_example_g00033_impl_singleFloat)], narrowed := true }
def FnFloatSidesUptoSaid : Prop := fnFloatSidesUptoRow.holds Tryd.pinned (OpenSpec.upto fnFloatSidesSpec)

/-- 'laws.FnFloatWhole', WHERE WHAT IT READS IS OF BULK AT MOST 1048576: true; the input reads as it did. -/
def fnFloatWholeUptoRow : OpenClaim := { program := "ytmghmcnihiepiaadoor", sum := "1256fac902bf364e333ca21bf66f65513a77ca60cb692d7fb1dc48f5cc822019", func := "loop.example/g00033/laws.FnFloatWhole", spec := "fnFloatWhole", inPlace := ["math/bits.Sub64", "math/bits.Add64"], named := ["loop.example/g00033/impl.singleFloat"], apart := false, laid := [("loop.example/g00033/impl.singleFloat", laid_loop_example_g00033_impl_singleFloat)], narrowed := true }
def FnFloatWholeUptoSaid : Prop := fnFloatWholeUptoRow.holds Tryd.pinned (OpenSpec.upto fnFloatWholeSpec)

/-- 'laws.FnExactFAdd', WHERE WHAT IT READS IS OF BULK AT MOST 1048576: true; the input reads as it did. -/
def fnExactFAddUptoRow : OpenClaim := { program := "ytmghmcnihiepiaadoor", sum := "1256fac902bf364e333ca21bf66f65513a77ca60cb692d7fb1dc48f5cc822019", func := "loop.example/g00033/laws.FnExactFAdd", spec := "fnExactFAdd", inPlace := ["math/bits.Sub64", "math/bits.Add64"], named := ["loop.example/g00033/impl.singleFloat"], apart := false, laid := [("loop.example/g00033/impl.singleFloat", laid_loop_example_g00033_impl_singleFloat)], narrowed := true }
def FnExactFAddUptoSaid : Prop := fnExactFAddUptoRow.holds Tryd.pinned (OpenSpec.upto fnExactFAddSpec)

/-- 'laws.FnExactFMul', WHERE WHAT IT READS IS OF BULK AT MOST 1048576: true; the input reads as it did. -/
def fnExactFMulUptoRow : OpenClaim := { program := "ytmghmcnihiepiaadoor", sum := "1256fac902bf364e333ca21bf66f65513a77ca60cb692d7fb1dc48f5cc822019", func := "loop.example/g00033/laws.FnExactFMul", spec := "fnExactFMul", named := ["loop.example/g00033/impl.singleFloat"], apart := false, laid := [("loop.example/g00033/impl.singleFloat", laid_loop_example_g00033_impl_singleFloat)], narrowed := true }
def FnExactFMulUptoSaid : Prop := fnExactFMulUptoRow.holds Tryd.pinned (OpenSpec.upto fnExactFMulSpec)

/-- 'laws.FnExactFDiv', WHERE WHAT IT READS IS OF BULK AT MOST 1048576: true; the input reads as it did. -/
def fnExactFDivUptoRow : OpenClaim := { program := "ytmghmcnihiepiaadoor", sum := "1256fac902bf364e333ca21bf66f65513a77ca60cb692d7fb1dc48f5cc822019", func := "loop.example/g00033/laws.FnExactFDiv", spec := "fnExactFDiv", named := ["loop.example/g00033/impl.singleFloat"], apart := false, laid := [("loop.example/g00033/impl.singleFloat", laid_loop_example_g00033_impl_singleFloat)], narrowed := true }
def FnExactFDivUptoSaid : Prop := fnExactFDivUptoRow.holds Tryd.pinned (OpenSpec.upto fnExactFDivSpec)

/-- 'laws.FnExactFLess', WHERE WHAT IT READS IS OF BULK AT MOST 1048576: true; the input reads as it did. -/
def fnExactFLessUptoRow : OpenClaim := { program := "ytmghmcnihiepiaadoor", sum := "1256fac902bf364e333ca21bf66f65513a77ca60cb692d7fb1dc48f5cc822019", func := "loop.example/g00033/laws.FnExactFLess", spec := "fnExactFLess", named := ["loop.example/g00033/impl.singleFloat"], apart := false, laid := [("loop.example/g00033/impl.singleFloat", laid_loop_example_g00033_impl_singleFloat)], narrowed := true }
def FnExactFLessUptoSaid : Prop := fnExactFLessUptoRow.holds Tryd.pinned (OpenSpec.upto fnExactFLessSpec)

end Rows
end Go.Proofs.YtmghmcnihiepiaaDoor
