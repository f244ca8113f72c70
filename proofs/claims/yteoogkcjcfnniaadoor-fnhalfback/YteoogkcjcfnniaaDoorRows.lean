/-
  NARROWER THAN 'FOR EVERY INPUT', by the rows' own cells (each row's printed sentence says how): FnHalfBack: laid · FnExactFAdd: laid · FnExactFMul: laid · FnExactFDiv: laid · FnExactFNeg: laid · FnExactFLess: laid.
  DERIVED. THE GIVEN ROWS OF THIS SEAT. 6 by the template 'for every input the law returns true; each argument reads behind the call as it read before'; 0 by the template 'total and deterministic' (their statements: YteoogkcjcfnniaaDoorTotals.lean).
  GIVEN WITH THE SEED: the statements are not yours to turn. If you find one false, say at which input.
  Laid BY PROGRAM, IN A SANDBOX (cutbox-rows.mjs): the forced cells as the released guide's own fill.sh prints them over the translation a5e70a4b6a8178e4… (all of the seat's roots in one cut). By AI agents, Wed Nov 11 2026. No macro, syntax, notation, axiom, sorry.
-/
import Derived.Test.YteoogkcjcfnniaaDoorChecked
import GoSem.Claim
import GoSem.ClaimJoined
import GoSem.ClaimMapViews
import Derived.JoinedTies
import Derived.KernelRfl
namespace Go.Proofs.YteoogkcjcfnniaaDoor
/- THE CELL 'sum', in the pinned program and in every row, IS THE sha256 OF THE DUMP (.gsa) THAT YteoogkcjcfnniaaDoorProg.lean LOADS. Nothing in Lean hashes anything: it is a label: what it is worth is what the hold of that sum in a sandbox is worth. -/
noncomputable def Tryd.pinned : Pinned := { name := "yteoogkcjcfnniaadoor", sum := "a5e70a4b6a8178e49c2dcced26901272089feb59612cb65f223fca4f79116dac", checked := Tryd.checked }
namespace Rows
def none {H : Type} : Left H := { results := [], args := [] }

/- WHAT THE LISTED PACKAGE-LEVEL VARIABLES READ AS WHEN THE CALL BEGINS. Each datum BY PROGRAM (the guide's laid-datum.mjs) off the statement by which the dump's own 'gosem.cut.vars' lays the variable. In a bare row this is a premise. The card (YteoogkcjcfnniaaDoorCards.lean) ties it to the program's text. -/
def laid_loop_example_g00033_impl_singleFloat {H : Type} : DataW H := .agg [.lit (.int .u8 8), .lit (.int .u8 23)]
def laid_loop_example_g00033_impl_halfFloat {H : Type} : DataW H := .agg [.lit (.int .u8 5), .lit (.int .u8 10)]

/-- 'laws.FnHalfBack': WHATEVER THE INPUT: true; the input reads as it did. -/
def fnHalfBackSpec : ChangeSpec := { name := "fnHalfBack", vars := ["loop.example/g00033/impl.halfFloat", "loop.example/g00033/impl.singleFloat"], fn := fun _ => fun
  | [d, g1, g2] => { results := [.lit (.bool true)], args := [d], vars := [g1, g2] }
  | _ => none }
def fnHalfBackRow : OpenClaim := { program := "yteoogkcjcfnniaadoor", sum := "a5e70a4b6a8178e49c2dcced26901272089feb59612cb65f223fca4f79116dac", func := "loop.example/g00033/laws.FnHalfBack", spec := "fnHalfBack", named := ["loop.example/g00033/impl.halfFloat", "loop.example/g00033/impl.singleFloat"], apart := false, laid := [("loop.example/g00033/impl.singleFloat", laid_loop_example_g00033_impl_singleFloat), ("loop.example/g00033/impl.halfFloat", laid_loop_example_g00033_impl_halfFloat)] }
def FnHalfBackSaid : Prop := fnHalfBackRow.holds Tryd.pinned (OpenSpec.ofChange fnHalfBackSpec)

/-- ITS FALSE NEIGHBOUR: 'it returns false'. Refute it at one input. -/
def fnHalfBackWrong : ChangeSpec := { name := "fnHalfBack", vars := ["loop.example/g00033/impl.halfFloat", "loop.example/g00033/impl.singleFloat"], fn := fun _ => fun
  | [d, g1, g2] => { results := [.lit (.bool false)], args := [d], vars := [g1, g2] }
  | _ => none }
def FnHalfBackWrongFalsely : Prop := fnHalfBackRow.holds Tryd.pinned (OpenSpec.ofChange fnHalfBackWrong)

/-- 'laws.FnExactFAdd': WHATEVER THE INPUT: true; the input reads as it did. -/
def fnExactFAddSpec : ChangeSpec := { name := "fnExactFAdd", vars := ["loop.example/g00033/impl.singleFloat"], fn := fun _ => fun
  | [d1, d2, g1] => { results := [.lit (.bool true)], args := [d1, d2], vars := [g1] }
  | _ => none }
def fnExactFAddRow : OpenClaim := { program := "yteoogkcjcfnniaadoor", sum := "a5e70a4b6a8178e49c2dcced26901272089feb59612cb65f223fca4f79116dac", func := "loop.example/g00033/laws.FnExactFAdd", spec := "fnExactFAdd", inPlace := ["math/bits.Sub64", "math/bits.Add64"], named := ["loop.example/g00033/impl.singleFloat"], apart := false, laid := [("loop.example/g00033/impl.singleFloat", laid_loop_example_g00033_impl_singleFloat)] }
def FnExactFAddSaid : Prop := fnExactFAddRow.holds Tryd.pinned (OpenSpec.ofChange fnExactFAddSpec)

/-- ITS FALSE NEIGHBOUR: 'it returns false'. Refute it at one input. -/
def fnExactFAddWrong : ChangeSpec := { name := "fnExactFAdd", vars := ["loop.example/g00033/impl.singleFloat"], fn := fun _ => fun
  | [d1, d2, g1] => { results := [.lit (.bool false)], args := [d1, d2], vars := [g1] }
  | _ => none }
def FnExactFAddWrongFalsely : Prop := fnExactFAddRow.holds Tryd.pinned (OpenSpec.ofChange fnExactFAddWrong)

/-- 'laws.FnExactFMul': WHATEVER THE INPUT: true; the input reads as it did. -/
def fnExactFMulSpec : ChangeSpec := { name := "fnExactFMul", vars := ["loop.example/g00033/impl.singleFloat"], fn := fun _ => fun
  | [d1, d2, g1] => { results := [.lit (.bool true)], args := [d1, d2], vars := [g1] }
  | _ => none }
def fnExactFMulRow : OpenClaim := { program := "yteoogkcjcfnniaadoor", sum := "a5e70a4b6a8178e49c2dcced26901272089feb59612cb65f223fca4f79116dac", func := "loop.example/g00033/laws.FnExactFMul", spec := "fnExactFMul", named := ["loop.example/g00033/impl.singleFloat"], apart := false, laid := [("loop.example/g00033/impl.singleFloat", laid_loop_example_g00033_impl_singleFloat)] }
def FnExactFMulSaid : Prop := fnExactFMulRow.holds Tryd.pinned (OpenSpec.ofChange fnExactFMulSpec)

/-- ITS FALSE NEIGHBOUR: 'it returns false'. Refute it at one input. -/
def fnExactFMulWrong : ChangeSpec := { name := "fnExactFMul", vars := ["loop.example/g00033/impl.singleFloat"], fn := fun _ => fun
  | [d1, d2, g1] => { results := [.lit (.bool false)], args := [d1, d2], vars := [g1] }
  | _ => none }
def FnExactFMulWrongFalsely : Prop := fnExactFMulRow.holds Tryd.pinned (OpenSpec.ofChange fnExactFMulWrong)

/-- 'laws.FnExactFDiv': WHATEVER THE INPUT: true; the input reads as it did. -/
def fnExactFDivSpec : ChangeSpec := { name := "fnExactFDiv", vars := ["loop.example/g00033/impl.singleFloat"], fn := fun _ => fun
  | [d1, d2, g1] => { results := [.lit (.bool true)], args := [d1, d2], vars := [g1] }
  | _ => none }
def fnExactFDivRow : OpenClaim := { program := "yteoogkcjcfnniaadoor", sum := "a5e70a4b6a8178e49c2dcced26901272089feb59612cb65f223fca4f79116dac", func := "loop.example/g00033/laws.FnExactFDiv", spec := "fnExactFDiv", named := ["loop.example/g00033/impl.singleFloat"], apart := false, laid := [("loop.example/g00033/impl.singleFloat", laid_loop_example_g00033_impl_singleFloat)] }
def FnExactFDivSaid : Prop := fnExactFDivRow.holds Tryd.pinned (OpenSpec.ofChange fnExactFDivSpec)

/-- ITS FALSE NEIGHBOUR: 'it returns false'. Refute it at one input. -/
def fnExactFDivWrong : ChangeSpec := { name := "fnExactFDiv", vars := ["loop.example/g00033/impl.singleFloat"], fn := fun _ => fun
  | [d1, d2, g1] => { results := [.lit (.bool false)], args := [d1, d2], vars := [g1] }
  | _ => none }
def FnExactFDivWrongFalsely : Prop := fnExactFDivRow.holds Tryd.pinned (OpenSpec.ofChange fnExactFDivWrong)

/-- 'laws.FnExactFNeg': WHATEVER THE INPUT: true; the input reads as it did. -/
def fnExactFNegSpec : ChangeSpec := { name := "fnExactFNeg", vars := ["loop.example/g00033/impl.singleFloat"], fn := fun _ => fun
  | [d, g1] => { results := [.lit (.bool true)], args := [d], vars := [g1] }
  | _ => none }
def fnExactFNegRow : OpenClaim := { program := "yteoogkcjcfnniaadoor", sum := "a5e70a4b6a8178e49c2dcced26901272089feb59612cb65f223fca4f79116dac", func := "loop.example/g00033/laws.FnExactFNeg", spec := "fnExactFNeg", named := ["loop.example/g00033/impl.singleFloat"], apart := false, laid := [("loop.example/g00033/impl.singleFloat", laid_loop_example_g00033_impl_singleFloat)] }
def FnExactFNegSaid : Prop := fnExactFNegRow.holds Tryd.pinned (OpenSpec.ofChange fnExactFNegSpec)

/-- ITS FALSE NEIGHBOUR: 'it returns false'. Refute it at one input. -/
def fnExactFNegWrong : ChangeSpec := { name := "fnExactFNeg", vars := ["loop.example/g00033/impl.singleFloat"], fn := fun _ => fun
  | [d, g1] => { results := [.lit (.bool false)], args := [d], vars := [g1] }
  | _ => none }
def FnExactFNegWrongFalsely : Prop := fnExactFNegRow.holds Tryd.pinned (OpenSpec.ofChange fnExactFNegWrong)

/-- 'laws.FnExactFLess': WHATEVER THE INPUT: true; the input reads as it did. -/
def fnExactFLessSpec : ChangeSpec := { name := "fnExactFLess", vars := ["loop.example/g00033/impl.singleFloat"], fn := fun _ => fun
  | [d1, d2, g1] => { results := [.lit (.bool true)], args := [d1, d2], vars := [g1] }
  | _ => none }
def fnExactFLessRow : OpenClaim := { program := "yteoogkcjcfnniaadoor", sum := "a5e70a4b6a8178e49c2dcced26901272089feb59612cb65f223fca4f79116dac", func := "loop.example/g00033/laws.FnExactFLess", spec := "fnExactFLess", named := ["loop.example/g00033/impl.singleFloat"], apart := false, laid := [("loop.example/g00033/impl.singleFloat", laid_loop_example_g00033_impl_singleFloat)] }
def FnExactFLessSaid : Prop := fnExactFLessRow.holds Tryd.pinned (OpenSpec.ofChange fnExactFLessSpec)

/-- ITS FALSE NEIGHBOUR: 'it returns false'. Refute it at one input. -/
def fnExactFLessWrong : ChangeSpec := { name := "fnExactFLess", vars := ["loop.example/g00033/impl.singleFloat"], fn := fun _ => fun
  | [d1, d2, g1] => { results := [.lit (.bool false)], args := [d1, d2], vars := [g1] }
  | _ => none }
def FnExactFLessWrongFalsely : Prop := fnExactFLessRow.holds Tryd.pinned (OpenSpec.ofChange fnExactFLessWrong)

/- THE SECOND FORM. 'bulk': how many values and letters a reading holds, each counted each time it is reached (what is shared counts as often as it is met; a slice's spare places count too). A statement '..UptoSaid' is the law's where the arguments, and the package variables that the reading takes, are together of bulk at most 1048576: NARROWER than '..Said'. Prove '..Said' where nothing that the law and all that it calls make is longer than what came in: it says more and counts as full. Else prove '..UptoSaid'. A law counts once. -/
mutual
def uptoBulk {H : Type} : DataW H → Nat
  | .lit (.string bytes) => bytes.length + 1
  | .lit _ => 1
  | .nil => 1
  | .ptr d => uptoBulk d + 1
  | .slice elems spare => uptoBulkAll elems + uptoBulkAll spare + 1
  | .agg parts => uptoBulkAll parts + 1
  | .iface _ d => uptoBulk d + 1
  | .map entries => uptoBulkEntries entries + 1
  | .held _ => 1
def uptoBulkAll {H : Type} : List (DataW H) → Nat
  | [] => 0
  | d :: r => uptoBulk d + uptoBulkAll r
def uptoBulkEntries {H : Type} : List (Lit × DataW H) → Nat
  | [] => 0
  | x :: r => uptoBulkEntry x + uptoBulkEntries r
def uptoBulkEntry {H : Type} : Lit × DataW H → Nat
  | (.string bytes, d) => bytes.length + uptoBulk d + 1
  | (_, d) => uptoBulk d + 1
 end
def uptoSmall : (H : Type) → List (DataW H) → Bool := fun _ ds => decide (uptoBulkAll ds ≤ 1048576)
def OpenSpec.upto (s : _root_.Go.ChangeSpec) : _root_.Go.OpenSpec := { _root_.Go.OpenSpec.ofChange s with cond := some uptoSmall }

/-- 'laws.FnHalfBack', WHERE WHAT IT READS IS OF BULK AT MOST 1048576: true; the input reads as it did. -/
def fnHalfBackUptoRow : OpenClaim := { program := "yteoogkcjcfnniaadoor", sum := "a5e70a4b6a8178e49c2dcced26901272089feb59612cb65f223fca4f79116dac", func := "loop.example/g00033/laws.FnHalfBack", spec := "fnHalfBack", named := ["loop.example/g00033/impl.halfFloat", "loop.example/g00033/impl.singleFloat"], apart := false, laid := [("loop.example/g00033/impl.singleFloat", laid_loop_example_g00033_impl_singleFloat), ("loop.example/g00033/impl.halfFloat", laid_loop_example_g00033_impl_halfFloat)], narrowed := true }
def FnHalfBackUptoSaid : Prop := fnHalfBackUptoRow.holds Tryd.pinned (OpenSpec.upto fnHalfBackSpec)

/-- 'laws.FnExactFAdd', WHERE WHAT IT READS IS OF BULK AT MOST 1048576: true; the input reads as it did. -/
def fnExactFAddUptoRow : OpenClaim := { program := "yteoogkcjcfnniaadoor", sum := "a5e70a4b6a8178e49c2dcced26901272089feb59612cb65f223fca4f79116dac", func := "loop.example/g00033/laws.FnExactFAdd", spec := "fnExactFAdd", inPlace := ["math/bits.Sub64", "math/bits.Add64"], named := ["loop.example/g00033/impl.singleFloat"], apart := false, laid := [("loop.example/g00033/impl.singleFloat", laid_loop_example_g00033_impl_singleFloat)], narrowed := true }
def FnExactFAddUptoSaid : Prop := fnExactFAddUptoRow.holds Tryd.pinned (OpenSpec.upto fnExactFAddSpec)

/-- 'laws.FnExactFMul', WHERE WHAT IT READS IS OF BULK AT MOST 1048576: true; the input reads as it did. -/
def fnExactFMulUptoRow : OpenClaim := { program := "yteoogkcjcfnniaadoor", sum := "a5e70a4b6a8178e49c2dcced26901272089feb59612cb65f223fca4f79116dac", func := "loop.example/g00033/laws.FnExactFMul", spec := "fnExactFMul", named := ["loop.example/g00033/impl.singleFloat"], apart := false, laid := [("loop.example/g00033/impl.singleFloat", laid_loop_example_g00033_impl_singleFloat)], narrowed := true }
def FnExactFMulUptoSaid : Prop := fnExactFMulUptoRow.holds Tryd.pinned (OpenSpec.upto fnExactFMulSpec)

/-- 'laws.FnExactFDiv', WHERE WHAT IT READS IS OF BULK AT MOST 1048576: true; the input reads as it did. -/
def fnExactFDivUptoRow : OpenClaim := { program := "yteoogkcjcfnniaadoor", sum := "a5e70a4b6a8178e49c2dcced26901272089feb59612cb65f223fca4f79116dac", func := "loop.example/g00033/laws.FnExactFDiv", spec := "fnExactFDiv", named := ["loop.example/g00033/impl.singleFloat"], apart := false, laid := [("loop.example/g00033/impl.singleFloat", laid_loop_example_g00033_impl_singleFloat)], narrowed := true }
def FnExactFDivUptoSaid : Prop := fnExactFDivUptoRow.holds Tryd.pinned (OpenSpec.upto fnExactFDivSpec)

/-- 'laws.FnExactFNeg', WHERE WHAT IT READS IS OF BULK AT MOST 1048576: true; the input reads as it did. -/
def fnExactFNegUptoRow : OpenClaim := { program := "yteoogkcjcfnniaadoor", sum := "a5e70a4b6a8178e49c2dcced26901272089feb59612cb65f223fca4f79116dac", func := "loop.example/g00033/laws.FnExactFNeg", spec := "fnExactFNeg", named := ["loop.example/g00033/impl.singleFloat"], apart := false, laid := [("loop.example/g00033/impl.singleFloat", laid_loop_example_g00033_impl_singleFloat)], narrowed := true }
def FnExactFNegUptoSaid : Prop := fnExactFNegUptoRow.holds Tryd.pinned (OpenSpec.upto fnExactFNegSpec)

/-- 'laws.FnExactFLess', WHERE WHAT IT READS IS OF BULK AT MOST 1048576: true; the input reads as it did. -/
def fnExactFLessUptoRow : OpenClaim := { program := "yteoogkcjcfnniaadoor", sum := "a5e70a4b6a8178e49c2dcced26901272089feb59612cb65f223fca4f79116dac", func := "loop.example/g00033/laws.FnExactFLess", spec := "fnExactFLess", named := ["loop.example/g00033/impl.singleFloat"], apart := false, laid := [("loop.example/g00033/impl.singleFloat", laid_loop_example_g00033_impl_singleFloat)], narrowed := true }
def FnExactFLessUptoSaid : Prop := fnExactFLessUptoRow.holds Tryd.pinned (OpenSpec.upto fnExactFLessSpec)

end Rows
end Go.Proofs.YteoogkcjcfnniaaDoor
