/-
  DERIVED. GIVEN WITH THE SEED: THE CARDS: each row of YtbbmbgjjhaajjaaGreatDoorRows.lean that lists a variable, with what it lists TIED to the program's text (the seventh form; the later family's looks); each row that meets fmt, with fmt's text TOLD by the authors' own Lean function (tested against real Go, not proved from fmt's source: count such statements apart). THE CARD IS WHAT COUNTS. Prove the row's statement (the work); the ties are given (YtbbmbgjjhaajjaaGreatDoorTie.lean); close each card by the builder's one call (the guide's Derived/Test/ToyasCard.lean, 'card_holds'). Laid BY PROGRAM, IN A SANDBOX (cutbox-door.mjs). By AI agents, Wed Nov 11 2026. No macro, syntax, notation, axiom, sorry.
-/
import Derived.Test.YtbbmbgjjhaajjaaGreatDoorRows
import GoSem.ClaimSeven
namespace Go.Proofs.YtbbmbgjjhaajjaaGreatDoor
namespace Rows

/-- THE TIED CARD OF 'laws.FnExactReadTensor'. -/
def fnExactReadTensorCard : Claim7 := { stood := { row := fnExactReadTensorRow, standIns := [], harness := (true, "03bfa6e543492020a695c4a3fba6f08253ca4c614fb9d6a7e53ca34bbb2ccd00"), looks := true }, kinds := [], alts := [], laidByText := true, laidKinds := [.data, .data, .data, .sentinel, .sentinel, .listed, .data], laidTests := true, laidLooks := .later }
def FnExactReadTensorCardSaid : Prop := Claim7.holds Tryz.pinned (.plain (OpenSpec.ofChange fnExactReadTensorSpec)) fnExactReadTensorCard

/-- THE TIED CARD OF 'laws.FnTensorBack'. -/
def fnTensorBackCard : Claim7 := { stood := { row := fnTensorBackRow, standIns := [], harness := (true, "03bfa6e543492020a695c4a3fba6f08253ca4c614fb9d6a7e53ca34bbb2ccd00"), looks := true }, kinds := [], alts := [], laidByText := true, laidKinds := [.data, .data, .data, .sentinel, .sentinel, .listed, .data], laidTests := true, laidLooks := .later }
def FnTensorBackCardSaid : Prop := Claim7.holds Tryz.pinned (.plain (OpenSpec.ofChange fnTensorBackSpec)) fnTensorBackCard

/-- THE SECOND FORM's CARD OF 'laws.FnExactReadTensor'. -/
def fnExactReadTensorUptoCard : Claim7 := { stood := { row := fnExactReadTensorUptoRow, standIns := [], harness := (true, "03bfa6e543492020a695c4a3fba6f08253ca4c614fb9d6a7e53ca34bbb2ccd00"), looks := true }, kinds := [], alts := [], laidByText := true, laidKinds := [.data, .data, .data, .sentinel, .sentinel, .listed, .data], laidTests := true, laidLooks := .later }
def FnExactReadTensorUptoCardSaid : Prop := Claim7.holds Tryz.pinned (.plain (OpenSpec.upto fnExactReadTensorSpec)) fnExactReadTensorUptoCard

/-- THE SECOND FORM's CARD OF 'laws.FnTensorBack'. -/
def fnTensorBackUptoCard : Claim7 := { stood := { row := fnTensorBackUptoRow, standIns := [], harness := (true, "03bfa6e543492020a695c4a3fba6f08253ca4c614fb9d6a7e53ca34bbb2ccd00"), looks := true }, kinds := [], alts := [], laidByText := true, laidKinds := [.data, .data, .data, .sentinel, .sentinel, .listed, .data], laidTests := true, laidLooks := .later }
def FnTensorBackUptoCardSaid : Prop := Claim7.holds Tryz.pinned (.plain (OpenSpec.upto fnTensorBackSpec)) fnTensorBackUptoCard
end Rows
end Go.Proofs.YtbbmbgjjhaajjaaGreatDoor
