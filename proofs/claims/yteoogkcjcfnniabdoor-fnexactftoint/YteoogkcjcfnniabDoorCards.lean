/-
  DERIVED. GIVEN WITH THE SEED: THE CARDS: each row of YteoogkcjcfnniabDoorRows.lean that lists a variable, with what it lists TIED to the program's text (the seventh form; the later family's looks); each row that meets fmt, with fmt's text TOLD by the authors' own Lean function (tested against real Go, not proved from fmt's source: count such statements apart). THE CARD IS WHAT COUNTS. Prove the row's statement (the work); the ties are given (YteoogkcjcfnniabDoorTie.lean); close each card by the builder's one call (the guide's Derived/Test/ToyasCard.lean, 'card_holds'). Laid BY PROGRAM, IN A SANDBOX (cutbox-door.mjs). By AI agents, Wed Nov 11 2026. No macro, syntax, notation, axiom, sorry.
-/
import Derived.Test.YteoogkcjcfnniabDoorRows
import GoSem.ClaimSeven
namespace Go.Proofs.YteoogkcjcfnniabDoor
namespace Rows

/-- THE TIED CARD OF 'laws.FnExactFOfInt'. -/
def fnExactFOfIntCard : Claim7 := { stood := { row := fnExactFOfIntRow, standIns := [], harness := (true, "b9469eed695632d7d3dbfe0e1c8e3dccab4fd57dc4fd2e2e79cb858728c2abf4"), looks := false }, kinds := [], alts := [], laidByText := true, laidKinds := [.wider], laidTests := true, laidLooks := .later }
def FnExactFOfIntCardSaid : Prop := Claim7.holds Tryd.pinned (.plain (OpenSpec.ofChange fnExactFOfIntSpec)) fnExactFOfIntCard

/-- THE TIED CARD OF 'laws.FnExactFToInt'. -/
def fnExactFToIntCard : Claim7 := { stood := { row := fnExactFToIntRow, standIns := [], harness := (true, "b9469eed695632d7d3dbfe0e1c8e3dccab4fd57dc4fd2e2e79cb858728c2abf4"), looks := false }, kinds := [], alts := [], laidByText := true, laidKinds := [.wider], laidTests := true, laidLooks := .later }
def FnExactFToIntCardSaid : Prop := Claim7.holds Tryd.pinned (.plain (OpenSpec.ofChange fnExactFToIntSpec)) fnExactFToIntCard

/-- THE TIED CARD OF 'laws.FnExactHalfOf'. -/
def fnExactHalfOfCard : Claim7 := { stood := { row := fnExactHalfOfRow, standIns := [], harness := (true, "b9469eed695632d7d3dbfe0e1c8e3dccab4fd57dc4fd2e2e79cb858728c2abf4"), looks := false }, kinds := [], alts := [], laidByText := true, laidKinds := [.wider, .wider], laidTests := true, laidLooks := .later }
def FnExactHalfOfCardSaid : Prop := Claim7.holds Tryd.pinned (.plain (OpenSpec.ofChange fnExactHalfOfSpec)) fnExactHalfOfCard

/-- THE TIED CARD OF 'laws.FnExactOfHalf'. -/
def fnExactOfHalfCard : Claim7 := { stood := { row := fnExactOfHalfRow, standIns := [], harness := (true, "b9469eed695632d7d3dbfe0e1c8e3dccab4fd57dc4fd2e2e79cb858728c2abf4"), looks := false }, kinds := [], alts := [], laidByText := true, laidKinds := [.wider, .wider], laidTests := true, laidLooks := .later }
def FnExactOfHalfCardSaid : Prop := Claim7.holds Tryd.pinned (.plain (OpenSpec.ofChange fnExactOfHalfSpec)) fnExactOfHalfCard

/-- THE TIED CARD OF 'laws.FnExactFSum'. -/
def fnExactFSumCard : Claim7 := { stood := { row := fnExactFSumRow, standIns := [], harness := (true, "b9469eed695632d7d3dbfe0e1c8e3dccab4fd57dc4fd2e2e79cb858728c2abf4"), looks := false }, kinds := [], alts := [], laidByText := true, laidKinds := [.wider], laidTests := true, laidLooks := .later }
def FnExactFSumCardSaid : Prop := Claim7.holds Tryd.pinned (.plain (OpenSpec.ofChange fnExactFSumSpec)) fnExactFSumCard

/-- THE TIED CARD OF 'laws.FnExactFTree'. -/
def fnExactFTreeCard : Claim7 := { stood := { row := fnExactFTreeRow, standIns := [], harness := (true, "b9469eed695632d7d3dbfe0e1c8e3dccab4fd57dc4fd2e2e79cb858728c2abf4"), looks := false }, kinds := [], alts := [], laidByText := true, laidKinds := [.wider], laidTests := true, laidLooks := .later }
def FnExactFTreeCardSaid : Prop := Claim7.holds Tryd.pinned (.plain (OpenSpec.ofChange fnExactFTreeSpec)) fnExactFTreeCard

/-- THE SECOND FORM's CARD OF 'laws.FnExactFOfInt'. -/
def fnExactFOfIntUptoCard : Claim7 := { stood := { row := fnExactFOfIntUptoRow, standIns := [], harness := (true, "b9469eed695632d7d3dbfe0e1c8e3dccab4fd57dc4fd2e2e79cb858728c2abf4"), looks := false }, kinds := [], alts := [], laidByText := true, laidKinds := [.wider], laidTests := true, laidLooks := .later }
def FnExactFOfIntUptoCardSaid : Prop := Claim7.holds Tryd.pinned (.plain (OpenSpec.upto fnExactFOfIntSpec)) fnExactFOfIntUptoCard

/-- THE SECOND FORM's CARD OF 'laws.FnExactFToInt'. -/
def fnExactFToIntUptoCard : Claim7 := { stood := { row := fnExactFToIntUptoRow, standIns := [], harness := (true, "b9469eed695632d7d3dbfe0e1c8e3dccab4fd57dc4fd2e2e79cb858728c2abf4"), looks := false }, kinds := [], alts := [], laidByText := true, laidKinds := [.wider], laidTests := true, laidLooks := .later }
def FnExactFToIntUptoCardSaid : Prop := Claim7.holds Tryd.pinned (.plain (OpenSpec.upto fnExactFToIntSpec)) fnExactFToIntUptoCard

/-- THE SECOND FORM's CARD OF 'laws.FnExactHalfOf'. -/
def fnExactHalfOfUptoCard : Claim7 := { stood := { row := fnExactHalfOfUptoRow, standIns := [], harness := (true, "b9469eed695632d7d3dbfe0e1c8e3dccab4fd57dc4fd2e2e79cb858728c2abf4"), looks := false }, kinds := [], alts := [], laidByText := true, laidKinds := [.wider, .wider], laidTests := true, laidLooks := .later }
def FnExactHalfOfUptoCardSaid : Prop := Claim7.holds Tryd.pinned (.plain (OpenSpec.upto fnExactHalfOfSpec)) fnExactHalfOfUptoCard

/-- THE SECOND FORM's CARD OF 'laws.FnExactOfHalf'. -/
def fnExactOfHalfUptoCard : Claim7 := { stood := { row := fnExactOfHalfUptoRow, standIns := [], harness := (true, "b9469eed695632d7d3dbfe0e1c8e3dccab4fd57dc4fd2e2e79cb858728c2abf4"), looks := false }, kinds := [], alts := [], laidByText := true, laidKinds := [.wider, .wider], laidTests := true, laidLooks := .later }
def FnExactOfHalfUptoCardSaid : Prop := Claim7.holds Tryd.pinned (.plain (OpenSpec.upto fnExactOfHalfSpec)) fnExactOfHalfUptoCard

/-- THE SECOND FORM's CARD OF 'laws.FnExactFSum'. -/
def fnExactFSumUptoCard : Claim7 := { stood := { row := fnExactFSumUptoRow, standIns := [], harness := (true, "b9469eed695632d7d3dbfe0e1c8e3dccab4fd57dc4fd2e2e79cb858728c2abf4"), looks := false }, kinds := [], alts := [], laidByText := true, laidKinds := [.wider], laidTests := true, laidLooks := .later }
def FnExactFSumUptoCardSaid : Prop := Claim7.holds Tryd.pinned (.plain (OpenSpec.upto fnExactFSumSpec)) fnExactFSumUptoCard

/-- THE SECOND FORM's CARD OF 'laws.FnExactFTree'. -/
def fnExactFTreeUptoCard : Claim7 := { stood := { row := fnExactFTreeUptoRow, standIns := [], harness := (true, "b9469eed695632d7d3dbfe0e1c8e3dccab4fd57dc4fd2e2e79cb858728c2abf4"), looks := false }, kinds := [], alts := [], laidByText := true, laidKinds := [.wider], laidTests := true, laidLooks := .later }
def FnExactFTreeUptoCardSaid : Prop := Claim7.holds Tryd.pinned (.plain (OpenSpec.upto fnExactFTreeSpec)) fnExactFTreeUptoCard
end Rows
end Go.Proofs.YteoogkcjcfnniabDoor
