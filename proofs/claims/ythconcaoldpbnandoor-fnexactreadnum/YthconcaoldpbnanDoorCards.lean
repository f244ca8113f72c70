/-
  DERIVED. GIVEN WITH THE SEED: THE CARDS: each row of YthconcaoldpbnanDoorRows.lean that lists a variable, with what it lists TIED to the program's text (the seventh form; the later family's looks); each row that meets fmt, with fmt's text TOLD by the authors' own Lean function (tested against real Go, not proved from fmt's source: count such statements apart). THE CARD IS WHAT COUNTS. Prove the row's statement (the work); the ties are given (YthconcaoldpbnanDoorTie.lean); close each card by the builder's one call (the guide's Derived/Test/ToyasCard.lean, 'card_holds'). Laid BY PROGRAM, IN A SANDBOX (cutbox-door.mjs). By AI agents, Wed Nov 11 2026. No macro, syntax, notation, axiom, sorry.
-/
import Derived.Test.YthconcaoldpbnanDoorRows
import GoSem.ClaimSeven
namespace Go.Proofs.YthconcaoldpbnanDoor
namespace Rows

/-- THE TIED CARD OF 'laws.FnExactShowNum'. -/
def fnExactShowNumCard : Claim7 := { stood := { row := fnExactShowNumRow, standIns := [], harness := (true, "fcf1d547ebbfd82f2b552bb6bfbc9af858c8c50f6506f22513e5bd7a7758e84f"), looks := true }, kinds := [], alts := [], laidByText := true, laidKinds := [.data, .data, .data], laidTests := true, laidLooks := .later }
def FnExactShowNumCardSaid : Prop := Claim7.holds Tryd.pinned (.plain (OpenSpec.ofChange fnExactShowNumSpec)) fnExactShowNumCard

/-- THE TIED CARD OF 'laws.FnExactReadNum'. -/
def fnExactReadNumCard : Claim7 := { stood := { row := fnExactReadNumRow, standIns := [], harness := (true, "fcf1d547ebbfd82f2b552bb6bfbc9af858c8c50f6506f22513e5bd7a7758e84f"), looks := true }, kinds := [], alts := [], laidByText := true, laidKinds := [.data, .data, .data, .sentinel, .sentinel], laidTests := true, laidLooks := .later }
def FnExactReadNumCardSaid : Prop := Claim7.holds Tryd.pinned (.plain (OpenSpec.ofChange fnExactReadNumSpec)) fnExactReadNumCard

/-- THE SECOND FORM's CARD OF 'laws.FnExactShowNum'. -/
def fnExactShowNumUptoCard : Claim7 := { stood := { row := fnExactShowNumUptoRow, standIns := [], harness := (true, "fcf1d547ebbfd82f2b552bb6bfbc9af858c8c50f6506f22513e5bd7a7758e84f"), looks := true }, kinds := [], alts := [], laidByText := true, laidKinds := [.data, .data, .data], laidTests := true, laidLooks := .later }
def FnExactShowNumUptoCardSaid : Prop := Claim7.holds Tryd.pinned (.plain (OpenSpec.upto fnExactShowNumSpec)) fnExactShowNumUptoCard

/-- THE SECOND FORM's CARD OF 'laws.FnExactReadNum'. -/
def fnExactReadNumUptoCard : Claim7 := { stood := { row := fnExactReadNumUptoRow, standIns := [], harness := (true, "fcf1d547ebbfd82f2b552bb6bfbc9af858c8c50f6506f22513e5bd7a7758e84f"), looks := true }, kinds := [], alts := [], laidByText := true, laidKinds := [.data, .data, .data, .sentinel, .sentinel], laidTests := true, laidLooks := .later }
def FnExactReadNumUptoCardSaid : Prop := Claim7.holds Tryd.pinned (.plain (OpenSpec.upto fnExactReadNumSpec)) fnExactReadNumUptoCard
end Rows
end Go.Proofs.YthconcaoldpbnanDoor
