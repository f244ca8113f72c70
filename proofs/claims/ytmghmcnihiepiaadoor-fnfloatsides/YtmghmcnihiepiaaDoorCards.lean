/-
  DERIVED. GIVEN WITH THE SEED: THE CARDS: each row of YtmghmcnihiepiaaDoorRows.lean that lists a variable, with what it lists TIED to the program's text (the seventh form; the later family's looks); each row that meets fmt, with fmt's text TOLD by the authors' own Lean function (tested against real Go, not proved from fmt's source: count such statements apart). THE CARD IS WHAT COUNTS. Prove the row's statement (the work); the ties are given (YtmghmcnihiepiaaDoorTie.lean); close each card by the builder's one call (the guide's Derived/Test/ToyasCard.lean, 'card_holds'). Laid BY PROGRAM, IN A SANDBOX (cutbox-door.mjs). By AI agents, Wed Nov 11 2026. No macro, syntax, notation, axiom, sorry.
-/
import Derived.Test.YtmghmcnihiepiaaDoorRows
import GoSem.ClaimSeven
namespace Go.Proofs.YtmghmcnihiepiaaDoor
namespace Rows

/-- THE TIED CARD OF 'laws.FnFloatSides'. -/
def fnFloatSidesCard : Claim7 := { stood := { row := fnFloatSidesRow, standIns := [], harness := (true, "042b7cb459ce3ac5fac6114012cbb7b4daaf95467082c9418ef0b80c4a412e74"), looks := false }, kinds := [], alts := [], laidByText := true, laidKinds := [.wider], laidTests := true, laidLooks := .later }
def FnFloatSidesCardSaid : Prop := Claim7.holds Tryd.pinned (.plain (OpenSpec.ofChange fnFloatSidesSpec)) fnFloatSidesCard

/-- THE TIED CARD OF 'laws.FnFloatWhole'. -/
def fnFloatWholeCard : Claim7 := { stood := { row := fnFloatWholeRow, standIns := [], harness := (true, "042b7cb459ce3ac5fac6114012cbb7b4daaf95467082c9418ef0b80c4a412e74"), looks := false }, kinds := [], alts := [], laidByText := true, laidKinds := [.wider], laidTests := true, laidLooks := .later }
def FnFloatWholeCardSaid : Prop := Claim7.holds Tryd.pinned (.plain (OpenSpec.ofChange fnFloatWholeSpec)) fnFloatWholeCard

/-- THE TIED CARD OF 'laws.FnExactFAdd'. -/
def fnExactFAddCard : Claim7 := { stood := { row := fnExactFAddRow, standIns := [], harness := (true, "042b7cb459ce3ac5fac6114012cbb7b4daaf95467082c9418ef0b80c4a412e74"), looks := false }, kinds := [], alts := [], laidByText := true, laidKinds := [.wider], laidTests := true, laidLooks := .later }
def FnExactFAddCardSaid : Prop := Claim7.holds Tryd.pinned (.plain (OpenSpec.ofChange fnExactFAddSpec)) fnExactFAddCard

/-- THE TIED CARD OF 'laws.FnExactFMul'. -/
def fnExactFMulCard : Claim7 := { stood := { row := fnExactFMulRow, standIns := [], harness := (true, "042b7cb459ce3ac5fac6114012cbb7b4daaf95467082c9418ef0b80c4a412e74"), looks := false }, kinds := [], alts := [], laidByText := true, laidKinds := [.wider], laidTests := true, laidLooks := .later }
def FnExactFMulCardSaid : Prop := Claim7.holds Tryd.pinned (.plain (OpenSpec.ofChange fnExactFMulSpec)) fnExactFMulCard

/-- THE TIED CARD OF 'laws.FnExactFDiv'. -/
def fnExactFDivCard : Claim7 := { stood := { row := fnExactFDivRow, standIns := [], harness := (true, "042b7cb459ce3ac5fac6114012cbb7b4daaf95467082c9418ef0b80c4a412e74"), looks := false }, kinds := [], alts := [], laidByText := true, laidKinds := [.wider], laidTests := true, laidLooks := .later }
def FnExactFDivCardSaid : Prop := Claim7.holds Tryd.pinned (.plain (OpenSpec.ofChange fnExactFDivSpec)) fnExactFDivCard

/-- THE TIED CARD OF 'laws.FnExactFLess'. -/
def fnExactFLessCard : Claim7 := { stood := { row := fnExactFLessRow, standIns := [], harness := (true, "042b7cb459ce3ac5fac6114012cbb7b4daaf95467082c9418ef0b80c4a412e74"), looks := false }, kinds := [], alts := [], laidByText := true, laidKinds := [.wider], laidTests := true, laidLooks := .later }
def FnExactFLessCardSaid : Prop := Claim7.holds Tryd.pinned (.plain (OpenSpec.ofChange fnExactFLessSpec)) fnExactFLessCard

/-- THE SECOND FORM's CARD OF 'laws.FnFloatSides'. -/
def fnFloatSidesUptoCard : Claim7 := { stood := { row := fnFloatSidesUptoRow, standIns := [], harness := (true, "042b7cb459ce3ac5fac6114012cbb7b4daaf95467082c9418ef0b80c4a412e74"), looks := false }, kinds := [], alts := [], laidByText := true, laidKinds := [.wider], laidTests := true, laidLooks := .later }
def FnFloatSidesUptoCardSaid : Prop := Claim7.holds Tryd.pinned (.plain (OpenSpec.upto fnFloatSidesSpec)) fnFloatSidesUptoCard

/-- THE SECOND FORM's CARD OF 'laws.FnFloatWhole'. -/
def fnFloatWholeUptoCard : Claim7 := { stood := { row := fnFloatWholeUptoRow, standIns := [], harness := (true, "042b7cb459ce3ac5fac6114012cbb7b4daaf95467082c9418ef0b80c4a412e74"), looks := false }, kinds := [], alts := [], laidByText := true, laidKinds := [.wider], laidTests := true, laidLooks := .later }
def FnFloatWholeUptoCardSaid : Prop := Claim7.holds Tryd.pinned (.plain (OpenSpec.upto fnFloatWholeSpec)) fnFloatWholeUptoCard

/-- THE SECOND FORM's CARD OF 'laws.FnExactFAdd'. -/
def fnExactFAddUptoCard : Claim7 := { stood := { row := fnExactFAddUptoRow, standIns := [], harness := (true, "042b7cb459ce3ac5fac6114012cbb7b4daaf95467082c9418ef0b80c4a412e74"), looks := false }, kinds := [], alts := [], laidByText := true, laidKinds := [.wider], laidTests := true, laidLooks := .later }
def FnExactFAddUptoCardSaid : Prop := Claim7.holds Tryd.pinned (.plain (OpenSpec.upto fnExactFAddSpec)) fnExactFAddUptoCard

/-- THE SECOND FORM's CARD OF 'laws.FnExactFMul'. -/
def fnExactFMulUptoCard : Claim7 := { stood := { row := fnExactFMulUptoRow, standIns := [], harness := (true, "042b7cb459ce3ac5fac6114012cbb7b4daaf95467082c9418ef0b80c4a412e74"), looks := false }, kinds := [], alts := [], laidByText := true, laidKinds := [.wider], laidTests := true, laidLooks := .later }
def FnExactFMulUptoCardSaid : Prop := Claim7.holds Tryd.pinned (.plain (OpenSpec.upto fnExactFMulSpec)) fnExactFMulUptoCard

/-- THE SECOND FORM's CARD OF 'laws.FnExactFDiv'. -/
def fnExactFDivUptoCard : Claim7 := { stood := { row := fnExactFDivUptoRow, standIns := [], harness := (true, "042b7cb459ce3ac5fac6114012cbb7b4daaf95467082c9418ef0b80c4a412e74"), looks := false }, kinds := [], alts := [], laidByText := true, laidKinds := [.wider], laidTests := true, laidLooks := .later }
def FnExactFDivUptoCardSaid : Prop := Claim7.holds Tryd.pinned (.plain (OpenSpec.upto fnExactFDivSpec)) fnExactFDivUptoCard

/-- THE SECOND FORM's CARD OF 'laws.FnExactFLess'. -/
def fnExactFLessUptoCard : Claim7 := { stood := { row := fnExactFLessUptoRow, standIns := [], harness := (true, "042b7cb459ce3ac5fac6114012cbb7b4daaf95467082c9418ef0b80c4a412e74"), looks := false }, kinds := [], alts := [], laidByText := true, laidKinds := [.wider], laidTests := true, laidLooks := .later }
def FnExactFLessUptoCardSaid : Prop := Claim7.holds Tryd.pinned (.plain (OpenSpec.upto fnExactFLessSpec)) fnExactFLessUptoCard
end Rows
end Go.Proofs.YtmghmcnihiepiaaDoor
