/-
  DERIVED. GIVEN WITH THE SEED: THE CARDS: each row of YtggncnjbaghjkaaDoorRows.lean that lists a variable, with what it lists TIED to the program's text (the seventh form; the later family's looks); each row that meets fmt, with fmt's text TOLD by the authors' own Lean function (tested against real Go, not proved from fmt's source: count such statements apart). THE CARD IS WHAT COUNTS. Prove the row's statement (the work); the ties are given (YtggncnjbaghjkaaDoorTie.lean); close each card by the builder's one call (the guide's Derived/Test/ToyasCard.lean, 'card_holds'). Laid BY PROGRAM, IN A SANDBOX (cutbox-door.mjs). By AI agents, Wed Nov 11 2026. No macro, syntax, notation, axiom, sorry.
-/
import Derived.Test.YtggncnjbaghjkaaDoorRows
import GoSem.ClaimSeven
namespace Go.Proofs.YtggncnjbaghjkaaDoor
namespace Rows

/-- THE TIED CARD OF 'laws.FnExactFAdd'. -/
def fnExactFAddCard : Claim7 := { stood := { row := fnExactFAddRow, standIns := [], harness := (true, "7f0194cfb9949ce80342dde42103c6e2705aa6a1d19c6e858aed7564259f32a3"), looks := false }, kinds := [], alts := [], laidByText := true, laidKinds := [.wider], laidTests := true, laidLooks := .later }
def FnExactFAddCardSaid : Prop := Claim7.holds Tryd.pinned (.plain (OpenSpec.ofChange fnExactFAddSpec)) fnExactFAddCard

/-- THE TIED CARD OF 'laws.FnExactFSum'. -/
def fnExactFSumCard : Claim7 := { stood := { row := fnExactFSumRow, standIns := [], harness := (true, "7f0194cfb9949ce80342dde42103c6e2705aa6a1d19c6e858aed7564259f32a3"), looks := false }, kinds := [], alts := [], laidByText := true, laidKinds := [.wider], laidTests := true, laidLooks := .later }
def FnExactFSumCardSaid : Prop := Claim7.holds Tryd.pinned (.plain (OpenSpec.ofChange fnExactFSumSpec)) fnExactFSumCard

/-- THE TIED CARD OF 'laws.FnExactFTree'. -/
def fnExactFTreeCard : Claim7 := { stood := { row := fnExactFTreeRow, standIns := [], harness := (true, "7f0194cfb9949ce80342dde42103c6e2705aa6a1d19c6e858aed7564259f32a3"), looks := false }, kinds := [], alts := [], laidByText := true, laidKinds := [.wider], laidTests := true, laidLooks := .later }
def FnExactFTreeCardSaid : Prop := Claim7.holds Tryd.pinned (.plain (OpenSpec.ofChange fnExactFTreeSpec)) fnExactFTreeCard

/-- THE SECOND FORM's CARD OF 'laws.FnExactFAdd'. -/
def fnExactFAddUptoCard : Claim7 := { stood := { row := fnExactFAddUptoRow, standIns := [], harness := (true, "7f0194cfb9949ce80342dde42103c6e2705aa6a1d19c6e858aed7564259f32a3"), looks := false }, kinds := [], alts := [], laidByText := true, laidKinds := [.wider], laidTests := true, laidLooks := .later }
def FnExactFAddUptoCardSaid : Prop := Claim7.holds Tryd.pinned (.plain (OpenSpec.upto fnExactFAddSpec)) fnExactFAddUptoCard

/-- THE SECOND FORM's CARD OF 'laws.FnExactFSum'. -/
def fnExactFSumUptoCard : Claim7 := { stood := { row := fnExactFSumUptoRow, standIns := [], harness := (true, "7f0194cfb9949ce80342dde42103c6e2705aa6a1d19c6e858aed7564259f32a3"), looks := false }, kinds := [], alts := [], laidByText := true, laidKinds := [.wider], laidTests := true, laidLooks := .later }
def FnExactFSumUptoCardSaid : Prop := Claim7.holds Tryd.pinned (.plain (OpenSpec.upto fnExactFSumSpec)) fnExactFSumUptoCard

/-- THE SECOND FORM's CARD OF 'laws.FnExactFTree'. -/
def fnExactFTreeUptoCard : Claim7 := { stood := { row := fnExactFTreeUptoRow, standIns := [], harness := (true, "7f0194cfb9949ce80342dde42103c6e2705aa6a1d19c6e858aed7564259f32a3"), looks := false }, kinds := [], alts := [], laidByText := true, laidKinds := [.wider], laidTests := true, laidLooks := .later }
def FnExactFTreeUptoCardSaid : Prop := Claim7.holds Tryd.pinned (.plain (OpenSpec.upto fnExactFTreeSpec)) fnExactFTreeUptoCard
end Rows
end Go.Proofs.YtggncnjbaghjkaaDoor
