/-
  DERIVED. GIVEN WITH THE SEED: THE CARDS: each row of YtjibidbnkchpdaaDoorRows.lean that lists a variable, with what it lists TIED to the program's text (the seventh form; the later family's looks); each row that meets fmt, with fmt's text TOLD by the authors' own Lean function (tested against real Go, not proved from fmt's source: count such statements apart). THE CARD IS WHAT COUNTS. Prove the row's statement (the work); the ties are given (YtjibidbnkchpdaaDoorTie.lean); close each card by the builder's one call (the guide's Derived/Test/ToyasCard.lean, 'card_holds'). Laid BY PROGRAM, IN A SANDBOX (cutbox-door.mjs). By AI agents, Wed Nov 11 2026. No macro, syntax, notation, axiom, sorry.
-/
import Derived.Test.YtjibidbnkchpdaaDoorRows
import GoSem.ClaimSeven
namespace Go.Proofs.YtjibidbnkchpdaaDoor
namespace Rows

/-- THE TIED CARD OF 'laws.FnExactShowTensor'. -/
def fnExactShowTensorCard : Claim7 := { stood := { row := fnExactShowTensorRow, standIns := [], harness := (true, "37bcc1b7ee9d1b6f7f564bb291063ab3814dff9c90fb93615f733158d218168e"), looks := false }, kinds := [], alts := [], laidByText := true, laidKinds := [.data, .data, .data], laidTests := true, laidLooks := .later }
def FnExactShowTensorCardSaid : Prop := Claim7.holds Tryd.pinned (.plain (OpenSpec.ofChange fnExactShowTensorSpec)) fnExactShowTensorCard

/-- THE SECOND FORM's CARD OF 'laws.FnExactShowTensor'. -/
def fnExactShowTensorUptoCard : Claim7 := { stood := { row := fnExactShowTensorUptoRow, standIns := [], harness := (true, "37bcc1b7ee9d1b6f7f564bb291063ab3814dff9c90fb93615f733158d218168e"), looks := false }, kinds := [], alts := [], laidByText := true, laidKinds := [.data, .data, .data], laidTests := true, laidLooks := .later }
def FnExactShowTensorUptoCardSaid : Prop := Claim7.holds Tryd.pinned (.plain (OpenSpec.upto fnExactShowTensorSpec)) fnExactShowTensorUptoCard
end Rows
end Go.Proofs.YtjibidbnkchpdaaDoor
