/-
  DERIVED. GIVEN WITH THE SEED: THE CARDS: each row of YtkjenbilfjlfdabDoorRows.lean that lists a variable, with what it lists TIED to the program's text (the seventh form; the later family's looks); each row that meets fmt, with fmt's text TOLD by the authors' own Lean function (tested against real Go, not proved from fmt's source: count such statements apart). THE CARD IS WHAT COUNTS. Prove the row's statement (the work); the ties are given (YtkjenbilfjlfdabDoorTie.lean); close each card by the builder's one call (the guide's Derived/Test/ToyasCard.lean, 'card_holds'). Laid BY PROGRAM, IN A SANDBOX (cutbox-door.mjs). By AI agents, Wed Nov 11 2026. No macro, syntax, notation, axiom, sorry.
-/
import Derived.Test.YtkjenbilfjlfdabDoorRows
import GoSem.ClaimSeven
namespace Go.Proofs.YtkjenbilfjlfdabDoor
namespace Rows

/-- THE TIED CARD OF 'assentlaw3.PackStays'. -/
def packStaysCard : Claim7 := { stood := { row := packStaysRow, standIns := [], harness := (true, "6762fef37f7f68b8bcc773c5c859fc21719d5848234dac069e28b2e929040fae"), looks := true }, kinds := [], alts := [], laidByText := true, laidKinds := [.handle, .sentinel, .sentinel, .sentinel, .sentinel, .sentinel, .sentinel, .sentinel, .sentinel, .sentinel, .sentinel], laidTests := true, laidLooks := .later }
def PackStaysCardSaid : Prop := Claim7.holds Tryd.pinned (.plain (OpenSpec.ofChange packStaysSpec)) packStaysCard

/-- THE TIED CARD OF 'assentlaw3.PackIn'. -/
def packInCard : Claim7 := { stood := { row := packInRow, standIns := [], harness := (true, "6762fef37f7f68b8bcc773c5c859fc21719d5848234dac069e28b2e929040fae"), looks := true }, kinds := [], alts := [], laidByText := true, laidKinds := [.handle, .sentinel, .sentinel, .sentinel, .sentinel, .sentinel, .sentinel, .sentinel, .sentinel, .sentinel, .sentinel], laidTests := true, laidLooks := .later }
def PackInCardSaid : Prop := Claim7.holds Tryd.pinned (.plain (OpenSpec.ofChange packInSpec)) packInCard

/-- THE SECOND FORM's CARD OF 'assentlaw3.PackStays'. -/
def packStaysUptoCard : Claim7 := { stood := { row := packStaysUptoRow, standIns := [], harness := (true, "6762fef37f7f68b8bcc773c5c859fc21719d5848234dac069e28b2e929040fae"), looks := true }, kinds := [], alts := [], laidByText := true, laidKinds := [.handle, .sentinel, .sentinel, .sentinel, .sentinel, .sentinel, .sentinel, .sentinel, .sentinel, .sentinel, .sentinel], laidTests := true, laidLooks := .later }
def PackStaysUptoCardSaid : Prop := Claim7.holds Tryd.pinned (.plain (OpenSpec.upto packStaysSpec)) packStaysUptoCard

/-- THE SECOND FORM's CARD OF 'assentlaw3.PackIn'. -/
def packInUptoCard : Claim7 := { stood := { row := packInUptoRow, standIns := [], harness := (true, "6762fef37f7f68b8bcc773c5c859fc21719d5848234dac069e28b2e929040fae"), looks := true }, kinds := [], alts := [], laidByText := true, laidKinds := [.handle, .sentinel, .sentinel, .sentinel, .sentinel, .sentinel, .sentinel, .sentinel, .sentinel, .sentinel, .sentinel], laidTests := true, laidLooks := .later }
def PackInUptoCardSaid : Prop := Claim7.holds Tryd.pinned (.plain (OpenSpec.upto packInSpec)) packInUptoCard
end Rows
end Go.Proofs.YtkjenbilfjlfdabDoor
