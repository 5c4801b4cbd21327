/-
  DERIVED. GIVEN WITH THE SEED: THE CARDS: each row of YtncgjclehplfeabDoorRows.lean that lists a variable, with what it lists TIED to the program's text (the seventh form; the later family's looks); each row that meets fmt, with fmt's text TOLD by the authors' own Lean function (tested against real Go, not proved from fmt's source: count such statements apart). THE CARD IS WHAT COUNTS. Prove the row's statement (the work); the ties are given (YtncgjclehplfeabDoorTie.lean); close each card by the builder's one call (the guide's Derived/Test/ToyasCard.lean, 'card_holds'). Laid BY PROGRAM, IN A SANDBOX (cutbox-door.mjs). By AI agents, Wed Nov 11 2026. No macro, syntax, notation, axiom, sorry.
-/
import Derived.Test.YtncgjclehplfeabDoorRows
import GoSem.ClaimSeven
namespace Go.Proofs.YtncgjclehplfeabDoor
namespace Rows

/-- THE TIED CARD OF 'assentlaw10.TsoFences'. -/
def tsoFencesCard : Claim7 := { stood := { row := tsoFencesRow, standIns := [], harness := (true, "0e6fef3441c89263482c030be9824886a3803b3d4e800fe5fe66c0904b4a34ad"), looks := true }, kinds := [], alts := [], laidByText := true, laidKinds := [.handle, .sentinel, .sentinel, .sentinel, .sentinel, .sentinel, .sentinel, .sentinel, .sentinel, .sentinel, .sentinel], laidTests := true, laidLooks := .later }
def TsoFencesCardSaid : Prop := Claim7.holds Tryd.pinned (.plain (OpenSpec.ofChange tsoFencesSpec)) tsoFencesCard

/-- THE TIED CARD OF 'assentlaw10.TsoHides'. -/
def tsoHidesCard : Claim7 := { stood := { row := tsoHidesRow, standIns := [], harness := (true, "0e6fef3441c89263482c030be9824886a3803b3d4e800fe5fe66c0904b4a34ad"), looks := true }, kinds := [], alts := [], laidByText := true, laidKinds := [.handle, .sentinel, .sentinel, .sentinel, .sentinel, .sentinel, .sentinel, .sentinel, .sentinel, .sentinel, .sentinel], laidTests := true, laidLooks := .later }
def TsoHidesCardSaid : Prop := Claim7.holds Tryd.pinned (.plain (OpenSpec.ofChange tsoHidesSpec)) tsoHidesCard

/-- THE TIED CARD OF 'assentlaw10.TsoCommutes'. -/
def tsoCommutesCard : Claim7 := { stood := { row := tsoCommutesRow, standIns := [], harness := (true, "0e6fef3441c89263482c030be9824886a3803b3d4e800fe5fe66c0904b4a34ad"), looks := true }, kinds := [], alts := [], laidByText := true, laidKinds := [.handle, .sentinel, .sentinel, .sentinel, .sentinel, .sentinel, .sentinel, .sentinel, .sentinel, .sentinel, .sentinel], laidTests := true, laidLooks := .later }
def TsoCommutesCardSaid : Prop := Claim7.holds Tryd.pinned (.plain (OpenSpec.ofChange tsoCommutesSpec)) tsoCommutesCard

/-- THE TIED CARD OF 'assentlaw10.TsoRefuses'. -/
def tsoRefusesCard : Claim7 := { stood := { row := tsoRefusesRow, standIns := [], harness := (true, "0e6fef3441c89263482c030be9824886a3803b3d4e800fe5fe66c0904b4a34ad"), looks := true }, kinds := [], alts := [], laidByText := true, laidKinds := [.handle, .sentinel, .sentinel, .sentinel, .sentinel, .sentinel, .sentinel, .sentinel, .sentinel, .sentinel, .sentinel], laidTests := true, laidLooks := .later }
def TsoRefusesCardSaid : Prop := Claim7.holds Tryd.pinned (.plain (OpenSpec.ofChange tsoRefusesSpec)) tsoRefusesCard

/-- THE SECOND FORM's CARD OF 'assentlaw10.TsoFences'. -/
def tsoFencesUptoCard : Claim7 := { stood := { row := tsoFencesUptoRow, standIns := [], harness := (true, "0e6fef3441c89263482c030be9824886a3803b3d4e800fe5fe66c0904b4a34ad"), looks := true }, kinds := [], alts := [], laidByText := true, laidKinds := [.handle, .sentinel, .sentinel, .sentinel, .sentinel, .sentinel, .sentinel, .sentinel, .sentinel, .sentinel, .sentinel], laidTests := true, laidLooks := .later }
def TsoFencesUptoCardSaid : Prop := Claim7.holds Tryd.pinned (.plain (OpenSpec.upto tsoFencesSpec)) tsoFencesUptoCard

/-- THE SECOND FORM's CARD OF 'assentlaw10.TsoHides'. -/
def tsoHidesUptoCard : Claim7 := { stood := { row := tsoHidesUptoRow, standIns := [], harness := (true, "0e6fef3441c89263482c030be9824886a3803b3d4e800fe5fe66c0904b4a34ad"), looks := true }, kinds := [], alts := [], laidByText := true, laidKinds := [.handle, .sentinel, .sentinel, .sentinel, .sentinel, .sentinel, .sentinel, .sentinel, .sentinel, .sentinel, .sentinel], laidTests := true, laidLooks := .later }
def TsoHidesUptoCardSaid : Prop := Claim7.holds Tryd.pinned (.plain (OpenSpec.upto tsoHidesSpec)) tsoHidesUptoCard

/-- THE SECOND FORM's CARD OF 'assentlaw10.TsoCommutes'. -/
def tsoCommutesUptoCard : Claim7 := { stood := { row := tsoCommutesUptoRow, standIns := [], harness := (true, "0e6fef3441c89263482c030be9824886a3803b3d4e800fe5fe66c0904b4a34ad"), looks := true }, kinds := [], alts := [], laidByText := true, laidKinds := [.handle, .sentinel, .sentinel, .sentinel, .sentinel, .sentinel, .sentinel, .sentinel, .sentinel, .sentinel, .sentinel], laidTests := true, laidLooks := .later }
def TsoCommutesUptoCardSaid : Prop := Claim7.holds Tryd.pinned (.plain (OpenSpec.upto tsoCommutesSpec)) tsoCommutesUptoCard

/-- THE SECOND FORM's CARD OF 'assentlaw10.TsoRefuses'. -/
def tsoRefusesUptoCard : Claim7 := { stood := { row := tsoRefusesUptoRow, standIns := [], harness := (true, "0e6fef3441c89263482c030be9824886a3803b3d4e800fe5fe66c0904b4a34ad"), looks := true }, kinds := [], alts := [], laidByText := true, laidKinds := [.handle, .sentinel, .sentinel, .sentinel, .sentinel, .sentinel, .sentinel, .sentinel, .sentinel, .sentinel, .sentinel], laidTests := true, laidLooks := .later }
def TsoRefusesUptoCardSaid : Prop := Claim7.holds Tryd.pinned (.plain (OpenSpec.upto tsoRefusesSpec)) tsoRefusesUptoCard
end Rows
end Go.Proofs.YtncgjclehplfeabDoor
