/-
  DERIVED. GIVEN WITH THE SEED: THE CARDS: each row of YtmgmjklnibmacabDoorRows.lean that lists a variable, with what it lists TIED to the program's text (the seventh form; the later family's looks); each row that meets fmt, with fmt's text TOLD by the authors' own Lean function (tested against real Go, not proved from fmt's source: count such statements apart). THE CARD IS WHAT COUNTS. Prove the row's statement (the work); the ties are given (YtmgmjklnibmacabDoorTie.lean); close each card by the builder's one call (the guide's Derived/Test/ToyasCard.lean, 'card_holds'). Laid BY PROGRAM, IN A SANDBOX (cutbox-door.mjs). By AI agents, Wed Nov 11 2026. No macro, syntax, notation, axiom, sorry.
-/
import Derived.Test.YtmgmjklnibmacabDoorRows
import GoSem.ClaimSeven
namespace Go.Proofs.YtmgmjklnibmacabDoor
namespace Rows

/-- THE TIED CARD OF 'assentlaw12.FabricRoom'. -/
def fabricRoomCard : Claim7 := { stood := { row := fabricRoomRow, standIns := [], harness := (true, "1c4aa600d2c8b1ab3c1fed25329c8ec5788da6ca66ec86183c64eceed44618fb"), looks := true }, kinds := [], alts := [], laidByText := true, laidKinds := [.handle, .sentinel, .sentinel, .sentinel, .sentinel, .sentinel, .sentinel, .sentinel, .sentinel, .sentinel, .sentinel], laidTests := true, laidLooks := .later }
def FabricRoomCardSaid : Prop := Claim7.holds Tryd.pinned (.plain (OpenSpec.ofChange fabricRoomSpec)) fabricRoomCard

/-- THE SECOND FORM's CARD OF 'assentlaw12.FabricRoom'. -/
def fabricRoomUptoCard : Claim7 := { stood := { row := fabricRoomUptoRow, standIns := [], harness := (true, "1c4aa600d2c8b1ab3c1fed25329c8ec5788da6ca66ec86183c64eceed44618fb"), looks := true }, kinds := [], alts := [], laidByText := true, laidKinds := [.handle, .sentinel, .sentinel, .sentinel, .sentinel, .sentinel, .sentinel, .sentinel, .sentinel, .sentinel, .sentinel], laidTests := true, laidLooks := .later }
def FabricRoomUptoCardSaid : Prop := Claim7.holds Tryd.pinned (.plain (OpenSpec.upto fabricRoomSpec)) fabricRoomUptoCard
end Rows
end Go.Proofs.YtmgmjklnibmacabDoor
