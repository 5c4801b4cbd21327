/-
  DERIVED. GIVEN WITH THE SEED: THE CARDS: each row of YtgepfbaojogccaaDoorRows.lean that lists a variable, with what it lists TIED to the program's text (the seventh form; the later family's looks); each row that meets fmt, with fmt's text TOLD by the authors' own Lean function (tested against real Go, not proved from fmt's source: count such statements apart). THE CARD IS WHAT COUNTS. Prove the row's statement (the work); the ties are given (YtgepfbaojogccaaDoorTie.lean); close each card by the builder's one call (the guide's Derived/Test/ToyasCard.lean, 'card_holds'). Laid BY PROGRAM, IN A SANDBOX (cutbox-door.mjs). By AI agents, Wed Nov 11 2026. No macro, syntax, notation, axiom, sorry.
-/
import Derived.Test.YtgepfbaojogccaaDoorRows
import GoSem.ClaimSeven
namespace Go.Proofs.YtgepfbaojogccaaDoor
namespace Rows

/-- THE TIED CARD OF 'assentlaw11.MsgRuns'. -/
def msgRunsCard : Claim7 := { stood := { row := msgRunsRow, standIns := [], harness := (true, "28afcf24f65f7d18d0bd084908161ecdba67ba113e2e570578b6f2d9d4d498eb"), looks := true }, kinds := [], alts := [], laidByText := true, laidKinds := [.handle, .sentinel, .sentinel, .sentinel, .sentinel, .sentinel, .sentinel, .sentinel, .sentinel, .sentinel, .sentinel], laidTests := true, laidLooks := .later }
def MsgRunsCardSaid : Prop := Claim7.holds Tryd.pinned (.plain (OpenSpec.ofChange msgRunsSpec)) msgRunsCard

/-- THE TIED CARD OF 'assentlaw11.MsgTells'. -/
def msgTellsCard : Claim7 := { stood := { row := msgTellsRow, standIns := [], harness := (true, "28afcf24f65f7d18d0bd084908161ecdba67ba113e2e570578b6f2d9d4d498eb"), looks := true }, kinds := [], alts := [], laidByText := true, laidKinds := [.handle, .sentinel, .sentinel, .sentinel, .sentinel, .sentinel, .sentinel, .sentinel, .sentinel, .sentinel, .sentinel], laidTests := true, laidLooks := .later }
def MsgTellsCardSaid : Prop := Claim7.holds Tryd.pinned (.plain (OpenSpec.ofChange msgTellsSpec)) msgTellsCard

/-- THE TIED CARD OF 'assentlaw11.MsgBack'. -/
def msgBackCard : Claim7 := { stood := { row := msgBackRow, standIns := [], harness := (true, "28afcf24f65f7d18d0bd084908161ecdba67ba113e2e570578b6f2d9d4d498eb"), looks := true }, kinds := [], alts := [], laidByText := true, laidKinds := [.handle, .sentinel, .sentinel, .sentinel, .sentinel, .sentinel, .sentinel, .sentinel, .sentinel, .sentinel, .sentinel], laidTests := true, laidLooks := .later }
def MsgBackCardSaid : Prop := Claim7.holds Tryd.pinned (.plain (OpenSpec.ofChange msgBackSpec)) msgBackCard

/-- THE TIED CARD OF 'assentlaw11.MsgBare'. -/
def msgBareCard : Claim7 := { stood := { row := msgBareRow, standIns := [], harness := (true, "28afcf24f65f7d18d0bd084908161ecdba67ba113e2e570578b6f2d9d4d498eb"), looks := true }, kinds := [], alts := [], laidByText := true, laidKinds := [.handle, .sentinel, .sentinel, .sentinel, .sentinel, .sentinel, .sentinel, .sentinel, .sentinel, .sentinel, .sentinel], laidTests := true, laidLooks := .later }
def MsgBareCardSaid : Prop := Claim7.holds Tryd.pinned (.plain (OpenSpec.ofChange msgBareSpec)) msgBareCard

/-- THE TIED CARD OF 'assentlaw11.MsgPools'. -/
def msgPoolsCard : Claim7 := { stood := { row := msgPoolsRow, standIns := [], harness := (true, "28afcf24f65f7d18d0bd084908161ecdba67ba113e2e570578b6f2d9d4d498eb"), looks := true }, kinds := [], alts := [], laidByText := true, laidKinds := [.handle, .sentinel, .sentinel, .sentinel, .sentinel, .sentinel, .sentinel, .sentinel, .sentinel, .sentinel, .sentinel], laidTests := true, laidLooks := .later }
def MsgPoolsCardSaid : Prop := Claim7.holds Tryd.pinned (.plain (OpenSpec.ofChange msgPoolsSpec)) msgPoolsCard

/-- THE TIED CARD OF 'assentlaw11.MsgApart'. -/
def msgApartCard : Claim7 := { stood := { row := msgApartRow, standIns := [], harness := (true, "28afcf24f65f7d18d0bd084908161ecdba67ba113e2e570578b6f2d9d4d498eb"), looks := true }, kinds := [], alts := [], laidByText := true, laidKinds := [.handle, .sentinel, .sentinel, .sentinel, .sentinel, .sentinel, .sentinel, .sentinel, .sentinel, .sentinel, .sentinel], laidTests := true, laidLooks := .later }
def MsgApartCardSaid : Prop := Claim7.holds Tryd.pinned (.plain (OpenSpec.ofChange msgApartSpec)) msgApartCard

/-- THE SECOND FORM's CARD OF 'assentlaw11.MsgRuns'. -/
def msgRunsUptoCard : Claim7 := { stood := { row := msgRunsUptoRow, standIns := [], harness := (true, "28afcf24f65f7d18d0bd084908161ecdba67ba113e2e570578b6f2d9d4d498eb"), looks := true }, kinds := [], alts := [], laidByText := true, laidKinds := [.handle, .sentinel, .sentinel, .sentinel, .sentinel, .sentinel, .sentinel, .sentinel, .sentinel, .sentinel, .sentinel], laidTests := true, laidLooks := .later }
def MsgRunsUptoCardSaid : Prop := Claim7.holds Tryd.pinned (.plain (OpenSpec.upto msgRunsSpec)) msgRunsUptoCard

/-- THE SECOND FORM's CARD OF 'assentlaw11.MsgTells'. -/
def msgTellsUptoCard : Claim7 := { stood := { row := msgTellsUptoRow, standIns := [], harness := (true, "28afcf24f65f7d18d0bd084908161ecdba67ba113e2e570578b6f2d9d4d498eb"), looks := true }, kinds := [], alts := [], laidByText := true, laidKinds := [.handle, .sentinel, .sentinel, .sentinel, .sentinel, .sentinel, .sentinel, .sentinel, .sentinel, .sentinel, .sentinel], laidTests := true, laidLooks := .later }
def MsgTellsUptoCardSaid : Prop := Claim7.holds Tryd.pinned (.plain (OpenSpec.upto msgTellsSpec)) msgTellsUptoCard

/-- THE SECOND FORM's CARD OF 'assentlaw11.MsgBack'. -/
def msgBackUptoCard : Claim7 := { stood := { row := msgBackUptoRow, standIns := [], harness := (true, "28afcf24f65f7d18d0bd084908161ecdba67ba113e2e570578b6f2d9d4d498eb"), looks := true }, kinds := [], alts := [], laidByText := true, laidKinds := [.handle, .sentinel, .sentinel, .sentinel, .sentinel, .sentinel, .sentinel, .sentinel, .sentinel, .sentinel, .sentinel], laidTests := true, laidLooks := .later }
def MsgBackUptoCardSaid : Prop := Claim7.holds Tryd.pinned (.plain (OpenSpec.upto msgBackSpec)) msgBackUptoCard

/-- THE SECOND FORM's CARD OF 'assentlaw11.MsgBare'. -/
def msgBareUptoCard : Claim7 := { stood := { row := msgBareUptoRow, standIns := [], harness := (true, "28afcf24f65f7d18d0bd084908161ecdba67ba113e2e570578b6f2d9d4d498eb"), looks := true }, kinds := [], alts := [], laidByText := true, laidKinds := [.handle, .sentinel, .sentinel, .sentinel, .sentinel, .sentinel, .sentinel, .sentinel, .sentinel, .sentinel, .sentinel], laidTests := true, laidLooks := .later }
def MsgBareUptoCardSaid : Prop := Claim7.holds Tryd.pinned (.plain (OpenSpec.upto msgBareSpec)) msgBareUptoCard

/-- THE SECOND FORM's CARD OF 'assentlaw11.MsgPools'. -/
def msgPoolsUptoCard : Claim7 := { stood := { row := msgPoolsUptoRow, standIns := [], harness := (true, "28afcf24f65f7d18d0bd084908161ecdba67ba113e2e570578b6f2d9d4d498eb"), looks := true }, kinds := [], alts := [], laidByText := true, laidKinds := [.handle, .sentinel, .sentinel, .sentinel, .sentinel, .sentinel, .sentinel, .sentinel, .sentinel, .sentinel, .sentinel], laidTests := true, laidLooks := .later }
def MsgPoolsUptoCardSaid : Prop := Claim7.holds Tryd.pinned (.plain (OpenSpec.upto msgPoolsSpec)) msgPoolsUptoCard

/-- THE SECOND FORM's CARD OF 'assentlaw11.MsgApart'. -/
def msgApartUptoCard : Claim7 := { stood := { row := msgApartUptoRow, standIns := [], harness := (true, "28afcf24f65f7d18d0bd084908161ecdba67ba113e2e570578b6f2d9d4d498eb"), looks := true }, kinds := [], alts := [], laidByText := true, laidKinds := [.handle, .sentinel, .sentinel, .sentinel, .sentinel, .sentinel, .sentinel, .sentinel, .sentinel, .sentinel, .sentinel], laidTests := true, laidLooks := .later }
def MsgApartUptoCardSaid : Prop := Claim7.holds Tryd.pinned (.plain (OpenSpec.upto msgApartSpec)) msgApartUptoCard
end Rows
end Go.Proofs.YtgepfbaojogccaaDoor
