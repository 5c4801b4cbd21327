/-
  DERIVED. GIVEN WITH THE SEED: THE CARDS: each row of YtgaajnefegjoeabDoorRows.lean that lists a variable, with what it lists TIED to the program's text (the seventh form; the later family's looks); each row that meets fmt, with fmt's text TOLD by the authors' own Lean function (tested against real Go, not proved from fmt's source: count such statements apart). THE CARD IS WHAT COUNTS. Prove the row's statement (the work); the ties are given (YtgaajnefegjoeabDoorTie.lean); close each card by the builder's one call (the guide's Derived/Test/ToyasCard.lean, 'card_holds'). Laid BY PROGRAM, IN A SANDBOX (cutbox-door.mjs). By AI agents, Wed Nov 11 2026. No macro, syntax, notation, axiom, sorry.
-/
import Derived.Test.YtgaajnefegjoeabDoorRows
import GoSem.ClaimSeven
namespace Go.Proofs.YtgaajnefegjoeabDoor
namespace Rows

/-- THE TIED CARD OF 'assentlaw2.GeomRuns'. -/
def geomRunsCard : Claim7 := { stood := { row := geomRunsRow, standIns := [], harness := (true, "8f59ccb76ab0493aa30ddb5b5a6333cb45b56ae22e060fa647e6a767a48046e1"), looks := true }, kinds := [], alts := [], laidByText := true, laidKinds := [.handle, .sentinel, .sentinel, .sentinel, .sentinel, .sentinel, .sentinel, .sentinel, .sentinel, .sentinel, .sentinel], laidTests := true, laidLooks := .later }
def GeomRunsCardSaid : Prop := Claim7.holds Tryd.pinned (.plain (OpenSpec.ofChange geomRunsSpec)) geomRunsCard

/-- THE TIED CARD OF 'assentlaw2.GeomTells'. -/
def geomTellsCard : Claim7 := { stood := { row := geomTellsRow, standIns := [], harness := (true, "8f59ccb76ab0493aa30ddb5b5a6333cb45b56ae22e060fa647e6a767a48046e1"), looks := true }, kinds := [], alts := [], laidByText := true, laidKinds := [.handle, .sentinel, .sentinel, .sentinel, .sentinel, .sentinel, .sentinel, .sentinel, .sentinel, .sentinel, .sentinel], laidTests := true, laidLooks := .later }
def GeomTellsCardSaid : Prop := Claim7.holds Tryd.pinned (.plain (OpenSpec.ofChange geomTellsSpec)) geomTellsCard

/-- THE TIED CARD OF 'assentlaw2.GeomBack'. -/
def geomBackCard : Claim7 := { stood := { row := geomBackRow, standIns := [], harness := (true, "8f59ccb76ab0493aa30ddb5b5a6333cb45b56ae22e060fa647e6a767a48046e1"), looks := true }, kinds := [], alts := [], laidByText := true, laidKinds := [.handle, .sentinel, .sentinel, .sentinel, .sentinel, .sentinel, .sentinel, .sentinel, .sentinel, .sentinel, .sentinel], laidTests := true, laidLooks := .later }
def GeomBackCardSaid : Prop := Claim7.holds Tryd.pinned (.plain (OpenSpec.ofChange geomBackSpec)) geomBackCard

/-- THE TIED CARD OF 'assentlaw2.GeomWhole'. -/
def geomWholeCard : Claim7 := { stood := { row := geomWholeRow, standIns := [], harness := (true, "8f59ccb76ab0493aa30ddb5b5a6333cb45b56ae22e060fa647e6a767a48046e1"), looks := true }, kinds := [], alts := [], laidByText := true, laidKinds := [.handle, .sentinel, .sentinel, .sentinel, .sentinel, .sentinel, .sentinel, .sentinel, .sentinel, .sentinel, .sentinel], laidTests := true, laidLooks := .later }
def GeomWholeCardSaid : Prop := Claim7.holds Tryd.pinned (.plain (OpenSpec.ofChange geomWholeSpec)) geomWholeCard

/-- THE TIED CARD OF 'assentlaw2.GeomRefuses'. -/
def geomRefusesCard : Claim7 := { stood := { row := geomRefusesRow, standIns := [], harness := (true, "8f59ccb76ab0493aa30ddb5b5a6333cb45b56ae22e060fa647e6a767a48046e1"), looks := true }, kinds := [], alts := [], laidByText := true, laidKinds := [.handle, .sentinel, .sentinel, .sentinel, .sentinel, .sentinel, .sentinel, .sentinel, .sentinel, .sentinel, .sentinel], laidTests := true, laidLooks := .later }
def GeomRefusesCardSaid : Prop := Claim7.holds Tryd.pinned (.plain (OpenSpec.ofChange geomRefusesSpec)) geomRefusesCard

/-- THE SECOND FORM's CARD OF 'assentlaw2.GeomRuns'. -/
def geomRunsUptoCard : Claim7 := { stood := { row := geomRunsUptoRow, standIns := [], harness := (true, "8f59ccb76ab0493aa30ddb5b5a6333cb45b56ae22e060fa647e6a767a48046e1"), looks := true }, kinds := [], alts := [], laidByText := true, laidKinds := [.handle, .sentinel, .sentinel, .sentinel, .sentinel, .sentinel, .sentinel, .sentinel, .sentinel, .sentinel, .sentinel], laidTests := true, laidLooks := .later }
def GeomRunsUptoCardSaid : Prop := Claim7.holds Tryd.pinned (.plain (OpenSpec.upto geomRunsSpec)) geomRunsUptoCard

/-- THE SECOND FORM's CARD OF 'assentlaw2.GeomTells'. -/
def geomTellsUptoCard : Claim7 := { stood := { row := geomTellsUptoRow, standIns := [], harness := (true, "8f59ccb76ab0493aa30ddb5b5a6333cb45b56ae22e060fa647e6a767a48046e1"), looks := true }, kinds := [], alts := [], laidByText := true, laidKinds := [.handle, .sentinel, .sentinel, .sentinel, .sentinel, .sentinel, .sentinel, .sentinel, .sentinel, .sentinel, .sentinel], laidTests := true, laidLooks := .later }
def GeomTellsUptoCardSaid : Prop := Claim7.holds Tryd.pinned (.plain (OpenSpec.upto geomTellsSpec)) geomTellsUptoCard

/-- THE SECOND FORM's CARD OF 'assentlaw2.GeomBack'. -/
def geomBackUptoCard : Claim7 := { stood := { row := geomBackUptoRow, standIns := [], harness := (true, "8f59ccb76ab0493aa30ddb5b5a6333cb45b56ae22e060fa647e6a767a48046e1"), looks := true }, kinds := [], alts := [], laidByText := true, laidKinds := [.handle, .sentinel, .sentinel, .sentinel, .sentinel, .sentinel, .sentinel, .sentinel, .sentinel, .sentinel, .sentinel], laidTests := true, laidLooks := .later }
def GeomBackUptoCardSaid : Prop := Claim7.holds Tryd.pinned (.plain (OpenSpec.upto geomBackSpec)) geomBackUptoCard

/-- THE SECOND FORM's CARD OF 'assentlaw2.GeomWhole'. -/
def geomWholeUptoCard : Claim7 := { stood := { row := geomWholeUptoRow, standIns := [], harness := (true, "8f59ccb76ab0493aa30ddb5b5a6333cb45b56ae22e060fa647e6a767a48046e1"), looks := true }, kinds := [], alts := [], laidByText := true, laidKinds := [.handle, .sentinel, .sentinel, .sentinel, .sentinel, .sentinel, .sentinel, .sentinel, .sentinel, .sentinel, .sentinel], laidTests := true, laidLooks := .later }
def GeomWholeUptoCardSaid : Prop := Claim7.holds Tryd.pinned (.plain (OpenSpec.upto geomWholeSpec)) geomWholeUptoCard

/-- THE SECOND FORM's CARD OF 'assentlaw2.GeomRefuses'. -/
def geomRefusesUptoCard : Claim7 := { stood := { row := geomRefusesUptoRow, standIns := [], harness := (true, "8f59ccb76ab0493aa30ddb5b5a6333cb45b56ae22e060fa647e6a767a48046e1"), looks := true }, kinds := [], alts := [], laidByText := true, laidKinds := [.handle, .sentinel, .sentinel, .sentinel, .sentinel, .sentinel, .sentinel, .sentinel, .sentinel, .sentinel, .sentinel], laidTests := true, laidLooks := .later }
def GeomRefusesUptoCardSaid : Prop := Claim7.holds Tryd.pinned (.plain (OpenSpec.upto geomRefusesSpec)) geomRefusesUptoCard
end Rows
end Go.Proofs.YtgaajnefegjoeabDoor
