/-
  DERIVED. GIVEN WITH THE SEED: THE CARDS: each row of YtcackmmfnojpfaaDoorRows.lean that lists a variable, with what it lists TIED to the program's text (the seventh form; the later family's looks); each row that meets fmt, with fmt's text TOLD by the authors' own Lean function (tested against real Go, not proved from fmt's source: count such statements apart). THE CARD IS WHAT COUNTS. Prove the row's statement (the work); the ties are given (YtcackmmfnojpfaaDoorTie.lean); close each card by the builder's one call (the guide's Derived/Test/ToyasCard.lean, 'card_holds'). Laid BY PROGRAM, IN A SANDBOX (cutbox-door.mjs). By AI agents, Wed Nov 11 2026. No macro, syntax, notation, axiom, sorry.
-/
import Derived.Test.YtcackmmfnojpfaaDoorRows
import GoSem.ClaimSeven
namespace Go.Proofs.YtcackmmfnojpfaaDoor
namespace Rows

/-- THE TIED CARD OF 'assentlaw6.ArrayRuns'. -/
def arrayRunsCard : Claim7 := { stood := { row := arrayRunsRow, standIns := [], harness := (true, "cb6af22769a2d4457407735f269404abe73c214414aa69481240dc82912c8ddf"), looks := true }, kinds := [], alts := [], laidByText := true, laidKinds := [.handle, .sentinel, .sentinel, .sentinel, .sentinel, .sentinel, .sentinel, .sentinel, .sentinel, .sentinel, .sentinel], laidTests := true, laidLooks := .later }
def ArrayRunsCardSaid : Prop := Claim7.holds Tryd.pinned (.plain (OpenSpec.ofChange arrayRunsSpec)) arrayRunsCard

/-- THE TIED CARD OF 'assentlaw6.ArrayPlays'. -/
def arrayPlaysCard : Claim7 := { stood := { row := arrayPlaysRow, standIns := [], harness := (true, "cb6af22769a2d4457407735f269404abe73c214414aa69481240dc82912c8ddf"), looks := true }, kinds := [], alts := [], laidByText := true, laidKinds := [.handle, .sentinel, .sentinel, .sentinel, .sentinel, .sentinel, .sentinel, .sentinel, .sentinel, .sentinel, .sentinel], laidTests := true, laidLooks := .later }
def ArrayPlaysCardSaid : Prop := Claim7.holds Tryd.pinned (.plain (OpenSpec.ofChange arrayPlaysSpec)) arrayPlaysCard

/-- THE TIED CARD OF 'assentlaw6.ArrayHolds'. -/
def arrayHoldsCard : Claim7 := { stood := { row := arrayHoldsRow, standIns := [], harness := (true, "cb6af22769a2d4457407735f269404abe73c214414aa69481240dc82912c8ddf"), looks := true }, kinds := [], alts := [], laidByText := true, laidKinds := [.handle, .sentinel, .sentinel, .sentinel, .sentinel, .sentinel, .sentinel, .sentinel, .sentinel, .sentinel, .sentinel], laidTests := true, laidLooks := .later }
def ArrayHoldsCardSaid : Prop := Claim7.holds Tryd.pinned (.plain (OpenSpec.ofChange arrayHoldsSpec)) arrayHoldsCard

/-- THE TIED CARD OF 'assentlaw6.ArrayPinned'. -/
def arrayPinnedCard : Claim7 := { stood := { row := arrayPinnedRow, standIns := [], harness := (true, "cb6af22769a2d4457407735f269404abe73c214414aa69481240dc82912c8ddf"), looks := true }, kinds := [], alts := [], laidByText := true, laidKinds := [.handle, .sentinel, .sentinel, .sentinel, .sentinel, .sentinel, .sentinel, .sentinel, .sentinel, .sentinel, .sentinel], laidTests := true, laidLooks := .later }
def ArrayPinnedCardSaid : Prop := Claim7.holds Tryd.pinned (.plain (OpenSpec.ofChange arrayPinnedSpec)) arrayPinnedCard

/-- THE TIED CARD OF 'assentlaw6.ArrayKeeps'. -/
def arrayKeepsCard : Claim7 := { stood := { row := arrayKeepsRow, standIns := [], harness := (true, "cb6af22769a2d4457407735f269404abe73c214414aa69481240dc82912c8ddf"), looks := true }, kinds := [], alts := [], laidByText := true, laidKinds := [.handle, .sentinel, .sentinel, .sentinel, .sentinel, .sentinel, .sentinel, .sentinel, .sentinel, .sentinel, .sentinel], laidTests := true, laidLooks := .later }
def ArrayKeepsCardSaid : Prop := Claim7.holds Tryd.pinned (.plain (OpenSpec.ofChange arrayKeepsSpec)) arrayKeepsCard

/-- THE TIED CARD OF 'assentlaw6.ArrayFull'. -/
def arrayFullCard : Claim7 := { stood := { row := arrayFullRow, standIns := [], harness := (true, "cb6af22769a2d4457407735f269404abe73c214414aa69481240dc82912c8ddf"), looks := true }, kinds := [], alts := [], laidByText := true, laidKinds := [.handle, .sentinel, .sentinel, .sentinel, .sentinel, .sentinel, .sentinel, .sentinel, .sentinel, .sentinel, .sentinel], laidTests := true, laidLooks := .later }
def ArrayFullCardSaid : Prop := Claim7.holds Tryd.pinned (.plain (OpenSpec.ofChange arrayFullSpec)) arrayFullCard

/-- THE SECOND FORM's CARD OF 'assentlaw6.ArrayRuns'. -/
def arrayRunsUptoCard : Claim7 := { stood := { row := arrayRunsUptoRow, standIns := [], harness := (true, "cb6af22769a2d4457407735f269404abe73c214414aa69481240dc82912c8ddf"), looks := true }, kinds := [], alts := [], laidByText := true, laidKinds := [.handle, .sentinel, .sentinel, .sentinel, .sentinel, .sentinel, .sentinel, .sentinel, .sentinel, .sentinel, .sentinel], laidTests := true, laidLooks := .later }
def ArrayRunsUptoCardSaid : Prop := Claim7.holds Tryd.pinned (.plain (OpenSpec.upto arrayRunsSpec)) arrayRunsUptoCard

/-- THE SECOND FORM's CARD OF 'assentlaw6.ArrayPlays'. -/
def arrayPlaysUptoCard : Claim7 := { stood := { row := arrayPlaysUptoRow, standIns := [], harness := (true, "cb6af22769a2d4457407735f269404abe73c214414aa69481240dc82912c8ddf"), looks := true }, kinds := [], alts := [], laidByText := true, laidKinds := [.handle, .sentinel, .sentinel, .sentinel, .sentinel, .sentinel, .sentinel, .sentinel, .sentinel, .sentinel, .sentinel], laidTests := true, laidLooks := .later }
def ArrayPlaysUptoCardSaid : Prop := Claim7.holds Tryd.pinned (.plain (OpenSpec.upto arrayPlaysSpec)) arrayPlaysUptoCard

/-- THE SECOND FORM's CARD OF 'assentlaw6.ArrayHolds'. -/
def arrayHoldsUptoCard : Claim7 := { stood := { row := arrayHoldsUptoRow, standIns := [], harness := (true, "cb6af22769a2d4457407735f269404abe73c214414aa69481240dc82912c8ddf"), looks := true }, kinds := [], alts := [], laidByText := true, laidKinds := [.handle, .sentinel, .sentinel, .sentinel, .sentinel, .sentinel, .sentinel, .sentinel, .sentinel, .sentinel, .sentinel], laidTests := true, laidLooks := .later }
def ArrayHoldsUptoCardSaid : Prop := Claim7.holds Tryd.pinned (.plain (OpenSpec.upto arrayHoldsSpec)) arrayHoldsUptoCard

/-- THE SECOND FORM's CARD OF 'assentlaw6.ArrayPinned'. -/
def arrayPinnedUptoCard : Claim7 := { stood := { row := arrayPinnedUptoRow, standIns := [], harness := (true, "cb6af22769a2d4457407735f269404abe73c214414aa69481240dc82912c8ddf"), looks := true }, kinds := [], alts := [], laidByText := true, laidKinds := [.handle, .sentinel, .sentinel, .sentinel, .sentinel, .sentinel, .sentinel, .sentinel, .sentinel, .sentinel, .sentinel], laidTests := true, laidLooks := .later }
def ArrayPinnedUptoCardSaid : Prop := Claim7.holds Tryd.pinned (.plain (OpenSpec.upto arrayPinnedSpec)) arrayPinnedUptoCard

/-- THE SECOND FORM's CARD OF 'assentlaw6.ArrayKeeps'. -/
def arrayKeepsUptoCard : Claim7 := { stood := { row := arrayKeepsUptoRow, standIns := [], harness := (true, "cb6af22769a2d4457407735f269404abe73c214414aa69481240dc82912c8ddf"), looks := true }, kinds := [], alts := [], laidByText := true, laidKinds := [.handle, .sentinel, .sentinel, .sentinel, .sentinel, .sentinel, .sentinel, .sentinel, .sentinel, .sentinel, .sentinel], laidTests := true, laidLooks := .later }
def ArrayKeepsUptoCardSaid : Prop := Claim7.holds Tryd.pinned (.plain (OpenSpec.upto arrayKeepsSpec)) arrayKeepsUptoCard

/-- THE SECOND FORM's CARD OF 'assentlaw6.ArrayFull'. -/
def arrayFullUptoCard : Claim7 := { stood := { row := arrayFullUptoRow, standIns := [], harness := (true, "cb6af22769a2d4457407735f269404abe73c214414aa69481240dc82912c8ddf"), looks := true }, kinds := [], alts := [], laidByText := true, laidKinds := [.handle, .sentinel, .sentinel, .sentinel, .sentinel, .sentinel, .sentinel, .sentinel, .sentinel, .sentinel, .sentinel], laidTests := true, laidLooks := .later }
def ArrayFullUptoCardSaid : Prop := Claim7.holds Tryd.pinned (.plain (OpenSpec.upto arrayFullSpec)) arrayFullUptoCard
end Rows
end Go.Proofs.YtcackmmfnojpfaaDoor
