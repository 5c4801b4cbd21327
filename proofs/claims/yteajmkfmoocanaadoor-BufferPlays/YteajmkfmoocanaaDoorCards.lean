/-
  DERIVED. GIVEN WITH THE SEED: THE CARDS: each row of YteajmkfmoocanaaDoorRows.lean that lists a variable, with what it lists TIED to the program's text (the seventh form; the later family's looks); each row that meets fmt, with fmt's text TOLD by the authors' own Lean function (tested against real Go, not proved from fmt's source: count such statements apart). THE CARD IS WHAT COUNTS. Prove the row's statement (the work); the ties are given (YteajmkfmoocanaaDoorTie.lean); close each card by the builder's one call (the guide's Derived/Test/ToyasCard.lean, 'card_holds'). Laid BY PROGRAM, IN A SANDBOX (cutbox-door.mjs). By AI agents, Wed Nov 11 2026. No macro, syntax, notation, axiom, sorry.
-/
import Derived.Test.YteajmkfmoocanaaDoorRows
import GoSem.ClaimSeven
namespace Go.Proofs.YteajmkfmoocanaaDoor
namespace Rows

/-- THE TIED CARD OF 'assentlaw8.BufferRuns'. -/
def bufferRunsCard : Claim7 := { stood := { row := bufferRunsRow, standIns := [], harness := (true, "537460ca1b084db9180e813ef42ebb15c17f7b21bf13a73fd1750272afd7b78f"), looks := true }, kinds := [], alts := [], laidByText := true, laidKinds := [.handle, .sentinel, .sentinel, .sentinel, .sentinel, .sentinel, .sentinel, .sentinel, .sentinel, .sentinel, .sentinel], laidTests := true, laidLooks := .later }
def BufferRunsCardSaid : Prop := Claim7.holds Tryd.pinned (.plain (OpenSpec.ofChange bufferRunsSpec)) bufferRunsCard

/-- THE TIED CARD OF 'assentlaw8.BufferPlays'. -/
def bufferPlaysCard : Claim7 := { stood := { row := bufferPlaysRow, standIns := [], harness := (true, "537460ca1b084db9180e813ef42ebb15c17f7b21bf13a73fd1750272afd7b78f"), looks := true }, kinds := [], alts := [], laidByText := true, laidKinds := [.handle, .sentinel, .sentinel, .sentinel, .sentinel, .sentinel, .sentinel, .sentinel, .sentinel, .sentinel, .sentinel], laidTests := true, laidLooks := .later }
def BufferPlaysCardSaid : Prop := Claim7.holds Tryd.pinned (.plain (OpenSpec.ofChange bufferPlaysSpec)) bufferPlaysCard

/-- THE TIED CARD OF 'assentlaw8.BufferOrder'. -/
def bufferOrderCard : Claim7 := { stood := { row := bufferOrderRow, standIns := [], harness := (true, "537460ca1b084db9180e813ef42ebb15c17f7b21bf13a73fd1750272afd7b78f"), looks := true }, kinds := [], alts := [], laidByText := true, laidKinds := [.handle, .sentinel, .sentinel, .sentinel, .sentinel, .sentinel, .sentinel, .sentinel, .sentinel, .sentinel, .sentinel], laidTests := true, laidLooks := .later }
def BufferOrderCardSaid : Prop := Claim7.holds Tryd.pinned (.plain (OpenSpec.ofChange bufferOrderSpec)) bufferOrderCard

/-- THE TIED CARD OF 'assentlaw8.BufferBound'. -/
def bufferBoundCard : Claim7 := { stood := { row := bufferBoundRow, standIns := [], harness := (true, "537460ca1b084db9180e813ef42ebb15c17f7b21bf13a73fd1750272afd7b78f"), looks := true }, kinds := [], alts := [], laidByText := true, laidKinds := [.handle, .sentinel, .sentinel, .sentinel, .sentinel, .sentinel, .sentinel, .sentinel, .sentinel, .sentinel, .sentinel], laidTests := true, laidLooks := .later }
def BufferBoundCardSaid : Prop := Claim7.holds Tryd.pinned (.plain (OpenSpec.ofChange bufferBoundSpec)) bufferBoundCard

/-- THE TIED CARD OF 'assentlaw8.BufferNew'. -/
def bufferNewCard : Claim7 := { stood := { row := bufferNewRow, standIns := [], harness := (true, "537460ca1b084db9180e813ef42ebb15c17f7b21bf13a73fd1750272afd7b78f"), looks := true }, kinds := [], alts := [], laidByText := true, laidKinds := [.handle, .sentinel, .sentinel, .sentinel, .sentinel, .sentinel, .sentinel, .sentinel, .sentinel, .sentinel, .sentinel], laidTests := true, laidLooks := .later }
def BufferNewCardSaid : Prop := Claim7.holds Tryd.pinned (.plain (OpenSpec.ofChange bufferNewSpec)) bufferNewCard

/-- THE SECOND FORM's CARD OF 'assentlaw8.BufferRuns'. -/
def bufferRunsUptoCard : Claim7 := { stood := { row := bufferRunsUptoRow, standIns := [], harness := (true, "537460ca1b084db9180e813ef42ebb15c17f7b21bf13a73fd1750272afd7b78f"), looks := true }, kinds := [], alts := [], laidByText := true, laidKinds := [.handle, .sentinel, .sentinel, .sentinel, .sentinel, .sentinel, .sentinel, .sentinel, .sentinel, .sentinel, .sentinel], laidTests := true, laidLooks := .later }
def BufferRunsUptoCardSaid : Prop := Claim7.holds Tryd.pinned (.plain (OpenSpec.upto bufferRunsSpec)) bufferRunsUptoCard

/-- THE SECOND FORM's CARD OF 'assentlaw8.BufferPlays'. -/
def bufferPlaysUptoCard : Claim7 := { stood := { row := bufferPlaysUptoRow, standIns := [], harness := (true, "537460ca1b084db9180e813ef42ebb15c17f7b21bf13a73fd1750272afd7b78f"), looks := true }, kinds := [], alts := [], laidByText := true, laidKinds := [.handle, .sentinel, .sentinel, .sentinel, .sentinel, .sentinel, .sentinel, .sentinel, .sentinel, .sentinel, .sentinel], laidTests := true, laidLooks := .later }
def BufferPlaysUptoCardSaid : Prop := Claim7.holds Tryd.pinned (.plain (OpenSpec.upto bufferPlaysSpec)) bufferPlaysUptoCard

/-- THE SECOND FORM's CARD OF 'assentlaw8.BufferOrder'. -/
def bufferOrderUptoCard : Claim7 := { stood := { row := bufferOrderUptoRow, standIns := [], harness := (true, "537460ca1b084db9180e813ef42ebb15c17f7b21bf13a73fd1750272afd7b78f"), looks := true }, kinds := [], alts := [], laidByText := true, laidKinds := [.handle, .sentinel, .sentinel, .sentinel, .sentinel, .sentinel, .sentinel, .sentinel, .sentinel, .sentinel, .sentinel], laidTests := true, laidLooks := .later }
def BufferOrderUptoCardSaid : Prop := Claim7.holds Tryd.pinned (.plain (OpenSpec.upto bufferOrderSpec)) bufferOrderUptoCard

/-- THE SECOND FORM's CARD OF 'assentlaw8.BufferBound'. -/
def bufferBoundUptoCard : Claim7 := { stood := { row := bufferBoundUptoRow, standIns := [], harness := (true, "537460ca1b084db9180e813ef42ebb15c17f7b21bf13a73fd1750272afd7b78f"), looks := true }, kinds := [], alts := [], laidByText := true, laidKinds := [.handle, .sentinel, .sentinel, .sentinel, .sentinel, .sentinel, .sentinel, .sentinel, .sentinel, .sentinel, .sentinel], laidTests := true, laidLooks := .later }
def BufferBoundUptoCardSaid : Prop := Claim7.holds Tryd.pinned (.plain (OpenSpec.upto bufferBoundSpec)) bufferBoundUptoCard

/-- THE SECOND FORM's CARD OF 'assentlaw8.BufferNew'. -/
def bufferNewUptoCard : Claim7 := { stood := { row := bufferNewUptoRow, standIns := [], harness := (true, "537460ca1b084db9180e813ef42ebb15c17f7b21bf13a73fd1750272afd7b78f"), looks := true }, kinds := [], alts := [], laidByText := true, laidKinds := [.handle, .sentinel, .sentinel, .sentinel, .sentinel, .sentinel, .sentinel, .sentinel, .sentinel, .sentinel, .sentinel], laidTests := true, laidLooks := .later }
def BufferNewUptoCardSaid : Prop := Claim7.holds Tryd.pinned (.plain (OpenSpec.upto bufferNewSpec)) bufferNewUptoCard
end Rows
end Go.Proofs.YteajmkfmoocanaaDoor
