/-
  DERIVED. GIVEN WITH THE SEED: THE CARDS: each row of YtbljopjjmlacpaaDoorRows.lean that lists a variable, with what it lists TIED to the program's text (the seventh form; the later family's looks); each row that meets fmt, with fmt's text TOLD by the authors' own Lean function (tested against real Go, not proved from fmt's source: count such statements apart). THE CARD IS WHAT COUNTS. Prove the row's statement (the work); the ties are given (YtbljopjjmlacpaaDoorTie.lean); close each card by the builder's one call (the guide's Derived/Test/ToyasCard.lean, 'card_holds'). Laid BY PROGRAM, IN A SANDBOX (cutbox-door.mjs). By AI agents, Wed Nov 11 2026. No macro, syntax, notation, axiom, sorry.
-/
import Derived.Test.YtbljopjjmlacpaaDoorRows
import GoSem.ClaimSeven
namespace Go.Proofs.YtbljopjjmlacpaaDoor
namespace Rows

/-- THE TIED CARD OF 'assentlaw7.MshrRuns'. -/
def mshrRunsCard : Claim7 := { stood := { row := mshrRunsRow, standIns := [], harness := (true, "70f565ddd7f3905d11f9983bbbf66c6fd148cfd9518a2ae3c72115ded94abe4c"), looks := true }, kinds := [], alts := [], laidByText := true, laidKinds := [.handle, .sentinel, .sentinel, .sentinel, .sentinel, .sentinel, .sentinel, .sentinel, .sentinel, .sentinel, .sentinel], laidTests := true, laidLooks := .later }
def MshrRunsCardSaid : Prop := Claim7.holds Tryd.pinned (.plain (OpenSpec.ofChange mshrRunsSpec)) mshrRunsCard

/-- THE TIED CARD OF 'assentlaw7.MshrPlays'. -/
def mshrPlaysCard : Claim7 := { stood := { row := mshrPlaysRow, standIns := [], harness := (true, "70f565ddd7f3905d11f9983bbbf66c6fd148cfd9518a2ae3c72115ded94abe4c"), looks := true }, kinds := [], alts := [], laidByText := true, laidKinds := [.handle, .sentinel, .sentinel, .sentinel, .sentinel, .sentinel, .sentinel, .sentinel, .sentinel, .sentinel, .sentinel], laidTests := true, laidLooks := .later }
def MshrPlaysCardSaid : Prop := Claim7.holds Tryd.pinned (.plain (OpenSpec.ofChange mshrPlaysSpec)) mshrPlaysCard

/-- THE TIED CARD OF 'assentlaw7.MshrBound'. -/
def mshrBoundCard : Claim7 := { stood := { row := mshrBoundRow, standIns := [], harness := (true, "70f565ddd7f3905d11f9983bbbf66c6fd148cfd9518a2ae3c72115ded94abe4c"), looks := true }, kinds := [], alts := [], laidByText := true, laidKinds := [.handle, .sentinel, .sentinel, .sentinel, .sentinel, .sentinel, .sentinel, .sentinel, .sentinel, .sentinel, .sentinel], laidTests := true, laidLooks := .later }
def MshrBoundCardSaid : Prop := Claim7.holds Tryd.pinned (.plain (OpenSpec.ofChange mshrBoundSpec)) mshrBoundCard

/-- THE TIED CARD OF 'assentlaw7.MshrKinds'. -/
def mshrKindsCard : Claim7 := { stood := { row := mshrKindsRow, standIns := [], harness := (true, "70f565ddd7f3905d11f9983bbbf66c6fd148cfd9518a2ae3c72115ded94abe4c"), looks := true }, kinds := [], alts := [], laidByText := true, laidKinds := [.handle, .sentinel, .sentinel, .sentinel, .sentinel, .sentinel, .sentinel, .sentinel, .sentinel, .sentinel, .sentinel], laidTests := true, laidLooks := .later }
def MshrKindsCardSaid : Prop := Claim7.holds Tryd.pinned (.plain (OpenSpec.ofChange mshrKindsSpec)) mshrKindsCard

/-- THE TIED CARD OF 'assentlaw7.MshrFull'. -/
def mshrFullCard : Claim7 := { stood := { row := mshrFullRow, standIns := [], harness := (true, "70f565ddd7f3905d11f9983bbbf66c6fd148cfd9518a2ae3c72115ded94abe4c"), looks := true }, kinds := [], alts := [], laidByText := true, laidKinds := [.handle, .sentinel, .sentinel, .sentinel, .sentinel, .sentinel, .sentinel, .sentinel, .sentinel, .sentinel, .sentinel], laidTests := true, laidLooks := .later }
def MshrFullCardSaid : Prop := Claim7.holds Tryd.pinned (.plain (OpenSpec.ofChange mshrFullSpec)) mshrFullCard

/-- THE SECOND FORM's CARD OF 'assentlaw7.MshrRuns'. -/
def mshrRunsUptoCard : Claim7 := { stood := { row := mshrRunsUptoRow, standIns := [], harness := (true, "70f565ddd7f3905d11f9983bbbf66c6fd148cfd9518a2ae3c72115ded94abe4c"), looks := true }, kinds := [], alts := [], laidByText := true, laidKinds := [.handle, .sentinel, .sentinel, .sentinel, .sentinel, .sentinel, .sentinel, .sentinel, .sentinel, .sentinel, .sentinel], laidTests := true, laidLooks := .later }
def MshrRunsUptoCardSaid : Prop := Claim7.holds Tryd.pinned (.plain (OpenSpec.upto mshrRunsSpec)) mshrRunsUptoCard

/-- THE SECOND FORM's CARD OF 'assentlaw7.MshrPlays'. -/
def mshrPlaysUptoCard : Claim7 := { stood := { row := mshrPlaysUptoRow, standIns := [], harness := (true, "70f565ddd7f3905d11f9983bbbf66c6fd148cfd9518a2ae3c72115ded94abe4c"), looks := true }, kinds := [], alts := [], laidByText := true, laidKinds := [.handle, .sentinel, .sentinel, .sentinel, .sentinel, .sentinel, .sentinel, .sentinel, .sentinel, .sentinel, .sentinel], laidTests := true, laidLooks := .later }
def MshrPlaysUptoCardSaid : Prop := Claim7.holds Tryd.pinned (.plain (OpenSpec.upto mshrPlaysSpec)) mshrPlaysUptoCard

/-- THE SECOND FORM's CARD OF 'assentlaw7.MshrBound'. -/
def mshrBoundUptoCard : Claim7 := { stood := { row := mshrBoundUptoRow, standIns := [], harness := (true, "70f565ddd7f3905d11f9983bbbf66c6fd148cfd9518a2ae3c72115ded94abe4c"), looks := true }, kinds := [], alts := [], laidByText := true, laidKinds := [.handle, .sentinel, .sentinel, .sentinel, .sentinel, .sentinel, .sentinel, .sentinel, .sentinel, .sentinel, .sentinel], laidTests := true, laidLooks := .later }
def MshrBoundUptoCardSaid : Prop := Claim7.holds Tryd.pinned (.plain (OpenSpec.upto mshrBoundSpec)) mshrBoundUptoCard

/-- THE SECOND FORM's CARD OF 'assentlaw7.MshrKinds'. -/
def mshrKindsUptoCard : Claim7 := { stood := { row := mshrKindsUptoRow, standIns := [], harness := (true, "70f565ddd7f3905d11f9983bbbf66c6fd148cfd9518a2ae3c72115ded94abe4c"), looks := true }, kinds := [], alts := [], laidByText := true, laidKinds := [.handle, .sentinel, .sentinel, .sentinel, .sentinel, .sentinel, .sentinel, .sentinel, .sentinel, .sentinel, .sentinel], laidTests := true, laidLooks := .later }
def MshrKindsUptoCardSaid : Prop := Claim7.holds Tryd.pinned (.plain (OpenSpec.upto mshrKindsSpec)) mshrKindsUptoCard

/-- THE SECOND FORM's CARD OF 'assentlaw7.MshrFull'. -/
def mshrFullUptoCard : Claim7 := { stood := { row := mshrFullUptoRow, standIns := [], harness := (true, "70f565ddd7f3905d11f9983bbbf66c6fd148cfd9518a2ae3c72115ded94abe4c"), looks := true }, kinds := [], alts := [], laidByText := true, laidKinds := [.handle, .sentinel, .sentinel, .sentinel, .sentinel, .sentinel, .sentinel, .sentinel, .sentinel, .sentinel, .sentinel], laidTests := true, laidLooks := .later }
def MshrFullUptoCardSaid : Prop := Claim7.holds Tryd.pinned (.plain (OpenSpec.upto mshrFullSpec)) mshrFullUptoCard
end Rows
end Go.Proofs.YtbljopjjmlacpaaDoor
