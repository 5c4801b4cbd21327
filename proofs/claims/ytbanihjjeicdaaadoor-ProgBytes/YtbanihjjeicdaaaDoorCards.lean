/-
  DERIVED. GIVEN WITH THE SEED: THE CARDS: each row of YtbanihjjeicdaaaDoorRows.lean that lists a variable, with what it lists TIED to the program's text (the seventh form; the later family's looks); each row that meets fmt, with fmt's text TOLD by the authors' own Lean function (tested against real Go, not proved from fmt's source: count such statements apart). THE CARD IS WHAT COUNTS. Prove the row's statement (the work); the ties are given (YtbanihjjeicdaaaDoorTie.lean); close each card by the builder's one call (the guide's Derived/Test/ToyasCard.lean, 'card_holds'). Laid BY PROGRAM, IN A SANDBOX (cutbox-door.mjs). By AI agents, Wed Nov 11 2026. No macro, syntax, notation, axiom, sorry.
-/
import Derived.Test.YtbanihjjeicdaaaDoorRows
import GoSem.ClaimSeven
namespace Go.Proofs.YtbanihjjeicdaaaDoor
namespace Rows

/-- THE TIED CARD OF 'assentlaw9.ProgRuns'. -/
def progRunsCard : Claim7 := { stood := { row := progRunsRow, standIns := [], harness := (true, "171cb53efc957074f2bbde5c1621f75babc15c5baff11048bd9e94847549718f"), looks := true }, kinds := [], alts := [], laidByText := true, laidKinds := [.handle, .sentinel, .sentinel, .sentinel, .sentinel, .sentinel, .sentinel, .sentinel, .sentinel, .sentinel, .sentinel], laidTests := true, laidLooks := .later }
def ProgRunsCardSaid : Prop := Claim7.holds Tryd.pinned (.plain (OpenSpec.ofChange progRunsSpec)) progRunsCard

/-- THE TIED CARD OF 'assentlaw9.ProgWrites'. -/
def progWritesCard : Claim7 := { stood := { row := progWritesRow, standIns := [], harness := (true, "171cb53efc957074f2bbde5c1621f75babc15c5baff11048bd9e94847549718f"), looks := true }, kinds := [], alts := [], laidByText := true, laidKinds := [.handle, .sentinel, .sentinel, .sentinel, .sentinel, .sentinel, .sentinel, .sentinel, .sentinel, .sentinel, .sentinel], laidTests := true, laidLooks := .later }
def ProgWritesCardSaid : Prop := Claim7.holds Tryd.pinned (.plain (OpenSpec.ofChange progWritesSpec)) progWritesCard

/-- THE TIED CARD OF 'assentlaw9.ProgBack'. -/
def progBackCard : Claim7 := { stood := { row := progBackRow, standIns := [], harness := (true, "171cb53efc957074f2bbde5c1621f75babc15c5baff11048bd9e94847549718f"), looks := true }, kinds := [], alts := [], laidByText := true, laidKinds := [.handle, .sentinel, .sentinel, .sentinel, .sentinel, .sentinel, .sentinel, .sentinel, .sentinel, .sentinel, .sentinel], laidTests := true, laidLooks := .later }
def ProgBackCardSaid : Prop := Claim7.holds Tryd.pinned (.plain (OpenSpec.ofChange progBackSpec)) progBackCard

/-- THE TIED CARD OF 'assentlaw9.ProgNames'. -/
def progNamesCard : Claim7 := { stood := { row := progNamesRow, standIns := [], harness := (true, "171cb53efc957074f2bbde5c1621f75babc15c5baff11048bd9e94847549718f"), looks := true }, kinds := [], alts := [], laidByText := true, laidKinds := [.handle, .sentinel, .sentinel, .sentinel, .sentinel, .sentinel, .sentinel, .sentinel, .sentinel, .sentinel, .sentinel], laidTests := true, laidLooks := .later }
def ProgNamesCardSaid : Prop := Claim7.holds Tryd.pinned (.plain (OpenSpec.ofChange progNamesSpec)) progNamesCard

/-- THE TIED CARD OF 'assentlaw9.ProgBytes'. -/
def progBytesCard : Claim7 := { stood := { row := progBytesRow, standIns := [], harness := (true, "171cb53efc957074f2bbde5c1621f75babc15c5baff11048bd9e94847549718f"), looks := true }, kinds := [], alts := [], laidByText := true, laidKinds := [.handle, .sentinel, .sentinel, .sentinel, .sentinel, .sentinel, .sentinel, .sentinel, .sentinel, .sentinel, .sentinel], laidTests := true, laidLooks := .later }
def ProgBytesCardSaid : Prop := Claim7.holds Tryd.pinned (.plain (OpenSpec.ofChange progBytesSpec)) progBytesCard

/-- THE TIED CARD OF 'assentlaw9.ProgEmpty'. -/
def progEmptyCard : Claim7 := { stood := { row := progEmptyRow, standIns := [], harness := (true, "171cb53efc957074f2bbde5c1621f75babc15c5baff11048bd9e94847549718f"), looks := true }, kinds := [], alts := [], laidByText := true, laidKinds := [.handle, .sentinel, .sentinel, .sentinel, .sentinel, .sentinel, .sentinel, .sentinel, .sentinel, .sentinel, .sentinel], laidTests := true, laidLooks := .later }
def ProgEmptyCardSaid : Prop := Claim7.holds Tryd.pinned (.plain (OpenSpec.ofChange progEmptySpec)) progEmptyCard

/-- THE SECOND FORM's CARD OF 'assentlaw9.ProgRuns'. -/
def progRunsUptoCard : Claim7 := { stood := { row := progRunsUptoRow, standIns := [], harness := (true, "171cb53efc957074f2bbde5c1621f75babc15c5baff11048bd9e94847549718f"), looks := true }, kinds := [], alts := [], laidByText := true, laidKinds := [.handle, .sentinel, .sentinel, .sentinel, .sentinel, .sentinel, .sentinel, .sentinel, .sentinel, .sentinel, .sentinel], laidTests := true, laidLooks := .later }
def ProgRunsUptoCardSaid : Prop := Claim7.holds Tryd.pinned (.plain (OpenSpec.upto progRunsSpec)) progRunsUptoCard

/-- THE SECOND FORM's CARD OF 'assentlaw9.ProgWrites'. -/
def progWritesUptoCard : Claim7 := { stood := { row := progWritesUptoRow, standIns := [], harness := (true, "171cb53efc957074f2bbde5c1621f75babc15c5baff11048bd9e94847549718f"), looks := true }, kinds := [], alts := [], laidByText := true, laidKinds := [.handle, .sentinel, .sentinel, .sentinel, .sentinel, .sentinel, .sentinel, .sentinel, .sentinel, .sentinel, .sentinel], laidTests := true, laidLooks := .later }
def ProgWritesUptoCardSaid : Prop := Claim7.holds Tryd.pinned (.plain (OpenSpec.upto progWritesSpec)) progWritesUptoCard

/-- THE SECOND FORM's CARD OF 'assentlaw9.ProgBack'. -/
def progBackUptoCard : Claim7 := { stood := { row := progBackUptoRow, standIns := [], harness := (true, "171cb53efc957074f2bbde5c1621f75babc15c5baff11048bd9e94847549718f"), looks := true }, kinds := [], alts := [], laidByText := true, laidKinds := [.handle, .sentinel, .sentinel, .sentinel, .sentinel, .sentinel, .sentinel, .sentinel, .sentinel, .sentinel, .sentinel], laidTests := true, laidLooks := .later }
def ProgBackUptoCardSaid : Prop := Claim7.holds Tryd.pinned (.plain (OpenSpec.upto progBackSpec)) progBackUptoCard

/-- THE SECOND FORM's CARD OF 'assentlaw9.ProgNames'. -/
def progNamesUptoCard : Claim7 := { stood := { row := progNamesUptoRow, standIns := [], harness := (true, "171cb53efc957074f2bbde5c1621f75babc15c5baff11048bd9e94847549718f"), looks := true }, kinds := [], alts := [], laidByText := true, laidKinds := [.handle, .sentinel, .sentinel, .sentinel, .sentinel, .sentinel, .sentinel, .sentinel, .sentinel, .sentinel, .sentinel], laidTests := true, laidLooks := .later }
def ProgNamesUptoCardSaid : Prop := Claim7.holds Tryd.pinned (.plain (OpenSpec.upto progNamesSpec)) progNamesUptoCard

/-- THE SECOND FORM's CARD OF 'assentlaw9.ProgBytes'. -/
def progBytesUptoCard : Claim7 := { stood := { row := progBytesUptoRow, standIns := [], harness := (true, "171cb53efc957074f2bbde5c1621f75babc15c5baff11048bd9e94847549718f"), looks := true }, kinds := [], alts := [], laidByText := true, laidKinds := [.handle, .sentinel, .sentinel, .sentinel, .sentinel, .sentinel, .sentinel, .sentinel, .sentinel, .sentinel, .sentinel], laidTests := true, laidLooks := .later }
def ProgBytesUptoCardSaid : Prop := Claim7.holds Tryd.pinned (.plain (OpenSpec.upto progBytesSpec)) progBytesUptoCard

/-- THE SECOND FORM's CARD OF 'assentlaw9.ProgEmpty'. -/
def progEmptyUptoCard : Claim7 := { stood := { row := progEmptyUptoRow, standIns := [], harness := (true, "171cb53efc957074f2bbde5c1621f75babc15c5baff11048bd9e94847549718f"), looks := true }, kinds := [], alts := [], laidByText := true, laidKinds := [.handle, .sentinel, .sentinel, .sentinel, .sentinel, .sentinel, .sentinel, .sentinel, .sentinel, .sentinel, .sentinel], laidTests := true, laidLooks := .later }
def ProgEmptyUptoCardSaid : Prop := Claim7.holds Tryd.pinned (.plain (OpenSpec.upto progEmptySpec)) progEmptyUptoCard
end Rows
end Go.Proofs.YtbanihjjeicdaaaDoor
