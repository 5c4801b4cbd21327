/-
  DERIVED. GIVEN WITH THE SEED: THE CARDS: each row of YtgaajnefegjoeaaDoorRows.lean that lists a variable, with what it lists TIED to the program's text (the seventh form; the later family's looks); each row that meets fmt, with fmt's text TOLD by the authors' own Lean function (tested against real Go, not proved from fmt's source: count such statements apart). THE CARD IS WHAT COUNTS. Prove the row's statement (the work); the ties are given (YtgaajnefegjoeaaDoorTie.lean); close each card by the builder's one call (the guide's Derived/Test/ToyasCard.lean, 'card_holds'). Laid BY PROGRAM, IN A SANDBOX (cutbox-door.mjs). By AI agents, Wed Nov 11 2026. No macro, syntax, notation, axiom, sorry.
-/
import Derived.Test.YtgaajnefegjoeaaDoorRows
import GoSem.ClaimSeven
namespace Go.Proofs.YtgaajnefegjoeaaDoor
namespace Rows

/-- THE TIED CARD OF 'assentlaw1.FaultRuns'. -/
def faultRunsCard : Claim7 := { stood := { row := faultRunsRow, standIns := [], harness := (true, "3681914bba194b08063a2d74d2cfca9f63103eaf21a01ea1956dc6d1780cb7a3"), looks := true }, kinds := [], alts := [], laidByText := true, laidKinds := [.handle, .sentinel, .sentinel], laidTests := true, laidLooks := .later }
def FaultRunsCardSaid : Prop := Claim7.holds Tryd.pinned (.plain (OpenSpec.ofChange faultRunsSpec)) faultRunsCard

/-- THE TIED CARD OF 'assentlaw1.FaultTells'. -/
def faultTellsCard : Claim7 := { stood := { row := faultTellsRow, standIns := [], harness := (true, "3681914bba194b08063a2d74d2cfca9f63103eaf21a01ea1956dc6d1780cb7a3"), looks := true }, kinds := [], alts := [], laidByText := true, laidKinds := [.handle, .sentinel, .sentinel, .sentinel, .sentinel, .sentinel, .sentinel, .sentinel, .sentinel, .sentinel, .sentinel], laidTests := true, laidLooks := .later }
def FaultTellsCardSaid : Prop := Claim7.holds Tryd.pinned (.plain (OpenSpec.ofChange faultTellsSpec)) faultTellsCard

/-- THE TIED CARD OF 'assentlaw1.FaultHides'. -/
def faultHidesCard : Claim7 := { stood := { row := faultHidesRow, standIns := [], harness := (true, "3681914bba194b08063a2d74d2cfca9f63103eaf21a01ea1956dc6d1780cb7a3"), looks := true }, kinds := [], alts := [], laidByText := true, laidKinds := [.handle, .sentinel, .sentinel, .sentinel, .sentinel, .sentinel, .sentinel, .sentinel, .sentinel, .sentinel, .sentinel], laidTests := true, laidLooks := .later }
def FaultHidesCardSaid : Prop := Claim7.holds Tryd.pinned (.plain (OpenSpec.ofChange faultHidesSpec)) faultHidesCard

/-- THE TIED CARD OF 'assentlaw1.FaultAny'. -/
def faultAnyCard : Claim7 := { stood := { row := faultAnyRow, standIns := [], harness := (true, "3681914bba194b08063a2d74d2cfca9f63103eaf21a01ea1956dc6d1780cb7a3"), looks := true }, kinds := [], alts := [], laidByText := true, laidKinds := [.handle, .sentinel, .sentinel, .sentinel, .sentinel, .sentinel, .sentinel, .sentinel, .sentinel, .sentinel, .sentinel], laidTests := true, laidLooks := .later }
def FaultAnyCardSaid : Prop := Claim7.holds Tryd.pinned (.plain (OpenSpec.ofChange faultAnySpec)) faultAnyCard

/-- THE TIED CARD OF 'assentlaw1.FaultFinds'. -/
def faultFindsCard : Claim7 := { stood := { row := faultFindsRow, standIns := [], harness := (true, "3681914bba194b08063a2d74d2cfca9f63103eaf21a01ea1956dc6d1780cb7a3"), looks := true }, kinds := [], alts := [], laidByText := true, laidKinds := [.handle, .sentinel, .sentinel, .sentinel, .sentinel, .sentinel, .sentinel, .sentinel, .sentinel, .sentinel, .sentinel], laidTests := true, laidLooks := .later }
def FaultFindsCardSaid : Prop := Claim7.holds Tryd.pinned (.plain (OpenSpec.ofChange faultFindsSpec)) faultFindsCard

/-- THE TIED CARD OF 'assentlaw1.FaultNil'. -/
def faultNilCard : Claim7 := { stood := { row := faultNilRow, standIns := [], harness := (true, "3681914bba194b08063a2d74d2cfca9f63103eaf21a01ea1956dc6d1780cb7a3"), looks := true }, kinds := [], alts := [], laidByText := true, laidKinds := [.handle, .sentinel, .sentinel], laidTests := true, laidLooks := .later }
def FaultNilCardSaid : Prop := Claim7.holds Tryd.pinned (.plain (OpenSpec.ofChange faultNilSpec)) faultNilCard

/-- THE SECOND FORM's CARD OF 'assentlaw1.FaultRuns'. -/
def faultRunsUptoCard : Claim7 := { stood := { row := faultRunsUptoRow, standIns := [], harness := (true, "3681914bba194b08063a2d74d2cfca9f63103eaf21a01ea1956dc6d1780cb7a3"), looks := true }, kinds := [], alts := [], laidByText := true, laidKinds := [.handle, .sentinel, .sentinel], laidTests := true, laidLooks := .later }
def FaultRunsUptoCardSaid : Prop := Claim7.holds Tryd.pinned (.plain (OpenSpec.upto faultRunsSpec)) faultRunsUptoCard

/-- THE SECOND FORM's CARD OF 'assentlaw1.FaultTells'. -/
def faultTellsUptoCard : Claim7 := { stood := { row := faultTellsUptoRow, standIns := [], harness := (true, "3681914bba194b08063a2d74d2cfca9f63103eaf21a01ea1956dc6d1780cb7a3"), looks := true }, kinds := [], alts := [], laidByText := true, laidKinds := [.handle, .sentinel, .sentinel, .sentinel, .sentinel, .sentinel, .sentinel, .sentinel, .sentinel, .sentinel, .sentinel], laidTests := true, laidLooks := .later }
def FaultTellsUptoCardSaid : Prop := Claim7.holds Tryd.pinned (.plain (OpenSpec.upto faultTellsSpec)) faultTellsUptoCard

/-- THE SECOND FORM's CARD OF 'assentlaw1.FaultHides'. -/
def faultHidesUptoCard : Claim7 := { stood := { row := faultHidesUptoRow, standIns := [], harness := (true, "3681914bba194b08063a2d74d2cfca9f63103eaf21a01ea1956dc6d1780cb7a3"), looks := true }, kinds := [], alts := [], laidByText := true, laidKinds := [.handle, .sentinel, .sentinel, .sentinel, .sentinel, .sentinel, .sentinel, .sentinel, .sentinel, .sentinel, .sentinel], laidTests := true, laidLooks := .later }
def FaultHidesUptoCardSaid : Prop := Claim7.holds Tryd.pinned (.plain (OpenSpec.upto faultHidesSpec)) faultHidesUptoCard

/-- THE SECOND FORM's CARD OF 'assentlaw1.FaultAny'. -/
def faultAnyUptoCard : Claim7 := { stood := { row := faultAnyUptoRow, standIns := [], harness := (true, "3681914bba194b08063a2d74d2cfca9f63103eaf21a01ea1956dc6d1780cb7a3"), looks := true }, kinds := [], alts := [], laidByText := true, laidKinds := [.handle, .sentinel, .sentinel, .sentinel, .sentinel, .sentinel, .sentinel, .sentinel, .sentinel, .sentinel, .sentinel], laidTests := true, laidLooks := .later }
def FaultAnyUptoCardSaid : Prop := Claim7.holds Tryd.pinned (.plain (OpenSpec.upto faultAnySpec)) faultAnyUptoCard

/-- THE SECOND FORM's CARD OF 'assentlaw1.FaultFinds'. -/
def faultFindsUptoCard : Claim7 := { stood := { row := faultFindsUptoRow, standIns := [], harness := (true, "3681914bba194b08063a2d74d2cfca9f63103eaf21a01ea1956dc6d1780cb7a3"), looks := true }, kinds := [], alts := [], laidByText := true, laidKinds := [.handle, .sentinel, .sentinel, .sentinel, .sentinel, .sentinel, .sentinel, .sentinel, .sentinel, .sentinel, .sentinel], laidTests := true, laidLooks := .later }
def FaultFindsUptoCardSaid : Prop := Claim7.holds Tryd.pinned (.plain (OpenSpec.upto faultFindsSpec)) faultFindsUptoCard

/-- THE SECOND FORM's CARD OF 'assentlaw1.FaultNil'. -/
def faultNilUptoCard : Claim7 := { stood := { row := faultNilUptoRow, standIns := [], harness := (true, "3681914bba194b08063a2d74d2cfca9f63103eaf21a01ea1956dc6d1780cb7a3"), looks := true }, kinds := [], alts := [], laidByText := true, laidKinds := [.handle, .sentinel, .sentinel], laidTests := true, laidLooks := .later }
def FaultNilUptoCardSaid : Prop := Claim7.holds Tryd.pinned (.plain (OpenSpec.upto faultNilSpec)) faultNilUptoCard
end Rows
end Go.Proofs.YtgaajnefegjoeaaDoor
