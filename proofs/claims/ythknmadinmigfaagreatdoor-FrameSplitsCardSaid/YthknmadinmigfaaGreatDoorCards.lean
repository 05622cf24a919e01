/-
  DERIVED. GIVEN WITH THE SEED: THE CARDS: each row of YthknmadinmigfaaGreatDoorRows.lean that lists a variable, with what it lists TIED to the program's text (the seventh form; the later family's looks); each row that meets fmt, with fmt's text TOLD by the authors' own Lean function (tested against real Go, not proved from fmt's source: count such statements apart). THE CARD IS WHAT COUNTS. Prove the row's statement (the work); the ties are given (YthknmadinmigfaaGreatDoorTie.lean); close each card by the builder's one call (the guide's Derived/Test/ToyasCard.lean, 'card_holds'). Laid BY PROGRAM, IN A SANDBOX (cutbox-door.mjs). By AI agents, Wed Nov 11 2026. No macro, syntax, notation, axiom, sorry.
-/
import Derived.Test.YthknmadinmigfaaGreatDoorRows
import GoSem.ClaimSeven
namespace Go.Proofs.YthknmadinmigfaaGreatDoor
namespace Rows

/-- THE TIED CARD OF 'cosmaclaw20.MachineFrozen'. -/
def machineFrozenCard : Claim7 := { stood := { row := machineFrozenRow, standIns := [], harness := (true, "0c7421808903efd7ae21ed06082d2c07238e6c494db1f1ac52e2b6d969319522"), looks := true }, kinds := [], alts := [], laidByText := true, laidKinds := [.data, .data], laidTests := true, laidLooks := .later }
def MachineFrozenCardSaid : Prop := Claim7.holds Tryz.pinned (.plain (OpenSpec.ofChange machineFrozenSpec)) machineFrozenCard

/-- THE TIED CARD OF 'cosmaclaw20.MachineKeys'. -/
def machineKeysCard : Claim7 := { stood := { row := machineKeysRow, standIns := [], harness := (true, "0c7421808903efd7ae21ed06082d2c07238e6c494db1f1ac52e2b6d969319522"), looks := true }, kinds := [], alts := [], laidByText := true, laidKinds := [.data, .data], laidTests := true, laidLooks := .later }
def MachineKeysCardSaid : Prop := Claim7.holds Tryz.pinned (.plain (OpenSpec.ofChange machineKeysSpec)) machineKeysCard

/-- THE TIED CARD OF 'cosmaclaw21.FrameRange'. -/
def frameRangeCard : Claim7 := { stood := { row := frameRangeRow, standIns := [], harness := (true, "0c7421808903efd7ae21ed06082d2c07238e6c494db1f1ac52e2b6d969319522"), looks := true }, kinds := [], alts := [], laidByText := true, laidKinds := [.data, .data], laidTests := true, laidLooks := .later }
def FrameRangeCardSaid : Prop := Claim7.holds Tryz.pinned (.plain (OpenSpec.ofChange frameRangeSpec)) frameRangeCard

/-- THE TIED CARD OF 'cosmaclaw21.FrameSplits'. -/
def frameSplitsCard : Claim7 := { stood := { row := frameSplitsRow, standIns := [], harness := (true, "0c7421808903efd7ae21ed06082d2c07238e6c494db1f1ac52e2b6d969319522"), looks := true }, kinds := [], alts := [], laidByText := true, laidKinds := [.data, .data], laidTests := true, laidLooks := .later }
def FrameSplitsCardSaid : Prop := Claim7.holds Tryz.pinned (.plain (OpenSpec.ofChange frameSplitsSpec)) frameSplitsCard

/-- THE TIED CARD OF 'cosmaclaw21.FrameStops'. -/
def frameStopsCard : Claim7 := { stood := { row := frameStopsRow, standIns := [], harness := (true, "0c7421808903efd7ae21ed06082d2c07238e6c494db1f1ac52e2b6d969319522"), looks := true }, kinds := [], alts := [], laidByText := true, laidKinds := [.data, .data], laidTests := true, laidLooks := .later }
def FrameStopsCardSaid : Prop := Claim7.holds Tryz.pinned (.plain (OpenSpec.ofChange frameStopsSpec)) frameStopsCard

/-- THE SECOND FORM's CARD OF 'cosmaclaw20.MachineFrozen'. -/
def machineFrozenUptoCard : Claim7 := { stood := { row := machineFrozenUptoRow, standIns := [], harness := (true, "0c7421808903efd7ae21ed06082d2c07238e6c494db1f1ac52e2b6d969319522"), looks := true }, kinds := [], alts := [], laidByText := true, laidKinds := [.data, .data], laidTests := true, laidLooks := .later }
def MachineFrozenUptoCardSaid : Prop := Claim7.holds Tryz.pinned (.plain (OpenSpec.upto machineFrozenSpec)) machineFrozenUptoCard

/-- THE SECOND FORM's CARD OF 'cosmaclaw20.MachineKeys'. -/
def machineKeysUptoCard : Claim7 := { stood := { row := machineKeysUptoRow, standIns := [], harness := (true, "0c7421808903efd7ae21ed06082d2c07238e6c494db1f1ac52e2b6d969319522"), looks := true }, kinds := [], alts := [], laidByText := true, laidKinds := [.data, .data], laidTests := true, laidLooks := .later }
def MachineKeysUptoCardSaid : Prop := Claim7.holds Tryz.pinned (.plain (OpenSpec.upto machineKeysSpec)) machineKeysUptoCard

/-- THE SECOND FORM's CARD OF 'cosmaclaw21.FrameRange'. -/
def frameRangeUptoCard : Claim7 := { stood := { row := frameRangeUptoRow, standIns := [], harness := (true, "0c7421808903efd7ae21ed06082d2c07238e6c494db1f1ac52e2b6d969319522"), looks := true }, kinds := [], alts := [], laidByText := true, laidKinds := [.data, .data], laidTests := true, laidLooks := .later }
def FrameRangeUptoCardSaid : Prop := Claim7.holds Tryz.pinned (.plain (OpenSpec.upto frameRangeSpec)) frameRangeUptoCard

/-- THE SECOND FORM's CARD OF 'cosmaclaw21.FrameSplits'. -/
def frameSplitsUptoCard : Claim7 := { stood := { row := frameSplitsUptoRow, standIns := [], harness := (true, "0c7421808903efd7ae21ed06082d2c07238e6c494db1f1ac52e2b6d969319522"), looks := true }, kinds := [], alts := [], laidByText := true, laidKinds := [.data, .data], laidTests := true, laidLooks := .later }
def FrameSplitsUptoCardSaid : Prop := Claim7.holds Tryz.pinned (.plain (OpenSpec.upto frameSplitsSpec)) frameSplitsUptoCard

/-- THE SECOND FORM's CARD OF 'cosmaclaw21.FrameStops'. -/
def frameStopsUptoCard : Claim7 := { stood := { row := frameStopsUptoRow, standIns := [], harness := (true, "0c7421808903efd7ae21ed06082d2c07238e6c494db1f1ac52e2b6d969319522"), looks := true }, kinds := [], alts := [], laidByText := true, laidKinds := [.data, .data], laidTests := true, laidLooks := .later }
def FrameStopsUptoCardSaid : Prop := Claim7.holds Tryz.pinned (.plain (OpenSpec.upto frameStopsSpec)) frameStopsUptoCard
end Rows
end Go.Proofs.YthknmadinmigfaaGreatDoor
