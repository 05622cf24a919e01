/-
  DERIVED. GIVEN WITH THE SEED: THE CARDS: each row of YtcjldabaekbdlaaGreatDoorRows.lean that lists a variable, with what it lists TIED to the program's text (the seventh form; the later family's looks); each row that meets fmt, with fmt's text TOLD by the authors' own Lean function (tested against real Go, not proved from fmt's source: count such statements apart). THE CARD IS WHAT COUNTS. Prove the row's statement (the work); the ties are given (YtcjldabaekbdlaaGreatDoorTie.lean); close each card by the builder's one call (the guide's Derived/Test/ToyasCard.lean, 'card_holds'). Laid BY PROGRAM, IN A SANDBOX (cutbox-door.mjs). By AI agents, Wed Nov 11 2026. No macro, syntax, notation, axiom, sorry.
-/
import Derived.Test.YtcjldabaekbdlaaGreatDoorRows
import GoSem.ClaimSeven
namespace Go.Proofs.YtcjldabaekbdlaaGreatDoor
namespace Rows

/-- THE TIED CARD OF 'cosmaclaw19.CpuMatchesReference'. -/
def cpuMatchesReferenceCard : Claim7 := { stood := { row := cpuMatchesReferenceRow, standIns := [], harness := (true, "91c3ea19d0e59641000aabf3d6596ad46c449b2aeec26ec97f7d938ee7fa39db"), looks := true }, kinds := [], alts := [], laidByText := true, laidKinds := [.data, .data], laidTests := true, laidLooks := .later }
def CpuMatchesReferenceCardSaid : Prop := Claim7.holds Tryz.pinned (.plain (OpenSpec.ofChange cpuMatchesReferenceSpec)) cpuMatchesReferenceCard

/-- THE TIED CARD OF 'cosmaclaw19.CpuFails'. -/
def cpuFailsCard : Claim7 := { stood := { row := cpuFailsRow, standIns := [], harness := (true, "91c3ea19d0e59641000aabf3d6596ad46c449b2aeec26ec97f7d938ee7fa39db"), looks := true }, kinds := [], alts := [], laidByText := true, laidKinds := [.data, .data], laidTests := true, laidLooks := .later }
def CpuFailsCardSaid : Prop := Claim7.holds Tryz.pinned (.plain (OpenSpec.ofChange cpuFailsSpec)) cpuFailsCard

/-- THE TIED CARD OF 'cosmaclaw19.CpuLevels'. -/
def cpuLevelsCard : Claim7 := { stood := { row := cpuLevelsRow, standIns := [], harness := (true, "91c3ea19d0e59641000aabf3d6596ad46c449b2aeec26ec97f7d938ee7fa39db"), looks := true }, kinds := [], alts := [], laidByText := true, laidKinds := [.data, .data], laidTests := true, laidLooks := .later }
def CpuLevelsCardSaid : Prop := Claim7.holds Tryz.pinned (.plain (OpenSpec.ofChange cpuLevelsSpec)) cpuLevelsCard

/-- THE TIED CARD OF 'cosmaclaw19.CpuClones'. -/
def cpuClonesCard : Claim7 := { stood := { row := cpuClonesRow, standIns := [], harness := (true, "91c3ea19d0e59641000aabf3d6596ad46c449b2aeec26ec97f7d938ee7fa39db"), looks := true }, kinds := [], alts := [], laidByText := true, laidKinds := [.data, .data], laidTests := true, laidLooks := .later }
def CpuClonesCardSaid : Prop := Claim7.holds Tryz.pinned (.plain (OpenSpec.ofChange cpuClonesSpec)) cpuClonesCard

/-- THE TIED CARD OF 'cosmaclaw19.CpuAdvances'. -/
def cpuAdvancesCard : Claim7 := { stood := { row := cpuAdvancesRow, standIns := [], harness := (true, "91c3ea19d0e59641000aabf3d6596ad46c449b2aeec26ec97f7d938ee7fa39db"), looks := true }, kinds := [], alts := [], laidByText := true, laidKinds := [.data, .data], laidTests := true, laidLooks := .later }
def CpuAdvancesCardSaid : Prop := Claim7.holds Tryz.pinned (.plain (OpenSpec.ofChange cpuAdvancesSpec)) cpuAdvancesCard

/-- THE TIED CARD OF 'cosmaclaw20.MachineModel'. -/
def machineModelCard : Claim7 := { stood := { row := machineModelRow, standIns := [], harness := (true, "91c3ea19d0e59641000aabf3d6596ad46c449b2aeec26ec97f7d938ee7fa39db"), looks := true }, kinds := [], alts := [], laidByText := true, laidKinds := [.data, .data], laidTests := true, laidLooks := .later }
def MachineModelCardSaid : Prop := Claim7.holds Tryz.pinned (.plain (OpenSpec.ofChange machineModelSpec)) machineModelCard

/-- THE TIED CARD OF 'cosmaclaw20.MachineCoherent'. -/
def machineCoherentCard : Claim7 := { stood := { row := machineCoherentRow, standIns := [], harness := (true, "91c3ea19d0e59641000aabf3d6596ad46c449b2aeec26ec97f7d938ee7fa39db"), looks := true }, kinds := [], alts := [], laidByText := true, laidKinds := [.data, .data], laidTests := true, laidLooks := .later }
def MachineCoherentCardSaid : Prop := Claim7.holds Tryz.pinned (.plain (OpenSpec.ofChange machineCoherentSpec)) machineCoherentCard

/-- THE TIED CARD OF 'cosmaclaw20.MachineFrozen'. -/
def machineFrozenCard : Claim7 := { stood := { row := machineFrozenRow, standIns := [], harness := (true, "91c3ea19d0e59641000aabf3d6596ad46c449b2aeec26ec97f7d938ee7fa39db"), looks := true }, kinds := [], alts := [], laidByText := true, laidKinds := [.data, .data], laidTests := true, laidLooks := .later }
def MachineFrozenCardSaid : Prop := Claim7.holds Tryz.pinned (.plain (OpenSpec.ofChange machineFrozenSpec)) machineFrozenCard

/-- THE TIED CARD OF 'cosmaclaw20.MachineResumes'. -/
def machineResumesCard : Claim7 := { stood := { row := machineResumesRow, standIns := [], harness := (true, "91c3ea19d0e59641000aabf3d6596ad46c449b2aeec26ec97f7d938ee7fa39db"), looks := true }, kinds := [], alts := [], laidByText := true, laidKinds := [.data, .data], laidTests := true, laidLooks := .later }
def MachineResumesCardSaid : Prop := Claim7.holds Tryz.pinned (.plain (OpenSpec.ofChange machineResumesSpec)) machineResumesCard

/-- THE TIED CARD OF 'cosmaclaw20.MachineKeys'. -/
def machineKeysCard : Claim7 := { stood := { row := machineKeysRow, standIns := [], harness := (true, "91c3ea19d0e59641000aabf3d6596ad46c449b2aeec26ec97f7d938ee7fa39db"), looks := true }, kinds := [], alts := [], laidByText := true, laidKinds := [.data, .data], laidTests := true, laidLooks := .later }
def MachineKeysCardSaid : Prop := Claim7.holds Tryz.pinned (.plain (OpenSpec.ofChange machineKeysSpec)) machineKeysCard

/-- THE SECOND FORM's CARD OF 'cosmaclaw19.CpuMatchesReference'. -/
def cpuMatchesReferenceUptoCard : Claim7 := { stood := { row := cpuMatchesReferenceUptoRow, standIns := [], harness := (true, "91c3ea19d0e59641000aabf3d6596ad46c449b2aeec26ec97f7d938ee7fa39db"), looks := true }, kinds := [], alts := [], laidByText := true, laidKinds := [.data, .data], laidTests := true, laidLooks := .later }
def CpuMatchesReferenceUptoCardSaid : Prop := Claim7.holds Tryz.pinned (.plain (OpenSpec.upto cpuMatchesReferenceSpec)) cpuMatchesReferenceUptoCard

/-- THE SECOND FORM's CARD OF 'cosmaclaw19.CpuFails'. -/
def cpuFailsUptoCard : Claim7 := { stood := { row := cpuFailsUptoRow, standIns := [], harness := (true, "91c3ea19d0e59641000aabf3d6596ad46c449b2aeec26ec97f7d938ee7fa39db"), looks := true }, kinds := [], alts := [], laidByText := true, laidKinds := [.data, .data], laidTests := true, laidLooks := .later }
def CpuFailsUptoCardSaid : Prop := Claim7.holds Tryz.pinned (.plain (OpenSpec.upto cpuFailsSpec)) cpuFailsUptoCard

/-- THE SECOND FORM's CARD OF 'cosmaclaw19.CpuLevels'. -/
def cpuLevelsUptoCard : Claim7 := { stood := { row := cpuLevelsUptoRow, standIns := [], harness := (true, "91c3ea19d0e59641000aabf3d6596ad46c449b2aeec26ec97f7d938ee7fa39db"), looks := true }, kinds := [], alts := [], laidByText := true, laidKinds := [.data, .data], laidTests := true, laidLooks := .later }
def CpuLevelsUptoCardSaid : Prop := Claim7.holds Tryz.pinned (.plain (OpenSpec.upto cpuLevelsSpec)) cpuLevelsUptoCard

/-- THE SECOND FORM's CARD OF 'cosmaclaw19.CpuClones'. -/
def cpuClonesUptoCard : Claim7 := { stood := { row := cpuClonesUptoRow, standIns := [], harness := (true, "91c3ea19d0e59641000aabf3d6596ad46c449b2aeec26ec97f7d938ee7fa39db"), looks := true }, kinds := [], alts := [], laidByText := true, laidKinds := [.data, .data], laidTests := true, laidLooks := .later }
def CpuClonesUptoCardSaid : Prop := Claim7.holds Tryz.pinned (.plain (OpenSpec.upto cpuClonesSpec)) cpuClonesUptoCard

/-- THE SECOND FORM's CARD OF 'cosmaclaw19.CpuAdvances'. -/
def cpuAdvancesUptoCard : Claim7 := { stood := { row := cpuAdvancesUptoRow, standIns := [], harness := (true, "91c3ea19d0e59641000aabf3d6596ad46c449b2aeec26ec97f7d938ee7fa39db"), looks := true }, kinds := [], alts := [], laidByText := true, laidKinds := [.data, .data], laidTests := true, laidLooks := .later }
def CpuAdvancesUptoCardSaid : Prop := Claim7.holds Tryz.pinned (.plain (OpenSpec.upto cpuAdvancesSpec)) cpuAdvancesUptoCard

/-- THE SECOND FORM's CARD OF 'cosmaclaw20.MachineModel'. -/
def machineModelUptoCard : Claim7 := { stood := { row := machineModelUptoRow, standIns := [], harness := (true, "91c3ea19d0e59641000aabf3d6596ad46c449b2aeec26ec97f7d938ee7fa39db"), looks := true }, kinds := [], alts := [], laidByText := true, laidKinds := [.data, .data], laidTests := true, laidLooks := .later }
def MachineModelUptoCardSaid : Prop := Claim7.holds Tryz.pinned (.plain (OpenSpec.upto machineModelSpec)) machineModelUptoCard

/-- THE SECOND FORM's CARD OF 'cosmaclaw20.MachineCoherent'. -/
def machineCoherentUptoCard : Claim7 := { stood := { row := machineCoherentUptoRow, standIns := [], harness := (true, "91c3ea19d0e59641000aabf3d6596ad46c449b2aeec26ec97f7d938ee7fa39db"), looks := true }, kinds := [], alts := [], laidByText := true, laidKinds := [.data, .data], laidTests := true, laidLooks := .later }
def MachineCoherentUptoCardSaid : Prop := Claim7.holds Tryz.pinned (.plain (OpenSpec.upto machineCoherentSpec)) machineCoherentUptoCard

/-- THE SECOND FORM's CARD OF 'cosmaclaw20.MachineFrozen'. -/
def machineFrozenUptoCard : Claim7 := { stood := { row := machineFrozenUptoRow, standIns := [], harness := (true, "91c3ea19d0e59641000aabf3d6596ad46c449b2aeec26ec97f7d938ee7fa39db"), looks := true }, kinds := [], alts := [], laidByText := true, laidKinds := [.data, .data], laidTests := true, laidLooks := .later }
def MachineFrozenUptoCardSaid : Prop := Claim7.holds Tryz.pinned (.plain (OpenSpec.upto machineFrozenSpec)) machineFrozenUptoCard

/-- THE SECOND FORM's CARD OF 'cosmaclaw20.MachineResumes'. -/
def machineResumesUptoCard : Claim7 := { stood := { row := machineResumesUptoRow, standIns := [], harness := (true, "91c3ea19d0e59641000aabf3d6596ad46c449b2aeec26ec97f7d938ee7fa39db"), looks := true }, kinds := [], alts := [], laidByText := true, laidKinds := [.data, .data], laidTests := true, laidLooks := .later }
def MachineResumesUptoCardSaid : Prop := Claim7.holds Tryz.pinned (.plain (OpenSpec.upto machineResumesSpec)) machineResumesUptoCard

/-- THE SECOND FORM's CARD OF 'cosmaclaw20.MachineKeys'. -/
def machineKeysUptoCard : Claim7 := { stood := { row := machineKeysUptoRow, standIns := [], harness := (true, "91c3ea19d0e59641000aabf3d6596ad46c449b2aeec26ec97f7d938ee7fa39db"), looks := true }, kinds := [], alts := [], laidByText := true, laidKinds := [.data, .data], laidTests := true, laidLooks := .later }
def MachineKeysUptoCardSaid : Prop := Claim7.holds Tryz.pinned (.plain (OpenSpec.upto machineKeysSpec)) machineKeysUptoCard
end Rows
end Go.Proofs.YtcjldabaekbdlaaGreatDoor
