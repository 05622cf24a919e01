/-
  NARROWER THAN 'FOR EVERY INPUT', by the rows' own cells (each row's printed sentence says how): CpuMatchesReference: laid · CpuFails: laid · CpuLevels: laid · CpuClones: laid · CpuAdvances: laid · MachineModel: laid · MachineCoherent: laid · MachineFrozen: laid · MachineResumes: laid · MachineKeys: laid.
  DERIVED. THE GIVEN ROWS OF THIS SEAT. 10 by the template 'for every input the law returns true; each argument reads behind the call as it read before'; 0 by the template 'total and deterministic' (their statements: YtcjldabaekbdlaaGreatDoorTotals.lean).
  GIVEN WITH THE SEED: the statements are not yours to turn. If you find one false, say at which input.
  Laid BY PROGRAM, IN A SANDBOX (cutbox-rows.mjs): the forced cells as the released guide's own fill.sh prints them over the translation c9f3a9aca7019b6e… (all of the seat's roots in one cut). By AI agents, Wed Nov 11 2026. No macro, syntax, notation, axiom, sorry.
-/
import Derived.Test.YtcjldabaekbdlaaGreatDoorChecked
import GoSem.Claim
import GoSem.ClaimJoined
import GoSem.ClaimMapViews
import Derived.JoinedTies
import Derived.KernelRfl
namespace Go.Proofs.YtcjldabaekbdlaaGreatDoor
/- THE CELL 'sum', in the pinned program and in every row, IS THE sha256 OF THE DUMP (.gsa) THAT YtcjldabaekbdlaaGreatDoorProg.lean LOADS. Nothing in Lean hashes anything: it is a label: what it is worth is what the hold of that sum in a sandbox is worth. -/
noncomputable def Tryz.pinned : Pinned := { name := "ytcjldabaekbdlaagreatdoor", sum := "c9f3a9aca7019b6e12478604ac622fcfa09f9c0bb5b44c0e1c87b06fc7d0e16d", checked := Tryz.checked }
namespace Rows
def none {H : Type} : Left H := { results := [], args := [] }

/- WHAT THE LISTED PACKAGE-LEVEL VARIABLES READ AS WHEN THE CALL BEGINS. Each datum BY PROGRAM (the guide's laid-datum.mjs) off the statement by which the dump's own 'gosem.cut.vars' lays the variable. In a bare row this is a premise. The card (YtcjldabaekbdlaaGreatDoorCards.lean) ties it to the program's text. -/
def laid_cosmac_font_smallFont {H : Type} : DataW H := .agg [.agg [.lit (.int .u8 240), .lit (.int .u8 144), .lit (.int .u8 144), .lit (.int .u8 144), .lit (.int .u8 240)], .agg [.lit (.int .u8 32), .lit (.int .u8 96), .lit (.int .u8 32), .lit (.int .u8 32), .lit (.int .u8 112)], .agg [.lit (.int .u8 240), .lit (.int .u8 16), .lit (.int .u8 240), .lit (.int .u8 128), .lit (.int .u8 240)], .agg [.lit (.int .u8 240), .lit (.int .u8 16), .lit (.int .u8 240), .lit (.int .u8 16), .lit (.int .u8 240)], .agg [.lit (.int .u8 144), .lit (.int .u8 144), .lit (.int .u8 240), .lit (.int .u8 16), .lit (.int .u8 16)], .agg [.lit (.int .u8 240), .lit (.int .u8 128), .lit (.int .u8 240), .lit (.int .u8 16), .lit (.int .u8 240)], .agg [.lit (.int .u8 240), .lit (.int .u8 128), .lit (.int .u8 240), .lit (.int .u8 144), .lit (.int .u8 240)], .agg [.lit (.int .u8 240), .lit (.int .u8 16), .lit (.int .u8 32), .lit (.int .u8 64), .lit (.int .u8 64)], .agg [.lit (.int .u8 240), .lit (.int .u8 144), .lit (.int .u8 240), .lit (.int .u8 144), .lit (.int .u8 240)], .agg [.lit (.int .u8 240), .lit (.int .u8 144), .lit (.int .u8 240), .lit (.int .u8 16), .lit (.int .u8 240)], .agg [.lit (.int .u8 240), .lit (.int .u8 144), .lit (.int .u8 240), .lit (.int .u8 144), .lit (.int .u8 144)], .agg [.lit (.int .u8 224), .lit (.int .u8 144), .lit (.int .u8 224), .lit (.int .u8 144), .lit (.int .u8 224)], .agg [.lit (.int .u8 240), .lit (.int .u8 128), .lit (.int .u8 128), .lit (.int .u8 128), .lit (.int .u8 240)], .agg [.lit (.int .u8 224), .lit (.int .u8 144), .lit (.int .u8 144), .lit (.int .u8 144), .lit (.int .u8 224)], .agg [.lit (.int .u8 240), .lit (.int .u8 128), .lit (.int .u8 240), .lit (.int .u8 128), .lit (.int .u8 240)], .agg [.lit (.int .u8 240), .lit (.int .u8 128), .lit (.int .u8 240), .lit (.int .u8 128), .lit (.int .u8 128)]]
def laid_cosmac_font_bigFont {H : Type} : DataW H := .agg [.agg [.lit (.int .u8 60), .lit (.int .u8 126), .lit (.int .u8 231), .lit (.int .u8 195), .lit (.int .u8 195), .lit (.int .u8 195), .lit (.int .u8 195), .lit (.int .u8 231), .lit (.int .u8 126), .lit (.int .u8 60)], .agg [.lit (.int .u8 24), .lit (.int .u8 56), .lit (.int .u8 88), .lit (.int .u8 24), .lit (.int .u8 24), .lit (.int .u8 24), .lit (.int .u8 24), .lit (.int .u8 24), .lit (.int .u8 24), .lit (.int .u8 60)], .agg [.lit (.int .u8 62), .lit (.int .u8 127), .lit (.int .u8 195), .lit (.int .u8 6), .lit (.int .u8 12), .lit (.int .u8 24), .lit (.int .u8 48), .lit (.int .u8 96), .lit (.int .u8 255), .lit (.int .u8 255)], .agg [.lit (.int .u8 60), .lit (.int .u8 126), .lit (.int .u8 195), .lit (.int .u8 3), .lit (.int .u8 14), .lit (.int .u8 14), .lit (.int .u8 3), .lit (.int .u8 195), .lit (.int .u8 126), .lit (.int .u8 60)], .agg [.lit (.int .u8 6), .lit (.int .u8 14), .lit (.int .u8 30), .lit (.int .u8 54), .lit (.int .u8 102), .lit (.int .u8 198), .lit (.int .u8 255), .lit (.int .u8 255), .lit (.int .u8 6), .lit (.int .u8 6)], .agg [.lit (.int .u8 255), .lit (.int .u8 255), .lit (.int .u8 192), .lit (.int .u8 192), .lit (.int .u8 252), .lit (.int .u8 254), .lit (.int .u8 3), .lit (.int .u8 195), .lit (.int .u8 126), .lit (.int .u8 60)], .agg [.lit (.int .u8 62), .lit (.int .u8 124), .lit (.int .u8 224), .lit (.int .u8 192), .lit (.int .u8 252), .lit (.int .u8 254), .lit (.int .u8 195), .lit (.int .u8 195), .lit (.int .u8 126), .lit (.int .u8 60)], .agg [.lit (.int .u8 255), .lit (.int .u8 255), .lit (.int .u8 3), .lit (.int .u8 6), .lit (.int .u8 12), .lit (.int .u8 24), .lit (.int .u8 48), .lit (.int .u8 96), .lit (.int .u8 96), .lit (.int .u8 96)], .agg [.lit (.int .u8 60), .lit (.int .u8 126), .lit (.int .u8 195), .lit (.int .u8 195), .lit (.int .u8 126), .lit (.int .u8 126), .lit (.int .u8 195), .lit (.int .u8 195), .lit (.int .u8 126), .lit (.int .u8 60)], .agg [.lit (.int .u8 60), .lit (.int .u8 126), .lit (.int .u8 195), .lit (.int .u8 195), .lit (.int .u8 127), .lit (.int .u8 63), .lit (.int .u8 3), .lit (.int .u8 3), .lit (.int .u8 62), .lit (.int .u8 124)], .agg [.lit (.int .u8 126), .lit (.int .u8 255), .lit (.int .u8 195), .lit (.int .u8 195), .lit (.int .u8 195), .lit (.int .u8 255), .lit (.int .u8 255), .lit (.int .u8 195), .lit (.int .u8 195), .lit (.int .u8 195)], .agg [.lit (.int .u8 252), .lit (.int .u8 252), .lit (.int .u8 195), .lit (.int .u8 195), .lit (.int .u8 252), .lit (.int .u8 252), .lit (.int .u8 195), .lit (.int .u8 195), .lit (.int .u8 252), .lit (.int .u8 252)], .agg [.lit (.int .u8 60), .lit (.int .u8 255), .lit (.int .u8 195), .lit (.int .u8 192), .lit (.int .u8 192), .lit (.int .u8 192), .lit (.int .u8 192), .lit (.int .u8 195), .lit (.int .u8 255), .lit (.int .u8 60)], .agg [.lit (.int .u8 252), .lit (.int .u8 254), .lit (.int .u8 195), .lit (.int .u8 195), .lit (.int .u8 195), .lit (.int .u8 195), .lit (.int .u8 195), .lit (.int .u8 195), .lit (.int .u8 254), .lit (.int .u8 252)], .agg [.lit (.int .u8 255), .lit (.int .u8 255), .lit (.int .u8 192), .lit (.int .u8 192), .lit (.int .u8 255), .lit (.int .u8 255), .lit (.int .u8 192), .lit (.int .u8 192), .lit (.int .u8 255), .lit (.int .u8 255)], .agg [.lit (.int .u8 255), .lit (.int .u8 255), .lit (.int .u8 192), .lit (.int .u8 192), .lit (.int .u8 255), .lit (.int .u8 255), .lit (.int .u8 192), .lit (.int .u8 192), .lit (.int .u8 192), .lit (.int .u8 192)]]

/-- 'cosmaclaw19.CpuMatchesReference': WHATEVER THE INPUT: true; the input reads as it did. -/
def cpuMatchesReferenceSpec : ChangeSpec := { name := "cpuMatchesReference", fn := fun _ => fun
  | [d1, d2, d3, d4, d5] => { results := [.lit (.bool true)], args := [d1, d2, d3, d4, d5] }
  | _ => none }
def cpuMatchesReferenceRow : OpenClaim := { program := "ytcjldabaekbdlaagreatdoor", sum := "c9f3a9aca7019b6e12478604ac622fcfa09f9c0bb5b44c0e1c87b06fc7d0e16d", func := "cosmac/cosmaclaw19.CpuMatchesReference", spec := "cpuMatchesReference", unfollowed := true, recurses := true, named := ["cosmac/font.smallFont", "cosmac/font.bigFont"], apart := false, laid := [("cosmac/font.smallFont", laid_cosmac_font_smallFont), ("cosmac/font.bigFont", laid_cosmac_font_bigFont)] }
def CpuMatchesReferenceSaid : Prop := cpuMatchesReferenceRow.holds Tryz.pinned (OpenSpec.ofChange cpuMatchesReferenceSpec)

/-- ITS FALSE NEIGHBOUR: 'it returns false'. Refute it at one input. -/
def cpuMatchesReferenceWrong : ChangeSpec := { name := "cpuMatchesReference", fn := fun _ => fun
  | [d1, d2, d3, d4, d5] => { results := [.lit (.bool false)], args := [d1, d2, d3, d4, d5] }
  | _ => none }
def CpuMatchesReferenceWrongFalsely : Prop := cpuMatchesReferenceRow.holds Tryz.pinned (OpenSpec.ofChange cpuMatchesReferenceWrong)

/-- 'cosmaclaw19.CpuFails': WHATEVER THE INPUT: true; the input reads as it did. -/
def cpuFailsSpec : ChangeSpec := { name := "cpuFails", fn := fun _ => fun
  | [d1, d2, d3] => { results := [.lit (.bool true)], args := [d1, d2, d3] }
  | _ => none }
def cpuFailsRow : OpenClaim := { program := "ytcjldabaekbdlaagreatdoor", sum := "c9f3a9aca7019b6e12478604ac622fcfa09f9c0bb5b44c0e1c87b06fc7d0e16d", func := "cosmac/cosmaclaw19.CpuFails", spec := "cpuFails", unfollowed := true, recurses := true, named := ["cosmac/font.smallFont", "cosmac/font.bigFont"], apart := false, laid := [("cosmac/font.smallFont", laid_cosmac_font_smallFont), ("cosmac/font.bigFont", laid_cosmac_font_bigFont)] }
def CpuFailsSaid : Prop := cpuFailsRow.holds Tryz.pinned (OpenSpec.ofChange cpuFailsSpec)

/-- ITS FALSE NEIGHBOUR: 'it returns false'. Refute it at one input. -/
def cpuFailsWrong : ChangeSpec := { name := "cpuFails", fn := fun _ => fun
  | [d1, d2, d3] => { results := [.lit (.bool false)], args := [d1, d2, d3] }
  | _ => none }
def CpuFailsWrongFalsely : Prop := cpuFailsRow.holds Tryz.pinned (OpenSpec.ofChange cpuFailsWrong)

/-- 'cosmaclaw19.CpuLevels': WHATEVER THE INPUT: true; the input reads as it did. -/
def cpuLevelsSpec : ChangeSpec := { name := "cpuLevels", fn := fun _ => fun
  | [d1, d2, d3, d4] => { results := [.lit (.bool true)], args := [d1, d2, d3, d4] }
  | _ => none }
def cpuLevelsRow : OpenClaim := { program := "ytcjldabaekbdlaagreatdoor", sum := "c9f3a9aca7019b6e12478604ac622fcfa09f9c0bb5b44c0e1c87b06fc7d0e16d", func := "cosmac/cosmaclaw19.CpuLevels", spec := "cpuLevels", unfollowed := true, recurses := true, named := ["cosmac/font.smallFont", "cosmac/font.bigFont"], apart := false, laid := [("cosmac/font.smallFont", laid_cosmac_font_smallFont), ("cosmac/font.bigFont", laid_cosmac_font_bigFont)] }
def CpuLevelsSaid : Prop := cpuLevelsRow.holds Tryz.pinned (OpenSpec.ofChange cpuLevelsSpec)

/-- ITS FALSE NEIGHBOUR: 'it returns false'. Refute it at one input. -/
def cpuLevelsWrong : ChangeSpec := { name := "cpuLevels", fn := fun _ => fun
  | [d1, d2, d3, d4] => { results := [.lit (.bool false)], args := [d1, d2, d3, d4] }
  | _ => none }
def CpuLevelsWrongFalsely : Prop := cpuLevelsRow.holds Tryz.pinned (OpenSpec.ofChange cpuLevelsWrong)

/-- 'cosmaclaw19.CpuClones': WHATEVER THE INPUT: true; the input reads as it did. -/
def cpuClonesSpec : ChangeSpec := { name := "cpuClones", fn := fun _ => fun
  | [d1, d2, d3] => { results := [.lit (.bool true)], args := [d1, d2, d3] }
  | _ => none }
def cpuClonesRow : OpenClaim := { program := "ytcjldabaekbdlaagreatdoor", sum := "c9f3a9aca7019b6e12478604ac622fcfa09f9c0bb5b44c0e1c87b06fc7d0e16d", func := "cosmac/cosmaclaw19.CpuClones", spec := "cpuClones", unfollowed := true, recurses := true, named := ["cosmac/font.smallFont", "cosmac/font.bigFont"], apart := false, laid := [("cosmac/font.smallFont", laid_cosmac_font_smallFont), ("cosmac/font.bigFont", laid_cosmac_font_bigFont)] }
def CpuClonesSaid : Prop := cpuClonesRow.holds Tryz.pinned (OpenSpec.ofChange cpuClonesSpec)

/-- ITS FALSE NEIGHBOUR: 'it returns false'. Refute it at one input. -/
def cpuClonesWrong : ChangeSpec := { name := "cpuClones", fn := fun _ => fun
  | [d1, d2, d3] => { results := [.lit (.bool false)], args := [d1, d2, d3] }
  | _ => none }
def CpuClonesWrongFalsely : Prop := cpuClonesRow.holds Tryz.pinned (OpenSpec.ofChange cpuClonesWrong)

/-- 'cosmaclaw19.CpuAdvances': WHATEVER THE INPUT: true; the input reads as it did. -/
def cpuAdvancesSpec : ChangeSpec := { name := "cpuAdvances", fn := fun _ => fun
  | [d1, d2, d3] => { results := [.lit (.bool true)], args := [d1, d2, d3] }
  | _ => none }
def cpuAdvancesRow : OpenClaim := { program := "ytcjldabaekbdlaagreatdoor", sum := "c9f3a9aca7019b6e12478604ac622fcfa09f9c0bb5b44c0e1c87b06fc7d0e16d", func := "cosmac/cosmaclaw19.CpuAdvances", spec := "cpuAdvances", unfollowed := true, recurses := true, named := ["cosmac/font.smallFont", "cosmac/font.bigFont"], apart := false, laid := [("cosmac/font.smallFont", laid_cosmac_font_smallFont), ("cosmac/font.bigFont", laid_cosmac_font_bigFont)] }
def CpuAdvancesSaid : Prop := cpuAdvancesRow.holds Tryz.pinned (OpenSpec.ofChange cpuAdvancesSpec)

/-- ITS FALSE NEIGHBOUR: 'it returns false'. Refute it at one input. -/
def cpuAdvancesWrong : ChangeSpec := { name := "cpuAdvances", fn := fun _ => fun
  | [d1, d2, d3] => { results := [.lit (.bool false)], args := [d1, d2, d3] }
  | _ => none }
def CpuAdvancesWrongFalsely : Prop := cpuAdvancesRow.holds Tryz.pinned (OpenSpec.ofChange cpuAdvancesWrong)

/-- 'cosmaclaw20.MachineModel': WHATEVER THE INPUT: true; the input reads as it did. -/
def machineModelSpec : ChangeSpec := { name := "machineModel", fn := fun _ => fun
  | [d1, d2, d3, d4, d5, d6] => { results := [.lit (.bool true)], args := [d1, d2, d3, d4, d5, d6] }
  | _ => none }
def machineModelRow : OpenClaim := { program := "ytcjldabaekbdlaagreatdoor", sum := "c9f3a9aca7019b6e12478604ac622fcfa09f9c0bb5b44c0e1c87b06fc7d0e16d", func := "cosmac/cosmaclaw20.MachineModel", spec := "machineModel", inPlace := ["sync/atomic.AddInt64"], unfollowed := true, recurses := true, named := ["cosmac/font.smallFont", "cosmac/font.bigFont"], apart := false, laid := [("cosmac/font.smallFont", laid_cosmac_font_smallFont), ("cosmac/font.bigFont", laid_cosmac_font_bigFont)] }
def MachineModelSaid : Prop := machineModelRow.holds Tryz.pinned (OpenSpec.ofChange machineModelSpec)

/-- ITS FALSE NEIGHBOUR: 'it returns false'. Refute it at one input. -/
def machineModelWrong : ChangeSpec := { name := "machineModel", fn := fun _ => fun
  | [d1, d2, d3, d4, d5, d6] => { results := [.lit (.bool false)], args := [d1, d2, d3, d4, d5, d6] }
  | _ => none }
def MachineModelWrongFalsely : Prop := machineModelRow.holds Tryz.pinned (OpenSpec.ofChange machineModelWrong)

/-- 'cosmaclaw20.MachineCoherent': WHATEVER THE INPUT: true; the input reads as it did. -/
def machineCoherentSpec : ChangeSpec := { name := "machineCoherent", fn := fun _ => fun
  | [d1, d2, d3, d4, d5, d6] => { results := [.lit (.bool true)], args := [d1, d2, d3, d4, d5, d6] }
  | _ => none }
def machineCoherentRow : OpenClaim := { program := "ytcjldabaekbdlaagreatdoor", sum := "c9f3a9aca7019b6e12478604ac622fcfa09f9c0bb5b44c0e1c87b06fc7d0e16d", func := "cosmac/cosmaclaw20.MachineCoherent", spec := "machineCoherent", inPlace := ["sync/atomic.AddInt64"], unfollowed := true, recurses := true, named := ["cosmac/font.smallFont", "cosmac/font.bigFont"], apart := false, laid := [("cosmac/font.smallFont", laid_cosmac_font_smallFont), ("cosmac/font.bigFont", laid_cosmac_font_bigFont)] }
def MachineCoherentSaid : Prop := machineCoherentRow.holds Tryz.pinned (OpenSpec.ofChange machineCoherentSpec)

/-- ITS FALSE NEIGHBOUR: 'it returns false'. Refute it at one input. -/
def machineCoherentWrong : ChangeSpec := { name := "machineCoherent", fn := fun _ => fun
  | [d1, d2, d3, d4, d5, d6] => { results := [.lit (.bool false)], args := [d1, d2, d3, d4, d5, d6] }
  | _ => none }
def MachineCoherentWrongFalsely : Prop := machineCoherentRow.holds Tryz.pinned (OpenSpec.ofChange machineCoherentWrong)

/-- 'cosmaclaw20.MachineFrozen': WHATEVER THE INPUT: true; the input reads as it did. -/
def machineFrozenSpec : ChangeSpec := { name := "machineFrozen", fn := fun _ => fun
  | [d1, d2, d3, d4, d5] => { results := [.lit (.bool true)], args := [d1, d2, d3, d4, d5] }
  | _ => none }
def machineFrozenRow : OpenClaim := { program := "ytcjldabaekbdlaagreatdoor", sum := "c9f3a9aca7019b6e12478604ac622fcfa09f9c0bb5b44c0e1c87b06fc7d0e16d", func := "cosmac/cosmaclaw20.MachineFrozen", spec := "machineFrozen", inPlace := ["sync/atomic.AddInt64"], unfollowed := true, recurses := true, named := ["cosmac/font.smallFont", "cosmac/font.bigFont"], apart := false, laid := [("cosmac/font.smallFont", laid_cosmac_font_smallFont), ("cosmac/font.bigFont", laid_cosmac_font_bigFont)] }
def MachineFrozenSaid : Prop := machineFrozenRow.holds Tryz.pinned (OpenSpec.ofChange machineFrozenSpec)

/-- ITS FALSE NEIGHBOUR: 'it returns false'. Refute it at one input. -/
def machineFrozenWrong : ChangeSpec := { name := "machineFrozen", fn := fun _ => fun
  | [d1, d2, d3, d4, d5] => { results := [.lit (.bool false)], args := [d1, d2, d3, d4, d5] }
  | _ => none }
def MachineFrozenWrongFalsely : Prop := machineFrozenRow.holds Tryz.pinned (OpenSpec.ofChange machineFrozenWrong)

/-- 'cosmaclaw20.MachineResumes': WHATEVER THE INPUT: true; the input reads as it did. -/
def machineResumesSpec : ChangeSpec := { name := "machineResumes", fn := fun _ => fun
  | [d1, d2, d3, d4, d5, d6] => { results := [.lit (.bool true)], args := [d1, d2, d3, d4, d5, d6] }
  | _ => none }
def machineResumesRow : OpenClaim := { program := "ytcjldabaekbdlaagreatdoor", sum := "c9f3a9aca7019b6e12478604ac622fcfa09f9c0bb5b44c0e1c87b06fc7d0e16d", func := "cosmac/cosmaclaw20.MachineResumes", spec := "machineResumes", inPlace := ["sync/atomic.AddInt64"], unfollowed := true, recurses := true, named := ["cosmac/font.smallFont", "cosmac/font.bigFont"], apart := false, laid := [("cosmac/font.smallFont", laid_cosmac_font_smallFont), ("cosmac/font.bigFont", laid_cosmac_font_bigFont)] }
def MachineResumesSaid : Prop := machineResumesRow.holds Tryz.pinned (OpenSpec.ofChange machineResumesSpec)

/-- ITS FALSE NEIGHBOUR: 'it returns false'. Refute it at one input. -/
def machineResumesWrong : ChangeSpec := { name := "machineResumes", fn := fun _ => fun
  | [d1, d2, d3, d4, d5, d6] => { results := [.lit (.bool false)], args := [d1, d2, d3, d4, d5, d6] }
  | _ => none }
def MachineResumesWrongFalsely : Prop := machineResumesRow.holds Tryz.pinned (OpenSpec.ofChange machineResumesWrong)

/-- 'cosmaclaw20.MachineKeys': WHATEVER THE INPUT: true; the input reads as it did. -/
def machineKeysSpec : ChangeSpec := { name := "machineKeys", fn := fun _ => fun
  | [d1, d2, d3, d4, d5] => { results := [.lit (.bool true)], args := [d1, d2, d3, d4, d5] }
  | _ => none }
def machineKeysRow : OpenClaim := { program := "ytcjldabaekbdlaagreatdoor", sum := "c9f3a9aca7019b6e12478604ac622fcfa09f9c0bb5b44c0e1c87b06fc7d0e16d", func := "cosmac/cosmaclaw20.MachineKeys", spec := "machineKeys", inPlace := ["sync/atomic.AddInt64"], unfollowed := true, recurses := true, named := ["cosmac/font.smallFont", "cosmac/font.bigFont"], apart := false, laid := [("cosmac/font.smallFont", laid_cosmac_font_smallFont), ("cosmac/font.bigFont", laid_cosmac_font_bigFont)] }
def MachineKeysSaid : Prop := machineKeysRow.holds Tryz.pinned (OpenSpec.ofChange machineKeysSpec)

/-- ITS FALSE NEIGHBOUR: 'it returns false'. Refute it at one input. -/
def machineKeysWrong : ChangeSpec := { name := "machineKeys", fn := fun _ => fun
  | [d1, d2, d3, d4, d5] => { results := [.lit (.bool false)], args := [d1, d2, d3, d4, d5] }
  | _ => none }
def MachineKeysWrongFalsely : Prop := machineKeysRow.holds Tryz.pinned (OpenSpec.ofChange machineKeysWrong)

/- THE SECOND FORM. 'bulk': how many values and letters a reading holds, each counted each time it is reached (what is shared counts as often as it is met; a slice's spare places count too). A statement '..UptoSaid' is the law's where the arguments, and the package variables that the reading takes, are together of bulk at most 1048576: NARROWER than '..Said'. Prove '..Said' where nothing that the law and all that it calls make is longer than what came in: it says more and counts as full. Else prove '..UptoSaid'. A law counts once. -/
mutual
def uptoBulk {H : Type} : DataW H → Nat
  | .lit (.string bytes) => bytes.length + 1
  | .lit _ => 1
  | .nil => 1
  | .ptr d => uptoBulk d + 1
  | .slice elems spare => uptoBulkAll elems + uptoBulkAll spare + 1
  | .agg parts => uptoBulkAll parts + 1
  | .iface _ d => uptoBulk d + 1
  | .map entries => uptoBulkEntries entries + 1
  | .held _ => 1
def uptoBulkAll {H : Type} : List (DataW H) → Nat
  | [] => 0
  | d :: r => uptoBulk d + uptoBulkAll r
def uptoBulkEntries {H : Type} : List (Lit × DataW H) → Nat
  | [] => 0
  | x :: r => uptoBulkEntry x + uptoBulkEntries r
def uptoBulkEntry {H : Type} : Lit × DataW H → Nat
  | (.string bytes, d) => bytes.length + uptoBulk d + 1
  | (_, d) => uptoBulk d + 1
 end
def uptoSmall : (H : Type) → List (DataW H) → Bool := fun _ ds => decide (uptoBulkAll ds ≤ 1048576)
def OpenSpec.upto (s : _root_.Go.ChangeSpec) : _root_.Go.OpenSpec := { _root_.Go.OpenSpec.ofChange s with cond := some uptoSmall }

/-- 'cosmaclaw19.CpuMatchesReference', WHERE WHAT IT READS IS OF BULK AT MOST 1048576: true; the input reads as it did. -/
def cpuMatchesReferenceUptoRow : OpenClaim := { program := "ytcjldabaekbdlaagreatdoor", sum := "c9f3a9aca7019b6e12478604ac622fcfa09f9c0bb5b44c0e1c87b06fc7d0e16d", func := "cosmac/cosmaclaw19.CpuMatchesReference", spec := "cpuMatchesReference", unfollowed := true, recurses := true, named := ["cosmac/font.smallFont", "cosmac/font.bigFont"], apart := false, laid := [("cosmac/font.smallFont", laid_cosmac_font_smallFont), ("cosmac/font.bigFont", laid_cosmac_font_bigFont)], narrowed := true }
def CpuMatchesReferenceUptoSaid : Prop := cpuMatchesReferenceUptoRow.holds Tryz.pinned (OpenSpec.upto cpuMatchesReferenceSpec)

/-- 'cosmaclaw19.CpuFails', WHERE WHAT IT READS IS OF BULK AT MOST 1048576: true; the input reads as it did. -/
def cpuFailsUptoRow : OpenClaim := { program := "ytcjldabaekbdlaagreatdoor", sum := "c9f3a9aca7019b6e12478604ac622fcfa09f9c0bb5b44c0e1c87b06fc7d0e16d", func := "cosmac/cosmaclaw19.CpuFails", spec := "cpuFails", unfollowed := true, recurses := true, named := ["cosmac/font.smallFont", "cosmac/font.bigFont"], apart := false, laid := [("cosmac/font.smallFont", laid_cosmac_font_smallFont), ("cosmac/font.bigFont", laid_cosmac_font_bigFont)], narrowed := true }
def CpuFailsUptoSaid : Prop := cpuFailsUptoRow.holds Tryz.pinned (OpenSpec.upto cpuFailsSpec)

/-- 'cosmaclaw19.CpuLevels', WHERE WHAT IT READS IS OF BULK AT MOST 1048576: true; the input reads as it did. -/
def cpuLevelsUptoRow : OpenClaim := { program := "ytcjldabaekbdlaagreatdoor", sum := "c9f3a9aca7019b6e12478604ac622fcfa09f9c0bb5b44c0e1c87b06fc7d0e16d", func := "cosmac/cosmaclaw19.CpuLevels", spec := "cpuLevels", unfollowed := true, recurses := true, named := ["cosmac/font.smallFont", "cosmac/font.bigFont"], apart := false, laid := [("cosmac/font.smallFont", laid_cosmac_font_smallFont), ("cosmac/font.bigFont", laid_cosmac_font_bigFont)], narrowed := true }
def CpuLevelsUptoSaid : Prop := cpuLevelsUptoRow.holds Tryz.pinned (OpenSpec.upto cpuLevelsSpec)

/-- 'cosmaclaw19.CpuClones', WHERE WHAT IT READS IS OF BULK AT MOST 1048576: true; the input reads as it did. -/
def cpuClonesUptoRow : OpenClaim := { program := "ytcjldabaekbdlaagreatdoor", sum := "c9f3a9aca7019b6e12478604ac622fcfa09f9c0bb5b44c0e1c87b06fc7d0e16d", func := "cosmac/cosmaclaw19.CpuClones", spec := "cpuClones", unfollowed := true, recurses := true, named := ["cosmac/font.smallFont", "cosmac/font.bigFont"], apart := false, laid := [("cosmac/font.smallFont", laid_cosmac_font_smallFont), ("cosmac/font.bigFont", laid_cosmac_font_bigFont)], narrowed := true }
def CpuClonesUptoSaid : Prop := cpuClonesUptoRow.holds Tryz.pinned (OpenSpec.upto cpuClonesSpec)

/-- 'cosmaclaw19.CpuAdvances', WHERE WHAT IT READS IS OF BULK AT MOST 1048576: true; the input reads as it did. -/
def cpuAdvancesUptoRow : OpenClaim := { program := "ytcjldabaekbdlaagreatdoor", sum := "c9f3a9aca7019b6e12478604ac622fcfa09f9c0bb5b44c0e1c87b06fc7d0e16d", func := "cosmac/cosmaclaw19.CpuAdvances", spec := "cpuAdvances", unfollowed := true, recurses := true, named := ["cosmac/font.smallFont", "cosmac/font.bigFont"], apart := false, laid := [("cosmac/font.smallFont", laid_cosmac_font_smallFont), ("cosmac/font.bigFont", laid_cosmac_font_bigFont)], narrowed := true }
def CpuAdvancesUptoSaid : Prop := cpuAdvancesUptoRow.holds Tryz.pinned (OpenSpec.upto cpuAdvancesSpec)

/-- 'cosmaclaw20.MachineModel', WHERE WHAT IT READS IS OF BULK AT MOST 1048576: true; the input reads as it did. -/
def machineModelUptoRow : OpenClaim := { program := "ytcjldabaekbdlaagreatdoor", sum := "c9f3a9aca7019b6e12478604ac622fcfa09f9c0bb5b44c0e1c87b06fc7d0e16d", func := "cosmac/cosmaclaw20.MachineModel", spec := "machineModel", inPlace := ["sync/atomic.AddInt64"], unfollowed := true, recurses := true, named := ["cosmac/font.smallFont", "cosmac/font.bigFont"], apart := false, laid := [("cosmac/font.smallFont", laid_cosmac_font_smallFont), ("cosmac/font.bigFont", laid_cosmac_font_bigFont)], narrowed := true }
def MachineModelUptoSaid : Prop := machineModelUptoRow.holds Tryz.pinned (OpenSpec.upto machineModelSpec)

/-- 'cosmaclaw20.MachineCoherent', WHERE WHAT IT READS IS OF BULK AT MOST 1048576: true; the input reads as it did. -/
def machineCoherentUptoRow : OpenClaim := { program := "ytcjldabaekbdlaagreatdoor", sum := "c9f3a9aca7019b6e12478604ac622fcfa09f9c0bb5b44c0e1c87b06fc7d0e16d", func := "cosmac/cosmaclaw20.MachineCoherent", spec := "machineCoherent", inPlace := ["sync/atomic.AddInt64"], unfollowed := true, recurses := true, named := ["cosmac/font.smallFont", "cosmac/font.bigFont"], apart := false, laid := [("cosmac/font.smallFont", laid_cosmac_font_smallFont), ("cosmac/font.bigFont", laid_cosmac_font_bigFont)], narrowed := true }
def MachineCoherentUptoSaid : Prop := machineCoherentUptoRow.holds Tryz.pinned (OpenSpec.upto machineCoherentSpec)

/-- 'cosmaclaw20.MachineFrozen', WHERE WHAT IT READS IS OF BULK AT MOST 1048576: true; the input reads as it did. -/
def machineFrozenUptoRow : OpenClaim := { program := "ytcjldabaekbdlaagreatdoor", sum := "c9f3a9aca7019b6e12478604ac622fcfa09f9c0bb5b44c0e1c87b06fc7d0e16d", func := "cosmac/cosmaclaw20.MachineFrozen", spec := "machineFrozen", inPlace := ["sync/atomic.AddInt64"], unfollowed := true, recurses := true, named := ["cosmac/font.smallFont", "cosmac/font.bigFont"], apart := false, laid := [("cosmac/font.smallFont", laid_cosmac_font_smallFont), ("cosmac/font.bigFont", laid_cosmac_font_bigFont)], narrowed := true }
def MachineFrozenUptoSaid : Prop := machineFrozenUptoRow.holds Tryz.pinned (OpenSpec.upto machineFrozenSpec)

/-- 'cosmaclaw20.MachineResumes', WHERE WHAT IT READS IS OF BULK AT MOST 1048576: true; the input reads as it did. -/
def machineResumesUptoRow : OpenClaim := { program := "ytcjldabaekbdlaagreatdoor", sum := "c9f3a9aca7019b6e12478604ac622fcfa09f9c0bb5b44c0e1c87b06fc7d0e16d", func := "cosmac/cosmaclaw20.MachineResumes", spec := "machineResumes", inPlace := ["sync/atomic.AddInt64"], unfollowed := true, recurses := true, named := ["cosmac/font.smallFont", "cosmac/font.bigFont"], apart := false, laid := [("cosmac/font.smallFont", laid_cosmac_font_smallFont), ("cosmac/font.bigFont", laid_cosmac_font_bigFont)], narrowed := true }
def MachineResumesUptoSaid : Prop := machineResumesUptoRow.holds Tryz.pinned (OpenSpec.upto machineResumesSpec)

/-- 'cosmaclaw20.MachineKeys', WHERE WHAT IT READS IS OF BULK AT MOST 1048576: true; the input reads as it did. -/
def machineKeysUptoRow : OpenClaim := { program := "ytcjldabaekbdlaagreatdoor", sum := "c9f3a9aca7019b6e12478604ac622fcfa09f9c0bb5b44c0e1c87b06fc7d0e16d", func := "cosmac/cosmaclaw20.MachineKeys", spec := "machineKeys", inPlace := ["sync/atomic.AddInt64"], unfollowed := true, recurses := true, named := ["cosmac/font.smallFont", "cosmac/font.bigFont"], apart := false, laid := [("cosmac/font.smallFont", laid_cosmac_font_smallFont), ("cosmac/font.bigFont", laid_cosmac_font_bigFont)], narrowed := true }
def MachineKeysUptoSaid : Prop := machineKeysUptoRow.holds Tryz.pinned (OpenSpec.upto machineKeysSpec)

end Rows
end Go.Proofs.YtcjldabaekbdlaaGreatDoor
