/-
  NARROWER THAN 'FOR EVERY INPUT', by the rows' own cells (each row's printed sentence says how): MachineFrozen: laid · MachineKeys: laid · FrameRange: laid · FrameSplits: laid · FrameStops: laid.
  DERIVED. THE GIVEN ROWS OF THIS SEAT. 5 by the template 'for every input the law returns true; each argument reads behind the call as it read before'; 0 by the template 'total and deterministic' (their statements: YthknmadinmigfaaGreatDoorTotals.lean).
  GIVEN WITH THE SEED: the statements are not yours to turn. If you find one false, say at which input.
  Laid BY PROGRAM, IN A SANDBOX (cutbox-rows.mjs): the forced cells as the released guide's own fill.sh prints them over the translation c9eb47aa885d44cc… (all of the seat's roots in one cut). By AI agents, Wed Nov 11 2026. No macro, syntax, notation, axiom, sorry.
-/
import Derived.Test.YthknmadinmigfaaGreatDoorChecked
import GoSem.Claim
import GoSem.ClaimJoined
import GoSem.ClaimMapViews
import Derived.JoinedTies
import Derived.KernelRfl
namespace Go.Proofs.YthknmadinmigfaaGreatDoor
/- THE CELL 'sum', in the pinned program and in every row, IS THE sha256 OF THE DUMP (.gsa) THAT YthknmadinmigfaaGreatDoorProg.lean LOADS. Nothing in Lean hashes anything: it is a label: what it is worth is what the hold of that sum in a sandbox is worth. -/
noncomputable def Tryz.pinned : Pinned := { name := "ythknmadinmigfaagreatdoor", sum := "c9eb47aa885d44ccffd8c126cfa67b26fef0147a36ebd9a8c4565a666d8492a0", checked := Tryz.checked }
namespace Rows
def none {H : Type} : Left H := { results := [], args := [] }

/- WHAT THE LISTED PACKAGE-LEVEL VARIABLES READ AS WHEN THE CALL BEGINS. Each datum BY PROGRAM (the guide's laid-datum.mjs) off the statement by which the dump's own 'gosem.cut.vars' lays the variable. In a bare row this is a premise. The card (YthknmadinmigfaaGreatDoorCards.lean) ties it to the program's text. -/
def laid_cosmac_font_smallFont {H : Type} : DataW H := .agg [.agg [.lit (.int .u8 240), .lit (.int .u8 144), .lit (.int .u8 144), .lit (.int .u8 144), .lit (.int .u8 240)], .agg [.lit (.int .u8 32), .lit (.int .u8 96), .lit (.int .u8 32), .lit (.int .u8 32), .lit (.int .u8 112)], .agg [.lit (.int .u8 240), .lit (.int .u8 16), .lit (.int .u8 240), .lit (.int .u8 128), .lit (.int .u8 240)], .agg [.lit (.int .u8 240), .lit (.int .u8 16), .lit (.int .u8 240), .lit (.int .u8 16), .lit (.int .u8 240)], .agg [.lit (.int .u8 144), .lit (.int .u8 144), .lit (.int .u8 240), .lit (.int .u8 16), .lit (.int .u8 16)], .agg [.lit (.int .u8 240), .lit (.int .u8 128), .lit (.int .u8 240), .lit (.int .u8 16), .lit (.int .u8 240)], .agg [.lit (.int .u8 240), .lit (.int .u8 128), .lit (.int .u8 240), .lit (.int .u8 144), .lit (.int .u8 240)], .agg [.lit (.int .u8 240), .lit (.int .u8 16), .lit (.int .u8 32), .lit (.int .u8 64), .lit (.int .u8 64)], .agg [.lit (.int .u8 240), .lit (.int .u8 144), .lit (.int .u8 240), .lit (.int .u8 144), .lit (.int .u8 240)], .agg [.lit (.int .u8 240), .lit (.int .u8 144), .lit (.int .u8 240), .lit (.int .u8 16), .lit (.int .u8 240)], .agg [.lit (.int .u8 240), .lit (.int .u8 144), .lit (.int .u8 240), .lit (.int .u8 144), .lit (.int .u8 144)], .agg [.lit (.int .u8 224), .lit (.int .u8 144), .lit (.int .u8 224), .lit (.int .u8 144), .lit (.int .u8 224)], .agg [.lit (.int .u8 240), .lit (.int .u8 128), .lit (.int .u8 128), .lit (.int .u8 128), .lit (.int .u8 240)], .agg [.lit (.int .u8 224), .lit (.int .u8 144), .lit (.int .u8 144), .lit (.int .u8 144), .lit (.int .u8 224)], .agg [.lit (.int .u8 240), .lit (.int .u8 128), .lit (.int .u8 240), .lit (.int .u8 128), .lit (.int .u8 240)], .agg [.lit (.int .u8 240), .lit (.int .u8 128), .lit (.int .u8 240), .lit (.int .u8 128), .lit (.int .u8 128)]]
def laid_cosmac_font_bigFont {H : Type} : DataW H := .agg [.agg [.lit (.int .u8 60), .lit (.int .u8 126), .lit (.int .u8 231), .lit (.int .u8 195), .lit (.int .u8 195), .lit (.int .u8 195), .lit (.int .u8 195), .lit (.int .u8 231), .lit (.int .u8 126), .lit (.int .u8 60)], .agg [.lit (.int .u8 24), .lit (.int .u8 56), .lit (.int .u8 88), .lit (.int .u8 24), .lit (.int .u8 24), .lit (.int .u8 24), .lit (.int .u8 24), .lit (.int .u8 24), .lit (.int .u8 24), .lit (.int .u8 60)], .agg [.lit (.int .u8 62), .lit (.int .u8 127), .lit (.int .u8 195), .lit (.int .u8 6), .lit (.int .u8 12), .lit (.int .u8 24), .lit (.int .u8 48), .lit (.int .u8 96), .lit (.int .u8 255), .lit (.int .u8 255)], .agg [.lit (.int .u8 60), .lit (.int .u8 126), .lit (.int .u8 195), .lit (.int .u8 3), .lit (.int .u8 14), .lit (.int .u8 14), .lit (.int .u8 3), .lit (.int .u8 195), .lit (.int .u8 126), .lit (.int .u8 60)], .agg [.lit (.int .u8 6), .lit (.int .u8 14), .lit (.int .u8 30), .lit (.int .u8 54), .lit (.int .u8 102), .lit (.int .u8 198), .lit (.int .u8 255), .lit (.int .u8 255), .lit (.int .u8 6), .lit (.int .u8 6)], .agg [.lit (.int .u8 255), .lit (.int .u8 255), .lit (.int .u8 192), .lit (.int .u8 192), .lit (.int .u8 252), .lit (.int .u8 254), .lit (.int .u8 3), .lit (.int .u8 195), .lit (.int .u8 126), .lit (.int .u8 60)], .agg [.lit (.int .u8 62), .lit (.int .u8 124), .lit (.int .u8 224), .lit (.int .u8 192), .lit (.int .u8 252), .lit (.int .u8 254), .lit (.int .u8 195), .lit (.int .u8 195), .lit (.int .u8 126), .lit (.int .u8 60)], .agg [.lit (.int .u8 255), .lit (.int .u8 255), .lit (.int .u8 3), .lit (.int .u8 6), .lit (.int .u8 12), .lit (.int .u8 24), .lit (.int .u8 48), .lit (.int .u8 96), .lit (.int .u8 96), .lit (.int .u8 96)], .agg [.lit (.int .u8 60), .lit (.int .u8 126), .lit (.int .u8 195), .lit (.int .u8 195), .lit (.int .u8 126), .lit (.int .u8 126), .lit (.int .u8 195), .lit (.int .u8 195), .lit (.int .u8 126), .lit (.int .u8 60)], .agg [.lit (.int .u8 60), .lit (.int .u8 126), .lit (.int .u8 195), .lit (.int .u8 195), .lit (.int .u8 127), .lit (.int .u8 63), .lit (.int .u8 3), .lit (.int .u8 3), .lit (.int .u8 62), .lit (.int .u8 124)], .agg [.lit (.int .u8 126), .lit (.int .u8 255), .lit (.int .u8 195), .lit (.int .u8 195), .lit (.int .u8 195), .lit (.int .u8 255), .lit (.int .u8 255), .lit (.int .u8 195), .lit (.int .u8 195), .lit (.int .u8 195)], .agg [.lit (.int .u8 252), .lit (.int .u8 252), .lit (.int .u8 195), .lit (.int .u8 195), .lit (.int .u8 252), .lit (.int .u8 252), .lit (.int .u8 195), .lit (.int .u8 195), .lit (.int .u8 252), .lit (.int .u8 252)], .agg [.lit (.int .u8 60), .lit (.int .u8 255), .lit (.int .u8 195), .lit (.int .u8 192), .lit (.int .u8 192), .lit (.int .u8 192), .lit (.int .u8 192), .lit (.int .u8 195), .lit (.int .u8 255), .lit (.int .u8 60)], .agg [.lit (.int .u8 252), .lit (.int .u8 254), .lit (.int .u8 195), .lit (.int .u8 195), .lit (.int .u8 195), .lit (.int .u8 195), .lit (.int .u8 195), .lit (.int .u8 195), .lit (.int .u8 254), .lit (.int .u8 252)], .agg [.lit (.int .u8 255), .lit (.int .u8 255), .lit (.int .u8 192), .lit (.int .u8 192), .lit (.int .u8 255), .lit (.int .u8 255), .lit (.int .u8 192), .lit (.int .u8 192), .lit (.int .u8 255), .lit (.int .u8 255)], .agg [.lit (.int .u8 255), .lit (.int .u8 255), .lit (.int .u8 192), .lit (.int .u8 192), .lit (.int .u8 255), .lit (.int .u8 255), .lit (.int .u8 192), .lit (.int .u8 192), .lit (.int .u8 192), .lit (.int .u8 192)]]

/-- 'cosmaclaw20.MachineFrozen': WHATEVER THE INPUT: true; the input reads as it did. -/
def machineFrozenSpec : ChangeSpec := { name := "machineFrozen", fn := fun _ => fun
  | [d1, d2, d3, d4, d5] => { results := [.lit (.bool true)], args := [d1, d2, d3, d4, d5] }
  | _ => none }
def machineFrozenRow : OpenClaim := { program := "ythknmadinmigfaagreatdoor", sum := "c9eb47aa885d44ccffd8c126cfa67b26fef0147a36ebd9a8c4565a666d8492a0", func := "cosmac/cosmaclaw20.MachineFrozen", spec := "machineFrozen", inPlace := ["sync/atomic.AddInt64"], unfollowed := true, recurses := true, named := ["cosmac/font.smallFont", "cosmac/font.bigFont"], apart := false, laid := [("cosmac/font.smallFont", laid_cosmac_font_smallFont), ("cosmac/font.bigFont", laid_cosmac_font_bigFont)] }
def MachineFrozenSaid : Prop := machineFrozenRow.holds Tryz.pinned (OpenSpec.ofChange machineFrozenSpec)

/-- ITS FALSE NEIGHBOUR: 'it returns false'. Refute it at one input. -/
def machineFrozenWrong : ChangeSpec := { name := "machineFrozen", fn := fun _ => fun
  | [d1, d2, d3, d4, d5] => { results := [.lit (.bool false)], args := [d1, d2, d3, d4, d5] }
  | _ => none }
def MachineFrozenWrongFalsely : Prop := machineFrozenRow.holds Tryz.pinned (OpenSpec.ofChange machineFrozenWrong)

/-- 'cosmaclaw20.MachineKeys': WHATEVER THE INPUT: true; the input reads as it did. -/
def machineKeysSpec : ChangeSpec := { name := "machineKeys", fn := fun _ => fun
  | [d1, d2, d3, d4, d5] => { results := [.lit (.bool true)], args := [d1, d2, d3, d4, d5] }
  | _ => none }
def machineKeysRow : OpenClaim := { program := "ythknmadinmigfaagreatdoor", sum := "c9eb47aa885d44ccffd8c126cfa67b26fef0147a36ebd9a8c4565a666d8492a0", func := "cosmac/cosmaclaw20.MachineKeys", spec := "machineKeys", inPlace := ["sync/atomic.AddInt64"], unfollowed := true, recurses := true, named := ["cosmac/font.smallFont", "cosmac/font.bigFont"], apart := false, laid := [("cosmac/font.smallFont", laid_cosmac_font_smallFont), ("cosmac/font.bigFont", laid_cosmac_font_bigFont)] }
def MachineKeysSaid : Prop := machineKeysRow.holds Tryz.pinned (OpenSpec.ofChange machineKeysSpec)

/-- ITS FALSE NEIGHBOUR: 'it returns false'. Refute it at one input. -/
def machineKeysWrong : ChangeSpec := { name := "machineKeys", fn := fun _ => fun
  | [d1, d2, d3, d4, d5] => { results := [.lit (.bool false)], args := [d1, d2, d3, d4, d5] }
  | _ => none }
def MachineKeysWrongFalsely : Prop := machineKeysRow.holds Tryz.pinned (OpenSpec.ofChange machineKeysWrong)

/-- 'cosmaclaw21.FrameRange': WHATEVER THE INPUT: true; the input reads as it did. -/
def frameRangeSpec : ChangeSpec := { name := "frameRange", fn := fun _ => fun
  | [d1, d2, d3, d4, d5] => { results := [.lit (.bool true)], args := [d1, d2, d3, d4, d5] }
  | _ => none }
def frameRangeRow : OpenClaim := { program := "ythknmadinmigfaagreatdoor", sum := "c9eb47aa885d44ccffd8c126cfa67b26fef0147a36ebd9a8c4565a666d8492a0", func := "cosmac/cosmaclaw21.FrameRange", spec := "frameRange", inPlace := ["sync/atomic.AddInt64"], unfollowed := true, recurses := true, named := ["cosmac/font.smallFont", "cosmac/font.bigFont"], apart := false, laid := [("cosmac/font.smallFont", laid_cosmac_font_smallFont), ("cosmac/font.bigFont", laid_cosmac_font_bigFont)] }
def FrameRangeSaid : Prop := frameRangeRow.holds Tryz.pinned (OpenSpec.ofChange frameRangeSpec)

/-- ITS FALSE NEIGHBOUR: 'it returns false'. Refute it at one input. -/
def frameRangeWrong : ChangeSpec := { name := "frameRange", fn := fun _ => fun
  | [d1, d2, d3, d4, d5] => { results := [.lit (.bool false)], args := [d1, d2, d3, d4, d5] }
  | _ => none }
def FrameRangeWrongFalsely : Prop := frameRangeRow.holds Tryz.pinned (OpenSpec.ofChange frameRangeWrong)

/-- 'cosmaclaw21.FrameSplits': WHATEVER THE INPUT: true; the input reads as it did. -/
def frameSplitsSpec : ChangeSpec := { name := "frameSplits", fn := fun _ => fun
  | [d1, d2, d3, d4] => { results := [.lit (.bool true)], args := [d1, d2, d3, d4] }
  | _ => none }
def frameSplitsRow : OpenClaim := { program := "ythknmadinmigfaagreatdoor", sum := "c9eb47aa885d44ccffd8c126cfa67b26fef0147a36ebd9a8c4565a666d8492a0", func := "cosmac/cosmaclaw21.FrameSplits", spec := "frameSplits", inPlace := ["sync/atomic.AddInt64"], unfollowed := true, recurses := true, named := ["cosmac/font.smallFont", "cosmac/font.bigFont"], apart := false, laid := [("cosmac/font.smallFont", laid_cosmac_font_smallFont), ("cosmac/font.bigFont", laid_cosmac_font_bigFont)] }
def FrameSplitsSaid : Prop := frameSplitsRow.holds Tryz.pinned (OpenSpec.ofChange frameSplitsSpec)

/-- ITS FALSE NEIGHBOUR: 'it returns false'. Refute it at one input. -/
def frameSplitsWrong : ChangeSpec := { name := "frameSplits", fn := fun _ => fun
  | [d1, d2, d3, d4] => { results := [.lit (.bool false)], args := [d1, d2, d3, d4] }
  | _ => none }
def FrameSplitsWrongFalsely : Prop := frameSplitsRow.holds Tryz.pinned (OpenSpec.ofChange frameSplitsWrong)

/-- 'cosmaclaw21.FrameStops': WHATEVER THE INPUT: true; the input reads as it did. -/
def frameStopsSpec : ChangeSpec := { name := "frameStops", fn := fun _ => fun
  | [d1, d2, d3, d4] => { results := [.lit (.bool true)], args := [d1, d2, d3, d4] }
  | _ => none }
def frameStopsRow : OpenClaim := { program := "ythknmadinmigfaagreatdoor", sum := "c9eb47aa885d44ccffd8c126cfa67b26fef0147a36ebd9a8c4565a666d8492a0", func := "cosmac/cosmaclaw21.FrameStops", spec := "frameStops", inPlace := ["sync/atomic.AddInt64"], unfollowed := true, recurses := true, named := ["cosmac/font.smallFont", "cosmac/font.bigFont"], apart := false, laid := [("cosmac/font.smallFont", laid_cosmac_font_smallFont), ("cosmac/font.bigFont", laid_cosmac_font_bigFont)] }
def FrameStopsSaid : Prop := frameStopsRow.holds Tryz.pinned (OpenSpec.ofChange frameStopsSpec)

/-- ITS FALSE NEIGHBOUR: 'it returns false'. Refute it at one input. -/
def frameStopsWrong : ChangeSpec := { name := "frameStops", fn := fun _ => fun
  | [d1, d2, d3, d4] => { results := [.lit (.bool false)], args := [d1, d2, d3, d4] }
  | _ => none }
def FrameStopsWrongFalsely : Prop := frameStopsRow.holds Tryz.pinned (OpenSpec.ofChange frameStopsWrong)

/- THE SECOND FORM. 'bulk': how many values and letters a reading holds, each counted each time it is reached (what is shared counts as often as it is met; a slice's spare places count too). A statement '..UptoSaid' is the law's where the arguments, and the package variables that the reading takes, are together of bulk at most 1048576: NARROWER than '..Said'. Prove '..Said' where nothing that the law and all that it calls make is longer than what came in: it says more and counts as full. Else prove '..UptoSaid'. A law counts once. -/
mutual
def uptoBulk {H : Type} : DataW H → Nat
  | .lit (.string bytes) => bytes.length + 1
  | .lit _ => 1
  | .nil => 1
  | .ptr d => uptoBulk d + 1
  | .slice elems spare => uptoBulkAll elems + uptoBulkAll spare + 1
  | .agg parts => uptoBulkAll parts + 1
  | .iface _ d => uptoBulk d + 1
  | .map entries => uptoBulkEntries entries + 1
  | .held _ => 1
def uptoBulkAll {H : Type} : List (DataW H) → Nat
  | [] => 0
  | d :: r => uptoBulk d + uptoBulkAll r
def uptoBulkEntries {H : Type} : List (Lit × DataW H) → Nat
  | [] => 0
  | x :: r => uptoBulkEntry x + uptoBulkEntries r
def uptoBulkEntry {H : Type} : Lit × DataW H → Nat
  | (.string bytes, d) => bytes.length + uptoBulk d + 1
  | (_, d) => uptoBulk d + 1
 end
def uptoSmall : (H : Type) → List (DataW H) → Bool := fun _ ds => decide (uptoBulkAll ds ≤ 1048576)
def OpenSpec.upto (s : _root_.Go.ChangeSpec) : _root_.Go.OpenSpec := { _root_.Go.OpenSpec.ofChange s with cond := some uptoSmall }

/-- 'cosmaclaw20.MachineFrozen', WHERE WHAT IT READS IS OF BULK AT MOST 1048576: true; the input reads as it did. -/
def machineFrozenUptoRow : OpenClaim := { program := "ythknmadinmigfaagreatdoor", sum := "c9eb47aa885d44ccffd8c126cfa67b26fef0147a36ebd9a8c4565a666d8492a0", func := "cosmac/cosmaclaw20.MachineFrozen", spec := "machineFrozen", inPlace := ["sync/atomic.AddInt64"], unfollowed := true, recurses := true, named := ["cosmac/font.smallFont", "cosmac/font.bigFont"], apart := false, laid := [("cosmac/font.smallFont", laid_cosmac_font_smallFont), ("cosmac/font.bigFont", laid_cosmac_font_bigFont)], narrowed := true }
def MachineFrozenUptoSaid : Prop := machineFrozenUptoRow.holds Tryz.pinned (OpenSpec.upto machineFrozenSpec)

/-- 'cosmaclaw20.MachineKeys', WHERE WHAT IT READS IS OF BULK AT MOST 1048576: true; the input reads as it did. -/
def machineKeysUptoRow : OpenClaim := { program := "ythknmadinmigfaagreatdoor", sum := "c9eb47aa885d44ccffd8c126cfa67b26fef0147a36ebd9a8c4565a666d8492a0", func := "cosmac/cosmaclaw20.MachineKeys", spec := "machineKeys", inPlace := ["sync/atomic.AddInt64"], unfollowed := true, recurses := true, named := ["cosmac/font.smallFont", "cosmac/font.bigFont"], apart := false, laid := [("cosmac/font.smallFont", laid_cosmac_font_smallFont), ("cosmac/font.bigFont", laid_cosmac_font_bigFont)], narrowed := true }
def MachineKeysUptoSaid : Prop := machineKeysUptoRow.holds Tryz.pinned (OpenSpec.upto machineKeysSpec)

/-- 'cosmaclaw21.FrameRange', WHERE WHAT IT READS IS OF BULK AT MOST 1048576: true; the input reads as it did. -/
def frameRangeUptoRow : OpenClaim := { program := "ythknmadinmigfaagreatdoor", sum := "c9eb47aa885d44ccffd8c126cfa67b26fef0147a36ebd9a8c4565a666d8492a0", func := "cosmac/cosmaclaw21.FrameRange", spec := "frameRange", inPlace := ["sync/atomic.AddInt64"], unfollowed := true, recurses := true, named := ["cosmac/font.smallFont", "cosmac/font.bigFont"], apart := false, laid := [("cosmac/font.smallFont", laid_cosmac_font_smallFont), ("cosmac/font.bigFont", laid_cosmac_font_bigFont)], narrowed := true }
def FrameRangeUptoSaid : Prop := frameRangeUptoRow.holds Tryz.pinned (OpenSpec.upto frameRangeSpec)

/-- 'cosmaclaw21.FrameSplits', WHERE WHAT IT READS IS OF BULK AT MOST 1048576: true; the input reads as it did. -/
def frameSplitsUptoRow : OpenClaim := { program := "ythknmadinmigfaagreatdoor", sum := "c9eb47aa885d44ccffd8c126cfa67b26fef0147a36ebd9a8c4565a666d8492a0", func := "cosmac/cosmaclaw21.FrameSplits", spec := "frameSplits", inPlace := ["sync/atomic.AddInt64"], unfollowed := true, recurses := true, named := ["cosmac/font.smallFont", "cosmac/font.bigFont"], apart := false, laid := [("cosmac/font.smallFont", laid_cosmac_font_smallFont), ("cosmac/font.bigFont", laid_cosmac_font_bigFont)], narrowed := true }
def FrameSplitsUptoSaid : Prop := frameSplitsUptoRow.holds Tryz.pinned (OpenSpec.upto frameSplitsSpec)

/-- 'cosmaclaw21.FrameStops', WHERE WHAT IT READS IS OF BULK AT MOST 1048576: true; the input reads as it did. -/
def frameStopsUptoRow : OpenClaim := { program := "ythknmadinmigfaagreatdoor", sum := "c9eb47aa885d44ccffd8c126cfa67b26fef0147a36ebd9a8c4565a666d8492a0", func := "cosmac/cosmaclaw21.FrameStops", spec := "frameStops", inPlace := ["sync/atomic.AddInt64"], unfollowed := true, recurses := true, named := ["cosmac/font.smallFont", "cosmac/font.bigFont"], apart := false, laid := [("cosmac/font.smallFont", laid_cosmac_font_smallFont), ("cosmac/font.bigFont", laid_cosmac_font_bigFont)], narrowed := true }
def FrameStopsUptoSaid : Prop := frameStopsUptoRow.holds Tryz.pinned (OpenSpec.upto frameStopsSpec)

end Rows
end Go.Proofs.YthknmadinmigfaaGreatDoor
