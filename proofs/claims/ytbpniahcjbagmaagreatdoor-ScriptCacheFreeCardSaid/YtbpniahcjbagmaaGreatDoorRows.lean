/-
  NARROWER THAN 'FOR EVERY INPUT', by the rows' own cells (each row's printed sentence says how): FrameStops: laid · ScriptCacheFree: laid · ScriptRejects: laid · ScriptPrefix: laid · ScriptFrames: laid.
  DERIVED. THE GIVEN ROWS OF THIS SEAT. 5 by the template 'for every input the law returns true; each argument reads behind the call as it read before'; 0 by the template 'total and deterministic' (their statements: YtbpniahcjbagmaaGreatDoorTotals.lean).
  GIVEN WITH THE SEED: the statements are not yours to turn. If you find one false, say at which input.
  Laid BY PROGRAM, IN A SANDBOX (cutbox-rows.mjs): the forced cells as the released guide's own fill.sh prints them over the translation 51a5189a7f1d01ce… (all of the seat's roots in one cut). By AI agents, Wed Nov 11 2026. No macro, syntax, notation, axiom, sorry.
-/
import Derived.Test.YtbpniahcjbagmaaGreatDoorChecked
import GoSem.Claim
import GoSem.ClaimJoined
import GoSem.ClaimMapViews
import Derived.JoinedTies
import Derived.KernelRfl
namespace Go.Proofs.YtbpniahcjbagmaaGreatDoor
/- THE CELL 'sum', in the pinned program and in every row, IS THE sha256 OF THE DUMP (.gsa) THAT YtbpniahcjbagmaaGreatDoorProg.lean LOADS. Nothing in Lean hashes anything: it is a label: what it is worth is what the hold of that sum in a sandbox is worth. -/
noncomputable def Tryz.pinned : Pinned := { name := "ytbpniahcjbagmaagreatdoor", sum := "51a5189a7f1d01ce9258d87d014cc19c16671e19f4ee665055017e24fd50a3ab", checked := Tryz.checked }
namespace Rows
def none {H : Type} : Left H := { results := [], args := [] }

/- WHAT THE LISTED PACKAGE-LEVEL VARIABLES READ AS WHEN THE CALL BEGINS. Each datum BY PROGRAM (the guide's laid-datum.mjs) off the statement by which the dump's own 'gosem.cut.vars' lays the variable. In a bare row this is a premise. The card (YtbpniahcjbagmaaGreatDoorCards.lean) ties it to the program's text. -/
def laid_cosmac_font_smallFont {H : Type} : DataW H := .agg [.agg [.lit (.int .u8 240), .lit (.int .u8 144), .lit (.int .u8 144), .lit (.int .u8 144), .lit (.int .u8 240)], .agg [.lit (.int .u8 32), .lit (.int .u8 96), .lit (.int .u8 32), .lit (.int .u8 32), .lit (.int .u8 112)], .agg [.lit (.int .u8 240), .lit (.int .u8 16), .lit (.int .u8 240), .lit (.int .u8 128), .lit (.int .u8 240)], .agg [.lit (.int .u8 240), .lit (.int .u8 16), .lit (.int .u8 240), .lit (.int .u8 16), .lit (.int .u8 240)], .agg [.lit (.int .u8 144), .lit (.int .u8 144), .lit (.int .u8 240), .lit (.int .u8 16), .lit (.int .u8 16)], .agg [.lit (.int .u8 240), .lit (.int .u8 128), .lit (.int .u8 240), .lit (.int .u8 16), .lit (.int .u8 240)], .agg [.lit (.int .u8 240), .lit (.int .u8 128), .lit (.int .u8 240), .lit (.int .u8 144), .lit (.int .u8 240)], .agg [.lit (.int .u8 240), .lit (.int .u8 16), .lit (.int .u8 32), .lit (.int .u8 64), .lit (.int .u8 64)], .agg [.lit (.int .u8 240), .lit (.int .u8 144), .lit (.int .u8 240), .lit (.int .u8 144), .lit (.int .u8 240)], .agg [.lit (.int .u8 240), .lit (.int .u8 144), .lit (.int .u8 240), .lit (.int .u8 16), .lit (.int .u8 240)], .agg [.lit (.int .u8 240), .lit (.int .u8 144), .lit (.int .u8 240), .lit (.int .u8 144), .lit (.int .u8 144)], .agg [.lit (.int .u8 224), .lit (.int .u8 144), .lit (.int .u8 224), .lit (.int .u8 144), .lit (.int .u8 224)], .agg [.lit (.int .u8 240), .lit (.int .u8 128), .lit (.int .u8 128), .lit (.int .u8 128), .lit (.int .u8 240)], .agg [.lit (.int .u8 224), .lit (.int .u8 144), .lit (.int .u8 144), .lit (.int .u8 144), .lit (.int .u8 224)], .agg [.lit (.int .u8 240), .lit (.int .u8 128), .lit (.int .u8 240), .lit (.int .u8 128), .lit (.int .u8 240)], .agg [.lit (.int .u8 240), .lit (.int .u8 128), .lit (.int .u8 240), .lit (.int .u8 128), .lit (.int .u8 128)]]
def laid_cosmac_font_bigFont {H : Type} : DataW H := .agg [.agg [.lit (.int .u8 60), .lit (.int .u8 126), .lit (.int .u8 231), .lit (.int .u8 195), .lit (.int .u8 195), .lit (.int .u8 195), .lit (.int .u8 195), .lit (.int .u8 231), .lit (.int .u8 126), .lit (.int .u8 60)], .agg [.lit (.int .u8 24), .lit (.int .u8 56), .lit (.int .u8 88), .lit (.int .u8 24), .lit (.int .u8 24), .lit (.int .u8 24), .lit (.int .u8 24), .lit (.int .u8 24), .lit (.int .u8 24), .lit (.int .u8 60)], .agg [.lit (.int .u8 62), .lit (.int .u8 127), .lit (.int .u8 195), .lit (.int .u8 6), .lit (.int .u8 12), .lit (.int .u8 24), .lit (.int .u8 48), .lit (.int .u8 96), .lit (.int .u8 255), .lit (.int .u8 255)], .agg [.lit (.int .u8 60), .lit (.int .u8 126), .lit (.int .u8 195), .lit (.int .u8 3), .lit (.int .u8 14), .lit (.int .u8 14), .lit (.int .u8 3), .lit (.int .u8 195), .lit (.int .u8 126), .lit (.int .u8 60)], .agg [.lit (.int .u8 6), .lit (.int .u8 14), .lit (.int .u8 30), .lit (.int .u8 54), .lit (.int .u8 102), .lit (.int .u8 198), .lit (.int .u8 255), .lit (.int .u8 255), .lit (.int .u8 6), .lit (.int .u8 6)], .agg [.lit (.int .u8 255), .lit (.int .u8 255), .lit (.int .u8 192), .lit (.int .u8 192), .lit (.int .u8 252), .lit (.int .u8 254), .lit (.int .u8 3), .lit (.int .u8 195), .lit (.int .u8 126), .lit (.int .u8 60)], .agg [.lit (.int .u8 62), .lit (.int .u8 124), .lit (.int .u8 224), .lit (.int .u8 192), .lit (.int .u8 252), .lit (.int .u8 254), .lit (.int .u8 195), .lit (.int .u8 195), .lit (.int .u8 126), .lit (.int .u8 60)], .agg [.lit (.int .u8 255), .lit (.int .u8 255), .lit (.int .u8 3), .lit (.int .u8 6), .lit (.int .u8 12), .lit (.int .u8 24), .lit (.int .u8 48), .lit (.int .u8 96), .lit (.int .u8 96), .lit (.int .u8 96)], .agg [.lit (.int .u8 60), .lit (.int .u8 126), .lit (.int .u8 195), .lit (.int .u8 195), .lit (.int .u8 126), .lit (.int .u8 126), .lit (.int .u8 195), .lit (.int .u8 195), .lit (.int .u8 126), .lit (.int .u8 60)], .agg [.lit (.int .u8 60), .lit (.int .u8 126), .lit (.int .u8 195), .lit (.int .u8 195), .lit (.int .u8 127), .lit (.int .u8 63), .lit (.int .u8 3), .lit (.int .u8 3), .lit (.int .u8 62), .lit (.int .u8 124)], .agg [.lit (.int .u8 126), .lit (.int .u8 255), .lit (.int .u8 195), .lit (.int .u8 195), .lit (.int .u8 195), .lit (.int .u8 255), .lit (.int .u8 255), .lit (.int .u8 195), .lit (.int .u8 195), .lit (.int .u8 195)], .agg [.lit (.int .u8 252), .lit (.int .u8 252), .lit (.int .u8 195), .lit (.int .u8 195), .lit (.int .u8 252), .lit (.int .u8 252), .lit (.int .u8 195), .lit (.int .u8 195), .lit (.int .u8 252), .lit (.int .u8 252)], .agg [.lit (.int .u8 60), .lit (.int .u8 255), .lit (.int .u8 195), .lit (.int .u8 192), .lit (.int .u8 192), .lit (.int .u8 192), .lit (.int .u8 192), .lit (.int .u8 195), .lit (.int .u8 255), .lit (.int .u8 60)], .agg [.lit (.int .u8 252), .lit (.int .u8 254), .lit (.int .u8 195), .lit (.int .u8 195), .lit (.int .u8 195), .lit (.int .u8 195), .lit (.int .u8 195), .lit (.int .u8 195), .lit (.int .u8 254), .lit (.int .u8 252)], .agg [.lit (.int .u8 255), .lit (.int .u8 255), .lit (.int .u8 192), .lit (.int .u8 192), .lit (.int .u8 255), .lit (.int .u8 255), .lit (.int .u8 192), .lit (.int .u8 192), .lit (.int .u8 255), .lit (.int .u8 255)], .agg [.lit (.int .u8 255), .lit (.int .u8 255), .lit (.int .u8 192), .lit (.int .u8 192), .lit (.int .u8 255), .lit (.int .u8 255), .lit (.int .u8 192), .lit (.int .u8 192), .lit (.int .u8 192), .lit (.int .u8 192)]]

/-- 'cosmaclaw21.FrameStops': WHATEVER THE INPUT: true; the input reads as it did. -/
def frameStopsSpec : ChangeSpec := { name := "frameStops", fn := fun _ => fun
  | [d1, d2, d3, d4] => { results := [.lit (.bool true)], args := [d1, d2, d3, d4] }
  | _ => none }
def frameStopsRow : OpenClaim := { program := "ytbpniahcjbagmaagreatdoor", sum := "51a5189a7f1d01ce9258d87d014cc19c16671e19f4ee665055017e24fd50a3ab", func := "cosmac/cosmaclaw21.FrameStops", spec := "frameStops", inPlace := ["sync/atomic.AddInt64"], unfollowed := true, recurses := true, named := ["cosmac/font.smallFont", "cosmac/font.bigFont"], apart := false, laid := [("cosmac/font.smallFont", laid_cosmac_font_smallFont), ("cosmac/font.bigFont", laid_cosmac_font_bigFont)] }
def FrameStopsSaid : Prop := frameStopsRow.holds Tryz.pinned (OpenSpec.ofChange frameStopsSpec)

/-- ITS FALSE NEIGHBOUR: 'it returns false'. Refute it at one input. -/
def frameStopsWrong : ChangeSpec := { name := "frameStops", fn := fun _ => fun
  | [d1, d2, d3, d4] => { results := [.lit (.bool false)], args := [d1, d2, d3, d4] }
  | _ => none }
def FrameStopsWrongFalsely : Prop := frameStopsRow.holds Tryz.pinned (OpenSpec.ofChange frameStopsWrong)

/-- 'cosmaclaw22.ScriptCacheFree': WHATEVER THE INPUT: true; the input reads as it did. -/
def scriptCacheFreeSpec : ChangeSpec := { name := "scriptCacheFree", fn := fun _ => fun
  | [d1, d2] => { results := [.lit (.bool true)], args := [d1, d2] }
  | _ => none }
def scriptCacheFreeRow : OpenClaim := { program := "ytbpniahcjbagmaagreatdoor", sum := "51a5189a7f1d01ce9258d87d014cc19c16671e19f4ee665055017e24fd50a3ab", func := "cosmac/cosmaclaw22.ScriptCacheFree", spec := "scriptCacheFree", inPlace := ["sync/atomic.AddInt64"], unfollowed := true, recurses := true, named := ["cosmac/font.smallFont", "cosmac/font.bigFont"], apart := false, laid := [("cosmac/font.smallFont", laid_cosmac_font_smallFont), ("cosmac/font.bigFont", laid_cosmac_font_bigFont)] }
def ScriptCacheFreeSaid : Prop := scriptCacheFreeRow.holds Tryz.pinned (OpenSpec.ofChange scriptCacheFreeSpec)

/-- ITS FALSE NEIGHBOUR: 'it returns false'. Refute it at one input. -/
def scriptCacheFreeWrong : ChangeSpec := { name := "scriptCacheFree", fn := fun _ => fun
  | [d1, d2] => { results := [.lit (.bool false)], args := [d1, d2] }
  | _ => none }
def ScriptCacheFreeWrongFalsely : Prop := scriptCacheFreeRow.holds Tryz.pinned (OpenSpec.ofChange scriptCacheFreeWrong)

/-- 'cosmaclaw22.ScriptRejects': WHATEVER THE INPUT: true; the input reads as it did. -/
def scriptRejectsSpec : ChangeSpec := { name := "scriptRejects", fn := fun _ => fun
  | [d1, d2, d3] => { results := [.lit (.bool true)], args := [d1, d2, d3] }
  | _ => none }
def scriptRejectsRow : OpenClaim := { program := "ytbpniahcjbagmaagreatdoor", sum := "51a5189a7f1d01ce9258d87d014cc19c16671e19f4ee665055017e24fd50a3ab", func := "cosmac/cosmaclaw22.ScriptRejects", spec := "scriptRejects", inPlace := ["sync/atomic.AddInt64"], unfollowed := true, recurses := true, named := ["cosmac/font.smallFont", "cosmac/font.bigFont"], apart := false, laid := [("cosmac/font.smallFont", laid_cosmac_font_smallFont), ("cosmac/font.bigFont", laid_cosmac_font_bigFont)] }
def ScriptRejectsSaid : Prop := scriptRejectsRow.holds Tryz.pinned (OpenSpec.ofChange scriptRejectsSpec)

/-- ITS FALSE NEIGHBOUR: 'it returns false'. Refute it at one input. -/
def scriptRejectsWrong : ChangeSpec := { name := "scriptRejects", fn := fun _ => fun
  | [d1, d2, d3] => { results := [.lit (.bool false)], args := [d1, d2, d3] }
  | _ => none }
def ScriptRejectsWrongFalsely : Prop := scriptRejectsRow.holds Tryz.pinned (OpenSpec.ofChange scriptRejectsWrong)

/-- 'cosmaclaw22.ScriptPrefix': WHATEVER THE INPUT: true; the input reads as it did. -/
def scriptPrefixSpec : ChangeSpec := { name := "scriptPrefix", fn := fun _ => fun
  | [d1, d2] => { results := [.lit (.bool true)], args := [d1, d2] }
  | _ => none }
def scriptPrefixRow : OpenClaim := { program := "ytbpniahcjbagmaagreatdoor", sum := "51a5189a7f1d01ce9258d87d014cc19c16671e19f4ee665055017e24fd50a3ab", func := "cosmac/cosmaclaw22.ScriptPrefix", spec := "scriptPrefix", inPlace := ["sync/atomic.AddInt64"], unfollowed := true, recurses := true, named := ["cosmac/font.smallFont", "cosmac/font.bigFont"], apart := false, laid := [("cosmac/font.smallFont", laid_cosmac_font_smallFont), ("cosmac/font.bigFont", laid_cosmac_font_bigFont)] }
def ScriptPrefixSaid : Prop := scriptPrefixRow.holds Tryz.pinned (OpenSpec.ofChange scriptPrefixSpec)

/-- ITS FALSE NEIGHBOUR: 'it returns false'. Refute it at one input. -/
def scriptPrefixWrong : ChangeSpec := { name := "scriptPrefix", fn := fun _ => fun
  | [d1, d2] => { results := [.lit (.bool false)], args := [d1, d2] }
  | _ => none }
def ScriptPrefixWrongFalsely : Prop := scriptPrefixRow.holds Tryz.pinned (OpenSpec.ofChange scriptPrefixWrong)

/-- 'cosmaclaw22.ScriptFrames': WHATEVER THE INPUT: true; the input reads as it did. -/
def scriptFramesSpec : ChangeSpec := { name := "scriptFrames", fn := fun _ => fun
  | [d] => { results := [.lit (.bool true)], args := [d] }
  | _ => none }
def scriptFramesRow : OpenClaim := { program := "ytbpniahcjbagmaagreatdoor", sum := "51a5189a7f1d01ce9258d87d014cc19c16671e19f4ee665055017e24fd50a3ab", func := "cosmac/cosmaclaw22.ScriptFrames", spec := "scriptFrames", inPlace := ["sync/atomic.AddInt64"], unfollowed := true, recurses := true, named := ["cosmac/font.smallFont", "cosmac/font.bigFont"], apart := false, laid := [("cosmac/font.smallFont", laid_cosmac_font_smallFont), ("cosmac/font.bigFont", laid_cosmac_font_bigFont)] }
def ScriptFramesSaid : Prop := scriptFramesRow.holds Tryz.pinned (OpenSpec.ofChange scriptFramesSpec)

/-- ITS FALSE NEIGHBOUR: 'it returns false'. Refute it at one input. -/
def scriptFramesWrong : ChangeSpec := { name := "scriptFrames", fn := fun _ => fun
  | [d] => { results := [.lit (.bool false)], args := [d] }
  | _ => none }
def ScriptFramesWrongFalsely : Prop := scriptFramesRow.holds Tryz.pinned (OpenSpec.ofChange scriptFramesWrong)

/- THE SECOND FORM. 'bulk': how many values and letters a reading holds, each counted each time it is reached (what is shared counts as often as it is met; a slice's spare places count too). A statement '..UptoSaid' is the law's where the arguments, and the package variables that the reading takes, are together of bulk at most 1048576: NARROWER than '..Said'. Prove '..Said' where nothing that the law and all that it calls make is longer than what came in: it says more and counts as full. Else prove '..UptoSaid'. A law counts once. -/
mutual
def uptoBulk {H : Type} : DataW H → Nat
  | .lit (.string bytes) => bytes.length + 1
  | .lit _ => 1
  | .nil => 1
  | .ptr d => uptoBulk d + 1
  | .slice elems spare => uptoBulkAll elems + uptoBulkAll spare + 1
  | .agg parts => uptoBulkAll parts + 1
  | .iface _ d => uptoBulk d + 1
  | .map entries => uptoBulkEntries entries + 1
  | .held _ => 1
def uptoBulkAll {H : Type} : List (DataW H) → Nat
  | [] => 0
  | d :: r => uptoBulk d + uptoBulkAll r
def uptoBulkEntries {H : Type} : List (Lit × DataW H) → Nat
  | [] => 0
  | x :: r => uptoBulkEntry x + uptoBulkEntries r
def uptoBulkEntry {H : Type} : Lit × DataW H → Nat
  | (.string bytes, d) => bytes.length + uptoBulk d + 1
  | (_, d) => uptoBulk d + 1
 end
def uptoSmall : (H : Type) → List (DataW H) → Bool := fun _ ds => decide (uptoBulkAll ds ≤ 1048576)
def OpenSpec.upto (s : _root_.Go.ChangeSpec) : _root_.Go.OpenSpec := { _root_.Go.OpenSpec.ofChange s with cond := some uptoSmall }

/-- 'cosmaclaw21.FrameStops', WHERE WHAT IT READS IS OF BULK AT MOST 1048576: true; the input reads as it did. -/
def frameStopsUptoRow : OpenClaim := { program := "ytbpniahcjbagmaagreatdoor", sum := "51a5189a7f1d01ce9258d87d014cc19c16671e19f4ee665055017e24fd50a3ab", func := "cosmac/cosmaclaw21.FrameStops", spec := "frameStops", inPlace := ["sync/atomic.AddInt64"], unfollowed := true, recurses := true, named := ["cosmac/font.smallFont", "cosmac/font.bigFont"], apart := false, laid := [("cosmac/font.smallFont", laid_cosmac_font_smallFont), ("cosmac/font.bigFont", laid_cosmac_font_bigFont)], narrowed := true }
def FrameStopsUptoSaid : Prop := frameStopsUptoRow.holds Tryz.pinned (OpenSpec.upto frameStopsSpec)

/-- 'cosmaclaw22.ScriptCacheFree', WHERE WHAT IT READS IS OF BULK AT MOST 1048576: true; the input reads as it did. -/
def scriptCacheFreeUptoRow : OpenClaim := { program := "ytbpniahcjbagmaagreatdoor", sum := "51a5189a7f1d01ce9258d87d014cc19c16671e19f4ee665055017e24fd50a3ab", func := "cosmac/cosmaclaw22.ScriptCacheFree", spec := "scriptCacheFree", inPlace := ["sync/atomic.AddInt64"], unfollowed := true, recurses := true, named := ["cosmac/font.smallFont", "cosmac/font.bigFont"], apart := false, laid := [("cosmac/font.smallFont", laid_cosmac_font_smallFont), ("cosmac/font.bigFont", laid_cosmac_font_bigFont)], narrowed := true }
def ScriptCacheFreeUptoSaid : Prop := scriptCacheFreeUptoRow.holds Tryz.pinned (OpenSpec.upto scriptCacheFreeSpec)

/-- 'cosmaclaw22.ScriptRejects', WHERE WHAT IT READS IS OF BULK AT MOST 1048576: true; the input reads as it did. -/
def scriptRejectsUptoRow : OpenClaim := { program := "ytbpniahcjbagmaagreatdoor", sum := "51a5189a7f1d01ce9258d87d014cc19c16671e19f4ee665055017e24fd50a3ab", func := "cosmac/cosmaclaw22.ScriptRejects", spec := "scriptRejects", inPlace := ["sync/atomic.AddInt64"], unfollowed := true, recurses := true, named := ["cosmac/font.smallFont", "cosmac/font.bigFont"], apart := false, laid := [("cosmac/font.smallFont", laid_cosmac_font_smallFont), ("cosmac/font.bigFont", laid_cosmac_font_bigFont)], narrowed := true }
def ScriptRejectsUptoSaid : Prop := scriptRejectsUptoRow.holds Tryz.pinned (OpenSpec.upto scriptRejectsSpec)

/-- 'cosmaclaw22.ScriptPrefix', WHERE WHAT IT READS IS OF BULK AT MOST 1048576: true; the input reads as it did. -/
def scriptPrefixUptoRow : OpenClaim := { program := "ytbpniahcjbagmaagreatdoor", sum := "51a5189a7f1d01ce9258d87d014cc19c16671e19f4ee665055017e24fd50a3ab", func := "cosmac/cosmaclaw22.ScriptPrefix", spec := "scriptPrefix", inPlace := ["sync/atomic.AddInt64"], unfollowed := true, recurses := true, named := ["cosmac/font.smallFont", "cosmac/font.bigFont"], apart := false, laid := [("cosmac/font.smallFont", laid_cosmac_font_smallFont), ("cosmac/font.bigFont", laid_cosmac_font_bigFont)], narrowed := true }
def ScriptPrefixUptoSaid : Prop := scriptPrefixUptoRow.holds Tryz.pinned (OpenSpec.upto scriptPrefixSpec)

/-- 'cosmaclaw22.ScriptFrames', WHERE WHAT IT READS IS OF BULK AT MOST 1048576: true; the input reads as it did. -/
def scriptFramesUptoRow : OpenClaim := { program := "ytbpniahcjbagmaagreatdoor", sum := "51a5189a7f1d01ce9258d87d014cc19c16671e19f4ee665055017e24fd50a3ab", func := "cosmac/cosmaclaw22.ScriptFrames", spec := "scriptFrames", inPlace := ["sync/atomic.AddInt64"], unfollowed := true, recurses := true, named := ["cosmac/font.smallFont", "cosmac/font.bigFont"], apart := false, laid := [("cosmac/font.smallFont", laid_cosmac_font_smallFont), ("cosmac/font.bigFont", laid_cosmac_font_bigFont)], narrowed := true }
def ScriptFramesUptoSaid : Prop := scriptFramesUptoRow.holds Tryz.pinned (OpenSpec.upto scriptFramesSpec)

end Rows
end Go.Proofs.YtbpniahcjbagmaaGreatDoor
