/-
  NARROWER THAN 'FOR EVERY INPUT', by the rows' own cells (each row's printed sentence says how): FontMatchesReference: laid · FontGlyphs: laid · FontKeeps: laid · FontShapes: laid.
  DERIVED. THE GIVEN ROWS OF THIS SEAT. 4 by the template 'for every input the law returns true; each argument reads behind the call as it read before'; 0 by the template 'total and deterministic' (their statements: YtcihdfiomogiaaaDoorTotals.lean).
  GIVEN WITH THE SEED: the statements are not yours to turn. If you find one false, say at which input.
  Laid BY PROGRAM, IN A SANDBOX (cutbox-rows.mjs): the forced cells as the released guide's own fill.sh prints them over the translation 8e23d31898476e61… (all of the seat's roots in one cut). By AI agents, Wed Nov 11 2026. No macro, syntax, notation, axiom, sorry.
-/
import Derived.Test.YtcihdfiomogiaaaDoorChecked
import GoSem.Claim
import GoSem.ClaimJoined
import GoSem.ClaimMapViews
import Derived.JoinedTies
import Derived.KernelRfl
namespace Go.Proofs.YtcihdfiomogiaaaDoor
/- THE CELL 'sum', in the pinned program and in every row, IS THE sha256 OF THE DUMP (.gsa) THAT YtcihdfiomogiaaaDoorProg.lean LOADS. Nothing in Lean hashes anything: it is a label: what it is worth is what the hold of that sum in a sandbox is worth. -/
noncomputable def Tryd.pinned : Pinned := { name := "ytcihdfiomogiaaadoor", sum := "8e23d31898476e61a3b77d054441d89ce2ae7946d5de6df8b1322942277e95c8", checked := Tryd.checked }
namespace Rows
def none {H : Type} : Left H := { results := [], args := [] }

/- WHAT THE LISTED PACKAGE-LEVEL VARIABLES READ AS WHEN THE CALL BEGINS. Each datum BY PROGRAM (the guide's laid-datum.mjs) off the statement by which the dump's own 'gosem.cut.vars' lays the variable. In a bare row this is a premise. The card (YtcihdfiomogiaaaDoorCards.lean) ties it to the program's text. -/
def laid_cosmac_font_smallFont {H : Type} : DataW H := .agg [.agg [.lit (.int .u8 240), .lit (.int .u8 144), .lit (.int .u8 144), .lit (.int .u8 144), .lit (.int .u8 240)], .agg [.lit (.int .u8 32), .lit (.int .u8 96), .lit (.int .u8 32), .lit (.int .u8 32), .lit (.int .u8 112)], .agg [.lit (.int .u8 240), .lit (.int .u8 16), .lit (.int .u8 240), .lit (.int .u8 128), .lit (.int .u8 240)], .agg [.lit (.int .u8 240), .lit (.int .u8 16), .lit (.int .u8 240), .lit (.int .u8 16), .lit (.int .u8 240)], .agg [.lit (.int .u8 144), .lit (.int .u8 144), .lit (.int .u8 240), .lit (.int .u8 16), .lit (.int .u8 16)], .agg [.lit (.int .u8 240), .lit (.int .u8 128), .lit (.int .u8 240), .lit (.int .u8 16), .lit (.int .u8 240)], .agg [.lit (.int .u8 240), .lit (.int .u8 128), .lit (.int .u8 240), .lit (.int .u8 144), .lit (.int .u8 240)], .agg [.lit (.int .u8 240), .lit (.int .u8 16), .lit (.int .u8 32), .lit (.int .u8 64), .lit (.int .u8 64)], .agg [.lit (.int .u8 240), .lit (.int .u8 144), .lit (.int .u8 240), .lit (.int .u8 144), .lit (.int .u8 240)], .agg [.lit (.int .u8 240), .lit (.int .u8 144), .lit (.int .u8 240), .lit (.int .u8 16), .lit (.int .u8 240)], .agg [.lit (.int .u8 240), .lit (.int .u8 144), .lit (.int .u8 240), .lit (.int .u8 144), .lit (.int .u8 144)], .agg [.lit (.int .u8 224), .lit (.int .u8 144), .lit (.int .u8 224), .lit (.int .u8 144), .lit (.int .u8 224)], .agg [.lit (.int .u8 240), .lit (.int .u8 128), .lit (.int .u8 128), .lit (.int .u8 128), .lit (.int .u8 240)], .agg [.lit (.int .u8 224), .lit (.int .u8 144), .lit (.int .u8 144), .lit (.int .u8 144), .lit (.int .u8 224)], .agg [.lit (.int .u8 240), .lit (.int .u8 128), .lit (.int .u8 240), .lit (.int .u8 128), .lit (.int .u8 240)], .agg [.lit (.int .u8 240), .lit (.int .u8 128), .lit (.int .u8 240), .lit (.int .u8 128), .lit (.int .u8 128)]]
def laid_cosmac_font_bigFont {H : Type} : DataW H := .agg [.agg [.lit (.int .u8 60), .lit (.int .u8 126), .lit (.int .u8 231), .lit (.int .u8 195), .lit (.int .u8 195), .lit (.int .u8 195), .lit (.int .u8 195), .lit (.int .u8 231), .lit (.int .u8 126), .lit (.int .u8 60)], .agg [.lit (.int .u8 24), .lit (.int .u8 56), .lit (.int .u8 88), .lit (.int .u8 24), .lit (.int .u8 24), .lit (.int .u8 24), .lit (.int .u8 24), .lit (.int .u8 24), .lit (.int .u8 24), .lit (.int .u8 60)], .agg [.lit (.int .u8 62), .lit (.int .u8 127), .lit (.int .u8 195), .lit (.int .u8 6), .lit (.int .u8 12), .lit (.int .u8 24), .lit (.int .u8 48), .lit (.int .u8 96), .lit (.int .u8 255), .lit (.int .u8 255)], .agg [.lit (.int .u8 60), .lit (.int .u8 126), .lit (.int .u8 195), .lit (.int .u8 3), .lit (.int .u8 14), .lit (.int .u8 14), .lit (.int .u8 3), .lit (.int .u8 195), .lit (.int .u8 126), .lit (.int .u8 60)], .agg [.lit (.int .u8 6), .lit (.int .u8 14), .lit (.int .u8 30), .lit (.int .u8 54), .lit (.int .u8 102), .lit (.int .u8 198), .lit (.int .u8 255), .lit (.int .u8 255), .lit (.int .u8 6), .lit (.int .u8 6)], .agg [.lit (.int .u8 255), .lit (.int .u8 255), .lit (.int .u8 192), .lit (.int .u8 192), .lit (.int .u8 252), .lit (.int .u8 254), .lit (.int .u8 3), .lit (.int .u8 195), .lit (.int .u8 126), .lit (.int .u8 60)], .agg [.lit (.int .u8 62), .lit (.int .u8 124), .lit (.int .u8 224), .lit (.int .u8 192), .lit (.int .u8 252), .lit (.int .u8 254), .lit (.int .u8 195), .lit (.int .u8 195), .lit (.int .u8 126), .lit (.int .u8 60)], .agg [.lit (.int .u8 255), .lit (.int .u8 255), .lit (.int .u8 3), .lit (.int .u8 6), .lit (.int .u8 12), .lit (.int .u8 24), .lit (.int .u8 48), .lit (.int .u8 96), .lit (.int .u8 96), .lit (.int .u8 96)], .agg [.lit (.int .u8 60), .lit (.int .u8 126), .lit (.int .u8 195), .lit (.int .u8 195), .lit (.int .u8 126), .lit (.int .u8 126), .lit (.int .u8 195), .lit (.int .u8 195), .lit (.int .u8 126), .lit (.int .u8 60)], .agg [.lit (.int .u8 60), .lit (.int .u8 126), .lit (.int .u8 195), .lit (.int .u8 195), .lit (.int .u8 127), .lit (.int .u8 63), .lit (.int .u8 3), .lit (.int .u8 3), .lit (.int .u8 62), .lit (.int .u8 124)], .agg [.lit (.int .u8 126), .lit (.int .u8 255), .lit (.int .u8 195), .lit (.int .u8 195), .lit (.int .u8 195), .lit (.int .u8 255), .lit (.int .u8 255), .lit (.int .u8 195), .lit (.int .u8 195), .lit (.int .u8 195)], .agg [.lit (.int .u8 252), .lit (.int .u8 252), .lit (.int .u8 195), .lit (.int .u8 195), .lit (.int .u8 252), .lit (.int .u8 252), .lit (.int .u8 195), .lit (.int .u8 195), .lit (.int .u8 252), .lit (.int .u8 252)], .agg [.lit (.int .u8 60), .lit (.int .u8 255), .lit (.int .u8 195), .lit (.int .u8 192), .lit (.int .u8 192), .lit (.int .u8 192), .lit (.int .u8 192), .lit (.int .u8 195), .lit (.int .u8 255), .lit (.int .u8 60)], .agg [.lit (.int .u8 252), .lit (.int .u8 254), .lit (.int .u8 195), .lit (.int .u8 195), .lit (.int .u8 195), .lit (.int .u8 195), .lit (.int .u8 195), .lit (.int .u8 195), .lit (.int .u8 254), .lit (.int .u8 252)], .agg [.lit (.int .u8 255), .lit (.int .u8 255), .lit (.int .u8 192), .lit (.int .u8 192), .lit (.int .u8 255), .lit (.int .u8 255), .lit (.int .u8 192), .lit (.int .u8 192), .lit (.int .u8 255), .lit (.int .u8 255)], .agg [.lit (.int .u8 255), .lit (.int .u8 255), .lit (.int .u8 192), .lit (.int .u8 192), .lit (.int .u8 255), .lit (.int .u8 255), .lit (.int .u8 192), .lit (.int .u8 192), .lit (.int .u8 192), .lit (.int .u8 192)]]

/-- 'cosmaclaw04.FontMatchesReference': WHATEVER THE INPUT: true; the input reads as it did. -/
def fontMatchesReferenceSpec : ChangeSpec := { name := "fontMatchesReference", fn := fun _ => fun
  | [d] => { results := [.lit (.bool true)], args := [d] }
  | _ => none }
def fontMatchesReferenceRow : OpenClaim := { program := "ytcihdfiomogiaaadoor", sum := "8e23d31898476e61a3b77d054441d89ce2ae7946d5de6df8b1322942277e95c8", func := "cosmac/cosmaclaw04.FontMatchesReference", spec := "fontMatchesReference", named := ["cosmac/font.smallFont", "cosmac/font.bigFont"], apart := false, laid := [("cosmac/font.smallFont", laid_cosmac_font_smallFont), ("cosmac/font.bigFont", laid_cosmac_font_bigFont)] }
def FontMatchesReferenceSaid : Prop := fontMatchesReferenceRow.holds Tryd.pinned (OpenSpec.ofChange fontMatchesReferenceSpec)

/-- ITS FALSE NEIGHBOUR: 'it returns false'. Refute it at one input. -/
def fontMatchesReferenceWrong : ChangeSpec := { name := "fontMatchesReference", fn := fun _ => fun
  | [d] => { results := [.lit (.bool false)], args := [d] }
  | _ => none }
def FontMatchesReferenceWrongFalsely : Prop := fontMatchesReferenceRow.holds Tryd.pinned (OpenSpec.ofChange fontMatchesReferenceWrong)

/-- 'cosmaclaw04.FontGlyphs': WHATEVER THE INPUT: true; the input reads as it did. -/
def fontGlyphsSpec : ChangeSpec := { name := "fontGlyphs", fn := fun _ => fun
  | [d1, d2] => { results := [.lit (.bool true)], args := [d1, d2] }
  | _ => none }
def fontGlyphsRow : OpenClaim := { program := "ytcihdfiomogiaaadoor", sum := "8e23d31898476e61a3b77d054441d89ce2ae7946d5de6df8b1322942277e95c8", func := "cosmac/cosmaclaw04.FontGlyphs", spec := "fontGlyphs", named := ["cosmac/font.smallFont", "cosmac/font.bigFont"], apart := false, laid := [("cosmac/font.smallFont", laid_cosmac_font_smallFont), ("cosmac/font.bigFont", laid_cosmac_font_bigFont)] }
def FontGlyphsSaid : Prop := fontGlyphsRow.holds Tryd.pinned (OpenSpec.ofChange fontGlyphsSpec)

/-- ITS FALSE NEIGHBOUR: 'it returns false'. Refute it at one input. -/
def fontGlyphsWrong : ChangeSpec := { name := "fontGlyphs", fn := fun _ => fun
  | [d1, d2] => { results := [.lit (.bool false)], args := [d1, d2] }
  | _ => none }
def FontGlyphsWrongFalsely : Prop := fontGlyphsRow.holds Tryd.pinned (OpenSpec.ofChange fontGlyphsWrong)

/-- 'cosmaclaw04.FontKeeps': WHATEVER THE INPUT: true; the input reads as it did. -/
def fontKeepsSpec : ChangeSpec := { name := "fontKeeps", fn := fun _ => fun
  | [d] => { results := [.lit (.bool true)], args := [d] }
  | _ => none }
def fontKeepsRow : OpenClaim := { program := "ytcihdfiomogiaaadoor", sum := "8e23d31898476e61a3b77d054441d89ce2ae7946d5de6df8b1322942277e95c8", func := "cosmac/cosmaclaw04.FontKeeps", spec := "fontKeeps", named := ["cosmac/font.smallFont", "cosmac/font.bigFont"], apart := false, laid := [("cosmac/font.smallFont", laid_cosmac_font_smallFont), ("cosmac/font.bigFont", laid_cosmac_font_bigFont)] }
def FontKeepsSaid : Prop := fontKeepsRow.holds Tryd.pinned (OpenSpec.ofChange fontKeepsSpec)

/-- ITS FALSE NEIGHBOUR: 'it returns false'. Refute it at one input. -/
def fontKeepsWrong : ChangeSpec := { name := "fontKeeps", fn := fun _ => fun
  | [d] => { results := [.lit (.bool false)], args := [d] }
  | _ => none }
def FontKeepsWrongFalsely : Prop := fontKeepsRow.holds Tryd.pinned (OpenSpec.ofChange fontKeepsWrong)

/-- 'cosmaclaw04.FontShapes': WHATEVER THE INPUT: true; the input reads as it did. -/
def fontShapesSpec : ChangeSpec := { name := "fontShapes", fn := fun _ => fun
  | [d] => { results := [.lit (.bool true)], args := [d] }
  | _ => none }
def fontShapesRow : OpenClaim := { program := "ytcihdfiomogiaaadoor", sum := "8e23d31898476e61a3b77d054441d89ce2ae7946d5de6df8b1322942277e95c8", func := "cosmac/cosmaclaw04.FontShapes", spec := "fontShapes", named := ["cosmac/font.smallFont", "cosmac/font.bigFont"], apart := false, laid := [("cosmac/font.smallFont", laid_cosmac_font_smallFont), ("cosmac/font.bigFont", laid_cosmac_font_bigFont)] }
def FontShapesSaid : Prop := fontShapesRow.holds Tryd.pinned (OpenSpec.ofChange fontShapesSpec)

/-- ITS FALSE NEIGHBOUR: 'it returns false'. Refute it at one input. -/
def fontShapesWrong : ChangeSpec := { name := "fontShapes", fn := fun _ => fun
  | [d] => { results := [.lit (.bool false)], args := [d] }
  | _ => none }
def FontShapesWrongFalsely : Prop := fontShapesRow.holds Tryd.pinned (OpenSpec.ofChange fontShapesWrong)

/- THE SECOND FORM. 'bulk': how many values and letters a reading holds, each counted each time it is reached (what is shared counts as often as it is met; a slice's spare places count too). A statement '..UptoSaid' is the law's where the arguments, and the package variables that the reading takes, are together of bulk at most 1048576: NARROWER than '..Said'. Prove '..Said' where nothing that the law and all that it calls make is longer than what came in: it says more and counts as full. Else prove '..UptoSaid'. A law counts once. -/
mutual
def uptoBulk {H : Type} : DataW H → Nat
  | .lit (.string bytes) => bytes.length + 1
  | .lit _ => 1
  | .nil => 1
  | .ptr d => uptoBulk d + 1
  | .slice elems spare => uptoBulkAll elems + uptoBulkAll spare + 1
  | .agg parts => uptoBulkAll parts + 1
  | .iface _ d => uptoBulk d + 1
  | .map entries => uptoBulkEntries entries + 1
  | .held _ => 1
def uptoBulkAll {H : Type} : List (DataW H) → Nat
  | [] => 0
  | d :: r => uptoBulk d + uptoBulkAll r
def uptoBulkEntries {H : Type} : List (Lit × DataW H) → Nat
  | [] => 0
  | x :: r => uptoBulkEntry x + uptoBulkEntries r
def uptoBulkEntry {H : Type} : Lit × DataW H → Nat
  | (.string bytes, d) => bytes.length + uptoBulk d + 1
  | (_, d) => uptoBulk d + 1
 end
def uptoSmall : (H : Type) → List (DataW H) → Bool := fun _ ds => decide (uptoBulkAll ds ≤ 1048576)
def OpenSpec.upto (s : _root_.Go.ChangeSpec) : _root_.Go.OpenSpec := { _root_.Go.OpenSpec.ofChange s with cond := some uptoSmall }

/-- 'cosmaclaw04.FontMatchesReference', WHERE WHAT IT READS IS OF BULK AT MOST 1048576: true; the input reads as it did. -/
def fontMatchesReferenceUptoRow : OpenClaim := { program := "ytcihdfiomogiaaadoor", sum := "8e23d31898476e61a3b77d054441d89ce2ae7946d5de6df8b1322942277e95c8", func := "cosmac/cosmaclaw04.FontMatchesReference", spec := "fontMatchesReference", named := ["cosmac/font.smallFont", "cosmac/font.bigFont"], apart := false, laid := [("cosmac/font.smallFont", laid_cosmac_font_smallFont), ("cosmac/font.bigFont", laid_cosmac_font_bigFont)], narrowed := true }
def FontMatchesReferenceUptoSaid : Prop := fontMatchesReferenceUptoRow.holds Tryd.pinned (OpenSpec.upto fontMatchesReferenceSpec)

/-- 'cosmaclaw04.FontGlyphs', WHERE WHAT IT READS IS OF BULK AT MOST 1048576: true; the input reads as it did. -/
def fontGlyphsUptoRow : OpenClaim := { program := "ytcihdfiomogiaaadoor", sum := "8e23d31898476e61a3b77d054441d89ce2ae7946d5de6df8b1322942277e95c8", func := "cosmac/cosmaclaw04.FontGlyphs", spec := "fontGlyphs", named := ["cosmac/font.smallFont", "cosmac/font.bigFont"], apart := false, laid := [("cosmac/font.smallFont", laid_cosmac_font_smallFont), ("cosmac/font.bigFont", laid_cosmac_font_bigFont)], narrowed := true }
def FontGlyphsUptoSaid : Prop := fontGlyphsUptoRow.holds Tryd.pinned (OpenSpec.upto fontGlyphsSpec)

/-- 'cosmaclaw04.FontKeeps', WHERE WHAT IT READS IS OF BULK AT MOST 1048576: true; the input reads as it did. -/
def fontKeepsUptoRow : OpenClaim := { program := "ytcihdfiomogiaaadoor", sum := "8e23d31898476e61a3b77d054441d89ce2ae7946d5de6df8b1322942277e95c8", func := "cosmac/cosmaclaw04.FontKeeps", spec := "fontKeeps", named := ["cosmac/font.smallFont", "cosmac/font.bigFont"], apart := false, laid := [("cosmac/font.smallFont", laid_cosmac_font_smallFont), ("cosmac/font.bigFont", laid_cosmac_font_bigFont)], narrowed := true }
def FontKeepsUptoSaid : Prop := fontKeepsUptoRow.holds Tryd.pinned (OpenSpec.upto fontKeepsSpec)

/-- 'cosmaclaw04.FontShapes', WHERE WHAT IT READS IS OF BULK AT MOST 1048576: true; the input reads as it did. -/
def fontShapesUptoRow : OpenClaim := { program := "ytcihdfiomogiaaadoor", sum := "8e23d31898476e61a3b77d054441d89ce2ae7946d5de6df8b1322942277e95c8", func := "cosmac/cosmaclaw04.FontShapes", spec := "fontShapes", named := ["cosmac/font.smallFont", "cosmac/font.bigFont"], apart := false, laid := [("cosmac/font.smallFont", laid_cosmac_font_smallFont), ("cosmac/font.bigFont", laid_cosmac_font_bigFont)], narrowed := true }
def FontShapesUptoSaid : Prop := fontShapesUptoRow.holds Tryd.pinned (OpenSpec.upto fontShapesSpec)

end Rows
end Go.Proofs.YtcihdfiomogiaaaDoor
