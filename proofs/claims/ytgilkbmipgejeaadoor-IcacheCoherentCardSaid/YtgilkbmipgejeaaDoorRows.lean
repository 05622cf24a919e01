/-
  NARROWER THAN 'FOR EVERY INPUT', by the rows' own cells (each row's printed sentence says how): IcacheMatchesReference: laid · IcacheCoherent: laid · IcacheExact: laid · IcacheCounts: laid · IcacheFlushes: laid.
  DERIVED. THE GIVEN ROWS OF THIS SEAT. 5 by the template 'for every input the law returns true; each argument reads behind the call as it read before'; 0 by the template 'total and deterministic' (their statements: YtgilkbmipgejeaaDoorTotals.lean).
  GIVEN WITH THE SEED: the statements are not yours to turn. If you find one false, say at which input.
  Laid BY PROGRAM, IN A SANDBOX (cutbox-rows.mjs): the forced cells as the released guide's own fill.sh prints them over the translation 964bb1ec61ea9531… (all of the seat's roots in one cut). By AI agents, Wed Nov 11 2026. No macro, syntax, notation, axiom, sorry.
-/
import Derived.Test.YtgilkbmipgejeaaDoorChecked
import GoSem.Claim
import GoSem.ClaimJoined
import GoSem.ClaimMapViews
import Derived.JoinedTies
import Derived.KernelRfl
namespace Go.Proofs.YtgilkbmipgejeaaDoor
/- THE CELL 'sum', in the pinned program and in every row, IS THE sha256 OF THE DUMP (.gsa) THAT YtgilkbmipgejeaaDoorProg.lean LOADS. Nothing in Lean hashes anything: it is a label: what it is worth is what the hold of that sum in a sandbox is worth. -/
noncomputable def Tryd.pinned : Pinned := { name := "ytgilkbmipgejeaadoor", sum := "964bb1ec61ea9531a11471cbe5fe6f511ec960b740847925f69af472a4ef7df6", checked := Tryd.checked }
namespace Rows
def none {H : Type} : Left H := { results := [], args := [] }

/- WHAT THE LISTED PACKAGE-LEVEL VARIABLES READ AS WHEN THE CALL BEGINS. Each datum BY PROGRAM (the guide's laid-datum.mjs) off the statement by which the dump's own 'gosem.cut.vars' lays the variable. In a bare row this is a premise. The card (YtgilkbmipgejeaaDoorCards.lean) ties it to the program's text. -/
def laid_cosmac_font_smallFont {H : Type} : DataW H := .agg [.agg [.lit (.int .u8 240), .lit (.int .u8 144), .lit (.int .u8 144), .lit (.int .u8 144), .lit (.int .u8 240)], .agg [.lit (.int .u8 32), .lit (.int .u8 96), .lit (.int .u8 32), .lit (.int .u8 32), .lit (.int .u8 112)], .agg [.lit (.int .u8 240), .lit (.int .u8 16), .lit (.int .u8 240), .lit (.int .u8 128), .lit (.int .u8 240)], .agg [.lit (.int .u8 240), .lit (.int .u8 16), .lit (.int .u8 240), .lit (.int .u8 16), .lit (.int .u8 240)], .agg [.lit (.int .u8 144), .lit (.int .u8 144), .lit (.int .u8 240), .lit (.int .u8 16), .lit (.int .u8 16)], .agg [.lit (.int .u8 240), .lit (.int .u8 128), .lit (.int .u8 240), .lit (.int .u8 16), .lit (.int .u8 240)], .agg [.lit (.int .u8 240), .lit (.int .u8 128), .lit (.int .u8 240), .lit (.int .u8 144), .lit (.int .u8 240)], .agg [.lit (.int .u8 240), .lit (.int .u8 16), .lit (.int .u8 32), .lit (.int .u8 64), .lit (.int .u8 64)], .agg [.lit (.int .u8 240), .lit (.int .u8 144), .lit (.int .u8 240), .lit (.int .u8 144), .lit (.int .u8 240)], .agg [.lit (.int .u8 240), .lit (.int .u8 144), .lit (.int .u8 240), .lit (.int .u8 16), .lit (.int .u8 240)], .agg [.lit (.int .u8 240), .lit (.int .u8 144), .lit (.int .u8 240), .lit (.int .u8 144), .lit (.int .u8 144)], .agg [.lit (.int .u8 224), .lit (.int .u8 144), .lit (.int .u8 224), .lit (.int .u8 144), .lit (.int .u8 224)], .agg [.lit (.int .u8 240), .lit (.int .u8 128), .lit (.int .u8 128), .lit (.int .u8 128), .lit (.int .u8 240)], .agg [.lit (.int .u8 224), .lit (.int .u8 144), .lit (.int .u8 144), .lit (.int .u8 144), .lit (.int .u8 224)], .agg [.lit (.int .u8 240), .lit (.int .u8 128), .lit (.int .u8 240), .lit (.int .u8 128), .lit (.int .u8 240)], .agg [.lit (.int .u8 240), .lit (.int .u8 128), .lit (.int .u8 240), .lit (.int .u8 128), .lit (.int .u8 128)]]
def laid_cosmac_font_bigFont {H : Type} : DataW H := .agg [.agg [.lit (.int .u8 60), .lit (.int .u8 126), .lit (.int .u8 231), .lit (.int .u8 195), .lit (.int .u8 195), .lit (.int .u8 195), .lit (.int .u8 195), .lit (.int .u8 231), .lit (.int .u8 126), .lit (.int .u8 60)], .agg [.lit (.int .u8 24), .lit (.int .u8 56), .lit (.int .u8 88), .lit (.int .u8 24), .lit (.int .u8 24), .lit (.int .u8 24), .lit (.int .u8 24), .lit (.int .u8 24), .lit (.int .u8 24), .lit (.int .u8 60)], .agg [.lit (.int .u8 62), .lit (.int .u8 127), .lit (.int .u8 195), .lit (.int .u8 6), .lit (.int .u8 12), .lit (.int .u8 24), .lit (.int .u8 48), .lit (.int .u8 96), .lit (.int .u8 255), .lit (.int .u8 255)], .agg [.lit (.int .u8 60), .lit (.int .u8 126), .lit (.int .u8 195), .lit (.int .u8 3), .lit (.int .u8 14), .lit (.int .u8 14), .lit (.int .u8 3), .lit (.int .u8 195), .lit (.int .u8 126), .lit (.int .u8 60)], .agg [.lit (.int .u8 6), .lit (.int .u8 14), .lit (.int .u8 30), .lit (.int .u8 54), .lit (.int .u8 102), .lit (.int .u8 198), .lit (.int .u8 255), .lit (.int .u8 255), .lit (.int .u8 6), .lit (.int .u8 6)], .agg [.lit (.int .u8 255), .lit (.int .u8 255), .lit (.int .u8 192), .lit (.int .u8 192), .lit (.int .u8 252), .lit (.int .u8 254), .lit (.int .u8 3), .lit (.int .u8 195), .lit (.int .u8 126), .lit (.int .u8 60)], .agg [.lit (.int .u8 62), .lit (.int .u8 124), .lit (.int .u8 224), .lit (.int .u8 192), .lit (.int .u8 252), .lit (.int .u8 254), .lit (.int .u8 195), .lit (.int .u8 195), .lit (.int .u8 126), .lit (.int .u8 60)], .agg [.lit (.int .u8 255), .lit (.int .u8 255), .lit (.int .u8 3), .lit (.int .u8 6), .lit (.int .u8 12), .lit (.int .u8 24), .lit (.int .u8 48), .lit (.int .u8 96), .lit (.int .u8 96), .lit (.int .u8 96)], .agg [.lit (.int .u8 60), .lit (.int .u8 126), .lit (.int .u8 195), .lit (.int .u8 195), .lit (.int .u8 126), .lit (.int .u8 126), .lit (.int .u8 195), .lit (.int .u8 195), .lit (.int .u8 126), .lit (.int .u8 60)], .agg [.lit (.int .u8 60), .lit (.int .u8 126), .lit (.int .u8 195), .lit (.int .u8 195), .lit (.int .u8 127), .lit (.int .u8 63), .lit (.int .u8 3), .lit (.int .u8 3), .lit (.int .u8 62), .lit (.int .u8 124)], .agg [.lit (.int .u8 126), .lit (.int .u8 255), .lit (.int .u8 195), .lit (.int .u8 195), .lit (.int .u8 195), .lit (.int .u8 255), .lit (.int .u8 255), .lit (.int .u8 195), .lit (.int .u8 195), .lit (.int .u8 195)], .agg [.lit (.int .u8 252), .lit (.int .u8 252), .lit (.int .u8 195), .lit (.int .u8 195), .lit (.int .u8 252), .lit (.int .u8 252), .lit (.int .u8 195), .lit (.int .u8 195), .lit (.int .u8 252), .lit (.int .u8 252)], .agg [.lit (.int .u8 60), .lit (.int .u8 255), .lit (.int .u8 195), .lit (.int .u8 192), .lit (.int .u8 192), .lit (.int .u8 192), .lit (.int .u8 192), .lit (.int .u8 195), .lit (.int .u8 255), .lit (.int .u8 60)], .agg [.lit (.int .u8 252), .lit (.int .u8 254), .lit (.int .u8 195), .lit (.int .u8 195), .lit (.int .u8 195), .lit (.int .u8 195), .lit (.int .u8 195), .lit (.int .u8 195), .lit (.int .u8 254), .lit (.int .u8 252)], .agg [.lit (.int .u8 255), .lit (.int .u8 255), .lit (.int .u8 192), .lit (.int .u8 192), .lit (.int .u8 255), .lit (.int .u8 255), .lit (.int .u8 192), .lit (.int .u8 192), .lit (.int .u8 255), .lit (.int .u8 255)], .agg [.lit (.int .u8 255), .lit (.int .u8 255), .lit (.int .u8 192), .lit (.int .u8 192), .lit (.int .u8 255), .lit (.int .u8 255), .lit (.int .u8 192), .lit (.int .u8 192), .lit (.int .u8 192), .lit (.int .u8 192)]]

/-- 'cosmaclaw16.IcacheMatchesReference': WHATEVER THE INPUT: true; the input reads as it did. -/
def icacheMatchesReferenceSpec : ChangeSpec := { name := "icacheMatchesReference", fn := fun _ => fun
  | [d1, d2, d3, d4, d5] => { results := [.lit (.bool true)], args := [d1, d2, d3, d4, d5] }
  | _ => none }
def icacheMatchesReferenceRow : OpenClaim := { program := "ytgilkbmipgejeaadoor", sum := "964bb1ec61ea9531a11471cbe5fe6f511ec960b740847925f69af472a4ef7df6", func := "cosmac/cosmaclaw16.IcacheMatchesReference", spec := "icacheMatchesReference", inPlace := ["sync/atomic.AddInt64", "sync/atomic.LoadInt64"], unfollowed := true, recurses := true, named := ["cosmac/font.smallFont", "cosmac/font.bigFont"], apart := false, laid := [("cosmac/font.smallFont", laid_cosmac_font_smallFont), ("cosmac/font.bigFont", laid_cosmac_font_bigFont)] }
def IcacheMatchesReferenceSaid : Prop := icacheMatchesReferenceRow.holds Tryd.pinned (OpenSpec.ofChange icacheMatchesReferenceSpec)

/-- ITS FALSE NEIGHBOUR: 'it returns false'. Refute it at one input. -/
def icacheMatchesReferenceWrong : ChangeSpec := { name := "icacheMatchesReference", fn := fun _ => fun
  | [d1, d2, d3, d4, d5] => { results := [.lit (.bool false)], args := [d1, d2, d3, d4, d5] }
  | _ => none }
def IcacheMatchesReferenceWrongFalsely : Prop := icacheMatchesReferenceRow.holds Tryd.pinned (OpenSpec.ofChange icacheMatchesReferenceWrong)

/-- 'cosmaclaw16.IcacheCoherent': WHATEVER THE INPUT: true; the input reads as it did. -/
def icacheCoherentSpec : ChangeSpec := { name := "icacheCoherent", fn := fun _ => fun
  | [d1, d2, d3] => { results := [.lit (.bool true)], args := [d1, d2, d3] }
  | _ => none }
def icacheCoherentRow : OpenClaim := { program := "ytgilkbmipgejeaadoor", sum := "964bb1ec61ea9531a11471cbe5fe6f511ec960b740847925f69af472a4ef7df6", func := "cosmac/cosmaclaw16.IcacheCoherent", spec := "icacheCoherent", inPlace := ["sync/atomic.AddInt64", "sync/atomic.LoadInt64"], unfollowed := true, recurses := true, named := ["cosmac/font.smallFont", "cosmac/font.bigFont"], apart := false, laid := [("cosmac/font.smallFont", laid_cosmac_font_smallFont), ("cosmac/font.bigFont", laid_cosmac_font_bigFont)] }
def IcacheCoherentSaid : Prop := icacheCoherentRow.holds Tryd.pinned (OpenSpec.ofChange icacheCoherentSpec)

/-- ITS FALSE NEIGHBOUR: 'it returns false'. Refute it at one input. -/
def icacheCoherentWrong : ChangeSpec := { name := "icacheCoherent", fn := fun _ => fun
  | [d1, d2, d3] => { results := [.lit (.bool false)], args := [d1, d2, d3] }
  | _ => none }
def IcacheCoherentWrongFalsely : Prop := icacheCoherentRow.holds Tryd.pinned (OpenSpec.ofChange icacheCoherentWrong)

/-- 'cosmaclaw16.IcacheExact': WHATEVER THE INPUT: true; the input reads as it did. -/
def icacheExactSpec : ChangeSpec := { name := "icacheExact", fn := fun _ => fun
  | [d1, d2, d3, d4] => { results := [.lit (.bool true)], args := [d1, d2, d3, d4] }
  | _ => none }
def icacheExactRow : OpenClaim := { program := "ytgilkbmipgejeaadoor", sum := "964bb1ec61ea9531a11471cbe5fe6f511ec960b740847925f69af472a4ef7df6", func := "cosmac/cosmaclaw16.IcacheExact", spec := "icacheExact", inPlace := ["sync/atomic.AddInt64", "sync/atomic.LoadInt64"], unfollowed := true, recurses := true, named := ["cosmac/font.smallFont", "cosmac/font.bigFont"], apart := false, laid := [("cosmac/font.smallFont", laid_cosmac_font_smallFont), ("cosmac/font.bigFont", laid_cosmac_font_bigFont)] }
def IcacheExactSaid : Prop := icacheExactRow.holds Tryd.pinned (OpenSpec.ofChange icacheExactSpec)

/-- ITS FALSE NEIGHBOUR: 'it returns false'. Refute it at one input. -/
def icacheExactWrong : ChangeSpec := { name := "icacheExact", fn := fun _ => fun
  | [d1, d2, d3, d4] => { results := [.lit (.bool false)], args := [d1, d2, d3, d4] }
  | _ => none }
def IcacheExactWrongFalsely : Prop := icacheExactRow.holds Tryd.pinned (OpenSpec.ofChange icacheExactWrong)

/-- 'cosmaclaw16.IcacheCounts': WHATEVER THE INPUT: true; the input reads as it did. -/
def icacheCountsSpec : ChangeSpec := { name := "icacheCounts", fn := fun _ => fun
  | [d1, d2] => { results := [.lit (.bool true)], args := [d1, d2] }
  | _ => none }
def icacheCountsRow : OpenClaim := { program := "ytgilkbmipgejeaadoor", sum := "964bb1ec61ea9531a11471cbe5fe6f511ec960b740847925f69af472a4ef7df6", func := "cosmac/cosmaclaw16.IcacheCounts", spec := "icacheCounts", inPlace := ["sync/atomic.AddInt64", "sync/atomic.LoadInt64"], unfollowed := true, recurses := true, named := ["cosmac/font.smallFont", "cosmac/font.bigFont"], apart := false, laid := [("cosmac/font.smallFont", laid_cosmac_font_smallFont), ("cosmac/font.bigFont", laid_cosmac_font_bigFont)] }
def IcacheCountsSaid : Prop := icacheCountsRow.holds Tryd.pinned (OpenSpec.ofChange icacheCountsSpec)

/-- ITS FALSE NEIGHBOUR: 'it returns false'. Refute it at one input. -/
def icacheCountsWrong : ChangeSpec := { name := "icacheCounts", fn := fun _ => fun
  | [d1, d2] => { results := [.lit (.bool false)], args := [d1, d2] }
  | _ => none }
def IcacheCountsWrongFalsely : Prop := icacheCountsRow.holds Tryd.pinned (OpenSpec.ofChange icacheCountsWrong)

/-- 'cosmaclaw16.IcacheFlushes': WHATEVER THE INPUT: true; the input reads as it did. -/
def icacheFlushesSpec : ChangeSpec := { name := "icacheFlushes", fn := fun _ => fun
  | [d1, d2, d3, d4] => { results := [.lit (.bool true)], args := [d1, d2, d3, d4] }
  | _ => none }
def icacheFlushesRow : OpenClaim := { program := "ytgilkbmipgejeaadoor", sum := "964bb1ec61ea9531a11471cbe5fe6f511ec960b740847925f69af472a4ef7df6", func := "cosmac/cosmaclaw16.IcacheFlushes", spec := "icacheFlushes", inPlace := ["sync/atomic.AddInt64", "sync/atomic.LoadInt64"], unfollowed := true, recurses := true, named := ["cosmac/font.smallFont", "cosmac/font.bigFont"], apart := false, laid := [("cosmac/font.smallFont", laid_cosmac_font_smallFont), ("cosmac/font.bigFont", laid_cosmac_font_bigFont)] }
def IcacheFlushesSaid : Prop := icacheFlushesRow.holds Tryd.pinned (OpenSpec.ofChange icacheFlushesSpec)

/-- ITS FALSE NEIGHBOUR: 'it returns false'. Refute it at one input. -/
def icacheFlushesWrong : ChangeSpec := { name := "icacheFlushes", fn := fun _ => fun
  | [d1, d2, d3, d4] => { results := [.lit (.bool false)], args := [d1, d2, d3, d4] }
  | _ => none }
def IcacheFlushesWrongFalsely : Prop := icacheFlushesRow.holds Tryd.pinned (OpenSpec.ofChange icacheFlushesWrong)

/- THE SECOND FORM. 'bulk': how many values and letters a reading holds, each counted each time it is reached (what is shared counts as often as it is met; a slice's spare places count too). A statement '..UptoSaid' is the law's where the arguments, and the package variables that the reading takes, are together of bulk at most 1048576: NARROWER than '..Said'. Prove '..Said' where nothing that the law and all that it calls make is longer than what came in: it says more and counts as full. Else prove '..UptoSaid'. A law counts once. -/
mutual
def uptoBulk {H : Type} : DataW H → Nat
  | .lit (.string bytes) => bytes.length + 1
  | .lit _ => 1
  | .nil => 1
  | .ptr d => uptoBulk d + 1
  | .slice elems spare => uptoBulkAll elems + uptoBulkAll spare + 1
  | .agg parts => uptoBulkAll parts + 1
  | .iface _ d => uptoBulk d + 1
  | .map entries => uptoBulkEntries entries + 1
  | .held _ => 1
def uptoBulkAll {H : Type} : List (DataW H) → Nat
  | [] => 0
  | d :: r => uptoBulk d + uptoBulkAll r
def uptoBulkEntries {H : Type} : List (Lit × DataW H) → Nat
  | [] => 0
  | x :: r => uptoBulkEntry x + uptoBulkEntries r
def uptoBulkEntry {H : Type} : Lit × DataW H → Nat
  | (.string bytes, d) => bytes.length + uptoBulk d + 1
  | (_, d) => uptoBulk d + 1
 end
def uptoSmall : (H : Type) → List (DataW H) → Bool := fun _ ds => decide (uptoBulkAll ds ≤ 1048576)
def OpenSpec.upto (s : _root_.Go.ChangeSpec) : _root_.Go.OpenSpec := { _root_.Go.OpenSpec.ofChange s with cond := some uptoSmall }

/-- 'cosmaclaw16.IcacheMatchesReference', WHERE WHAT IT READS IS OF BULK AT MOST 1048576: true; the input reads as it did. -/
def icacheMatchesReferenceUptoRow : OpenClaim := { program := "ytgilkbmipgejeaadoor", sum := "964bb1ec61ea9531a11471cbe5fe6f511ec960b740847925f69af472a4ef7df6", func := "cosmac/cosmaclaw16.IcacheMatchesReference", spec := "icacheMatchesReference", inPlace := ["sync/atomic.AddInt64", "sync/atomic.LoadInt64"], unfollowed := true, recurses := true, named := ["cosmac/font.smallFont", "cosmac/font.bigFont"], apart := false, laid := [("cosmac/font.smallFont", laid_cosmac_font_smallFont), ("cosmac/font.bigFont", laid_cosmac_font_bigFont)], narrowed := true }
def IcacheMatchesReferenceUptoSaid : Prop := icacheMatchesReferenceUptoRow.holds Tryd.pinned (OpenSpec.upto icacheMatchesReferenceSpec)

/-- 'cosmaclaw16.IcacheCoherent', WHERE WHAT IT READS IS OF BULK AT MOST 1048576: true; the input reads as it did. -/
def icacheCoherentUptoRow : OpenClaim := { program := "ytgilkbmipgejeaadoor", sum := "964bb1ec61ea9531a11471cbe5fe6f511ec960b740847925f69af472a4ef7df6", func := "cosmac/cosmaclaw16.IcacheCoherent", spec := "icacheCoherent", inPlace := ["sync/atomic.AddInt64", "sync/atomic.LoadInt64"], unfollowed := true, recurses := true, named := ["cosmac/font.smallFont", "cosmac/font.bigFont"], apart := false, laid := [("cosmac/font.smallFont", laid_cosmac_font_smallFont), ("cosmac/font.bigFont", laid_cosmac_font_bigFont)], narrowed := true }
def IcacheCoherentUptoSaid : Prop := icacheCoherentUptoRow.holds Tryd.pinned (OpenSpec.upto icacheCoherentSpec)

/-- 'cosmaclaw16.IcacheExact', WHERE WHAT IT READS IS OF BULK AT MOST 1048576: true; the input reads as it did. -/
def icacheExactUptoRow : OpenClaim := { program := "ytgilkbmipgejeaadoor", sum := "964bb1ec61ea9531a11471cbe5fe6f511ec960b740847925f69af472a4ef7df6", func := "cosmac/cosmaclaw16.IcacheExact", spec := "icacheExact", inPlace := ["sync/atomic.AddInt64", "sync/atomic.LoadInt64"], unfollowed := true, recurses := true, named := ["cosmac/font.smallFont", "cosmac/font.bigFont"], apart := false, laid := [("cosmac/font.smallFont", laid_cosmac_font_smallFont), ("cosmac/font.bigFont", laid_cosmac_font_bigFont)], narrowed := true }
def IcacheExactUptoSaid : Prop := icacheExactUptoRow.holds Tryd.pinned (OpenSpec.upto icacheExactSpec)

/-- 'cosmaclaw16.IcacheCounts', WHERE WHAT IT READS IS OF BULK AT MOST 1048576: true; the input reads as it did. -/
def icacheCountsUptoRow : OpenClaim := { program := "ytgilkbmipgejeaadoor", sum := "964bb1ec61ea9531a11471cbe5fe6f511ec960b740847925f69af472a4ef7df6", func := "cosmac/cosmaclaw16.IcacheCounts", spec := "icacheCounts", inPlace := ["sync/atomic.AddInt64", "sync/atomic.LoadInt64"], unfollowed := true, recurses := true, named := ["cosmac/font.smallFont", "cosmac/font.bigFont"], apart := false, laid := [("cosmac/font.smallFont", laid_cosmac_font_smallFont), ("cosmac/font.bigFont", laid_cosmac_font_bigFont)], narrowed := true }
def IcacheCountsUptoSaid : Prop := icacheCountsUptoRow.holds Tryd.pinned (OpenSpec.upto icacheCountsSpec)

/-- 'cosmaclaw16.IcacheFlushes', WHERE WHAT IT READS IS OF BULK AT MOST 1048576: true; the input reads as it did. -/
def icacheFlushesUptoRow : OpenClaim := { program := "ytgilkbmipgejeaadoor", sum := "964bb1ec61ea9531a11471cbe5fe6f511ec960b740847925f69af472a4ef7df6", func := "cosmac/cosmaclaw16.IcacheFlushes", spec := "icacheFlushes", inPlace := ["sync/atomic.AddInt64", "sync/atomic.LoadInt64"], unfollowed := true, recurses := true, named := ["cosmac/font.smallFont", "cosmac/font.bigFont"], apart := false, laid := [("cosmac/font.smallFont", laid_cosmac_font_smallFont), ("cosmac/font.bigFont", laid_cosmac_font_bigFont)], narrowed := true }
def IcacheFlushesUptoSaid : Prop := icacheFlushesUptoRow.holds Tryd.pinned (OpenSpec.upto icacheFlushesSpec)

end Rows
end Go.Proofs.YtgilkbmipgejeaaDoor
