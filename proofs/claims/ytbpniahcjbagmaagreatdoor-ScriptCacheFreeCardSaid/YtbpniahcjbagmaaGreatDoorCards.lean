/-
  DERIVED. GIVEN WITH THE SEED: THE CARDS: each row of YtbpniahcjbagmaaGreatDoorRows.lean that lists a variable, with what it lists TIED to the program's text (the seventh form; the later family's looks); each row that meets fmt, with fmt's text TOLD by the authors' own Lean function (tested against real Go, not proved from fmt's source: count such statements apart). THE CARD IS WHAT COUNTS. Prove the row's statement (the work); the ties are given (YtbpniahcjbagmaaGreatDoorTie.lean); close each card by the builder's one call (the guide's Derived/Test/ToyasCard.lean, 'card_holds'). Laid BY PROGRAM, IN A SANDBOX (cutbox-door.mjs). By AI agents, Wed Nov 11 2026. No macro, syntax, notation, axiom, sorry.
-/
import Derived.Test.YtbpniahcjbagmaaGreatDoorRows
import GoSem.ClaimSeven
namespace Go.Proofs.YtbpniahcjbagmaaGreatDoor
namespace Rows

/-- THE TIED CARD OF 'cosmaclaw21.FrameStops'. -/
def frameStopsCard : Claim7 := { stood := { row := frameStopsRow, standIns := [], harness := (true, "45ef412ab78fdc20291dc9ffed2bf5cea430b911ea38746fe9482489c694b15c"), looks := true }, kinds := [], alts := [], laidByText := true, laidKinds := [.data, .data], laidTests := true, laidLooks := .later }
def FrameStopsCardSaid : Prop := Claim7.holds Tryz.pinned (.plain (OpenSpec.ofChange frameStopsSpec)) frameStopsCard

/-- THE TIED CARD OF 'cosmaclaw22.ScriptCacheFree'. -/
def scriptCacheFreeCard : Claim7 := { stood := { row := scriptCacheFreeRow, standIns := [], harness := (true, "45ef412ab78fdc20291dc9ffed2bf5cea430b911ea38746fe9482489c694b15c"), looks := true }, kinds := [], alts := [], laidByText := true, laidKinds := [.data, .data], laidTests := true, laidLooks := .later }
def ScriptCacheFreeCardSaid : Prop := Claim7.holds Tryz.pinned (.plain (OpenSpec.ofChange scriptCacheFreeSpec)) scriptCacheFreeCard

/-- THE TIED CARD OF 'cosmaclaw22.ScriptRejects'. -/
def scriptRejectsCard : Claim7 := { stood := { row := scriptRejectsRow, standIns := [], harness := (true, "45ef412ab78fdc20291dc9ffed2bf5cea430b911ea38746fe9482489c694b15c"), looks := true }, kinds := [], alts := [], laidByText := true, laidKinds := [.data, .data], laidTests := true, laidLooks := .later }
def ScriptRejectsCardSaid : Prop := Claim7.holds Tryz.pinned (.plain (OpenSpec.ofChange scriptRejectsSpec)) scriptRejectsCard

/-- THE TIED CARD OF 'cosmaclaw22.ScriptPrefix'. -/
def scriptPrefixCard : Claim7 := { stood := { row := scriptPrefixRow, standIns := [], harness := (true, "45ef412ab78fdc20291dc9ffed2bf5cea430b911ea38746fe9482489c694b15c"), looks := true }, kinds := [], alts := [], laidByText := true, laidKinds := [.data, .data], laidTests := true, laidLooks := .later }
def ScriptPrefixCardSaid : Prop := Claim7.holds Tryz.pinned (.plain (OpenSpec.ofChange scriptPrefixSpec)) scriptPrefixCard

/-- THE TIED CARD OF 'cosmaclaw22.ScriptFrames'. -/
def scriptFramesCard : Claim7 := { stood := { row := scriptFramesRow, standIns := [], harness := (true, "45ef412ab78fdc20291dc9ffed2bf5cea430b911ea38746fe9482489c694b15c"), looks := true }, kinds := [], alts := [], laidByText := true, laidKinds := [.data, .data], laidTests := true, laidLooks := .later }
def ScriptFramesCardSaid : Prop := Claim7.holds Tryz.pinned (.plain (OpenSpec.ofChange scriptFramesSpec)) scriptFramesCard

/-- THE SECOND FORM's CARD OF 'cosmaclaw21.FrameStops'. -/
def frameStopsUptoCard : Claim7 := { stood := { row := frameStopsUptoRow, standIns := [], harness := (true, "45ef412ab78fdc20291dc9ffed2bf5cea430b911ea38746fe9482489c694b15c"), looks := true }, kinds := [], alts := [], laidByText := true, laidKinds := [.data, .data], laidTests := true, laidLooks := .later }
def FrameStopsUptoCardSaid : Prop := Claim7.holds Tryz.pinned (.plain (OpenSpec.upto frameStopsSpec)) frameStopsUptoCard

/-- THE SECOND FORM's CARD OF 'cosmaclaw22.ScriptCacheFree'. -/
def scriptCacheFreeUptoCard : Claim7 := { stood := { row := scriptCacheFreeUptoRow, standIns := [], harness := (true, "45ef412ab78fdc20291dc9ffed2bf5cea430b911ea38746fe9482489c694b15c"), looks := true }, kinds := [], alts := [], laidByText := true, laidKinds := [.data, .data], laidTests := true, laidLooks := .later }
def ScriptCacheFreeUptoCardSaid : Prop := Claim7.holds Tryz.pinned (.plain (OpenSpec.upto scriptCacheFreeSpec)) scriptCacheFreeUptoCard

/-- THE SECOND FORM's CARD OF 'cosmaclaw22.ScriptRejects'. -/
def scriptRejectsUptoCard : Claim7 := { stood := { row := scriptRejectsUptoRow, standIns := [], harness := (true, "45ef412ab78fdc20291dc9ffed2bf5cea430b911ea38746fe9482489c694b15c"), looks := true }, kinds := [], alts := [], laidByText := true, laidKinds := [.data, .data], laidTests := true, laidLooks := .later }
def ScriptRejectsUptoCardSaid : Prop := Claim7.holds Tryz.pinned (.plain (OpenSpec.upto scriptRejectsSpec)) scriptRejectsUptoCard

/-- THE SECOND FORM's CARD OF 'cosmaclaw22.ScriptPrefix'. -/
def scriptPrefixUptoCard : Claim7 := { stood := { row := scriptPrefixUptoRow, standIns := [], harness := (true, "45ef412ab78fdc20291dc9ffed2bf5cea430b911ea38746fe9482489c694b15c"), looks := true }, kinds := [], alts := [], laidByText := true, laidKinds := [.data, .data], laidTests := true, laidLooks := .later }
def ScriptPrefixUptoCardSaid : Prop := Claim7.holds Tryz.pinned (.plain (OpenSpec.upto scriptPrefixSpec)) scriptPrefixUptoCard

/-- THE SECOND FORM's CARD OF 'cosmaclaw22.ScriptFrames'. -/
def scriptFramesUptoCard : Claim7 := { stood := { row := scriptFramesUptoRow, standIns := [], harness := (true, "45ef412ab78fdc20291dc9ffed2bf5cea430b911ea38746fe9482489c694b15c"), looks := true }, kinds := [], alts := [], laidByText := true, laidKinds := [.data, .data], laidTests := true, laidLooks := .later }
def ScriptFramesUptoCardSaid : Prop := Claim7.holds Tryz.pinned (.plain (OpenSpec.upto scriptFramesSpec)) scriptFramesUptoCard
end Rows
end Go.Proofs.YtbpniahcjbagmaaGreatDoor
