/-
  DERIVED. GIVEN WITH THE SEED: THE CARDS: each row of YtcihdfiomogiaaaDoorRows.lean that lists a variable, with what it lists TIED to the program's text (the seventh form; the later family's looks); each row that meets fmt, with fmt's text TOLD by the authors' own Lean function (tested against real Go, not proved from fmt's source: count such statements apart). THE CARD IS WHAT COUNTS. Prove the row's statement (the work); the ties are given (YtcihdfiomogiaaaDoorTie.lean); close each card by the builder's one call (the guide's Derived/Test/ToyasCard.lean, 'card_holds'). Laid BY PROGRAM, IN A SANDBOX (cutbox-door.mjs). By AI agents, Wed Nov 11 2026. No macro, syntax, notation, axiom, sorry.
-/
import Derived.Test.YtcihdfiomogiaaaDoorRows
import GoSem.ClaimSeven
namespace Go.Proofs.YtcihdfiomogiaaaDoor
namespace Rows

/-- THE TIED CARD OF 'cosmaclaw04.FontMatchesReference'. -/
def fontMatchesReferenceCard : Claim7 := { stood := { row := fontMatchesReferenceRow, standIns := [], harness := (true, "89f7050c2322edc20e9bae2bffa79d03be598b72fbc259690482a8930bdfc314"), looks := false }, kinds := [], alts := [], laidByText := true, laidKinds := [.data, .data], laidTests := true, laidLooks := .later }
def FontMatchesReferenceCardSaid : Prop := Claim7.holds Tryd.pinned (.plain (OpenSpec.ofChange fontMatchesReferenceSpec)) fontMatchesReferenceCard

/-- THE TIED CARD OF 'cosmaclaw04.FontGlyphs'. -/
def fontGlyphsCard : Claim7 := { stood := { row := fontGlyphsRow, standIns := [], harness := (true, "89f7050c2322edc20e9bae2bffa79d03be598b72fbc259690482a8930bdfc314"), looks := false }, kinds := [], alts := [], laidByText := true, laidKinds := [.data, .data], laidTests := true, laidLooks := .later }
def FontGlyphsCardSaid : Prop := Claim7.holds Tryd.pinned (.plain (OpenSpec.ofChange fontGlyphsSpec)) fontGlyphsCard

/-- THE TIED CARD OF 'cosmaclaw04.FontKeeps'. -/
def fontKeepsCard : Claim7 := { stood := { row := fontKeepsRow, standIns := [], harness := (true, "89f7050c2322edc20e9bae2bffa79d03be598b72fbc259690482a8930bdfc314"), looks := false }, kinds := [], alts := [], laidByText := true, laidKinds := [.data, .data], laidTests := true, laidLooks := .later }
def FontKeepsCardSaid : Prop := Claim7.holds Tryd.pinned (.plain (OpenSpec.ofChange fontKeepsSpec)) fontKeepsCard

/-- THE TIED CARD OF 'cosmaclaw04.FontShapes'. -/
def fontShapesCard : Claim7 := { stood := { row := fontShapesRow, standIns := [], harness := (true, "89f7050c2322edc20e9bae2bffa79d03be598b72fbc259690482a8930bdfc314"), looks := false }, kinds := [], alts := [], laidByText := true, laidKinds := [.data, .data], laidTests := true, laidLooks := .later }
def FontShapesCardSaid : Prop := Claim7.holds Tryd.pinned (.plain (OpenSpec.ofChange fontShapesSpec)) fontShapesCard

/-- THE SECOND FORM's CARD OF 'cosmaclaw04.FontMatchesReference'. -/
def fontMatchesReferenceUptoCard : Claim7 := { stood := { row := fontMatchesReferenceUptoRow, standIns := [], harness := (true, "89f7050c2322edc20e9bae2bffa79d03be598b72fbc259690482a8930bdfc314"), looks := false }, kinds := [], alts := [], laidByText := true, laidKinds := [.data, .data], laidTests := true, laidLooks := .later }
def FontMatchesReferenceUptoCardSaid : Prop := Claim7.holds Tryd.pinned (.plain (OpenSpec.upto fontMatchesReferenceSpec)) fontMatchesReferenceUptoCard

/-- THE SECOND FORM's CARD OF 'cosmaclaw04.FontGlyphs'. -/
def fontGlyphsUptoCard : Claim7 := { stood := { row := fontGlyphsUptoRow, standIns := [], harness := (true, "89f7050c2322edc20e9bae2bffa79d03be598b72fbc259690482a8930bdfc314"), looks := false }, kinds := [], alts := [], laidByText := true, laidKinds := [.data, .data], laidTests := true, laidLooks := .later }
def FontGlyphsUptoCardSaid : Prop := Claim7.holds Tryd.pinned (.plain (OpenSpec.upto fontGlyphsSpec)) fontGlyphsUptoCard

/-- THE SECOND FORM's CARD OF 'cosmaclaw04.FontKeeps'. -/
def fontKeepsUptoCard : Claim7 := { stood := { row := fontKeepsUptoRow, standIns := [], harness := (true, "89f7050c2322edc20e9bae2bffa79d03be598b72fbc259690482a8930bdfc314"), looks := false }, kinds := [], alts := [], laidByText := true, laidKinds := [.data, .data], laidTests := true, laidLooks := .later }
def FontKeepsUptoCardSaid : Prop := Claim7.holds Tryd.pinned (.plain (OpenSpec.upto fontKeepsSpec)) fontKeepsUptoCard

/-- THE SECOND FORM's CARD OF 'cosmaclaw04.FontShapes'. -/
def fontShapesUptoCard : Claim7 := { stood := { row := fontShapesUptoRow, standIns := [], harness := (true, "89f7050c2322edc20e9bae2bffa79d03be598b72fbc259690482a8930bdfc314"), looks := false }, kinds := [], alts := [], laidByText := true, laidKinds := [.data, .data], laidTests := true, laidLooks := .later }
def FontShapesUptoCardSaid : Prop := Claim7.holds Tryd.pinned (.plain (OpenSpec.upto fontShapesSpec)) fontShapesUptoCard
end Rows
end Go.Proofs.YtcihdfiomogiaaaDoor
