/-
  DERIVED. GIVEN WITH THE SEED: THE CARDS: each row of YtgndlgcgphgilaaDoorRows.lean that lists a variable, with what it lists TIED to the program's text (the seventh form; the later family's looks); each row that meets fmt, with fmt's text TOLD by the authors' own Lean function (tested against real Go, not proved from fmt's source: count such statements apart). THE CARD IS WHAT COUNTS. Prove the row's statement (the work); the ties are given (YtgndlgcgphgilaaDoorTie.lean); close each card by the builder's one call (the guide's Derived/Test/ToyasCard.lean, 'card_holds'). Laid BY PROGRAM, IN A SANDBOX (cutbox-door.mjs). By AI agents, Wed Nov 11 2026. No macro, syntax, notation, axiom, sorry.
-/
import Derived.Test.YtgndlgcgphgilaaDoorRows
import GoSem.ClaimSeven
namespace Go.Proofs.YtgndlgcgphgilaaDoor
namespace Rows

/-- THE TIED CARD OF 'cosmaclaw02.ProfileMatchesReference'. -/
def profileMatchesReferenceCard : Claim7 := { stood := { row := profileMatchesReferenceRow, standIns := [], harness := (true, "15cb80994a32ce54c30b287c0cbaedf299fe99cc0a236d401551d8c61ad81c6e"), looks := false }, kinds := [], alts := [], laidByText := true, laidKinds := [.data], laidTests := true, laidLooks := .later }
def ProfileMatchesReferenceCardSaid : Prop := Claim7.holds Tryd.pinned (.plain (OpenSpec.ofChange profileMatchesReferenceSpec)) profileMatchesReferenceCard

/-- THE TIED CARD OF 'cosmaclaw02.ProfileNumbers'. -/
def profileNumbersCard : Claim7 := { stood := { row := profileNumbersRow, standIns := [], harness := (true, "15cb80994a32ce54c30b287c0cbaedf299fe99cc0a236d401551d8c61ad81c6e"), looks := false }, kinds := [], alts := [], laidByText := true, laidKinds := [.data], laidTests := true, laidLooks := .later }
def ProfileNumbersCardSaid : Prop := Claim7.holds Tryd.pinned (.plain (OpenSpec.ofChange profileNumbersSpec)) profileNumbersCard

/-- THE TIED CARD OF 'cosmaclaw02.ProfileNames'. -/
def profileNamesCard : Claim7 := { stood := { row := profileNamesRow, standIns := [], harness := (true, "15cb80994a32ce54c30b287c0cbaedf299fe99cc0a236d401551d8c61ad81c6e"), looks := false }, kinds := [], alts := [], laidByText := true, laidKinds := [.data], laidTests := true, laidLooks := .later }
def ProfileNamesCardSaid : Prop := Claim7.holds Tryd.pinned (.plain (OpenSpec.ofChange profileNamesSpec)) profileNamesCard

/-- THE TIED CARD OF 'cosmaclaw02.ProfileQuirks'. -/
def profileQuirksCard : Claim7 := { stood := { row := profileQuirksRow, standIns := [], harness := (true, "15cb80994a32ce54c30b287c0cbaedf299fe99cc0a236d401551d8c61ad81c6e"), looks := false }, kinds := [], alts := [], laidByText := true, laidKinds := [.data], laidTests := true, laidLooks := .later }
def ProfileQuirksCardSaid : Prop := Claim7.holds Tryd.pinned (.plain (OpenSpec.ofChange profileQuirksSpec)) profileQuirksCard

/-- THE SECOND FORM's CARD OF 'cosmaclaw02.ProfileMatchesReference'. -/
def profileMatchesReferenceUptoCard : Claim7 := { stood := { row := profileMatchesReferenceUptoRow, standIns := [], harness := (true, "15cb80994a32ce54c30b287c0cbaedf299fe99cc0a236d401551d8c61ad81c6e"), looks := false }, kinds := [], alts := [], laidByText := true, laidKinds := [.data], laidTests := true, laidLooks := .later }
def ProfileMatchesReferenceUptoCardSaid : Prop := Claim7.holds Tryd.pinned (.plain (OpenSpec.upto profileMatchesReferenceSpec)) profileMatchesReferenceUptoCard

/-- THE SECOND FORM's CARD OF 'cosmaclaw02.ProfileNumbers'. -/
def profileNumbersUptoCard : Claim7 := { stood := { row := profileNumbersUptoRow, standIns := [], harness := (true, "15cb80994a32ce54c30b287c0cbaedf299fe99cc0a236d401551d8c61ad81c6e"), looks := false }, kinds := [], alts := [], laidByText := true, laidKinds := [.data], laidTests := true, laidLooks := .later }
def ProfileNumbersUptoCardSaid : Prop := Claim7.holds Tryd.pinned (.plain (OpenSpec.upto profileNumbersSpec)) profileNumbersUptoCard

/-- THE SECOND FORM's CARD OF 'cosmaclaw02.ProfileNames'. -/
def profileNamesUptoCard : Claim7 := { stood := { row := profileNamesUptoRow, standIns := [], harness := (true, "15cb80994a32ce54c30b287c0cbaedf299fe99cc0a236d401551d8c61ad81c6e"), looks := false }, kinds := [], alts := [], laidByText := true, laidKinds := [.data], laidTests := true, laidLooks := .later }
def ProfileNamesUptoCardSaid : Prop := Claim7.holds Tryd.pinned (.plain (OpenSpec.upto profileNamesSpec)) profileNamesUptoCard

/-- THE SECOND FORM's CARD OF 'cosmaclaw02.ProfileQuirks'. -/
def profileQuirksUptoCard : Claim7 := { stood := { row := profileQuirksUptoRow, standIns := [], harness := (true, "15cb80994a32ce54c30b287c0cbaedf299fe99cc0a236d401551d8c61ad81c6e"), looks := false }, kinds := [], alts := [], laidByText := true, laidKinds := [.data], laidTests := true, laidLooks := .later }
def ProfileQuirksUptoCardSaid : Prop := Claim7.holds Tryd.pinned (.plain (OpenSpec.upto profileQuirksSpec)) profileQuirksUptoCard
end Rows
end Go.Proofs.YtgndlgcgphgilaaDoor
