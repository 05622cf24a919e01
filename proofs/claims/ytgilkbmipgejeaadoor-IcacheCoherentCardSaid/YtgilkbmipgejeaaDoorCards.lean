/-
  DERIVED. GIVEN WITH THE SEED: THE CARDS: each row of YtgilkbmipgejeaaDoorRows.lean that lists a variable, with what it lists TIED to the program's text (the seventh form; the later family's looks); each row that meets fmt, with fmt's text TOLD by the authors' own Lean function (tested against real Go, not proved from fmt's source: count such statements apart). THE CARD IS WHAT COUNTS. Prove the row's statement (the work); the ties are given (YtgilkbmipgejeaaDoorTie.lean); close each card by the builder's one call (the guide's Derived/Test/ToyasCard.lean, 'card_holds'). Laid BY PROGRAM, IN A SANDBOX (cutbox-door.mjs). By AI agents, Wed Nov 11 2026. No macro, syntax, notation, axiom, sorry.
-/
import Derived.Test.YtgilkbmipgejeaaDoorRows
import GoSem.ClaimSeven
namespace Go.Proofs.YtgilkbmipgejeaaDoor
namespace Rows

/-- THE TIED CARD OF 'cosmaclaw16.IcacheMatchesReference'. -/
def icacheMatchesReferenceCard : Claim7 := { stood := { row := icacheMatchesReferenceRow, standIns := [], harness := (true, "605d5427d88cb523ce61a2e4761e67ad4c1e380094e8d081cdeaf07b13d1a981"), looks := false }, kinds := [], alts := [], laidByText := true, laidKinds := [.data, .data], laidTests := true, laidLooks := .later }
def IcacheMatchesReferenceCardSaid : Prop := Claim7.holds Tryd.pinned (.plain (OpenSpec.ofChange icacheMatchesReferenceSpec)) icacheMatchesReferenceCard

/-- THE TIED CARD OF 'cosmaclaw16.IcacheCoherent'. -/
def icacheCoherentCard : Claim7 := { stood := { row := icacheCoherentRow, standIns := [], harness := (true, "605d5427d88cb523ce61a2e4761e67ad4c1e380094e8d081cdeaf07b13d1a981"), looks := false }, kinds := [], alts := [], laidByText := true, laidKinds := [.data, .data], laidTests := true, laidLooks := .later }
def IcacheCoherentCardSaid : Prop := Claim7.holds Tryd.pinned (.plain (OpenSpec.ofChange icacheCoherentSpec)) icacheCoherentCard

/-- THE TIED CARD OF 'cosmaclaw16.IcacheExact'. -/
def icacheExactCard : Claim7 := { stood := { row := icacheExactRow, standIns := [], harness := (true, "605d5427d88cb523ce61a2e4761e67ad4c1e380094e8d081cdeaf07b13d1a981"), looks := false }, kinds := [], alts := [], laidByText := true, laidKinds := [.data, .data], laidTests := true, laidLooks := .later }
def IcacheExactCardSaid : Prop := Claim7.holds Tryd.pinned (.plain (OpenSpec.ofChange icacheExactSpec)) icacheExactCard

/-- THE TIED CARD OF 'cosmaclaw16.IcacheCounts'. -/
def icacheCountsCard : Claim7 := { stood := { row := icacheCountsRow, standIns := [], harness := (true, "605d5427d88cb523ce61a2e4761e67ad4c1e380094e8d081cdeaf07b13d1a981"), looks := false }, kinds := [], alts := [], laidByText := true, laidKinds := [.data, .data], laidTests := true, laidLooks := .later }
def IcacheCountsCardSaid : Prop := Claim7.holds Tryd.pinned (.plain (OpenSpec.ofChange icacheCountsSpec)) icacheCountsCard

/-- THE TIED CARD OF 'cosmaclaw16.IcacheFlushes'. -/
def icacheFlushesCard : Claim7 := { stood := { row := icacheFlushesRow, standIns := [], harness := (true, "605d5427d88cb523ce61a2e4761e67ad4c1e380094e8d081cdeaf07b13d1a981"), looks := false }, kinds := [], alts := [], laidByText := true, laidKinds := [.data, .data], laidTests := true, laidLooks := .later }
def IcacheFlushesCardSaid : Prop := Claim7.holds Tryd.pinned (.plain (OpenSpec.ofChange icacheFlushesSpec)) icacheFlushesCard

/-- THE SECOND FORM's CARD OF 'cosmaclaw16.IcacheMatchesReference'. -/
def icacheMatchesReferenceUptoCard : Claim7 := { stood := { row := icacheMatchesReferenceUptoRow, standIns := [], harness := (true, "605d5427d88cb523ce61a2e4761e67ad4c1e380094e8d081cdeaf07b13d1a981"), looks := false }, kinds := [], alts := [], laidByText := true, laidKinds := [.data, .data], laidTests := true, laidLooks := .later }
def IcacheMatchesReferenceUptoCardSaid : Prop := Claim7.holds Tryd.pinned (.plain (OpenSpec.upto icacheMatchesReferenceSpec)) icacheMatchesReferenceUptoCard

/-- THE SECOND FORM's CARD OF 'cosmaclaw16.IcacheCoherent'. -/
def icacheCoherentUptoCard : Claim7 := { stood := { row := icacheCoherentUptoRow, standIns := [], harness := (true, "605d5427d88cb523ce61a2e4761e67ad4c1e380094e8d081cdeaf07b13d1a981"), looks := false }, kinds := [], alts := [], laidByText := true, laidKinds := [.data, .data], laidTests := true, laidLooks := .later }
def IcacheCoherentUptoCardSaid : Prop := Claim7.holds Tryd.pinned (.plain (OpenSpec.upto icacheCoherentSpec)) icacheCoherentUptoCard

/-- THE SECOND FORM's CARD OF 'cosmaclaw16.IcacheExact'. -/
def icacheExactUptoCard : Claim7 := { stood := { row := icacheExactUptoRow, standIns := [], harness := (true, "605d5427d88cb523ce61a2e4761e67ad4c1e380094e8d081cdeaf07b13d1a981"), looks := false }, kinds := [], alts := [], laidByText := true, laidKinds := [.data, .data], laidTests := true, laidLooks := .later }
def IcacheExactUptoCardSaid : Prop := Claim7.holds Tryd.pinned (.plain (OpenSpec.upto icacheExactSpec)) icacheExactUptoCard

/-- THE SECOND FORM's CARD OF 'cosmaclaw16.IcacheCounts'. -/
def icacheCountsUptoCard : Claim7 := { stood := { row := icacheCountsUptoRow, standIns := [], harness := (true, "605d5427d88cb523ce61a2e4761e67ad4c1e380094e8d081cdeaf07b13d1a981"), looks := false }, kinds := [], alts := [], laidByText := true, laidKinds := [.data, .data], laidTests := true, laidLooks := .later }
def IcacheCountsUptoCardSaid : Prop := Claim7.holds Tryd.pinned (.plain (OpenSpec.upto icacheCountsSpec)) icacheCountsUptoCard

/-- THE SECOND FORM's CARD OF 'cosmaclaw16.IcacheFlushes'. -/
def icacheFlushesUptoCard : Claim7 := { stood := { row := icacheFlushesUptoRow, standIns := [], harness := (true, "605d5427d88cb523ce61a2e4761e67ad4c1e380094e8d081cdeaf07b13d1a981"), looks := false }, kinds := [], alts := [], laidByText := true, laidKinds := [.data, .data], laidTests := true, laidLooks := .later }
def IcacheFlushesUptoCardSaid : Prop := Claim7.holds Tryd.pinned (.plain (OpenSpec.upto icacheFlushesSpec)) icacheFlushesUptoCard
end Rows
end Go.Proofs.YtgilkbmipgejeaaDoor
