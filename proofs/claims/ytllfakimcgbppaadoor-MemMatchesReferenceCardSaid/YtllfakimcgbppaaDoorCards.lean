/-
  DERIVED. GIVEN WITH THE SEED: THE CARDS: each row of YtllfakimcgbppaaDoorRows.lean that lists a variable, with what it lists TIED to the program's text (the seventh form; the later family's looks); each row that meets fmt, with fmt's text TOLD by the authors' own Lean function (tested against real Go, not proved from fmt's source: count such statements apart). THE CARD IS WHAT COUNTS. Prove the row's statement (the work); the ties are given (YtllfakimcgbppaaDoorTie.lean); close each card by the builder's one call (the guide's Derived/Test/ToyasCard.lean, 'card_holds'). Laid BY PROGRAM, IN A SANDBOX (cutbox-door.mjs). By AI agents, Wed Nov 11 2026. No macro, syntax, notation, axiom, sorry.
-/
import Derived.Test.YtllfakimcgbppaaDoorRows
import GoSem.ClaimSeven
namespace Go.Proofs.YtllfakimcgbppaaDoor
namespace Rows

/-- THE TIED CARD OF 'cosmaclaw05.MemMatchesReference'. -/
def memMatchesReferenceCard : Claim7 := { stood := { row := memMatchesReferenceRow, standIns := [], harness := (true, "19d4e9b940c3ae2195a962eb55f73b9b8b19f7b04d7bdd789839536eb63bc5d0"), looks := false }, kinds := [], alts := [], laidByText := true, laidKinds := [.data, .data], laidTests := true, laidLooks := .later }
def MemMatchesReferenceCardSaid : Prop := Claim7.holds Tryd.pinned (.plain (OpenSpec.ofChange memMatchesReferenceSpec)) memMatchesReferenceCard

/-- THE TIED CARD OF 'cosmaclaw05.MemReads'. -/
def memReadsCard : Claim7 := { stood := { row := memReadsRow, standIns := [], harness := (true, "19d4e9b940c3ae2195a962eb55f73b9b8b19f7b04d7bdd789839536eb63bc5d0"), looks := false }, kinds := [], alts := [], laidByText := true, laidKinds := [.data, .data], laidTests := true, laidLooks := .later }
def MemReadsCardSaid : Prop := Claim7.holds Tryd.pinned (.plain (OpenSpec.ofChange memReadsSpec)) memReadsCard

/-- THE TIED CARD OF 'cosmaclaw05.MemLongest'. -/
def memLongestCard : Claim7 := { stood := { row := memLongestRow, standIns := [], harness := (true, "19d4e9b940c3ae2195a962eb55f73b9b8b19f7b04d7bdd789839536eb63bc5d0"), looks := false }, kinds := [], alts := [], laidByText := true, laidKinds := [.data, .data], laidTests := true, laidLooks := .later }
def MemLongestCardSaid : Prop := Claim7.holds Tryd.pinned (.plain (OpenSpec.ofChange memLongestSpec)) memLongestCard

/-- THE TIED CARD OF 'cosmaclaw05.MemClones'. -/
def memClonesCard : Claim7 := { stood := { row := memClonesRow, standIns := [], harness := (true, "19d4e9b940c3ae2195a962eb55f73b9b8b19f7b04d7bdd789839536eb63bc5d0"), looks := false }, kinds := [], alts := [], laidByText := true, laidKinds := [.data, .data], laidTests := true, laidLooks := .later }
def MemClonesCardSaid : Prop := Claim7.holds Tryd.pinned (.plain (OpenSpec.ofChange memClonesSpec)) memClonesCard

/-- THE TIED CARD OF 'cosmaclaw05.MemOverwrites'. -/
def memOverwritesCard : Claim7 := { stood := { row := memOverwritesRow, standIns := [], harness := (true, "19d4e9b940c3ae2195a962eb55f73b9b8b19f7b04d7bdd789839536eb63bc5d0"), looks := false }, kinds := [], alts := [], laidByText := true, laidKinds := [.data, .data], laidTests := true, laidLooks := .later }
def MemOverwritesCardSaid : Prop := Claim7.holds Tryd.pinned (.plain (OpenSpec.ofChange memOverwritesSpec)) memOverwritesCard

/-- THE SECOND FORM's CARD OF 'cosmaclaw05.MemMatchesReference'. -/
def memMatchesReferenceUptoCard : Claim7 := { stood := { row := memMatchesReferenceUptoRow, standIns := [], harness := (true, "19d4e9b940c3ae2195a962eb55f73b9b8b19f7b04d7bdd789839536eb63bc5d0"), looks := false }, kinds := [], alts := [], laidByText := true, laidKinds := [.data, .data], laidTests := true, laidLooks := .later }
def MemMatchesReferenceUptoCardSaid : Prop := Claim7.holds Tryd.pinned (.plain (OpenSpec.upto memMatchesReferenceSpec)) memMatchesReferenceUptoCard

/-- THE SECOND FORM's CARD OF 'cosmaclaw05.MemReads'. -/
def memReadsUptoCard : Claim7 := { stood := { row := memReadsUptoRow, standIns := [], harness := (true, "19d4e9b940c3ae2195a962eb55f73b9b8b19f7b04d7bdd789839536eb63bc5d0"), looks := false }, kinds := [], alts := [], laidByText := true, laidKinds := [.data, .data], laidTests := true, laidLooks := .later }
def MemReadsUptoCardSaid : Prop := Claim7.holds Tryd.pinned (.plain (OpenSpec.upto memReadsSpec)) memReadsUptoCard

/-- THE SECOND FORM's CARD OF 'cosmaclaw05.MemLongest'. -/
def memLongestUptoCard : Claim7 := { stood := { row := memLongestUptoRow, standIns := [], harness := (true, "19d4e9b940c3ae2195a962eb55f73b9b8b19f7b04d7bdd789839536eb63bc5d0"), looks := false }, kinds := [], alts := [], laidByText := true, laidKinds := [.data, .data], laidTests := true, laidLooks := .later }
def MemLongestUptoCardSaid : Prop := Claim7.holds Tryd.pinned (.plain (OpenSpec.upto memLongestSpec)) memLongestUptoCard

/-- THE SECOND FORM's CARD OF 'cosmaclaw05.MemClones'. -/
def memClonesUptoCard : Claim7 := { stood := { row := memClonesUptoRow, standIns := [], harness := (true, "19d4e9b940c3ae2195a962eb55f73b9b8b19f7b04d7bdd789839536eb63bc5d0"), looks := false }, kinds := [], alts := [], laidByText := true, laidKinds := [.data, .data], laidTests := true, laidLooks := .later }
def MemClonesUptoCardSaid : Prop := Claim7.holds Tryd.pinned (.plain (OpenSpec.upto memClonesSpec)) memClonesUptoCard

/-- THE SECOND FORM's CARD OF 'cosmaclaw05.MemOverwrites'. -/
def memOverwritesUptoCard : Claim7 := { stood := { row := memOverwritesUptoRow, standIns := [], harness := (true, "19d4e9b940c3ae2195a962eb55f73b9b8b19f7b04d7bdd789839536eb63bc5d0"), looks := false }, kinds := [], alts := [], laidByText := true, laidKinds := [.data, .data], laidTests := true, laidLooks := .later }
def MemOverwritesUptoCardSaid : Prop := Claim7.holds Tryd.pinned (.plain (OpenSpec.upto memOverwritesSpec)) memOverwritesUptoCard
end Rows
end Go.Proofs.YtllfakimcgbppaaDoor
