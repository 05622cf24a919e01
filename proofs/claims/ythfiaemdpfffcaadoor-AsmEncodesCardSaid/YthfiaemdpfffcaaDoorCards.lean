/-
  DERIVED. GIVEN WITH THE SEED: THE CARDS: each row of YthfiaemdpfffcaaDoorRows.lean that lists a variable, with what it lists TIED to the program's text (the seventh form; the later family's looks); each row that meets fmt, with fmt's text TOLD by the authors' own Lean function (tested against real Go, not proved from fmt's source: count such statements apart). THE CARD IS WHAT COUNTS. Prove the row's statement (the work); the ties are given (YthfiaemdpfffcaaDoorTie.lean); close each card by the builder's one call (the guide's Derived/Test/ToyasCard.lean, 'card_holds'). Laid BY PROGRAM, IN A SANDBOX (cutbox-door.mjs). By AI agents, Wed Nov 11 2026. No macro, syntax, notation, axiom, sorry.
-/
import Derived.Test.YthfiaemdpfffcaaDoorRows
import GoSem.ClaimSeven
namespace Go.Proofs.YthfiaemdpfffcaaDoor
namespace Rows

/-- THE TIED CARD OF 'cosmaclaw15.AsmInverse'. -/
def asmInverseCard : Claim7 := { stood := { row := asmInverseRow, standIns := [], harness := (true, "f4c49392076fa385ebd4960665fac3ffe4c756f3517e196bbea0f7501075c7c6"), looks := true }, kinds := [], alts := [], laidByText := true, laidKinds := [.data, .data, .data, .sentinel, .sentinel, .data, .data], laidTests := true, laidLooks := .later }
def AsmInverseCardSaid : Prop := Claim7.holds Tryd.pinned (.plain (OpenSpec.ofChange asmInverseSpec)) asmInverseCard

/-- THE TIED CARD OF 'cosmaclaw15.AsmEncodes'. -/
def asmEncodesCard : Claim7 := { stood := { row := asmEncodesRow, standIns := [], harness := (true, "f4c49392076fa385ebd4960665fac3ffe4c756f3517e196bbea0f7501075c7c6"), looks := true }, kinds := [], alts := [], laidByText := true, laidKinds := [.data, .data, .data, .sentinel, .sentinel, .data, .data], laidTests := true, laidLooks := .later }
def AsmEncodesCardSaid : Prop := Claim7.holds Tryd.pinned (.plain (OpenSpec.ofChange asmEncodesSpec)) asmEncodesCard

/-- THE TIED CARD OF 'cosmaclaw15.AsmParses'. -/
def asmParsesCard : Claim7 := { stood := { row := asmParsesRow, standIns := [], harness := (true, "f4c49392076fa385ebd4960665fac3ffe4c756f3517e196bbea0f7501075c7c6"), looks := true }, kinds := [], alts := [], laidByText := true, laidKinds := [.data, .data, .data, .sentinel, .sentinel, .data, .data], laidTests := true, laidLooks := .later }
def AsmParsesCardSaid : Prop := Claim7.holds Tryd.pinned (.plain (OpenSpec.ofChange asmParsesSpec)) asmParsesCard

/-- THE TIED CARD OF 'cosmaclaw15.AsmWords'. -/
def asmWordsCard : Claim7 := { stood := { row := asmWordsRow, standIns := [], harness := (true, "f4c49392076fa385ebd4960665fac3ffe4c756f3517e196bbea0f7501075c7c6"), looks := true }, kinds := [], alts := [], laidByText := true, laidKinds := [.data, .data, .data, .sentinel, .sentinel, .data, .data], laidTests := true, laidLooks := .later }
def AsmWordsCardSaid : Prop := Claim7.holds Tryd.pinned (.plain (OpenSpec.ofChange asmWordsSpec)) asmWordsCard

/-- THE SECOND FORM's CARD OF 'cosmaclaw15.AsmInverse'. -/
def asmInverseUptoCard : Claim7 := { stood := { row := asmInverseUptoRow, standIns := [], harness := (true, "f4c49392076fa385ebd4960665fac3ffe4c756f3517e196bbea0f7501075c7c6"), looks := true }, kinds := [], alts := [], laidByText := true, laidKinds := [.data, .data, .data, .sentinel, .sentinel, .data, .data], laidTests := true, laidLooks := .later }
def AsmInverseUptoCardSaid : Prop := Claim7.holds Tryd.pinned (.plain (OpenSpec.upto asmInverseSpec)) asmInverseUptoCard

/-- THE SECOND FORM's CARD OF 'cosmaclaw15.AsmEncodes'. -/
def asmEncodesUptoCard : Claim7 := { stood := { row := asmEncodesUptoRow, standIns := [], harness := (true, "f4c49392076fa385ebd4960665fac3ffe4c756f3517e196bbea0f7501075c7c6"), looks := true }, kinds := [], alts := [], laidByText := true, laidKinds := [.data, .data, .data, .sentinel, .sentinel, .data, .data], laidTests := true, laidLooks := .later }
def AsmEncodesUptoCardSaid : Prop := Claim7.holds Tryd.pinned (.plain (OpenSpec.upto asmEncodesSpec)) asmEncodesUptoCard

/-- THE SECOND FORM's CARD OF 'cosmaclaw15.AsmParses'. -/
def asmParsesUptoCard : Claim7 := { stood := { row := asmParsesUptoRow, standIns := [], harness := (true, "f4c49392076fa385ebd4960665fac3ffe4c756f3517e196bbea0f7501075c7c6"), looks := true }, kinds := [], alts := [], laidByText := true, laidKinds := [.data, .data, .data, .sentinel, .sentinel, .data, .data], laidTests := true, laidLooks := .later }
def AsmParsesUptoCardSaid : Prop := Claim7.holds Tryd.pinned (.plain (OpenSpec.upto asmParsesSpec)) asmParsesUptoCard

/-- THE SECOND FORM's CARD OF 'cosmaclaw15.AsmWords'. -/
def asmWordsUptoCard : Claim7 := { stood := { row := asmWordsUptoRow, standIns := [], harness := (true, "f4c49392076fa385ebd4960665fac3ffe4c756f3517e196bbea0f7501075c7c6"), looks := true }, kinds := [], alts := [], laidByText := true, laidKinds := [.data, .data, .data, .sentinel, .sentinel, .data, .data], laidTests := true, laidLooks := .later }
def AsmWordsUptoCardSaid : Prop := Claim7.holds Tryd.pinned (.plain (OpenSpec.upto asmWordsSpec)) asmWordsUptoCard
end Rows
end Go.Proofs.YthfiaemdpfffcaaDoor
