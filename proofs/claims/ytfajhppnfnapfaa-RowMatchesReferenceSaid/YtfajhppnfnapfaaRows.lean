/-
  No cell of these rows narrows 'for every input' (looked for: loops, veiled, ifaces, maps, wideKeys, modest, calm, conditions, laid).
  DERIVED. THE GIVEN ROWS OF THIS SEAT. 5 by the template 'for every input the law returns true; each argument reads behind the call as it read before'; 0 by the template 'total and deterministic' (their statements: YtfajhppnfnapfaaTotals.lean).
  GIVEN WITH THE SEED: the statements are not yours to turn. If you find one false, say at which input.
  Laid BY PROGRAM, IN A SANDBOX (cutbox-rows.mjs): the forced cells as the released guide's own fill.sh prints them over the translation 52e6db4262c97ad8… (all of the seat's roots in one cut). By AI agents, Wed Nov 11 2026. No macro, syntax, notation, axiom, sorry.
-/
import Derived.Test.YtfajhppnfnapfaaChecked
import GoSem.Claim
import GoSem.ClaimJoined
import GoSem.ClaimMapViews
import Derived.JoinedTies
import Derived.KernelRfl
namespace Go.Proofs.Ytfajhppnfnapfaa
/- THE CELL 'sum', in the pinned program and in every row, IS THE sha256 OF THE DUMP (.gsa) THAT YtfajhppnfnapfaaProg.lean LOADS. Nothing in Lean hashes anything: it is a label: what it is worth is what the hold of that sum in a sandbox is worth. -/
noncomputable def Try.pinned : Pinned := { name := "ytfajhppnfnapfaa", sum := "52e6db4262c97ad86dc87ccd68371feac8de3cccfbd7557bbb9d3fdeb0d923d0", checked := Try.checked }
namespace Rows
def none {H : Type} : Left H := { results := [], args := [] }

/-- 'cosmaclaw06.RowMatchesReference': WHATEVER THE INPUT: true; the input reads as it did. -/
def rowMatchesReferenceSpec : ChangeSpec := { name := "rowMatchesReference", fn := fun _ => fun
  | [d1, d2, d3, d4, d5, d6, d7] => { results := [.lit (.bool true)], args := [d1, d2, d3, d4, d5, d6, d7] }
  | _ => none }
def rowMatchesReferenceRow : OpenClaim := { program := "ytfajhppnfnapfaa", sum := "52e6db4262c97ad86dc87ccd68371feac8de3cccfbd7557bbb9d3fdeb0d923d0", func := "cosmac/cosmaclaw06.RowMatchesReference", spec := "rowMatchesReference", unfollowed := true, recurses := true, apart := false }
def RowMatchesReferenceSaid : Prop := rowMatchesReferenceRow.holds Try.pinned (OpenSpec.ofChange rowMatchesReferenceSpec)

/-- ITS FALSE NEIGHBOUR: 'it returns false'. Refute it at one input. -/
def rowMatchesReferenceWrong : ChangeSpec := { name := "rowMatchesReference", fn := fun _ => fun
  | [d1, d2, d3, d4, d5, d6, d7] => { results := [.lit (.bool false)], args := [d1, d2, d3, d4, d5, d6, d7] }
  | _ => none }
def RowMatchesReferenceWrongFalsely : Prop := rowMatchesReferenceRow.holds Try.pinned (OpenSpec.ofChange rowMatchesReferenceWrong)

/-- 'cosmaclaw06.RowSets': WHATEVER THE INPUT: true; the input reads as it did. -/
def rowSetsSpec : ChangeSpec := { name := "rowSets", fn := fun _ => fun
  | [d1, d2, d3, d4] => { results := [.lit (.bool true)], args := [d1, d2, d3, d4] }
  | _ => none }
def rowSetsRow : OpenClaim := { program := "ytfajhppnfnapfaa", sum := "52e6db4262c97ad86dc87ccd68371feac8de3cccfbd7557bbb9d3fdeb0d923d0", func := "cosmac/cosmaclaw06.RowSets", spec := "rowSets", unfollowed := true, recurses := true, apart := false }
def RowSetsSaid : Prop := rowSetsRow.holds Try.pinned (OpenSpec.ofChange rowSetsSpec)

/-- ITS FALSE NEIGHBOUR: 'it returns false'. Refute it at one input. -/
def rowSetsWrong : ChangeSpec := { name := "rowSets", fn := fun _ => fun
  | [d1, d2, d3, d4] => { results := [.lit (.bool false)], args := [d1, d2, d3, d4] }
  | _ => none }
def RowSetsWrongFalsely : Prop := rowSetsRow.holds Try.pinned (OpenSpec.ofChange rowSetsWrong)

/-- 'cosmaclaw06.RowShifts': WHATEVER THE INPUT: true; the input reads as it did. -/
def rowShiftsSpec : ChangeSpec := { name := "rowShifts", fn := fun _ => fun
  | [d1, d2, d3, d4, d5] => { results := [.lit (.bool true)], args := [d1, d2, d3, d4, d5] }
  | _ => none }
def rowShiftsRow : OpenClaim := { program := "ytfajhppnfnapfaa", sum := "52e6db4262c97ad86dc87ccd68371feac8de3cccfbd7557bbb9d3fdeb0d923d0", func := "cosmac/cosmaclaw06.RowShifts", spec := "rowShifts", unfollowed := true, recurses := true, apart := false }
def RowShiftsSaid : Prop := rowShiftsRow.holds Try.pinned (OpenSpec.ofChange rowShiftsSpec)

/-- ITS FALSE NEIGHBOUR: 'it returns false'. Refute it at one input. -/
def rowShiftsWrong : ChangeSpec := { name := "rowShifts", fn := fun _ => fun
  | [d1, d2, d3, d4, d5] => { results := [.lit (.bool false)], args := [d1, d2, d3, d4, d5] }
  | _ => none }
def RowShiftsWrongFalsely : Prop := rowShiftsRow.holds Try.pinned (OpenSpec.ofChange rowShiftsWrong)

/-- 'cosmaclaw06.RowXors': WHATEVER THE INPUT: true; the input reads as it did. -/
def rowXorsSpec : ChangeSpec := { name := "rowXors", fn := fun _ => fun
  | [d1, d2, d3, d4] => { results := [.lit (.bool true)], args := [d1, d2, d3, d4] }
  | _ => none }
def rowXorsRow : OpenClaim := { program := "ytfajhppnfnapfaa", sum := "52e6db4262c97ad86dc87ccd68371feac8de3cccfbd7557bbb9d3fdeb0d923d0", func := "cosmac/cosmaclaw06.RowXors", spec := "rowXors", unfollowed := true, recurses := true, apart := false }
def RowXorsSaid : Prop := rowXorsRow.holds Try.pinned (OpenSpec.ofChange rowXorsSpec)

/-- ITS FALSE NEIGHBOUR: 'it returns false'. Refute it at one input. -/
def rowXorsWrong : ChangeSpec := { name := "rowXors", fn := fun _ => fun
  | [d1, d2, d3, d4] => { results := [.lit (.bool false)], args := [d1, d2, d3, d4] }
  | _ => none }
def RowXorsWrongFalsely : Prop := rowXorsRow.holds Try.pinned (OpenSpec.ofChange rowXorsWrong)

/-- 'cosmaclaw06.RowMoves': WHATEVER THE INPUT: true; the input reads as it did. -/
def rowMovesSpec : ChangeSpec := { name := "rowMoves", fn := fun _ => fun
  | [d1, d2, d3, d4] => { results := [.lit (.bool true)], args := [d1, d2, d3, d4] }
  | _ => none }
def rowMovesRow : OpenClaim := { program := "ytfajhppnfnapfaa", sum := "52e6db4262c97ad86dc87ccd68371feac8de3cccfbd7557bbb9d3fdeb0d923d0", func := "cosmac/cosmaclaw06.RowMoves", spec := "rowMoves", unfollowed := true, recurses := true, apart := false }
def RowMovesSaid : Prop := rowMovesRow.holds Try.pinned (OpenSpec.ofChange rowMovesSpec)

/-- ITS FALSE NEIGHBOUR: 'it returns false'. Refute it at one input. -/
def rowMovesWrong : ChangeSpec := { name := "rowMoves", fn := fun _ => fun
  | [d1, d2, d3, d4] => { results := [.lit (.bool false)], args := [d1, d2, d3, d4] }
  | _ => none }
def RowMovesWrongFalsely : Prop := rowMovesRow.holds Try.pinned (OpenSpec.ofChange rowMovesWrong)

/- THE SECOND FORM. 'bulk': how many values and letters a reading holds, each counted each time it is reached (what is shared counts as often as it is met; a slice's spare places count too). A statement '..UptoSaid' is the law's where the arguments, and the package variables that the reading takes, are together of bulk at most 1048576: NARROWER than '..Said'. Prove '..Said' where nothing that the law and all that it calls make is longer than what came in: it says more and counts as full. Else prove '..UptoSaid'. A law counts once. -/
mutual
def uptoBulk {H : Type} : DataW H → Nat
  | .lit (.string bytes) => bytes.length + 1
  | .lit _ => 1
  | .nil => 1
  | .ptr d => uptoBulk d + 1
  | .slice elems spare => uptoBulkAll elems + uptoBulkAll spare + 1
  | .agg parts => uptoBulkAll parts + 1
  | .iface _ d => uptoBulk d + 1
  | .map entries => uptoBulkEntries entries + 1
  | .held _ => 1
def uptoBulkAll {H : Type} : List (DataW H) → Nat
  | [] => 0
  | d :: r => uptoBulk d + uptoBulkAll r
def uptoBulkEntries {H : Type} : List (Lit × DataW H) → Nat
  | [] => 0
  | x :: r => uptoBulkEntry x + uptoBulkEntries r
def uptoBulkEntry {H : Type} : Lit × DataW H → Nat
  | (.string bytes, d) => bytes.length + uptoBulk d + 1
  | (_, d) => uptoBulk d + 1
 end
def uptoSmall : (H : Type) → List (DataW H) → Bool := fun _ ds => decide (uptoBulkAll ds ≤ 1048576)
def OpenSpec.upto (s : _root_.Go.ChangeSpec) : _root_.Go.OpenSpec := { _root_.Go.OpenSpec.ofChange s with cond := some uptoSmall }

/-- 'cosmaclaw06.RowMatchesReference', WHERE WHAT IT READS IS OF BULK AT MOST 1048576: true; the input reads as it did. -/
def rowMatchesReferenceUptoRow : OpenClaim := { program := "ytfajhppnfnapfaa", sum := "52e6db4262c97ad86dc87ccd68371feac8de3cccfbd7557bbb9d3fdeb0d923d0", func := "cosmac/cosmaclaw06.RowMatchesReference", spec := "rowMatchesReference", unfollowed := true, recurses := true, apart := false, narrowed := true }
def RowMatchesReferenceUptoSaid : Prop := rowMatchesReferenceUptoRow.holds Try.pinned (OpenSpec.upto rowMatchesReferenceSpec)

/-- 'cosmaclaw06.RowSets', WHERE WHAT IT READS IS OF BULK AT MOST 1048576: true; the input reads as it did. -/
def rowSetsUptoRow : OpenClaim := { program := "ytfajhppnfnapfaa", sum := "52e6db4262c97ad86dc87ccd68371feac8de3cccfbd7557bbb9d3fdeb0d923d0", func := "cosmac/cosmaclaw06.RowSets", spec := "rowSets", unfollowed := true, recurses := true, apart := false, narrowed := true }
def RowSetsUptoSaid : Prop := rowSetsUptoRow.holds Try.pinned (OpenSpec.upto rowSetsSpec)

/-- 'cosmaclaw06.RowShifts', WHERE WHAT IT READS IS OF BULK AT MOST 1048576: true; the input reads as it did. -/
def rowShiftsUptoRow : OpenClaim := { program := "ytfajhppnfnapfaa", sum := "52e6db4262c97ad86dc87ccd68371feac8de3cccfbd7557bbb9d3fdeb0d923d0", func := "cosmac/cosmaclaw06.RowShifts", spec := "rowShifts", unfollowed := true, recurses := true, apart := false, narrowed := true }
def RowShiftsUptoSaid : Prop := rowShiftsUptoRow.holds Try.pinned (OpenSpec.upto rowShiftsSpec)

/-- 'cosmaclaw06.RowXors', WHERE WHAT IT READS IS OF BULK AT MOST 1048576: true; the input reads as it did. -/
def rowXorsUptoRow : OpenClaim := { program := "ytfajhppnfnapfaa", sum := "52e6db4262c97ad86dc87ccd68371feac8de3cccfbd7557bbb9d3fdeb0d923d0", func := "cosmac/cosmaclaw06.RowXors", spec := "rowXors", unfollowed := true, recurses := true, apart := false, narrowed := true }
def RowXorsUptoSaid : Prop := rowXorsUptoRow.holds Try.pinned (OpenSpec.upto rowXorsSpec)

/-- 'cosmaclaw06.RowMoves', WHERE WHAT IT READS IS OF BULK AT MOST 1048576: true; the input reads as it did. -/
def rowMovesUptoRow : OpenClaim := { program := "ytfajhppnfnapfaa", sum := "52e6db4262c97ad86dc87ccd68371feac8de3cccfbd7557bbb9d3fdeb0d923d0", func := "cosmac/cosmaclaw06.RowMoves", spec := "rowMoves", unfollowed := true, recurses := true, apart := false, narrowed := true }
def RowMovesUptoSaid : Prop := rowMovesUptoRow.holds Try.pinned (OpenSpec.upto rowMovesSpec)

end Rows
end Go.Proofs.Ytfajhppnfnapfaa
