/-
  No cell of these rows narrows 'for every input' (looked for: loops, veiled, ifaces, maps, wideKeys, modest, calm, conditions, laid).
  DERIVED. THE GIVEN ROWS OF THIS SEAT. 4 by the template 'for every input the law returns true; each argument reads behind the call as it read before'; 0 by the template 'total and deterministic' (their statements: YtiebbbfhbggmaaaTotals.lean).
  GIVEN WITH THE SEED: the statements are not yours to turn. If you find one false, say at which input.
  Laid BY PROGRAM, IN A SANDBOX (cutbox-rows.mjs): the forced cells as the released guide's own fill.sh prints them over the translation 12b0b33d633ff72f… (all of the seat's roots in one cut). By AI agents, Wed Nov 11 2026. No macro, syntax, notation, axiom, sorry.
-/
import Derived.Test.YtiebbbfhbggmaaaChecked
import GoSem.Claim
import GoSem.ClaimJoined
import GoSem.ClaimMapViews
import Derived.JoinedTies
import Derived.KernelRfl
namespace Go.Proofs.Ytiebbbfhbggmaaa
/- THE CELL 'sum', in the pinned program and in every row, IS THE sha256 OF THE DUMP (.gsa) THAT YtiebbbfhbggmaaaProg.lean LOADS. Nothing in Lean hashes anything: it is a label: what it is worth is what the hold of that sum in a sandbox is worth. -/
noncomputable def Try.pinned : Pinned := { name := "ytiebbbfhbggmaaa", sum := "12b0b33d633ff72f99941f861c6c5c89343074b1e6b404e85df5b139a96ee222", checked := Try.checked }
namespace Rows
def none {H : Type} : Left H := { results := [], args := [] }

/-- 'cosmaclaw13.RandomMatchesReference': WHATEVER THE INPUT: true; the input reads as it did. -/
def randomMatchesReferenceSpec : ChangeSpec := { name := "randomMatchesReference", fn := fun _ => fun
  | [d1, d2, d3] => { results := [.lit (.bool true)], args := [d1, d2, d3] }
  | _ => none }
def randomMatchesReferenceRow : OpenClaim := { program := "ytiebbbfhbggmaaa", sum := "12b0b33d633ff72f99941f861c6c5c89343074b1e6b404e85df5b139a96ee222", func := "cosmac/cosmaclaw13.RandomMatchesReference", spec := "randomMatchesReference", unfollowed := true, recurses := true, apart := false }
def RandomMatchesReferenceSaid : Prop := randomMatchesReferenceRow.holds Try.pinned (OpenSpec.ofChange randomMatchesReferenceSpec)

/-- ITS FALSE NEIGHBOUR: 'it returns false'. Refute it at one input. -/
def randomMatchesReferenceWrong : ChangeSpec := { name := "randomMatchesReference", fn := fun _ => fun
  | [d1, d2, d3] => { results := [.lit (.bool false)], args := [d1, d2, d3] }
  | _ => none }
def RandomMatchesReferenceWrongFalsely : Prop := randomMatchesReferenceRow.holds Try.pinned (OpenSpec.ofChange randomMatchesReferenceWrong)

/-- 'cosmaclaw13.RandomCycles': WHATEVER THE INPUT: true; the input reads as it did. -/
def randomCyclesSpec : ChangeSpec := { name := "randomCycles", fn := fun _ => fun
  | [d1, d2] => { results := [.lit (.bool true)], args := [d1, d2] }
  | _ => none }
def randomCyclesRow : OpenClaim := { program := "ytiebbbfhbggmaaa", sum := "12b0b33d633ff72f99941f861c6c5c89343074b1e6b404e85df5b139a96ee222", func := "cosmac/cosmaclaw13.RandomCycles", spec := "randomCycles", unfollowed := true, recurses := true, apart := false }
def RandomCyclesSaid : Prop := randomCyclesRow.holds Try.pinned (OpenSpec.ofChange randomCyclesSpec)

/-- ITS FALSE NEIGHBOUR: 'it returns false'. Refute it at one input. -/
def randomCyclesWrong : ChangeSpec := { name := "randomCycles", fn := fun _ => fun
  | [d1, d2] => { results := [.lit (.bool false)], args := [d1, d2] }
  | _ => none }
def RandomCyclesWrongFalsely : Prop := randomCyclesRow.holds Try.pinned (OpenSpec.ofChange randomCyclesWrong)

/-- 'cosmaclaw13.RandomClones': WHATEVER THE INPUT: true; the input reads as it did. -/
def randomClonesSpec : ChangeSpec := { name := "randomClones", fn := fun _ => fun
  | [d1, d2, d3] => { results := [.lit (.bool true)], args := [d1, d2, d3] }
  | _ => none }
def randomClonesRow : OpenClaim := { program := "ytiebbbfhbggmaaa", sum := "12b0b33d633ff72f99941f861c6c5c89343074b1e6b404e85df5b139a96ee222", func := "cosmac/cosmaclaw13.RandomClones", spec := "randomClones", unfollowed := true, recurses := true, apart := false }
def RandomClonesSaid : Prop := randomClonesRow.holds Try.pinned (OpenSpec.ofChange randomClonesSpec)

/-- ITS FALSE NEIGHBOUR: 'it returns false'. Refute it at one input. -/
def randomClonesWrong : ChangeSpec := { name := "randomClones", fn := fun _ => fun
  | [d1, d2, d3] => { results := [.lit (.bool false)], args := [d1, d2, d3] }
  | _ => none }
def RandomClonesWrongFalsely : Prop := randomClonesRow.holds Try.pinned (OpenSpec.ofChange randomClonesWrong)

/-- 'cosmaclaw13.RandomResumes': WHATEVER THE INPUT: true; the input reads as it did. -/
def randomResumesSpec : ChangeSpec := { name := "randomResumes", fn := fun _ => fun
  | [d1, d2, d3] => { results := [.lit (.bool true)], args := [d1, d2, d3] }
  | _ => none }
def randomResumesRow : OpenClaim := { program := "ytiebbbfhbggmaaa", sum := "12b0b33d633ff72f99941f861c6c5c89343074b1e6b404e85df5b139a96ee222", func := "cosmac/cosmaclaw13.RandomResumes", spec := "randomResumes", unfollowed := true, recurses := true, apart := false }
def RandomResumesSaid : Prop := randomResumesRow.holds Try.pinned (OpenSpec.ofChange randomResumesSpec)

/-- ITS FALSE NEIGHBOUR: 'it returns false'. Refute it at one input. -/
def randomResumesWrong : ChangeSpec := { name := "randomResumes", fn := fun _ => fun
  | [d1, d2, d3] => { results := [.lit (.bool false)], args := [d1, d2, d3] }
  | _ => none }
def RandomResumesWrongFalsely : Prop := randomResumesRow.holds Try.pinned (OpenSpec.ofChange randomResumesWrong)

/- THE SECOND FORM. 'bulk': how many values and letters a reading holds, each counted each time it is reached (what is shared counts as often as it is met; a slice's spare places count too). A statement '..UptoSaid' is the law's where the arguments, and the package variables that the reading takes, are together of bulk at most 1048576: NARROWER than '..Said'. Prove '..Said' where nothing that the law and all that it calls make is longer than what came in: it says more and counts as full. Else prove '..UptoSaid'. A law counts once. -/
mutual
def uptoBulk {H : Type} : DataW H → Nat
  | .lit (.string bytes) => bytes.length + 1
  | .lit _ => 1
  | .nil => 1
  | .ptr d => uptoBulk d + 1
  | .slice elems spare => uptoBulkAll elems + uptoBulkAll spare + 1
  | .agg parts => uptoBulkAll parts + 1
  | .iface _ d => uptoBulk d + 1
  | .map entries => uptoBulkEntries entries + 1
  | .held _ => 1
def uptoBulkAll {H : Type} : List (DataW H) → Nat
  | [] => 0
  | d :: r => uptoBulk d + uptoBulkAll r
def uptoBulkEntries {H : Type} : List (Lit × DataW H) → Nat
  | [] => 0
  | x :: r => uptoBulkEntry x + uptoBulkEntries r
def uptoBulkEntry {H : Type} : Lit × DataW H → Nat
  | (.string bytes, d) => bytes.length + uptoBulk d + 1
  | (_, d) => uptoBulk d + 1
 end
def uptoSmall : (H : Type) → List (DataW H) → Bool := fun _ ds => decide (uptoBulkAll ds ≤ 1048576)
def OpenSpec.upto (s : _root_.Go.ChangeSpec) : _root_.Go.OpenSpec := { _root_.Go.OpenSpec.ofChange s with cond := some uptoSmall }

/-- 'cosmaclaw13.RandomMatchesReference', WHERE WHAT IT READS IS OF BULK AT MOST 1048576: true; the input reads as it did. -/
def randomMatchesReferenceUptoRow : OpenClaim := { program := "ytiebbbfhbggmaaa", sum := "12b0b33d633ff72f99941f861c6c5c89343074b1e6b404e85df5b139a96ee222", func := "cosmac/cosmaclaw13.RandomMatchesReference", spec := "randomMatchesReference", unfollowed := true, recurses := true, apart := false, narrowed := true }
def RandomMatchesReferenceUptoSaid : Prop := randomMatchesReferenceUptoRow.holds Try.pinned (OpenSpec.upto randomMatchesReferenceSpec)

/-- 'cosmaclaw13.RandomCycles', WHERE WHAT IT READS IS OF BULK AT MOST 1048576: true; the input reads as it did. -/
def randomCyclesUptoRow : OpenClaim := { program := "ytiebbbfhbggmaaa", sum := "12b0b33d633ff72f99941f861c6c5c89343074b1e6b404e85df5b139a96ee222", func := "cosmac/cosmaclaw13.RandomCycles", spec := "randomCycles", unfollowed := true, recurses := true, apart := false, narrowed := true }
def RandomCyclesUptoSaid : Prop := randomCyclesUptoRow.holds Try.pinned (OpenSpec.upto randomCyclesSpec)

/-- 'cosmaclaw13.RandomClones', WHERE WHAT IT READS IS OF BULK AT MOST 1048576: true; the input reads as it did. -/
def randomClonesUptoRow : OpenClaim := { program := "ytiebbbfhbggmaaa", sum := "12b0b33d633ff72f99941f861c6c5c89343074b1e6b404e85df5b139a96ee222", func := "cosmac/cosmaclaw13.RandomClones", spec := "randomClones", unfollowed := true, recurses := true, apart := false, narrowed := true }
def RandomClonesUptoSaid : Prop := randomClonesUptoRow.holds Try.pinned (OpenSpec.upto randomClonesSpec)

/-- 'cosmaclaw13.RandomResumes', WHERE WHAT IT READS IS OF BULK AT MOST 1048576: true; the input reads as it did. -/
def randomResumesUptoRow : OpenClaim := { program := "ytiebbbfhbggmaaa", sum := "12b0b33d633ff72f99941f861c6c5c89343074b1e6b404e85df5b139a96ee222", func := "cosmac/cosmaclaw13.RandomResumes", spec := "randomResumes", unfollowed := true, recurses := true, apart := false, narrowed := true }
def RandomResumesUptoSaid : Prop := randomResumesUptoRow.holds Try.pinned (OpenSpec.upto randomResumesSpec)

end Rows
end Go.Proofs.Ytiebbbfhbggmaaa
