/-
  No cell of these rows narrows 'for every input' (looked for: loops, veiled, ifaces, maps, wideKeys, modest, calm, conditions, laid).
  DERIVED. THE GIVEN ROWS OF THIS SEAT. 3 by the template 'for every input the law returns true; each argument reads behind the call as it read before'; 0 by the template 'total and deterministic' (their statements: YtbgdkhbembjjlaaTotals.lean).
  GIVEN WITH THE SEED: the statements are not yours to turn. If you find one false, say at which input.
  Laid BY PROGRAM, IN A SANDBOX (cutbox-rows.mjs): the forced cells as the released guide's own fill.sh prints them over the translation a8c7e432ae8fe6db… (all of the seat's roots in one cut). By AI agents, Wed Nov 11 2026. No macro, syntax, notation, axiom, sorry.
-/
import Derived.Test.YtbgdkhbembjjlaaChecked
import GoSem.Claim
import GoSem.ClaimJoined
import GoSem.ClaimMapViews
import Derived.JoinedTies
import Derived.KernelRfl
namespace Go.Proofs.Ytbgdkhbembjjlaa
/- THE CELL 'sum', in the pinned program and in every row, IS THE sha256 OF THE DUMP (.gsa) THAT YtbgdkhbembjjlaaProg.lean LOADS. Nothing in Lean hashes anything: it is a label: what it is worth is what the hold of that sum in a sandbox is worth. -/
noncomputable def Try.pinned : Pinned := { name := "ytbgdkhbembjjlaa", sum := "a8c7e432ae8fe6db35e68a289de37e05283cee44f4f4766915bb9175e2b1a517", checked := Try.checked }
namespace Rows
def none {H : Type} : Left H := { results := [], args := [] }

/-- 'cosmaclaw17.StackMatchesReference': WHATEVER THE INPUT: true; the input reads as it did. -/
def stackMatchesReferenceSpec : ChangeSpec := { name := "stackMatchesReference", fn := fun _ => fun
  | [d] => { results := [.lit (.bool true)], args := [d] }
  | _ => none }
def stackMatchesReferenceRow : OpenClaim := { program := "ytbgdkhbembjjlaa", sum := "a8c7e432ae8fe6db35e68a289de37e05283cee44f4f4766915bb9175e2b1a517", func := "cosmac/cosmaclaw17.StackMatchesReference", spec := "stackMatchesReference", unfollowed := true, recurses := true, apart := false }
def StackMatchesReferenceSaid : Prop := stackMatchesReferenceRow.holds Try.pinned (OpenSpec.ofChange stackMatchesReferenceSpec)

/-- ITS FALSE NEIGHBOUR: 'it returns false'. Refute it at one input. -/
def stackMatchesReferenceWrong : ChangeSpec := { name := "stackMatchesReference", fn := fun _ => fun
  | [d] => { results := [.lit (.bool false)], args := [d] }
  | _ => none }
def StackMatchesReferenceWrongFalsely : Prop := stackMatchesReferenceRow.holds Try.pinned (OpenSpec.ofChange stackMatchesReferenceWrong)

/-- 'cosmaclaw17.StackInverse': WHATEVER THE INPUT: true; the input reads as it did. -/
def stackInverseSpec : ChangeSpec := { name := "stackInverse", fn := fun _ => fun
  | [d1, d2] => { results := [.lit (.bool true)], args := [d1, d2] }
  | _ => none }
def stackInverseRow : OpenClaim := { program := "ytbgdkhbembjjlaa", sum := "a8c7e432ae8fe6db35e68a289de37e05283cee44f4f4766915bb9175e2b1a517", func := "cosmac/cosmaclaw17.StackInverse", spec := "stackInverse", unfollowed := true, recurses := true, apart := false }
def StackInverseSaid : Prop := stackInverseRow.holds Try.pinned (OpenSpec.ofChange stackInverseSpec)

/-- ITS FALSE NEIGHBOUR: 'it returns false'. Refute it at one input. -/
def stackInverseWrong : ChangeSpec := { name := "stackInverse", fn := fun _ => fun
  | [d1, d2] => { results := [.lit (.bool false)], args := [d1, d2] }
  | _ => none }
def StackInverseWrongFalsely : Prop := stackInverseRow.holds Try.pinned (OpenSpec.ofChange stackInverseWrong)

/-- 'cosmaclaw17.StackLists': WHATEVER THE INPUT: true; the input reads as it did. -/
def stackListsSpec : ChangeSpec := { name := "stackLists", fn := fun _ => fun
  | [d] => { results := [.lit (.bool true)], args := [d] }
  | _ => none }
def stackListsRow : OpenClaim := { program := "ytbgdkhbembjjlaa", sum := "a8c7e432ae8fe6db35e68a289de37e05283cee44f4f4766915bb9175e2b1a517", func := "cosmac/cosmaclaw17.StackLists", spec := "stackLists", unfollowed := true, recurses := true, apart := false }
def StackListsSaid : Prop := stackListsRow.holds Try.pinned (OpenSpec.ofChange stackListsSpec)

/-- ITS FALSE NEIGHBOUR: 'it returns false'. Refute it at one input. -/
def stackListsWrong : ChangeSpec := { name := "stackLists", fn := fun _ => fun
  | [d] => { results := [.lit (.bool false)], args := [d] }
  | _ => none }
def StackListsWrongFalsely : Prop := stackListsRow.holds Try.pinned (OpenSpec.ofChange stackListsWrong)

/- THE SECOND FORM. 'bulk': how many values and letters a reading holds, each counted each time it is reached (what is shared counts as often as it is met; a slice's spare places count too). A statement '..UptoSaid' is the law's where the arguments, and the package variables that the reading takes, are together of bulk at most 1048576: NARROWER than '..Said'. Prove '..Said' where nothing that the law and all that it calls make is longer than what came in: it says more and counts as full. Else prove '..UptoSaid'. A law counts once. -/
mutual
def uptoBulk {H : Type} : DataW H → Nat
  | .lit (.string bytes) => bytes.length + 1
  | .lit _ => 1
  | .nil => 1
  | .ptr d => uptoBulk d + 1
  | .slice elems spare => uptoBulkAll elems + uptoBulkAll spare + 1
  | .agg parts => uptoBulkAll parts + 1
  | .iface _ d => uptoBulk d + 1
  | .map entries => uptoBulkEntries entries + 1
  | .held _ => 1
def uptoBulkAll {H : Type} : List (DataW H) → Nat
  | [] => 0
  | d :: r => uptoBulk d + uptoBulkAll r
def uptoBulkEntries {H : Type} : List (Lit × DataW H) → Nat
  | [] => 0
  | x :: r => uptoBulkEntry x + uptoBulkEntries r
def uptoBulkEntry {H : Type} : Lit × DataW H → Nat
  | (.string bytes, d) => bytes.length + uptoBulk d + 1
  | (_, d) => uptoBulk d + 1
 end
def uptoSmall : (H : Type) → List (DataW H) → Bool := fun _ ds => decide (uptoBulkAll ds ≤ 1048576)
def OpenSpec.upto (s : _root_.Go.ChangeSpec) : _root_.Go.OpenSpec := { _root_.Go.OpenSpec.ofChange s with cond := some uptoSmall }

/-- 'cosmaclaw17.StackMatchesReference', WHERE WHAT IT READS IS OF BULK AT MOST 1048576: true; the input reads as it did. -/
def stackMatchesReferenceUptoRow : OpenClaim := { program := "ytbgdkhbembjjlaa", sum := "a8c7e432ae8fe6db35e68a289de37e05283cee44f4f4766915bb9175e2b1a517", func := "cosmac/cosmaclaw17.StackMatchesReference", spec := "stackMatchesReference", unfollowed := true, recurses := true, apart := false, narrowed := true }
def StackMatchesReferenceUptoSaid : Prop := stackMatchesReferenceUptoRow.holds Try.pinned (OpenSpec.upto stackMatchesReferenceSpec)

/-- 'cosmaclaw17.StackInverse', WHERE WHAT IT READS IS OF BULK AT MOST 1048576: true; the input reads as it did. -/
def stackInverseUptoRow : OpenClaim := { program := "ytbgdkhbembjjlaa", sum := "a8c7e432ae8fe6db35e68a289de37e05283cee44f4f4766915bb9175e2b1a517", func := "cosmac/cosmaclaw17.StackInverse", spec := "stackInverse", unfollowed := true, recurses := true, apart := false, narrowed := true }
def StackInverseUptoSaid : Prop := stackInverseUptoRow.holds Try.pinned (OpenSpec.upto stackInverseSpec)

/-- 'cosmaclaw17.StackLists', WHERE WHAT IT READS IS OF BULK AT MOST 1048576: true; the input reads as it did. -/
def stackListsUptoRow : OpenClaim := { program := "ytbgdkhbembjjlaa", sum := "a8c7e432ae8fe6db35e68a289de37e05283cee44f4f4766915bb9175e2b1a517", func := "cosmac/cosmaclaw17.StackLists", spec := "stackLists", unfollowed := true, recurses := true, apart := false, narrowed := true }
def StackListsUptoSaid : Prop := stackListsUptoRow.holds Try.pinned (OpenSpec.upto stackListsSpec)

end Rows
end Go.Proofs.Ytbgdkhbembjjlaa
