/-
  No cell of these rows narrows 'for every input' (looked for: loops, veiled, ifaces, maps, wideKeys, modest, calm, conditions, laid).
  DERIVED. THE GIVEN ROWS OF THIS SEAT. 5 by the template 'for every input the law returns true; each argument reads behind the call as it read before'; 0 by the template 'total and deterministic' (their statements: YthfiaemdpfffcaaTotals.lean).
  GIVEN WITH THE SEED: the statements are not yours to turn. If you find one false, say at which input.
  Laid BY PROGRAM, IN A SANDBOX (cutbox-rows.mjs): the forced cells as the released guide's own fill.sh prints them over the translation 1fa60d62f7c50d0a… (all of the seat's roots in one cut). By AI agents, Wed Nov 11 2026. No macro, syntax, notation, axiom, sorry.
-/
import Derived.Test.YthfiaemdpfffcaaChecked
import GoSem.Claim
import GoSem.ClaimJoined
import GoSem.ClaimMapViews
import Derived.JoinedTies
import Derived.KernelRfl
namespace Go.Proofs.Ythfiaemdpfffcaa
/- THE CELL 'sum', in the pinned program and in every row, IS THE sha256 OF THE DUMP (.gsa) THAT YthfiaemdpfffcaaProg.lean LOADS. Nothing in Lean hashes anything: it is a label: what it is worth is what the hold of that sum in a sandbox is worth. -/
noncomputable def Try.pinned : Pinned := { name := "ythfiaemdpfffcaa", sum := "1fa60d62f7c50d0a236f81674ac0ea88fbbf13b9a2795389863df06ebbee8f72", checked := Try.checked }
namespace Rows
def none {H : Type} : Left H := { results := [], args := [] }

/-- 'cosmaclaw14.DecodeMatchesReference': WHATEVER THE INPUT: true; the input reads as it did. -/
def decodeMatchesReferenceSpec : ChangeSpec := { name := "decodeMatchesReference", fn := fun _ => fun
  | [d1, d2, d3] => { results := [.lit (.bool true)], args := [d1, d2, d3] }
  | _ => none }
def decodeMatchesReferenceRow : OpenClaim := { program := "ythfiaemdpfffcaa", sum := "1fa60d62f7c50d0a236f81674ac0ea88fbbf13b9a2795389863df06ebbee8f72", func := "cosmac/cosmaclaw14.DecodeMatchesReference", spec := "decodeMatchesReference", unfollowed := true, recurses := true, apart := false }
def DecodeMatchesReferenceSaid : Prop := decodeMatchesReferenceRow.holds Try.pinned (OpenSpec.ofChange decodeMatchesReferenceSpec)

/-- ITS FALSE NEIGHBOUR: 'it returns false'. Refute it at one input. -/
def decodeMatchesReferenceWrong : ChangeSpec := { name := "decodeMatchesReference", fn := fun _ => fun
  | [d1, d2, d3] => { results := [.lit (.bool false)], args := [d1, d2, d3] }
  | _ => none }
def DecodeMatchesReferenceWrongFalsely : Prop := decodeMatchesReferenceRow.holds Try.pinned (OpenSpec.ofChange decodeMatchesReferenceWrong)

/-- 'cosmaclaw14.DecodeTotal': WHATEVER THE INPUT: true; the input reads as it did. -/
def decodeTotalSpec : ChangeSpec := { name := "decodeTotal", fn := fun _ => fun
  | [d1, d2] => { results := [.lit (.bool true)], args := [d1, d2] }
  | _ => none }
def decodeTotalRow : OpenClaim := { program := "ythfiaemdpfffcaa", sum := "1fa60d62f7c50d0a236f81674ac0ea88fbbf13b9a2795389863df06ebbee8f72", func := "cosmac/cosmaclaw14.DecodeTotal", spec := "decodeTotal", unfollowed := true, recurses := true, apart := false }
def DecodeTotalSaid : Prop := decodeTotalRow.holds Try.pinned (OpenSpec.ofChange decodeTotalSpec)

/-- ITS FALSE NEIGHBOUR: 'it returns false'. Refute it at one input. -/
def decodeTotalWrong : ChangeSpec := { name := "decodeTotal", fn := fun _ => fun
  | [d1, d2] => { results := [.lit (.bool false)], args := [d1, d2] }
  | _ => none }
def DecodeTotalWrongFalsely : Prop := decodeTotalRow.holds Try.pinned (OpenSpec.ofChange decodeTotalWrong)

/-- 'cosmaclaw14.DecodeShort': WHATEVER THE INPUT: true; the input reads as it did. -/
def decodeShortSpec : ChangeSpec := { name := "decodeShort", fn := fun _ => fun
  | [d1, d2, d3, d4] => { results := [.lit (.bool true)], args := [d1, d2, d3, d4] }
  | _ => none }
def decodeShortRow : OpenClaim := { program := "ythfiaemdpfffcaa", sum := "1fa60d62f7c50d0a236f81674ac0ea88fbbf13b9a2795389863df06ebbee8f72", func := "cosmac/cosmaclaw14.DecodeShort", spec := "decodeShort", unfollowed := true, recurses := true, apart := false }
def DecodeShortSaid : Prop := decodeShortRow.holds Try.pinned (OpenSpec.ofChange decodeShortSpec)

/-- ITS FALSE NEIGHBOUR: 'it returns false'. Refute it at one input. -/
def decodeShortWrong : ChangeSpec := { name := "decodeShort", fn := fun _ => fun
  | [d1, d2, d3, d4] => { results := [.lit (.bool false)], args := [d1, d2, d3, d4] }
  | _ => none }
def DecodeShortWrongFalsely : Prop := decodeShortRow.holds Try.pinned (OpenSpec.ofChange decodeShortWrong)

/-- 'cosmaclaw14.DecodeOthers': WHATEVER THE INPUT: true; the input reads as it did. -/
def decodeOthersSpec : ChangeSpec := { name := "decodeOthers", fn := fun _ => fun
  | [d1, d2] => { results := [.lit (.bool true)], args := [d1, d2] }
  | _ => none }
def decodeOthersRow : OpenClaim := { program := "ythfiaemdpfffcaa", sum := "1fa60d62f7c50d0a236f81674ac0ea88fbbf13b9a2795389863df06ebbee8f72", func := "cosmac/cosmaclaw14.DecodeOthers", spec := "decodeOthers", unfollowed := true, recurses := true, apart := false }
def DecodeOthersSaid : Prop := decodeOthersRow.holds Try.pinned (OpenSpec.ofChange decodeOthersSpec)

/-- ITS FALSE NEIGHBOUR: 'it returns false'. Refute it at one input. -/
def decodeOthersWrong : ChangeSpec := { name := "decodeOthers", fn := fun _ => fun
  | [d1, d2] => { results := [.lit (.bool false)], args := [d1, d2] }
  | _ => none }
def DecodeOthersWrongFalsely : Prop := decodeOthersRow.holds Try.pinned (OpenSpec.ofChange decodeOthersWrong)

/-- 'cosmaclaw14.DecodeFields': WHATEVER THE INPUT: true; the input reads as it did. -/
def decodeFieldsSpec : ChangeSpec := { name := "decodeFields", fn := fun _ => fun
  | [d1, d2] => { results := [.lit (.bool true)], args := [d1, d2] }
  | _ => none }
def decodeFieldsRow : OpenClaim := { program := "ythfiaemdpfffcaa", sum := "1fa60d62f7c50d0a236f81674ac0ea88fbbf13b9a2795389863df06ebbee8f72", func := "cosmac/cosmaclaw14.DecodeFields", spec := "decodeFields", unfollowed := true, recurses := true, apart := false }
def DecodeFieldsSaid : Prop := decodeFieldsRow.holds Try.pinned (OpenSpec.ofChange decodeFieldsSpec)

/-- ITS FALSE NEIGHBOUR: 'it returns false'. Refute it at one input. -/
def decodeFieldsWrong : ChangeSpec := { name := "decodeFields", fn := fun _ => fun
  | [d1, d2] => { results := [.lit (.bool false)], args := [d1, d2] }
  | _ => none }
def DecodeFieldsWrongFalsely : Prop := decodeFieldsRow.holds Try.pinned (OpenSpec.ofChange decodeFieldsWrong)

/- THE SECOND FORM. 'bulk': how many values and letters a reading holds, each counted each time it is reached (what is shared counts as often as it is met; a slice's spare places count too). A statement '..UptoSaid' is the law's where the arguments, and the package variables that the reading takes, are together of bulk at most 1048576: NARROWER than '..Said'. Prove '..Said' where nothing that the law and all that it calls make is longer than what came in: it says more and counts as full. Else prove '..UptoSaid'. A law counts once. -/
mutual
def uptoBulk {H : Type} : DataW H → Nat
  | .lit (.string bytes) => bytes.length + 1
  | .lit _ => 1
  | .nil => 1
  | .ptr d => uptoBulk d + 1
  | .slice elems spare => uptoBulkAll elems + uptoBulkAll spare + 1
  | .agg parts => uptoBulkAll parts + 1
  | .iface _ d => uptoBulk d + 1
  | .map entries => uptoBulkEntries entries + 1
  | .held _ => 1
def uptoBulkAll {H : Type} : List (DataW H) → Nat
  | [] => 0
  | d :: r => uptoBulk d + uptoBulkAll r
def uptoBulkEntries {H : Type} : List (Lit × DataW H) → Nat
  | [] => 0
  | x :: r => uptoBulkEntry x + uptoBulkEntries r
def uptoBulkEntry {H : Type} : Lit × DataW H → Nat
  | (.string bytes, d) => bytes.length + uptoBulk d + 1
  | (_, d) => uptoBulk d + 1
 end
def uptoSmall : (H : Type) → List (DataW H) → Bool := fun _ ds => decide (uptoBulkAll ds ≤ 1048576)
def OpenSpec.upto (s : _root_.Go.ChangeSpec) : _root_.Go.OpenSpec := { _root_.Go.OpenSpec.ofChange s with cond := some uptoSmall }

/-- 'cosmaclaw14.DecodeMatchesReference', WHERE WHAT IT READS IS OF BULK AT MOST 1048576: true; the input reads as it did. -/
def decodeMatchesReferenceUptoRow : OpenClaim := { program := "ythfiaemdpfffcaa", sum := "1fa60d62f7c50d0a236f81674ac0ea88fbbf13b9a2795389863df06ebbee8f72", func := "cosmac/cosmaclaw14.DecodeMatchesReference", spec := "decodeMatchesReference", unfollowed := true, recurses := true, apart := false, narrowed := true }
def DecodeMatchesReferenceUptoSaid : Prop := decodeMatchesReferenceUptoRow.holds Try.pinned (OpenSpec.upto decodeMatchesReferenceSpec)

/-- 'cosmaclaw14.DecodeTotal', WHERE WHAT IT READS IS OF BULK AT MOST 1048576: true; the input reads as it did. -/
def decodeTotalUptoRow : OpenClaim := { program := "ythfiaemdpfffcaa", sum := "1fa60d62f7c50d0a236f81674ac0ea88fbbf13b9a2795389863df06ebbee8f72", func := "cosmac/cosmaclaw14.DecodeTotal", spec := "decodeTotal", unfollowed := true, recurses := true, apart := false, narrowed := true }
def DecodeTotalUptoSaid : Prop := decodeTotalUptoRow.holds Try.pinned (OpenSpec.upto decodeTotalSpec)

/-- 'cosmaclaw14.DecodeShort', WHERE WHAT IT READS IS OF BULK AT MOST 1048576: true; the input reads as it did. -/
def decodeShortUptoRow : OpenClaim := { program := "ythfiaemdpfffcaa", sum := "1fa60d62f7c50d0a236f81674ac0ea88fbbf13b9a2795389863df06ebbee8f72", func := "cosmac/cosmaclaw14.DecodeShort", spec := "decodeShort", unfollowed := true, recurses := true, apart := false, narrowed := true }
def DecodeShortUptoSaid : Prop := decodeShortUptoRow.holds Try.pinned (OpenSpec.upto decodeShortSpec)

/-- 'cosmaclaw14.DecodeOthers', WHERE WHAT IT READS IS OF BULK AT MOST 1048576: true; the input reads as it did. -/
def decodeOthersUptoRow : OpenClaim := { program := "ythfiaemdpfffcaa", sum := "1fa60d62f7c50d0a236f81674ac0ea88fbbf13b9a2795389863df06ebbee8f72", func := "cosmac/cosmaclaw14.DecodeOthers", spec := "decodeOthers", unfollowed := true, recurses := true, apart := false, narrowed := true }
def DecodeOthersUptoSaid : Prop := decodeOthersUptoRow.holds Try.pinned (OpenSpec.upto decodeOthersSpec)

/-- 'cosmaclaw14.DecodeFields', WHERE WHAT IT READS IS OF BULK AT MOST 1048576: true; the input reads as it did. -/
def decodeFieldsUptoRow : OpenClaim := { program := "ythfiaemdpfffcaa", sum := "1fa60d62f7c50d0a236f81674ac0ea88fbbf13b9a2795389863df06ebbee8f72", func := "cosmac/cosmaclaw14.DecodeFields", spec := "decodeFields", unfollowed := true, recurses := true, apart := false, narrowed := true }
def DecodeFieldsUptoSaid : Prop := decodeFieldsUptoRow.holds Try.pinned (OpenSpec.upto decodeFieldsSpec)

end Rows
end Go.Proofs.Ythfiaemdpfffcaa
