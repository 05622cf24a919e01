/-
  NARROWER THAN 'FOR EVERY INPUT', by the rows' own cells (each row's printed sentence says how): ProfileMatchesReference: laid · ProfileNumbers: laid · ProfileNames: laid · ProfileQuirks: laid.
  DERIVED. THE GIVEN ROWS OF THIS SEAT. 4 by the template 'for every input the law returns true; each argument reads behind the call as it read before'; 0 by the template 'total and deterministic' (their statements: YtgndlgcgphgilaaDoorTotals.lean).
  GIVEN WITH THE SEED: the statements are not yours to turn. If you find one false, say at which input.
  Laid BY PROGRAM, IN A SANDBOX (cutbox-rows.mjs): the forced cells as the released guide's own fill.sh prints them over the translation 970fa716e267b7de… (all of the seat's roots in one cut). By AI agents, Wed Nov 11 2026. No macro, syntax, notation, axiom, sorry.
-/
import Derived.Test.YtgndlgcgphgilaaDoorChecked
import GoSem.Claim
import GoSem.ClaimJoined
import GoSem.ClaimMapViews
import Derived.JoinedTies
import Derived.KernelRfl
namespace Go.Proofs.YtgndlgcgphgilaaDoor
/- THE CELL 'sum', in the pinned program and in every row, IS THE sha256 OF THE DUMP (.gsa) THAT YtgndlgcgphgilaaDoorProg.lean LOADS. Nothing in Lean hashes anything: it is a label: what it is worth is what the hold of that sum in a sandbox is worth. -/
noncomputable def Tryd.pinned : Pinned := { name := "ytgndlgcgphgilaadoor", sum := "970fa716e267b7de2e22fe6665c0f5ef7d8f79b2845f62d15a02b653d9da2896", checked := Tryd.checked }
namespace Rows
def none {H : Type} : Left H := { results := [], args := [] }

/- WHAT THE LISTED PACKAGE-LEVEL VARIABLES READ AS WHEN THE CALL BEGINS. Each datum BY PROGRAM (the guide's laid-datum.mjs) off the statement by which the dump's own 'gosem.cut.vars' lays the variable. In a bare row this is a premise. The card (YtgndlgcgphgilaaDoorCards.lean) ties it to the program's text. -/
def laid_cosmac_profile_levelWords {H : Type} : DataW H := .agg [.lit (.string [99, 104, 105, 112, 56]), .lit (.string [115, 99, 104, 105, 112]), .lit (.string [120, 111, 99, 104, 105, 112])]

/-- 'cosmaclaw02.ProfileMatchesReference': WHATEVER THE INPUT: true; the input reads as it did. -/
def profileMatchesReferenceSpec : ChangeSpec := { name := "profileMatchesReference", fn := fun _ => fun
  | [d1, d2] => { results := [.lit (.bool true)], args := [d1, d2] }
  | _ => none }
def profileMatchesReferenceRow : OpenClaim := { program := "ytgndlgcgphgilaadoor", sum := "970fa716e267b7de2e22fe6665c0f5ef7d8f79b2845f62d15a02b653d9da2896", func := "cosmac/cosmaclaw02.ProfileMatchesReference", spec := "profileMatchesReference", unfollowed := true, recurses := true, named := ["cosmac/profile.levelWords"], apart := false, laid := [("cosmac/profile.levelWords", laid_cosmac_profile_levelWords)] }
def ProfileMatchesReferenceSaid : Prop := profileMatchesReferenceRow.holds Tryd.pinned (OpenSpec.ofChange profileMatchesReferenceSpec)

/-- ITS FALSE NEIGHBOUR: 'it returns false'. Refute it at one input. -/
def profileMatchesReferenceWrong : ChangeSpec := { name := "profileMatchesReference", fn := fun _ => fun
  | [d1, d2] => { results := [.lit (.bool false)], args := [d1, d2] }
  | _ => none }
def ProfileMatchesReferenceWrongFalsely : Prop := profileMatchesReferenceRow.holds Tryd.pinned (OpenSpec.ofChange profileMatchesReferenceWrong)

/-- 'cosmaclaw02.ProfileNumbers': WHATEVER THE INPUT: true; the input reads as it did. -/
def profileNumbersSpec : ChangeSpec := { name := "profileNumbers", fn := fun _ => fun
  | [d1, d2] => { results := [.lit (.bool true)], args := [d1, d2] }
  | _ => none }
def profileNumbersRow : OpenClaim := { program := "ytgndlgcgphgilaadoor", sum := "970fa716e267b7de2e22fe6665c0f5ef7d8f79b2845f62d15a02b653d9da2896", func := "cosmac/cosmaclaw02.ProfileNumbers", spec := "profileNumbers", unfollowed := true, recurses := true, named := ["cosmac/profile.levelWords"], apart := false, laid := [("cosmac/profile.levelWords", laid_cosmac_profile_levelWords)] }
def ProfileNumbersSaid : Prop := profileNumbersRow.holds Tryd.pinned (OpenSpec.ofChange profileNumbersSpec)

/-- ITS FALSE NEIGHBOUR: 'it returns false'. Refute it at one input. -/
def profileNumbersWrong : ChangeSpec := { name := "profileNumbers", fn := fun _ => fun
  | [d1, d2] => { results := [.lit (.bool false)], args := [d1, d2] }
  | _ => none }
def ProfileNumbersWrongFalsely : Prop := profileNumbersRow.holds Tryd.pinned (OpenSpec.ofChange profileNumbersWrong)

/-- 'cosmaclaw02.ProfileNames': WHATEVER THE INPUT: true; the input reads as it did. -/
def profileNamesSpec : ChangeSpec := { name := "profileNames", fn := fun _ => fun
  | [d] => { results := [.lit (.bool true)], args := [d] }
  | _ => none }
def profileNamesRow : OpenClaim := { program := "ytgndlgcgphgilaadoor", sum := "970fa716e267b7de2e22fe6665c0f5ef7d8f79b2845f62d15a02b653d9da2896", func := "cosmac/cosmaclaw02.ProfileNames", spec := "profileNames", unfollowed := true, recurses := true, named := ["cosmac/profile.levelWords"], apart := false, laid := [("cosmac/profile.levelWords", laid_cosmac_profile_levelWords)] }
def ProfileNamesSaid : Prop := profileNamesRow.holds Tryd.pinned (OpenSpec.ofChange profileNamesSpec)

/-- ITS FALSE NEIGHBOUR: 'it returns false'. Refute it at one input. -/
def profileNamesWrong : ChangeSpec := { name := "profileNames", fn := fun _ => fun
  | [d] => { results := [.lit (.bool false)], args := [d] }
  | _ => none }
def ProfileNamesWrongFalsely : Prop := profileNamesRow.holds Tryd.pinned (OpenSpec.ofChange profileNamesWrong)

/-- 'cosmaclaw02.ProfileQuirks': WHATEVER THE INPUT: true; the input reads as it did. -/
def profileQuirksSpec : ChangeSpec := { name := "profileQuirks", fn := fun _ => fun
  | [d1, d2] => { results := [.lit (.bool true)], args := [d1, d2] }
  | _ => none }
def profileQuirksRow : OpenClaim := { program := "ytgndlgcgphgilaadoor", sum := "970fa716e267b7de2e22fe6665c0f5ef7d8f79b2845f62d15a02b653d9da2896", func := "cosmac/cosmaclaw02.ProfileQuirks", spec := "profileQuirks", unfollowed := true, recurses := true, named := ["cosmac/profile.levelWords"], apart := false, laid := [("cosmac/profile.levelWords", laid_cosmac_profile_levelWords)] }
def ProfileQuirksSaid : Prop := profileQuirksRow.holds Tryd.pinned (OpenSpec.ofChange profileQuirksSpec)

/-- ITS FALSE NEIGHBOUR: 'it returns false'. Refute it at one input. -/
def profileQuirksWrong : ChangeSpec := { name := "profileQuirks", fn := fun _ => fun
  | [d1, d2] => { results := [.lit (.bool false)], args := [d1, d2] }
  | _ => none }
def ProfileQuirksWrongFalsely : Prop := profileQuirksRow.holds Tryd.pinned (OpenSpec.ofChange profileQuirksWrong)

/- THE SECOND FORM. 'bulk': how many values and letters a reading holds, each counted each time it is reached (what is shared counts as often as it is met; a slice's spare places count too). A statement '..UptoSaid' is the law's where the arguments, and the package variables that the reading takes, are together of bulk at most 1048576: NARROWER than '..Said'. Prove '..Said' where nothing that the law and all that it calls make is longer than what came in: it says more and counts as full. Else prove '..UptoSaid'. A law counts once. -/
mutual
def uptoBulk {H : Type} : DataW H → Nat
  | .lit (.string bytes) => bytes.length + 1
  | .lit _ => 1
  | .nil => 1
  | .ptr d => uptoBulk d + 1
  | .slice elems spare => uptoBulkAll elems + uptoBulkAll spare + 1
  | .agg parts => uptoBulkAll parts + 1
  | .iface _ d => uptoBulk d + 1
  | .map entries => uptoBulkEntries entries + 1
  | .held _ => 1
def uptoBulkAll {H : Type} : List (DataW H) → Nat
  | [] => 0
  | d :: r => uptoBulk d + uptoBulkAll r
def uptoBulkEntries {H : Type} : List (Lit × DataW H) → Nat
  | [] => 0
  | x :: r => uptoBulkEntry x + uptoBulkEntries r
def uptoBulkEntry {H : Type} : Lit × DataW H → Nat
  | (.string bytes, d) => bytes.length + uptoBulk d + 1
  | (_, d) => uptoBulk d + 1
 end
def uptoSmall : (H : Type) → List (DataW H) → Bool := fun _ ds => decide (uptoBulkAll ds ≤ 1048576)
def OpenSpec.upto (s : _root_.Go.ChangeSpec) : _root_.Go.OpenSpec := { _root_.Go.OpenSpec.ofChange s with cond := some uptoSmall }

/-- 'cosmaclaw02.ProfileMatchesReference', WHERE WHAT IT READS IS OF BULK AT MOST 1048576: true; the input reads as it did. -/
def profileMatchesReferenceUptoRow : OpenClaim := { program := "ytgndlgcgphgilaadoor", sum := "970fa716e267b7de2e22fe6665c0f5ef7d8f79b2845f62d15a02b653d9da2896", func := "cosmac/cosmaclaw02.ProfileMatchesReference", spec := "profileMatchesReference", unfollowed := true, recurses := true, named := ["cosmac/profile.levelWords"], apart := false, laid := [("cosmac/profile.levelWords", laid_cosmac_profile_levelWords)], narrowed := true }
def ProfileMatchesReferenceUptoSaid : Prop := profileMatchesReferenceUptoRow.holds Tryd.pinned (OpenSpec.upto profileMatchesReferenceSpec)

/-- 'cosmaclaw02.ProfileNumbers', WHERE WHAT IT READS IS OF BULK AT MOST 1048576: true; the input reads as it did. -/
def profileNumbersUptoRow : OpenClaim := { program := "ytgndlgcgphgilaadoor", sum := "970fa716e267b7de2e22fe6665c0f5ef7d8f79b2845f62d15a02b653d9da2896", func := "cosmac/cosmaclaw02.ProfileNumbers", spec := "profileNumbers", unfollowed := true, recurses := true, named := ["cosmac/profile.levelWords"], apart := false, laid := [("cosmac/profile.levelWords", laid_cosmac_profile_levelWords)], narrowed := true }
def ProfileNumbersUptoSaid : Prop := profileNumbersUptoRow.holds Tryd.pinned (OpenSpec.upto profileNumbersSpec)

/-- 'cosmaclaw02.ProfileNames', WHERE WHAT IT READS IS OF BULK AT MOST 1048576: true; the input reads as it did. -/
def profileNamesUptoRow : OpenClaim := { program := "ytgndlgcgphgilaadoor", sum := "970fa716e267b7de2e22fe6665c0f5ef7d8f79b2845f62d15a02b653d9da2896", func := "cosmac/cosmaclaw02.ProfileNames", spec := "profileNames", unfollowed := true, recurses := true, named := ["cosmac/profile.levelWords"], apart := false, laid := [("cosmac/profile.levelWords", laid_cosmac_profile_levelWords)], narrowed := true }
def ProfileNamesUptoSaid : Prop := profileNamesUptoRow.holds Tryd.pinned (OpenSpec.upto profileNamesSpec)

/-- 'cosmaclaw02.ProfileQuirks', WHERE WHAT IT READS IS OF BULK AT MOST 1048576: true; the input reads as it did. -/
def profileQuirksUptoRow : OpenClaim := { program := "ytgndlgcgphgilaadoor", sum := "970fa716e267b7de2e22fe6665c0f5ef7d8f79b2845f62d15a02b653d9da2896", func := "cosmac/cosmaclaw02.ProfileQuirks", spec := "profileQuirks", unfollowed := true, recurses := true, named := ["cosmac/profile.levelWords"], apart := false, laid := [("cosmac/profile.levelWords", laid_cosmac_profile_levelWords)], narrowed := true }
def ProfileQuirksUptoSaid : Prop := profileQuirksUptoRow.holds Tryd.pinned (OpenSpec.upto profileQuirksSpec)

end Rows
end Go.Proofs.YtgndlgcgphgilaaDoor
