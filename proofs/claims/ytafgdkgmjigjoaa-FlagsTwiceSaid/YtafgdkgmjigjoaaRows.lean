/-
  No cell of these rows narrows 'for every input' (looked for: loops, veiled, ifaces, maps, wideKeys, modest, calm, conditions, laid).
  DERIVED. THE GIVEN ROWS OF THIS SEAT. 4 by the template 'for every input the law returns true; each argument reads behind the call as it read before'; 0 by the template 'total and deterministic' (their statements: YtafgdkgmjigjoaaTotals.lean).
  GIVEN WITH THE SEED: the statements are not yours to turn. If you find one false, say at which input.
  Laid BY PROGRAM, IN A SANDBOX (cutbox-rows.mjs): the forced cells as the released guide's own fill.sh prints them over the translation 920c5e13eb6f9256… (all of the seat's roots in one cut). By AI agents, Wed Nov 11 2026. No macro, syntax, notation, axiom, sorry.
-/
import Derived.Test.YtafgdkgmjigjoaaChecked
import GoSem.Claim
import GoSem.ClaimJoined
import GoSem.ClaimMapViews
import Derived.JoinedTies
import Derived.KernelRfl
namespace Go.Proofs.Ytafgdkgmjigjoaa
/- THE CELL 'sum', in the pinned program and in every row, IS THE sha256 OF THE DUMP (.gsa) THAT YtafgdkgmjigjoaaProg.lean LOADS. Nothing in Lean hashes anything: it is a label: what it is worth is what the hold of that sum in a sandbox is worth. -/
noncomputable def Try.pinned : Pinned := { name := "ytafgdkgmjigjoaa", sum := "920c5e13eb6f92563a207095da87c6941125896d04d086c49c102eeaa8aa595d", checked := Try.checked }
namespace Rows
def none {H : Type} : Left H := { results := [], args := [] }

/-- 'cosmaclaw12.FlagsMatchReference': WHATEVER THE INPUT: true; the input reads as it did. -/
def flagsMatchReferenceSpec : ChangeSpec := { name := "flagsMatchReference", fn := fun _ => fun
  | [d1, d2, d3, d4, d5] => { results := [.lit (.bool true)], args := [d1, d2, d3, d4, d5] }
  | _ => none }
def flagsMatchReferenceRow : OpenClaim := { program := "ytafgdkgmjigjoaa", sum := "920c5e13eb6f92563a207095da87c6941125896d04d086c49c102eeaa8aa595d", func := "cosmac/cosmaclaw12.FlagsMatchReference", spec := "flagsMatchReference", apart := false }
def FlagsMatchReferenceSaid : Prop := flagsMatchReferenceRow.holds Try.pinned (OpenSpec.ofChange flagsMatchReferenceSpec)

/-- ITS FALSE NEIGHBOUR: 'it returns false'. Refute it at one input. -/
def flagsMatchReferenceWrong : ChangeSpec := { name := "flagsMatchReference", fn := fun _ => fun
  | [d1, d2, d3, d4, d5] => { results := [.lit (.bool false)], args := [d1, d2, d3, d4, d5] }
  | _ => none }
def FlagsMatchReferenceWrongFalsely : Prop := flagsMatchReferenceRow.holds Try.pinned (OpenSpec.ofChange flagsMatchReferenceWrong)

/-- 'cosmaclaw12.FlagsSave': WHATEVER THE INPUT: true; the input reads as it did. -/
def flagsSaveSpec : ChangeSpec := { name := "flagsSave", fn := fun _ => fun
  | [d1, d2] => { results := [.lit (.bool true)], args := [d1, d2] }
  | _ => none }
def flagsSaveRow : OpenClaim := { program := "ytafgdkgmjigjoaa", sum := "920c5e13eb6f92563a207095da87c6941125896d04d086c49c102eeaa8aa595d", func := "cosmac/cosmaclaw12.FlagsSave", spec := "flagsSave", apart := false }
def FlagsSaveSaid : Prop := flagsSaveRow.holds Try.pinned (OpenSpec.ofChange flagsSaveSpec)

/-- ITS FALSE NEIGHBOUR: 'it returns false'. Refute it at one input. -/
def flagsSaveWrong : ChangeSpec := { name := "flagsSave", fn := fun _ => fun
  | [d1, d2] => { results := [.lit (.bool false)], args := [d1, d2] }
  | _ => none }
def FlagsSaveWrongFalsely : Prop := flagsSaveRow.holds Try.pinned (OpenSpec.ofChange flagsSaveWrong)

/-- 'cosmaclaw12.FlagsLevels': WHATEVER THE INPUT: true; the input reads as it did. -/
def flagsLevelsSpec : ChangeSpec := { name := "flagsLevels", fn := fun _ => fun
  | [d1, d2] => { results := [.lit (.bool true)], args := [d1, d2] }
  | _ => none }
def flagsLevelsRow : OpenClaim := { program := "ytafgdkgmjigjoaa", sum := "920c5e13eb6f92563a207095da87c6941125896d04d086c49c102eeaa8aa595d", func := "cosmac/cosmaclaw12.FlagsLevels", spec := "flagsLevels", apart := false }
def FlagsLevelsSaid : Prop := flagsLevelsRow.holds Try.pinned (OpenSpec.ofChange flagsLevelsSpec)

/-- ITS FALSE NEIGHBOUR: 'it returns false'. Refute it at one input. -/
def flagsLevelsWrong : ChangeSpec := { name := "flagsLevels", fn := fun _ => fun
  | [d1, d2] => { results := [.lit (.bool false)], args := [d1, d2] }
  | _ => none }
def FlagsLevelsWrongFalsely : Prop := flagsLevelsRow.holds Try.pinned (OpenSpec.ofChange flagsLevelsWrong)

/-- 'cosmaclaw12.FlagsTwice': WHATEVER THE INPUT: true; the input reads as it did. -/
def flagsTwiceSpec : ChangeSpec := { name := "flagsTwice", fn := fun _ => fun
  | [d1, d2] => { results := [.lit (.bool true)], args := [d1, d2] }
  | _ => none }
def flagsTwiceRow : OpenClaim := { program := "ytafgdkgmjigjoaa", sum := "920c5e13eb6f92563a207095da87c6941125896d04d086c49c102eeaa8aa595d", func := "cosmac/cosmaclaw12.FlagsTwice", spec := "flagsTwice", apart := false }
def FlagsTwiceSaid : Prop := flagsTwiceRow.holds Try.pinned (OpenSpec.ofChange flagsTwiceSpec)

/-- ITS FALSE NEIGHBOUR: 'it returns false'. Refute it at one input. -/
def flagsTwiceWrong : ChangeSpec := { name := "flagsTwice", fn := fun _ => fun
  | [d1, d2] => { results := [.lit (.bool false)], args := [d1, d2] }
  | _ => none }
def FlagsTwiceWrongFalsely : Prop := flagsTwiceRow.holds Try.pinned (OpenSpec.ofChange flagsTwiceWrong)

/- THE SECOND FORM. 'bulk': how many values and letters a reading holds, each counted each time it is reached (what is shared counts as often as it is met; a slice's spare places count too). A statement '..UptoSaid' is the law's where the arguments, and the package variables that the reading takes, are together of bulk at most 1048576: NARROWER than '..Said'. Prove '..Said' where nothing that the law and all that it calls make is longer than what came in: it says more and counts as full. Else prove '..UptoSaid'. A law counts once. -/
mutual
def uptoBulk {H : Type} : DataW H → Nat
  | .lit (.string bytes) => bytes.length + 1
  | .lit _ => 1
  | .nil => 1
  | .ptr d => uptoBulk d + 1
  | .slice elems spare => uptoBulkAll elems + uptoBulkAll spare + 1
  | .agg parts => uptoBulkAll parts + 1
  | .iface _ d => uptoBulk d + 1
  | .map entries => uptoBulkEntries entries + 1
  | .held _ => 1
def uptoBulkAll {H : Type} : List (DataW H) → Nat
  | [] => 0
  | d :: r => uptoBulk d + uptoBulkAll r
def uptoBulkEntries {H : Type} : List (Lit × DataW H) → Nat
  | [] => 0
  | x :: r => uptoBulkEntry x + uptoBulkEntries r
def uptoBulkEntry {H : Type} : Lit × DataW H → Nat
  | (.string bytes, d) => bytes.length + uptoBulk d + 1
  | (_, d) => uptoBulk d + 1
 end
def uptoSmall : (H : Type) → List (DataW H) → Bool := fun _ ds => decide (uptoBulkAll ds ≤ 1048576)
def OpenSpec.upto (s : _root_.Go.ChangeSpec) : _root_.Go.OpenSpec := { _root_.Go.OpenSpec.ofChange s with cond := some uptoSmall }

/-- 'cosmaclaw12.FlagsMatchReference', WHERE WHAT IT READS IS OF BULK AT MOST 1048576: true; the input reads as it did. -/
def flagsMatchReferenceUptoRow : OpenClaim := { program := "ytafgdkgmjigjoaa", sum := "920c5e13eb6f92563a207095da87c6941125896d04d086c49c102eeaa8aa595d", func := "cosmac/cosmaclaw12.FlagsMatchReference", spec := "flagsMatchReference", apart := false, narrowed := true }
def FlagsMatchReferenceUptoSaid : Prop := flagsMatchReferenceUptoRow.holds Try.pinned (OpenSpec.upto flagsMatchReferenceSpec)

/-- 'cosmaclaw12.FlagsSave', WHERE WHAT IT READS IS OF BULK AT MOST 1048576: true; the input reads as it did. -/
def flagsSaveUptoRow : OpenClaim := { program := "ytafgdkgmjigjoaa", sum := "920c5e13eb6f92563a207095da87c6941125896d04d086c49c102eeaa8aa595d", func := "cosmac/cosmaclaw12.FlagsSave", spec := "flagsSave", apart := false, narrowed := true }
def FlagsSaveUptoSaid : Prop := flagsSaveUptoRow.holds Try.pinned (OpenSpec.upto flagsSaveSpec)

/-- 'cosmaclaw12.FlagsLevels', WHERE WHAT IT READS IS OF BULK AT MOST 1048576: true; the input reads as it did. -/
def flagsLevelsUptoRow : OpenClaim := { program := "ytafgdkgmjigjoaa", sum := "920c5e13eb6f92563a207095da87c6941125896d04d086c49c102eeaa8aa595d", func := "cosmac/cosmaclaw12.FlagsLevels", spec := "flagsLevels", apart := false, narrowed := true }
def FlagsLevelsUptoSaid : Prop := flagsLevelsUptoRow.holds Try.pinned (OpenSpec.upto flagsLevelsSpec)

/-- 'cosmaclaw12.FlagsTwice', WHERE WHAT IT READS IS OF BULK AT MOST 1048576: true; the input reads as it did. -/
def flagsTwiceUptoRow : OpenClaim := { program := "ytafgdkgmjigjoaa", sum := "920c5e13eb6f92563a207095da87c6941125896d04d086c49c102eeaa8aa595d", func := "cosmac/cosmaclaw12.FlagsTwice", spec := "flagsTwice", apart := false, narrowed := true }
def FlagsTwiceUptoSaid : Prop := flagsTwiceUptoRow.holds Try.pinned (OpenSpec.upto flagsTwiceSpec)

end Rows
end Go.Proofs.Ytafgdkgmjigjoaa
