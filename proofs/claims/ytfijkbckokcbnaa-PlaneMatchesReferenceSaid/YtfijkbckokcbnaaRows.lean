/-
  No cell of these rows narrows 'for every input' (looked for: loops, veiled, ifaces, maps, wideKeys, modest, calm, conditions, laid).
  DERIVED. THE GIVEN ROWS OF THIS SEAT. 6 by the template 'for every input the law returns true; each argument reads behind the call as it read before'; 0 by the template 'total and deterministic' (their statements: YtfijkbckokcbnaaTotals.lean).
  GIVEN WITH THE SEED: the statements are not yours to turn. If you find one false, say at which input.
  Laid BY PROGRAM, IN A SANDBOX (cutbox-rows.mjs): the forced cells as the released guide's own fill.sh prints them over the translation 8614239fa0efb307… (all of the seat's roots in one cut). By AI agents, Wed Nov 11 2026. No macro, syntax, notation, axiom, sorry.
-/
import Derived.Test.YtfijkbckokcbnaaChecked
import GoSem.Claim
import GoSem.ClaimJoined
import GoSem.ClaimMapViews
import Derived.JoinedTies
import Derived.KernelRfl
namespace Go.Proofs.Ytfijkbckokcbnaa
/- THE CELL 'sum', in the pinned program and in every row, IS THE sha256 OF THE DUMP (.gsa) THAT YtfijkbckokcbnaaProg.lean LOADS. Nothing in Lean hashes anything: it is a label: what it is worth is what the hold of that sum in a sandbox is worth. -/
noncomputable def Try.pinned : Pinned := { name := "ytfijkbckokcbnaa", sum := "8614239fa0efb307ccddf729cf104440a2cd76d0f9995a214393bc5b9d0ff083", checked := Try.checked }
namespace Rows
def none {H : Type} : Left H := { results := [], args := [] }

/-- 'cosmaclaw07.PlaneMatchesReference': WHATEVER THE INPUT: true; the input reads as it did. -/
def planeMatchesReferenceSpec : ChangeSpec := { name := "planeMatchesReference", fn := fun _ => fun
  | [d1, d2, d3, d4, d5, d6, d7, d8, d9] => { results := [.lit (.bool true)], args := [d1, d2, d3, d4, d5, d6, d7, d8, d9] }
  | _ => none }
def planeMatchesReferenceRow : OpenClaim := { program := "ytfijkbckokcbnaa", sum := "8614239fa0efb307ccddf729cf104440a2cd76d0f9995a214393bc5b9d0ff083", func := "cosmac/cosmaclaw07.PlaneMatchesReference", spec := "planeMatchesReference", unfollowed := true, recurses := true, apart := false }
def PlaneMatchesReferenceSaid : Prop := planeMatchesReferenceRow.holds Try.pinned (OpenSpec.ofChange planeMatchesReferenceSpec)

/-- ITS FALSE NEIGHBOUR: 'it returns false'. Refute it at one input. -/
def planeMatchesReferenceWrong : ChangeSpec := { name := "planeMatchesReference", fn := fun _ => fun
  | [d1, d2, d3, d4, d5, d6, d7, d8, d9] => { results := [.lit (.bool false)], args := [d1, d2, d3, d4, d5, d6, d7, d8, d9] }
  | _ => none }
def PlaneMatchesReferenceWrongFalsely : Prop := planeMatchesReferenceRow.holds Try.pinned (OpenSpec.ofChange planeMatchesReferenceWrong)

/-- 'cosmaclaw07.PlaneDraws': WHATEVER THE INPUT: true; the input reads as it did. -/
def planeDrawsSpec : ChangeSpec := { name := "planeDraws", fn := fun _ => fun
  | [d1, d2, d3, d4, d5, d6, d7] => { results := [.lit (.bool true)], args := [d1, d2, d3, d4, d5, d6, d7] }
  | _ => none }
def planeDrawsRow : OpenClaim := { program := "ytfijkbckokcbnaa", sum := "8614239fa0efb307ccddf729cf104440a2cd76d0f9995a214393bc5b9d0ff083", func := "cosmac/cosmaclaw07.PlaneDraws", spec := "planeDraws", unfollowed := true, recurses := true, apart := false }
def PlaneDrawsSaid : Prop := planeDrawsRow.holds Try.pinned (OpenSpec.ofChange planeDrawsSpec)

/-- ITS FALSE NEIGHBOUR: 'it returns false'. Refute it at one input. -/
def planeDrawsWrong : ChangeSpec := { name := "planeDraws", fn := fun _ => fun
  | [d1, d2, d3, d4, d5, d6, d7] => { results := [.lit (.bool false)], args := [d1, d2, d3, d4, d5, d6, d7] }
  | _ => none }
def PlaneDrawsWrongFalsely : Prop := planeDrawsRow.holds Try.pinned (OpenSpec.ofChange planeDrawsWrong)

/-- 'cosmaclaw07.PlaneScrolls': WHATEVER THE INPUT: true; the input reads as it did. -/
def planeScrollsSpec : ChangeSpec := { name := "planeScrolls", fn := fun _ => fun
  | [d1, d2, d3, d4, d5] => { results := [.lit (.bool true)], args := [d1, d2, d3, d4, d5] }
  | _ => none }
def planeScrollsRow : OpenClaim := { program := "ytfijkbckokcbnaa", sum := "8614239fa0efb307ccddf729cf104440a2cd76d0f9995a214393bc5b9d0ff083", func := "cosmac/cosmaclaw07.PlaneScrolls", spec := "planeScrolls", unfollowed := true, recurses := true, apart := false }
def PlaneScrollsSaid : Prop := planeScrollsRow.holds Try.pinned (OpenSpec.ofChange planeScrollsSpec)

/-- ITS FALSE NEIGHBOUR: 'it returns false'. Refute it at one input. -/
def planeScrollsWrong : ChangeSpec := { name := "planeScrolls", fn := fun _ => fun
  | [d1, d2, d3, d4, d5] => { results := [.lit (.bool false)], args := [d1, d2, d3, d4, d5] }
  | _ => none }
def PlaneScrollsWrongFalsely : Prop := planeScrollsRow.holds Try.pinned (OpenSpec.ofChange planeScrollsWrong)

/-- 'cosmaclaw07.PlaneSprites': WHATEVER THE INPUT: true; the input reads as it did. -/
def planeSpritesSpec : ChangeSpec := { name := "planeSprites", fn := fun _ => fun
  | [d1, d2, d3, d4, d5] => { results := [.lit (.bool true)], args := [d1, d2, d3, d4, d5] }
  | _ => none }
def planeSpritesRow : OpenClaim := { program := "ytfijkbckokcbnaa", sum := "8614239fa0efb307ccddf729cf104440a2cd76d0f9995a214393bc5b9d0ff083", func := "cosmac/cosmaclaw07.PlaneSprites", spec := "planeSprites", unfollowed := true, recurses := true, apart := false }
def PlaneSpritesSaid : Prop := planeSpritesRow.holds Try.pinned (OpenSpec.ofChange planeSpritesSpec)

/-- ITS FALSE NEIGHBOUR: 'it returns false'. Refute it at one input. -/
def planeSpritesWrong : ChangeSpec := { name := "planeSprites", fn := fun _ => fun
  | [d1, d2, d3, d4, d5] => { results := [.lit (.bool false)], args := [d1, d2, d3, d4, d5] }
  | _ => none }
def PlaneSpritesWrongFalsely : Prop := planeSpritesRow.holds Try.pinned (OpenSpec.ofChange planeSpritesWrong)

/-- 'cosmaclaw07.PlaneMoves': WHATEVER THE INPUT: true; the input reads as it did. -/
def planeMovesSpec : ChangeSpec := { name := "planeMoves", fn := fun _ => fun
  | [d1, d2, d3, d4, d5] => { results := [.lit (.bool true)], args := [d1, d2, d3, d4, d5] }
  | _ => none }
def planeMovesRow : OpenClaim := { program := "ytfijkbckokcbnaa", sum := "8614239fa0efb307ccddf729cf104440a2cd76d0f9995a214393bc5b9d0ff083", func := "cosmac/cosmaclaw07.PlaneMoves", spec := "planeMoves", unfollowed := true, recurses := true, apart := false }
def PlaneMovesSaid : Prop := planeMovesRow.holds Try.pinned (OpenSpec.ofChange planeMovesSpec)

/-- ITS FALSE NEIGHBOUR: 'it returns false'. Refute it at one input. -/
def planeMovesWrong : ChangeSpec := { name := "planeMoves", fn := fun _ => fun
  | [d1, d2, d3, d4, d5] => { results := [.lit (.bool false)], args := [d1, d2, d3, d4, d5] }
  | _ => none }
def PlaneMovesWrongFalsely : Prop := planeMovesRow.holds Try.pinned (OpenSpec.ofChange planeMovesWrong)

/-- 'cosmaclaw07.PlaneCounts': WHATEVER THE INPUT: true; the input reads as it did. -/
def planeCountsSpec : ChangeSpec := { name := "planeCounts", fn := fun _ => fun
  | [d1, d2, d3, d4, d5, d6, d7] => { results := [.lit (.bool true)], args := [d1, d2, d3, d4, d5, d6, d7] }
  | _ => none }
def planeCountsRow : OpenClaim := { program := "ytfijkbckokcbnaa", sum := "8614239fa0efb307ccddf729cf104440a2cd76d0f9995a214393bc5b9d0ff083", func := "cosmac/cosmaclaw07.PlaneCounts", spec := "planeCounts", unfollowed := true, recurses := true, apart := false }
def PlaneCountsSaid : Prop := planeCountsRow.holds Try.pinned (OpenSpec.ofChange planeCountsSpec)

/-- ITS FALSE NEIGHBOUR: 'it returns false'. Refute it at one input. -/
def planeCountsWrong : ChangeSpec := { name := "planeCounts", fn := fun _ => fun
  | [d1, d2, d3, d4, d5, d6, d7] => { results := [.lit (.bool false)], args := [d1, d2, d3, d4, d5, d6, d7] }
  | _ => none }
def PlaneCountsWrongFalsely : Prop := planeCountsRow.holds Try.pinned (OpenSpec.ofChange planeCountsWrong)

/- THE SECOND FORM. 'bulk': how many values and letters a reading holds, each counted each time it is reached (what is shared counts as often as it is met; a slice's spare places count too). A statement '..UptoSaid' is the law's where the arguments, and the package variables that the reading takes, are together of bulk at most 1048576: NARROWER than '..Said'. Prove '..Said' where nothing that the law and all that it calls make is longer than what came in: it says more and counts as full. Else prove '..UptoSaid'. A law counts once. -/
mutual
def uptoBulk {H : Type} : DataW H → Nat
  | .lit (.string bytes) => bytes.length + 1
  | .lit _ => 1
  | .nil => 1
  | .ptr d => uptoBulk d + 1
  | .slice elems spare => uptoBulkAll elems + uptoBulkAll spare + 1
  | .agg parts => uptoBulkAll parts + 1
  | .iface _ d => uptoBulk d + 1
  | .map entries => uptoBulkEntries entries + 1
  | .held _ => 1
def uptoBulkAll {H : Type} : List (DataW H) → Nat
  | [] => 0
  | d :: r => uptoBulk d + uptoBulkAll r
def uptoBulkEntries {H : Type} : List (Lit × DataW H) → Nat
  | [] => 0
  | x :: r => uptoBulkEntry x + uptoBulkEntries r
def uptoBulkEntry {H : Type} : Lit × DataW H → Nat
  | (.string bytes, d) => bytes.length + uptoBulk d + 1
  | (_, d) => uptoBulk d + 1
 end
def uptoSmall : (H : Type) → List (DataW H) → Bool := fun _ ds => decide (uptoBulkAll ds ≤ 1048576)
def OpenSpec.upto (s : _root_.Go.ChangeSpec) : _root_.Go.OpenSpec := { _root_.Go.OpenSpec.ofChange s with cond := some uptoSmall }

/-- 'cosmaclaw07.PlaneMatchesReference', WHERE WHAT IT READS IS OF BULK AT MOST 1048576: true; the input reads as it did. -/
def planeMatchesReferenceUptoRow : OpenClaim := { program := "ytfijkbckokcbnaa", sum := "8614239fa0efb307ccddf729cf104440a2cd76d0f9995a214393bc5b9d0ff083", func := "cosmac/cosmaclaw07.PlaneMatchesReference", spec := "planeMatchesReference", unfollowed := true, recurses := true, apart := false, narrowed := true }
def PlaneMatchesReferenceUptoSaid : Prop := planeMatchesReferenceUptoRow.holds Try.pinned (OpenSpec.upto planeMatchesReferenceSpec)

/-- 'cosmaclaw07.PlaneDraws', WHERE WHAT IT READS IS OF BULK AT MOST 1048576: true; the input reads as it did. -/
def planeDrawsUptoRow : OpenClaim := { program := "ytfijkbckokcbnaa", sum := "8614239fa0efb307ccddf729cf104440a2cd76d0f9995a214393bc5b9d0ff083", func := "cosmac/cosmaclaw07.PlaneDraws", spec := "planeDraws", unfollowed := true, recurses := true, apart := false, narrowed := true }
def PlaneDrawsUptoSaid : Prop := planeDrawsUptoRow.holds Try.pinned (OpenSpec.upto planeDrawsSpec)

/-- 'cosmaclaw07.PlaneScrolls', WHERE WHAT IT READS IS OF BULK AT MOST 1048576: true; the input reads as it did. -/
def planeScrollsUptoRow : OpenClaim := { program := "ytfijkbckokcbnaa", sum := "8614239fa0efb307ccddf729cf104440a2cd76d0f9995a214393bc5b9d0ff083", func := "cosmac/cosmaclaw07.PlaneScrolls", spec := "planeScrolls", unfollowed := true, recurses := true, apart := false, narrowed := true }
def PlaneScrollsUptoSaid : Prop := planeScrollsUptoRow.holds Try.pinned (OpenSpec.upto planeScrollsSpec)

/-- 'cosmaclaw07.PlaneSprites', WHERE WHAT IT READS IS OF BULK AT MOST 1048576: true; the input reads as it did. -/
def planeSpritesUptoRow : OpenClaim := { program := "ytfijkbckokcbnaa", sum := "8614239fa0efb307ccddf729cf104440a2cd76d0f9995a214393bc5b9d0ff083", func := "cosmac/cosmaclaw07.PlaneSprites", spec := "planeSprites", unfollowed := true, recurses := true, apart := false, narrowed := true }
def PlaneSpritesUptoSaid : Prop := planeSpritesUptoRow.holds Try.pinned (OpenSpec.upto planeSpritesSpec)

/-- 'cosmaclaw07.PlaneMoves', WHERE WHAT IT READS IS OF BULK AT MOST 1048576: true; the input reads as it did. -/
def planeMovesUptoRow : OpenClaim := { program := "ytfijkbckokcbnaa", sum := "8614239fa0efb307ccddf729cf104440a2cd76d0f9995a214393bc5b9d0ff083", func := "cosmac/cosmaclaw07.PlaneMoves", spec := "planeMoves", unfollowed := true, recurses := true, apart := false, narrowed := true }
def PlaneMovesUptoSaid : Prop := planeMovesUptoRow.holds Try.pinned (OpenSpec.upto planeMovesSpec)

/-- 'cosmaclaw07.PlaneCounts', WHERE WHAT IT READS IS OF BULK AT MOST 1048576: true; the input reads as it did. -/
def planeCountsUptoRow : OpenClaim := { program := "ytfijkbckokcbnaa", sum := "8614239fa0efb307ccddf729cf104440a2cd76d0f9995a214393bc5b9d0ff083", func := "cosmac/cosmaclaw07.PlaneCounts", spec := "planeCounts", unfollowed := true, recurses := true, apart := false, narrowed := true }
def PlaneCountsUptoSaid : Prop := planeCountsUptoRow.holds Try.pinned (OpenSpec.upto planeCountsSpec)

end Rows
end Go.Proofs.Ytfijkbckokcbnaa
