/-
  NARROWER THAN 'FOR EVERY INPUT', by the rows' own cells (each row's printed sentence says how): AsmLists: laid.
  DERIVED. THE GIVEN ROWS OF THIS SEAT. 1 by the template 'for every input the law returns true; each argument reads behind the call as it read before'; 0 by the template 'total and deterministic' (their statements: YthfiaemdpfffcaaGreatDoorTotals.lean).
  GIVEN WITH THE SEED: the statements are not yours to turn. If you find one false, say at which input.
  Laid BY PROGRAM, IN A SANDBOX (cutbox-rows.mjs): the forced cells as the released guide's own fill.sh prints them over the translation 2bb2410f4955c88d… (all of the seat's roots in one cut). By AI agents, Wed Nov 11 2026. No macro, syntax, notation, axiom, sorry.
-/
import Derived.Test.YthfiaemdpfffcaaGreatDoorChecked
import GoSem.Claim
import GoSem.ClaimJoined
import GoSem.ClaimMapViews
import Derived.JoinedTies
import Derived.KernelRfl
namespace Go.Proofs.YthfiaemdpfffcaaGreatDoor
/- THE CELL 'sum', in the pinned program and in every row, IS THE sha256 OF THE DUMP (.gsa) THAT YthfiaemdpfffcaaGreatDoorProg.lean LOADS. Nothing in Lean hashes anything: it is a label: what it is worth is what the hold of that sum in a sandbox is worth. -/
noncomputable def Tryz.pinned : Pinned := { name := "ythfiaemdpfffcaagreatdoor", sum := "2bb2410f4955c88d333e3267a067bb293db3588dc1ee8d70f7a7a0ca9fffb71b", checked := Tryz.checked }
namespace Rows
def none {H : Type} : Left H := { results := [], args := [] }

/- WHAT THE LISTED PACKAGE-LEVEL VARIABLES READ AS WHEN THE CALL BEGINS. Each datum BY PROGRAM (the guide's laid-datum.mjs) off the statement by which the dump's own 'gosem.cut.vars' lays the variable. In a bare row this is a premise. The card (YthfiaemdpfffcaaGreatDoorCards.lean) ties it to the program's text. -/
def laid_math_bits_deBruijn32tab {H : Type} : DataW H := .agg [.lit (.int .u8 0), .lit (.int .u8 1), .lit (.int .u8 28), .lit (.int .u8 2), .lit (.int .u8 29), .lit (.int .u8 14), .lit (.int .u8 24), .lit (.int .u8 3), .lit (.int .u8 30), .lit (.int .u8 22), .lit (.int .u8 20), .lit (.int .u8 15), .lit (.int .u8 25), .lit (.int .u8 17), .lit (.int .u8 4), .lit (.int .u8 8), .lit (.int .u8 31), .lit (.int .u8 27), .lit (.int .u8 13), .lit (.int .u8 23), .lit (.int .u8 21), .lit (.int .u8 19), .lit (.int .u8 16), .lit (.int .u8 7), .lit (.int .u8 26), .lit (.int .u8 12), .lit (.int .u8 18), .lit (.int .u8 6), .lit (.int .u8 11), .lit (.int .u8 5), .lit (.int .u8 10), .lit (.int .u8 9)]
def laid_math_bits_deBruijn64tab {H : Type} : DataW H := .agg [.lit (.int .u8 0), .lit (.int .u8 1), .lit (.int .u8 56), .lit (.int .u8 2), .lit (.int .u8 57), .lit (.int .u8 49), .lit (.int .u8 28), .lit (.int .u8 3), .lit (.int .u8 61), .lit (.int .u8 58), .lit (.int .u8 42), .lit (.int .u8 50), .lit (.int .u8 38), .lit (.int .u8 29), .lit (.int .u8 17), .lit (.int .u8 4), .lit (.int .u8 62), .lit (.int .u8 47), .lit (.int .u8 59), .lit (.int .u8 36), .lit (.int .u8 45), .lit (.int .u8 43), .lit (.int .u8 51), .lit (.int .u8 22), .lit (.int .u8 53), .lit (.int .u8 39), .lit (.int .u8 33), .lit (.int .u8 30), .lit (.int .u8 24), .lit (.int .u8 18), .lit (.int .u8 12), .lit (.int .u8 5), .lit (.int .u8 63), .lit (.int .u8 55), .lit (.int .u8 48), .lit (.int .u8 27), .lit (.int .u8 60), .lit (.int .u8 41), .lit (.int .u8 37), .lit (.int .u8 16), .lit (.int .u8 46), .lit (.int .u8 35), .lit (.int .u8 44), .lit (.int .u8 21), .lit (.int .u8 52), .lit (.int .u8 32), .lit (.int .u8 23), .lit (.int .u8 11), .lit (.int .u8 54), .lit (.int .u8 26), .lit (.int .u8 40), .lit (.int .u8 15), .lit (.int .u8 34), .lit (.int .u8 20), .lit (.int .u8 31), .lit (.int .u8 10), .lit (.int .u8 25), .lit (.int .u8 14), .lit (.int .u8 19), .lit (.int .u8 9), .lit (.int .u8 13), .lit (.int .u8 8), .lit (.int .u8 7), .lit (.int .u8 6)]
def laid_internal_strconv_uint64pow10 {H : Type} : DataW H := .agg [.lit (.int .u64 1), .lit (.int .u64 10), .lit (.int .u64 100), .lit (.int .u64 1000), .lit (.int .u64 10000), .lit (.int .u64 100000), .lit (.int .u64 1000000), .lit (.int .u64 10000000), .lit (.int .u64 100000000), .lit (.int .u64 1000000000), .lit (.int .u64 10000000000), .lit (.int .u64 100000000000), .lit (.int .u64 1000000000000), .lit (.int .u64 10000000000000), .lit (.int .u64 100000000000000), .lit (.int .u64 1000000000000000), .lit (.int .u64 10000000000000000), .lit (.int .u64 100000000000000000), .lit (.int .u64 1000000000000000000), .lit (.int .u64 10000000000000000000)]
def laid_strconv_ErrRange {H : Type} : DataW H := .iface "*errors.errorString" (.ptr (.agg [.lit (.string [118, 97, 108, 117, 101, 32, 111, 117, 116, 32, 111, 102, 32, 114, 97, 110, 103, 101])]))
def laid_strconv_ErrSyntax {H : Type} : DataW H := .iface "*errors.errorString" (.ptr (.agg [.lit (.string [105, 110, 118, 97, 108, 105, 100, 32, 115, 121, 110, 116, 97, 120])]))
def laid_cosmac_asm_words {H : Type} : DataW H := .agg [.lit (.string []), .lit (.string [99, 108, 101, 97, 114]), .lit (.string [114, 101, 116, 117, 114, 110]), .lit (.string [106, 117, 109, 112]), .lit (.string [99, 97, 108, 108]), .lit (.string [115, 107, 105, 112, 46, 101, 113]), .lit (.string [115, 107, 105, 112, 46, 110, 101]), .lit (.string [115, 107, 105, 112, 46, 101, 113, 118]), .lit (.string [115, 101, 116]), .lit (.string [97, 100, 100]), .lit (.string [109, 111, 118, 101]), .lit (.string [111, 114]), .lit (.string [97, 110, 100]), .lit (.string [120, 111, 114]), .lit (.string [97, 100, 100, 118]), .lit (.string [115, 117, 98]), .lit (.string [115, 104, 114]), .lit (.string [115, 117, 98, 110]), .lit (.string [115, 104, 108]), .lit (.string [115, 107, 105, 112, 46, 110, 101, 118]), .lit (.string [115, 101, 116, 105]), .lit (.string [106, 117, 109, 112, 97, 100, 100]), .lit (.string [114, 97, 110, 100, 111, 109]), .lit (.string [100, 114, 97, 119]), .lit (.string [115, 107, 105, 112, 46, 107, 101, 121]), .lit (.string [115, 107, 105, 112, 46, 110, 111, 107, 101, 121]), .lit (.string [103, 101, 116, 100, 101, 108, 97, 121]), .lit (.string [119, 97, 105, 116, 107, 101, 121]), .lit (.string [115, 101, 116, 100, 101, 108, 97, 121]), .lit (.string [115, 101, 116, 115, 111, 117, 110, 100]), .lit (.string [97, 100, 100, 105]), .lit (.string [103, 108, 121, 112, 104]), .lit (.string [100, 101, 99, 105, 109, 97, 108]), .lit (.string [115, 116, 111, 114, 101]), .lit (.string [108, 111, 97, 100]), .lit (.string [100, 111, 119, 110]), .lit (.string [114, 105, 103, 104, 116]), .lit (.string [108, 101, 102, 116]), .lit (.string [101, 120, 105, 116]), .lit (.string [108, 111, 114, 101, 115]), .lit (.string [104, 105, 114, 101, 115]), .lit (.string [100, 114, 97, 119, 98, 105, 103]), .lit (.string [98, 105, 103, 103, 108, 121, 112, 104]), .lit (.string [115, 97, 118, 101]), .lit (.string [114, 101, 115, 116, 111, 114, 101]), .lit (.string [117, 112]), .lit (.string [115, 116, 111, 114, 101, 114, 97, 110, 103, 101]), .lit (.string [108, 111, 97, 100, 114, 97, 110, 103, 101]), .lit (.string [108, 111, 110, 103, 105]), .lit (.string [112, 108, 97, 110, 101, 115]), .lit (.string [112, 97, 116, 116, 101, 114, 110]), .lit (.string [112, 105, 116, 99, 104])]
def laid_cosmac_asm_opcodes {H : Type} : DataW H := .agg [.lit (.int .i64 0), .lit (.int .i64 224), .lit (.int .i64 238), .lit (.int .i64 4096), .lit (.int .i64 8192), .lit (.int .i64 12288), .lit (.int .i64 16384), .lit (.int .i64 20480), .lit (.int .i64 24576), .lit (.int .i64 28672), .lit (.int .i64 32768), .lit (.int .i64 32769), .lit (.int .i64 32770), .lit (.int .i64 32771), .lit (.int .i64 32772), .lit (.int .i64 32773), .lit (.int .i64 32774), .lit (.int .i64 32775), .lit (.int .i64 32782), .lit (.int .i64 36864), .lit (.int .i64 40960), .lit (.int .i64 45056), .lit (.int .i64 49152), .lit (.int .i64 53248), .lit (.int .i64 57502), .lit (.int .i64 57505), .lit (.int .i64 61447), .lit (.int .i64 61450), .lit (.int .i64 61461), .lit (.int .i64 61464), .lit (.int .i64 61470), .lit (.int .i64 61481), .lit (.int .i64 61491), .lit (.int .i64 61525), .lit (.int .i64 61541), .lit (.int .i64 192), .lit (.int .i64 251), .lit (.int .i64 252), .lit (.int .i64 253), .lit (.int .i64 254), .lit (.int .i64 255), .lit (.int .i64 53248), .lit (.int .i64 61488), .lit (.int .i64 61557), .lit (.int .i64 61573), .lit (.int .i64 208), .lit (.int .i64 20482), .lit (.int .i64 20483), .lit (.int .i64 61440), .lit (.int .i64 61441), .lit (.int .i64 61442), .lit (.int .i64 61498)]

/-- 'cosmaclaw15.AsmLists': WHATEVER THE INPUT: true; the input reads as it did. -/
def asmListsSpec : ChangeSpec := { name := "asmLists", fn := fun _ => fun
  | [d1, d2] => { results := [.lit (.bool true)], args := [d1, d2] }
  | _ => none }
def asmListsRow : OpenClaim := { program := "ythfiaemdpfffcaagreatdoor", sum := "2bb2410f4955c88d333e3267a067bb293db3588dc1ee8d70f7a7a0ca9fffb71b", func := "cosmac/cosmaclaw15.AsmLists", spec := "asmLists", unfollowed := true, recurses := true, named := ["cosmac/asm.opcodes", "strconv.ErrSyntax", "strconv.ErrRange", "internal/strconv.uint64pow10", "math/bits.deBruijn32tab", "math/bits.deBruijn64tab", "cosmac/asm.words"], apart := false, laid := [("math/bits.deBruijn32tab", laid_math_bits_deBruijn32tab), ("math/bits.deBruijn64tab", laid_math_bits_deBruijn64tab), ("internal/strconv.uint64pow10", laid_internal_strconv_uint64pow10), ("strconv.ErrRange", laid_strconv_ErrRange), ("strconv.ErrSyntax", laid_strconv_ErrSyntax), ("cosmac/asm.words", laid_cosmac_asm_words), ("cosmac/asm.opcodes", laid_cosmac_asm_opcodes)] }
def AsmListsSaid : Prop := asmListsRow.holds Tryz.pinned (OpenSpec.ofChange asmListsSpec)

/-- ITS FALSE NEIGHBOUR: 'it returns false'. Refute it at one input. -/
def asmListsWrong : ChangeSpec := { name := "asmLists", fn := fun _ => fun
  | [d1, d2] => { results := [.lit (.bool false)], args := [d1, d2] }
  | _ => none }
def AsmListsWrongFalsely : Prop := asmListsRow.holds Tryz.pinned (OpenSpec.ofChange asmListsWrong)

/- THE SECOND FORM. 'bulk': how many values and letters a reading holds, each counted each time it is reached (what is shared counts as often as it is met; a slice's spare places count too). A statement '..UptoSaid' is the law's where the arguments, and the package variables that the reading takes, are together of bulk at most 1048576: NARROWER than '..Said'. Prove '..Said' where nothing that the law and all that it calls make is longer than what came in: it says more and counts as full. Else prove '..UptoSaid'. A law counts once. -/
mutual
def uptoBulk {H : Type} : DataW H → Nat
  | .lit (.string bytes) => bytes.length + 1
  | .lit _ => 1
  | .nil => 1
  | .ptr d => uptoBulk d + 1
  | .slice elems spare => uptoBulkAll elems + uptoBulkAll spare + 1
  | .agg parts => uptoBulkAll parts + 1
  | .iface _ d => uptoBulk d + 1
  | .map entries => uptoBulkEntries entries + 1
  | .held _ => 1
def uptoBulkAll {H : Type} : List (DataW H) → Nat
  | [] => 0
  | d :: r => uptoBulk d + uptoBulkAll r
def uptoBulkEntries {H : Type} : List (Lit × DataW H) → Nat
  | [] => 0
  | x :: r => uptoBulkEntry x + uptoBulkEntries r
def uptoBulkEntry {H : Type} : Lit × DataW H → Nat
  | (.string bytes, d) => bytes.length + uptoBulk d + 1
  | (_, d) => uptoBulk d + 1
 end
def uptoSmall : (H : Type) → List (DataW H) → Bool := fun _ ds => decide (uptoBulkAll ds ≤ 1048576)
def OpenSpec.upto (s : _root_.Go.ChangeSpec) : _root_.Go.OpenSpec := { _root_.Go.OpenSpec.ofChange s with cond := some uptoSmall }

/-- 'cosmaclaw15.AsmLists', WHERE WHAT IT READS IS OF BULK AT MOST 1048576: true; the input reads as it did. -/
def asmListsUptoRow : OpenClaim := { program := "ythfiaemdpfffcaagreatdoor", sum := "2bb2410f4955c88d333e3267a067bb293db3588dc1ee8d70f7a7a0ca9fffb71b", func := "cosmac/cosmaclaw15.AsmLists", spec := "asmLists", unfollowed := true, recurses := true, named := ["cosmac/asm.opcodes", "strconv.ErrSyntax", "strconv.ErrRange", "internal/strconv.uint64pow10", "math/bits.deBruijn32tab", "math/bits.deBruijn64tab", "cosmac/asm.words"], apart := false, laid := [("math/bits.deBruijn32tab", laid_math_bits_deBruijn32tab), ("math/bits.deBruijn64tab", laid_math_bits_deBruijn64tab), ("internal/strconv.uint64pow10", laid_internal_strconv_uint64pow10), ("strconv.ErrRange", laid_strconv_ErrRange), ("strconv.ErrSyntax", laid_strconv_ErrSyntax), ("cosmac/asm.words", laid_cosmac_asm_words), ("cosmac/asm.opcodes", laid_cosmac_asm_opcodes)], narrowed := true }
def AsmListsUptoSaid : Prop := asmListsUptoRow.holds Tryz.pinned (OpenSpec.upto asmListsSpec)

end Rows
end Go.Proofs.YthfiaemdpfffcaaGreatDoor
