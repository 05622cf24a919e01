/- One row of a plane's value. -/
import Derived.Test.YtplmmfgmbfcjpaaPlane
namespace Go.Proofs.Ytplmmfgmbfcjpaa
open Go.RowKit Num
set_option linter.unusedVariables false
set_option linter.unusedSimpArgs false

theorem sizeRows : (Try.prog.info? 27).map (·.size) = some 128 := by kernel_rfl
theorem sizeRow : (Try.prog.info? 26).map (·.size) = some 2 := by kernel_rfl
theorem extract_row (P : Pl) (k : Nat) (hk : k < 64) : (pcells P).extract (k * 2) (k * 2 + 2) = #[.int .u64 ((hi (P k)).toNat : Int), .int .u64 ((lo (P k)).toNat : Int)] := by
  apply Array.ext_getElem?
  intro j
  rw [Array.getElem?_extract]
  by_cases hj : j < 2
  · rw [if_pos (by rw [pcells_size]; omega), pcells_get _ _ (by omega)]
    rcases (show j = 0 ∨ j = 1 by omega) with rfl | rfl
    · rw [show k * 2 + 0 = 2 * k by omega, word_even]; rfl
    · rw [show k * 2 + 1 = 2 * k + 1 by omega, word_odd]; rfl
  · rw [if_neg (by rw [pcells_size]; omega), Array.getElem?_eq_none (by simp; omega)]
theorem index_row (P : Pl) (k : Nat) (hk : k < 64) (w : World) : (Instr.index 27 (.agg (pcells P)) (.int .i64 (k : Int))).run Try.prog w = .ok (.agg #[.int .u64 ((hi (P k)).toNat : Int), .int .u64 ((lo (P k)).toNat : Int)]) w := by
  have hn : (0 : Int) ≤ (k : Int) ∧ (k : Int) < ((64 : Nat) : Int) := by omega
  have hp := run_part_agg (P := Try.prog) 26 _ (pcells P) (k * 2) 2 w rfl Try.underlying26 sizeRow
  rw [extract_row P k hk] at hp
  have hs := sizeRow
  cases hq : Try.prog.info? 26 with
  | none => rw [hq] at hs; cases hs
  | some i =>
    have hs : i.size = 2 := by simpa [hq] using hs
    simp [Instr.index, run_underlying Try.underlying27, asIntOf, hn, go_sem, sizeOf, typeInfo, hq, hs, hp]
    rw [if_pos hk, extract_row P k hk]
end Go.Proofs.Ytplmmfgmbfcjpaa
