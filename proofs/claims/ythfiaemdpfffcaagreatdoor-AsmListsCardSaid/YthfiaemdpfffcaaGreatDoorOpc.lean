/- Contracts of word.Number and word.Split, and of the reference's Split. -/
import Derived.Test.YthfiaemdpfffcaaGreatDoorRows
import Derived.Test.YthfiaemdpfffcaaGreatDoorNum
import Derived.WalkKit
import Derived.WalkSpells
import Derived.WalkLawsBesides
import Derived.BigQuiet
import Derived.Deep.QuietTactic
import Derived.Handy
namespace Go.Proofs.YthfiaemdpfffcaaGreatDoor
open Go.RowKit Num
set_option linter.unusedVariables false

set_option maxHeartbeats 400000 in
theorem number_any (h l : Int) (w : World) (h0 : 0 ≤ h) (h1 : h ≤ 255) (l0 : 0 ≤ l) (l1 : l ≤ 255) :
    Calls Tryz.prog 50 #[.int .u8 h, .int .u8 l] w fun e w' => e = .returned (.int .i64 (h * 256 + l)) ∧ w = w' := by
  go_enter Tryz.func50, Tryz.ntmps50
  go_wp2
  go_ret
  exact ⟨ret_int (or256 h l h0 h1 l0 l1), rfl⟩

set_option maxHeartbeats 400000 in
theorem split_any (h l : Int) (w : World) (h0 : 0 ≤ h) (h1 : h ≤ 255) (l0 : 0 ≤ l) (l1 : l ≤ 255) :
    Calls Tryz.prog 48 #[.int .u8 h, .int .u8 l] w fun e w' =>
      e = .returned (.agg #[.int .i64 (h / 16), .int .i64 (h % 16), .int .i64 (l / 16), .int .i64 (l % 16), .int .i64 l, .int .i64 (h % 16 * 256 + l)]) ∧ Below w.heap.size w w' := by
  go_enter Tryz.func48, Tryz.ntmps48
  go_wp2_with (go_at_call 50; refine (number_any _ _ _ h0 h1 l0 l1).mono ?_; rintro e w' ⟨rfl, rfl⟩)
  go_returns
  refine ⟨?_, by go_grown⟩
  rw [and15 _ (by omega) (by omega), and15 _ (by omega) (by omega), and15 _ (by omega) (by omega), and255 _ (by omega) (by omega), and4095 _ (by omega) (by omega)]
  exact ret_agg6 (by omega) (by omega) (by omega) (by omega) (by omega) (by omega)

set_option maxHeartbeats 400000 in
theorem rsplit_any (h l : Int) (w : World) (h0 : 0 ≤ h) (h1 : h ≤ 255) (l0 : 0 ≤ l) (l1 : l ≤ 255) :
    Calls Tryz.prog 38 #[.int .u8 h, .int .u8 l] w fun e w' =>
      e = .returned (.agg #[.int .i64 (h / 16), .int .i64 (h % 16), .int .i64 (l / 16), .int .i64 (l % 16), .int .i64 l, .int .i64 (h % 16 * 256 + l)]) ∧ Below w.heap.size w w' := by
  go_enter Tryz.func38, Tryz.ntmps38
  go_wp2
  go_returns
  exact ⟨rfl, by go_grown⟩
end Go.Proofs.YthfiaemdpfffcaaGreatDoor
