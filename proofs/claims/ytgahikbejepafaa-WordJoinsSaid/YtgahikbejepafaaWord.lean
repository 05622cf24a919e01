/- Contracts of package word and of its reference: what each function returns; the world is left alone, or has new blocks only. -/
import Derived.Test.YtgahikbejepafaaRows
import Derived.Test.YtgahikbejepafaaNum
import Derived.WalkKit
import Derived.WalkSpells
import Derived.WalkLawsBesides
import Derived.BigQuiet
import Derived.Deep.QuietTactic
import Derived.Handy
namespace Go.Proofs.Ytgahikbejepafaa
open Go.RowKit Num
set_option linter.unusedVariables false

set_option maxHeartbeats 400000 in
theorem number_any (h l : Int) (w : World) (h0 : 0 ≤ h) (h1 : h ≤ 255) (l0 : 0 ≤ l) (l1 : l ≤ 255) :
    Calls Try.prog 13 #[.int .u8 h, .int .u8 l] w fun e w' => e = .returned (.int .i64 (h * 256 + l)) ∧ w = w' := by
  go_enter Try.func13, Try.ntmps13
  go_wp2
  go_ret
  exact ⟨ret_int (or256 h l h0 h1 l0 l1), rfl⟩

set_option maxHeartbeats 400000 in
theorem bytes_any (n : Int) (w : World) :
    Calls Try.prog 10 #[.int .i64 n] w fun e w' => e = .returned (.tuple #[.int .u8 (n / 256 % 256), .int .u8 (n % 256)]) ∧ w = w' := by
  go_enter Try.func10, Try.ntmps10
  go_wp2
  go_ret2
  exact ⟨rfl, rfl⟩

set_option maxHeartbeats 400000 in
theorem split_any (h l : Int) (w : World) (h0 : 0 ≤ h) (h1 : h ≤ 255) (l0 : 0 ≤ l) (l1 : l ≤ 255) :
    Calls Try.prog 12 #[.int .u8 h, .int .u8 l] w fun e w' =>
      e = .returned (.agg #[.int .i64 (h / 16), .int .i64 (h % 16), .int .i64 (l / 16), .int .i64 (l % 16), .int .i64 l, .int .i64 (h % 16 * 256 + l)]) ∧ Below w.heap.size w w' := by
  go_enter Try.func12, Try.ntmps12
  go_wp2_with (go_at_call 13; refine (number_any _ _ _ h0 h1 l0 l1).mono ?_; rintro e w' ⟨rfl, rfl⟩)
  go_returns
  refine ⟨?_, by go_grown⟩
  rw [and15 _ (by omega) (by omega), and15 _ (by omega) (by omega), and15 _ (by omega) (by omega), and255 _ (by omega) (by omega), and4095 _ (by omega) (by omega)]
  exact ret_agg6 (by omega) (by omega) (by omega) (by omega) (by omega) (by omega)

set_option maxHeartbeats 400000 in
theorem mod_any (n : Int) (w : World) :
    Calls Try.prog 11 #[.int .i64 n] w fun e w' => e = .returned (.int .i64 (n % 65536)) ∧ w = w' := by
  by_cases hn : n.tmod 65536 < 0
  all_goals
    go_enter Try.func11, Try.ntmps11
    go_wp2
    go_ret
    exact ⟨ret_int (by have := mod16 n; first | omega | (unfold wrap64; omega)), rfl⟩


theorem arr4 (a b c d : Int) : (∀ w : World, (Instr.index 46 (.agg #[.int .i64 a, .int .i64 b, .int .i64 c, .int .i64 d]) (.int .i64 0)).run Try.prog w = .ok (.int .i64 a) w) ∧
    (∀ w : World, (Instr.index 46 (.agg #[.int .i64 a, .int .i64 b, .int .i64 c, .int .i64 d]) (.int .i64 1)).run Try.prog w = .ok (.int .i64 b) w) ∧
    (∀ w : World, (Instr.index 46 (.agg #[.int .i64 a, .int .i64 b, .int .i64 c, .int .i64 d]) (.int .i64 2)).run Try.prog w = .ok (.int .i64 c) w) ∧
    (∀ w : World, (Instr.index 46 (.agg #[.int .i64 a, .int .i64 b, .int .i64 c, .int .i64 d]) (.int .i64 3)).run Try.prog w = .ok (.int .i64 d) w) :=
  ⟨fun _ => by kernel_rfl, fun _ => by kernel_rfl, fun _ => by kernel_rfl, fun _ => by kernel_rfl⟩

set_option maxHeartbeats 1000000 in
theorem join_yes (a b c d : Int) (w : World) (a0 : 0 ≤ a) (a1 : a < 16) (b0 : 0 ≤ b) (b1 : b < 16) (c0 : 0 ≤ c) (c1 : c < 16) (d0 : 0 ≤ d) (d1 : d < 16) :
    Calls Try.prog 16 #[.int .i64 a, .int .i64 b, .int .i64 c, .int .i64 d] w fun e w' =>
      e = .returned (.tuple #[.int .u8 (a * 16 + b), .int .u8 (c * 16 + d), .int .i64 0]) ∧ w = w' := by
  obtain ⟨i0, i1, i2, i3⟩ := arr4 a b c d
  go_enter Try.func16, Try.ntmps16
  go_wp2
  go_rounds 5
  go_returns
  exact ⟨ret_join (by omega) (by omega), rfl⟩

theorem join_pick {a b c d : Int} (h : ¬(0 ≤ a ∧ a < 16 ∧ 0 ≤ b ∧ b < 16 ∧ 0 ≤ c ∧ c < 16 ∧ 0 ≤ d ∧ d < 16)) :
    (a < 0 ∨ 16 ≤ a) ∨ (0 ≤ a ∧ a < 16 ∧ (b < 0 ∨ 16 ≤ b)) ∨ (0 ≤ a ∧ a < 16 ∧ 0 ≤ b ∧ b < 16 ∧ (c < 0 ∨ 16 ≤ c)) ∨ (0 ≤ a ∧ a < 16 ∧ 0 ≤ b ∧ b < 16 ∧ 0 ≤ c ∧ c < 16 ∧ (d < 0 ∨ 16 ≤ d)) := by omega

set_option maxHeartbeats 2000000 in
theorem join_no (a b c d : Int) (w : World) (h : ¬(0 ≤ a ∧ a < 16 ∧ 0 ≤ b ∧ b < 16 ∧ 0 ≤ c ∧ c < 16 ∧ 0 ≤ d ∧ d < 16)) :
    Calls Try.prog 16 #[.int .i64 a, .int .i64 b, .int .i64 c, .int .i64 d] w fun e w' =>
      e = .returned (.tuple #[.int .u8 0, .int .u8 0, .int .i64 5]) ∧ w = w' := by
  obtain ⟨i0, i1, i2, i3⟩ := arr4 a b c d
  have hp := join_pick h
  clear h
  rcases hp with (h | h) | ⟨a0, a1, (h | h)⟩ | ⟨a0, a1, b0, b1, (h | h)⟩ | ⟨a0, a1, b0, b1, c0, c1, (h | h)⟩
  all_goals
    go_enter Try.func16, Try.ntmps16
    go_wp2
    go_rounds 5
    go_returns
    exact ⟨rfl, rfl⟩

end Go.Proofs.Ytgahikbejepafaa
