/- Contracts of Wrap, Check, In, Overlap and of the reference's Mod, Right. -/
import Derived.Test.YtcgineohhlmghaaRows
import Derived.Test.YtcgineohhlmghaaAddrNum
import Derived.Test.YtcgineohhlmghaaRow
import Derived.WalkKit
import Derived.Handy
import Derived.IntWalk
import Derived.Lib.Hide
import Derived.OwnWalk
import Derived.Maps.AppendAt
namespace Go.Proofs.Ytcgineohhlmghaa
open Go.RowKit Num
set_option linter.unusedVariables false

set_option maxHeartbeats 400000 in
theorem wrap_any (n : Int) (w : World) : Calls Try.prog 8 #[.int .i64 n] w fun e w' => e = .returned (.int .i64 (n % 65536)) ∧ w = w' := by
  have hb := and65535 n
  go_enter Try.func8, Try.ntmps8
  go_wp2
  go_ret
  exact ⟨rfl, rfl⟩

set_option maxHeartbeats 400000 in
theorem amod_any (n : Int) (w : World) : Calls Try.prog 9 #[.int .i64 n] w fun e w' => e = .returned (.int .i64 (n % 65536)) ∧ w = w' := by
  by_cases hn : n.tmod 65536 < 0
  all_goals
    go_enter Try.func9, Try.ntmps9
    go_wp2
    go_ret
    exact ⟨ret_int (by have := mod16 n; first | omega | (unfold wrap64; omega)), rfl⟩

set_option maxHeartbeats 400000 in
theorem right_yes (a n : Int) (w : World) (a0 : 0 ≤ a) (a1 : a ≤ 65535) (n0 : 0 ≤ n) (n1 : n ≤ 65536) : Calls Try.prog 10 #[.int .i64 a, .int .i64 n] w fun e w' => e = .returned (.bool true) ∧ w = w' := by
  have g1 : decide (n ≤ 65536) = true := by simp; omega
  go_enter Try.func10, Try.ntmps10
  go_wp2
  go_ret
  exact ⟨by simp, rfl⟩

set_option maxHeartbeats 400000 in
theorem right_no (a n : Int) (w : World) (h : ¬ (0 ≤ a ∧ a ≤ 65535 ∧ 0 ≤ n ∧ n ≤ 65536)) : Calls Try.prog 10 #[.int .i64 a, .int .i64 n] w fun e w' => e = .returned (.bool false) ∧ w = w' := by
  have hp : a < 0 ∨ (0 ≤ a ∧ 65535 < a) ∨ (0 ≤ a ∧ a ≤ 65535 ∧ n < 0) ∨ (0 ≤ a ∧ a ≤ 65535 ∧ 0 ≤ n ∧ 65536 < n) := by omega
  clear h
  rcases hp with h | ⟨h, h2⟩ | ⟨h, h2, h3⟩ | ⟨h, h2, h3, h4⟩
  all_goals
    go_enter Try.func10, Try.ntmps10
    go_wp2
    go_ret
    exact ⟨by simp; try omega, rfl⟩

/-- What Check says: 4 for a span that leaves the memory where that is a fault. -/
def chk (a n : Int) (f : Bool) : Int := if f = true ∧ 65536 < a + n then 4 else 0
set_option maxHeartbeats 400000 in
theorem check_any (a n : Int) (f : Bool) (w : World) (a0 : 0 ≤ a) (a1 : a ≤ 65535) (n0 : 0 ≤ n) (n1 : n ≤ 65536) : Calls Try.prog 11 #[.int .i64 a, .int .i64 n, .bool f] w fun e w' => e = .returned (.int .i64 (chk a n f)) ∧ w = w' := by
  cases f
  · go_enter Try.func11, Try.ntmps11
    go_wp2
    go_ret
    exact ⟨by simp [chk], rfl⟩
  · by_cases h : 65536 < a + n
    all_goals
      go_enter Try.func11, Try.ntmps11
      go_wp2
      go_ret
      exact ⟨by simp [chk, h], rfl⟩

set_option maxHeartbeats 400000 in
theorem in_any (a n b : Int) (w : World) (a0 : 0 ≤ a) (a1 : a ≤ 65535) (b0 : 0 ≤ b) (b1 : b ≤ 65535) : Calls Try.prog 12 #[.int .i64 a, .int .i64 n, .int .i64 b] w fun e w' => e = .returned (.bool (inB a n b)) ∧ w = w' := by
  go_enter Try.func12, Try.ntmps12
  go_wp2_with (go_at_call 8; refine (wrap_any _ _).mono ?_; rintro e w' ⟨rfl, rfl⟩)
  go_ret
  exact ⟨rfl, rfl⟩

set_option maxHeartbeats 1000000 in
theorem ov_any (a n b m : Int) (w : World) (a0 : 0 ≤ a) (a1 : a ≤ 65535) (b0 : 0 ≤ b) (b1 : b ≤ 65535) (n0 : 0 ≤ n) (n1 : n ≤ 65536) (m0 : 0 ≤ m) (m1 : m ≤ 65536) :
    Calls Try.prog 17 #[.int .i64 a, .int .i64 n, .int .i64 b, .int .i64 m] w fun e w' => e = .returned (.bool (ovB a n b m)) ∧ w = w' := by
  by_cases hn : 0 < n
  · by_cases hm : 0 < m
    · by_cases hi : inB a n b = true
      · go_enter Try.func17, Try.ntmps17
        go_wp2_with (go_at_call 12; refine (in_any _ _ _ _ (by omega) (by omega) (by omega) (by omega)).mono ?_; rintro e w' ⟨rfl, rfl⟩)
        go_ret
        exact ⟨by simp [ovB, hn, hm, hi], rfl⟩
      · have hi' : inB a n b = false := by simpa using hi
        go_enter Try.func17, Try.ntmps17
        go_wp2_with (go_at_call 12; refine (in_any _ _ _ _ (by omega) (by omega) (by omega) (by omega)).mono ?_; rintro e w' ⟨rfl, rfl⟩)
        go_ret
        exact ⟨by simp [ovB, hn, hm, hi'], rfl⟩
    · go_enter Try.func17, Try.ntmps17
      go_wp2
      go_ret
      exact ⟨by simp [ovB]; try omega, rfl⟩
  · go_enter Try.func17, Try.ntmps17
    go_wp2
    go_ret
    exact ⟨by simp [ovB]; try omega, rfl⟩
end Go.Proofs.Ytcgineohhlmghaa
