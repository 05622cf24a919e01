/- The walk of WordJoins. -/
import Derived.Test.YtgahikbejepafaaWordAwake
namespace Go.Proofs.Ytgahikbejepafaa
open Go.RowKit Num
set_option linter.unusedVariables false

set_option maxHeartbeats 4000000 in
theorem wordJoins_yes (a b c d : Int) (h : 0 ≤ a ∧ a < 16 ∧ 0 ≤ b ∧ b < 16 ∧ 0 ≤ c ∧ c < 16 ∧ 0 ≤ d ∧ d < 16) (w : World) :
    Calls Try.prog 5 #[.int .i64 a, .int .i64 b, .int .i64 c, .int .i64 d] w fun e w' => e = .returned (.bool true) ∧ Below w.heap.size w w' := by
  obtain ⟨a0, a1, b0, b1, c0, c1, d0, d1⟩ := h
  have e1 : (a * 16 + b) / 16 = a := by omega
  have e2 : (a * 16 + b) % 16 = b := by omega
  have e3 : (c * 16 + d) / 16 = c := by omega
  have e4 : (c * 16 + d) % 16 = d := by omega
  go_enter Try.func5, Try.ntmps5
  go_wp2_with fail
  refine (awake1 _).mono ?_
  rintro e w1 ⟨rfl, hb1⟩
  go_wp2_with fail
  refine (join_yes _ _ _ _ _ a0 a1 b0 b1 c0 c1 d0 d1).mono ?_
  rintro e w2 ⟨rfl, rfl⟩
  go_wp2_with (go_at_call 17; refine (rdigit_yes _ _ ?h).mono ?_; (case h => omega); rintro e w' ⟨rfl, rfl⟩)
  refine (split_any _ _ _ (by omega) (by omega) (by omega) (by omega)).mono ?_
  rintro e w2 ⟨rfl, hb2⟩
  have hb := hb1.trans (hb2.mono hb1.size)
  have hz := Nat.le_trans hb1.size hb2.size
  go_wp2
  go_ret
  exact ⟨by simp, by go_grown⟩

set_option maxHeartbeats 4000000 in
theorem wordJoins_no (a b c d : Int) (h : ¬ (0 ≤ a ∧ a < 16 ∧ 0 ≤ b ∧ b < 16 ∧ 0 ≤ c ∧ c < 16 ∧ 0 ≤ d ∧ d < 16)) (w : World) :
    Calls Try.prog 5 #[.int .i64 a, .int .i64 b, .int .i64 c, .int .i64 d] w fun e w' => e = .returned (.bool true) ∧ Below w.heap.size w w' := by
  have hj := fun w => join_no a b c d w h
  have Hj := Lib.hid hj
  clear hj
  have hp := join_pick h
  clear h
  rcases hp with (h | h) | ⟨a0, a1, (h | h)⟩ | ⟨a0, a1, b0, b1, (h | h)⟩ | ⟨a0, a1, b0, b1, c0, c1, (h | h)⟩
  all_goals
    go_enter Try.func5, Try.ntmps5
    go_wp2_with fail
    refine (awake1 _).mono ?_
    rintro e w1 ⟨rfl, hb1⟩
    go_wp2_with fail
    refine (Hj.out _).mono ?_
    rintro e w2 ⟨rfl, rfl⟩
    go_wp2_with (first
      | (go_at_call 17; refine (rdigit_yes _ _ ?h).mono ?_; (case h => omega); rintro e w' ⟨rfl, rfl⟩)
      | (go_at_call 17; refine (rdigit_no _ _ ?h).mono ?_; (case h => omega); rintro e w' ⟨rfl, rfl⟩))
    go_ret
    exact ⟨by simp, hb1⟩

theorem wordJoins_walk (a0 a1 a2 a3 : Int) (w0 : (Lit.int .i64 a0).wf = true) (w1 : (Lit.int .i64 a1).wf = true) (w2 : (Lit.int .i64 a2).wf = true) (w3 : (Lit.int .i64 a3).wf = true) (w : World) :
    Calls Try.prog 5 #[.int .i64 a0, .int .i64 a1, .int .i64 a2, .int .i64 a3] w fun e w' => e = .returned (.bool true) ∧ Below w.heap.size w w' := by
  by_cases h : 0 ≤ a0 ∧ a0 < 16 ∧ 0 ≤ a1 ∧ a1 < 16 ∧ 0 ≤ a2 ∧ a2 < 16 ∧ 0 ≤ a3 ∧ a3 < 16
  · exact wordJoins_yes a0 a1 a2 a3 h w
  · exact wordJoins_no a0 a1 a2 a3 h w
end Go.Proofs.Ytgahikbejepafaa
