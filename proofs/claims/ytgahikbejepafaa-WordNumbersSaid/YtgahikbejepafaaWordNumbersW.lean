/- The walk of WordNumbers. -/
import Derived.Test.YtgahikbejepafaaWordAwake
namespace Go.Proofs.Ytgahikbejepafaa
open Go.RowKit Num
set_option linter.unusedVariables false

set_option maxHeartbeats 4000000 in
theorem wordNumbers_in (a0 a1 a2 a3 : Int) (h0 : 0 ≤ a0) (h1 : a0 ≤ 255) (l0 : 0 ≤ a1) (l1 : a1 ≤ 255) (n0 : -1000000 ≤ a2) (n1 : a2 ≤ 1000000) (k0 : -128 ≤ a3) (k1 : a3 ≤ 127) (w : World) :
    Calls Try.prog 7 #[.int .u8 a0, .int .u8 a1, .int .i64 a2, .int .i8 a3] w fun e w' => e = .returned (.bool true) ∧ Below w.heap.size w w' := by
  have e1 : (a0 * 256 + a1) / 256 % 256 = a0 := by omega
  have e2 : (a0 * 256 + a1) % 256 = a1 := by omega
  have e3 : a2 / 256 % 256 * 256 + a2 % 256 = a2 % 65536 := by omega
  have e4 : ((a2 + 65536 * a3) / 256 % 256 == a2 / 256 % 256) = true := by simp; omega
  have e5 : ((a2 + 65536 * a3) % 256 == a2 % 256) = true := by simp; omega
  go_enter Try.func7, Try.ntmps7
  go_wp2_with fail
  refine (awake1 _).mono ?_
  rintro e w1 ⟨rfl, hb1⟩
  go_wp2_with fail
  refine (number_any _ _ _ h0 h1 l0 l1).mono ?_
  rintro e w2 ⟨rfl, rfl⟩
  go_wp2_with fail
  refine (bytes_any _ _).mono ?_
  rintro e w2 ⟨rfl, rfl⟩
  go_wp2_with fail
  refine (bytes_any _ _).mono ?_
  rintro e w2 ⟨rfl, rfl⟩
  go_wp2_with fail
  refine (bytes_any _ _).mono ?_
  rintro e w2 ⟨rfl, rfl⟩
  go_wp2_with (first
    | (go_at_call 13; refine (number_any _ _ _ ?h1 ?h2 ?h3 ?h4).mono ?_; (case h1 => omega); (case h2 => omega); (case h3 => omega); (case h4 => omega); rintro e w' ⟨rfl, rfl⟩)
    | (go_at_call 11; refine (mod_any _ _).mono ?_; rintro e w' ⟨rfl, rfl⟩))
  go_ret
  exact ⟨by simp, hb1⟩

set_option maxHeartbeats 4000000 in
theorem wordNumbers_out (a0 a1 a2 a3 : Int) (h : a2 < -1000000 ∨ 1000000 < a2) (w : World) :
    Calls Try.prog 7 #[.int .u8 a0, .int .u8 a1, .int .i64 a2, .int .i8 a3] w fun e w' => e = .returned (.bool true) ∧ Below w.heap.size w w' := by
  have hp : a2 < -1000000 ∨ (-1000000 ≤ a2 ∧ 1000000 < a2) := by omega
  clear h
  rcases hp with h | ⟨h, h2⟩
  all_goals
    go_enter Try.func7, Try.ntmps7
    go_wp2_with fail
    refine (awake1 _).mono ?_
    rintro e w1 ⟨rfl, hb1⟩
    go_wp2_with fail
    refine (awake1 _).mono ?_
    rintro e w2 ⟨rfl, hb2⟩
    go_wp2
    go_ret
    exact ⟨rfl, hb1.trans (hb2.mono hb1.size)⟩

theorem wordNumbers_walk (a0 a1 a2 a3 : Int) (w0 : (Lit.int .u8 a0).wf = true) (w1 : (Lit.int .u8 a1).wf = true) (w2 : (Lit.int .i64 a2).wf = true) (w3 : (Lit.int .i8 a3).wf = true) (w : World) :
    Calls Try.prog 7 #[.int .u8 a0, .int .u8 a1, .int .i64 a2, .int .i8 a3] w fun e w' => e = .returned (.bool true) ∧ Below w.heap.size w w' := by
  by_cases h : a2 < -1000000 ∨ 1000000 < a2
  · exact wordNumbers_out a0 a1 a2 a3 h w
  · exact wordNumbers_in a0 a1 a2 a3 (bd_u8 w0).1 (bd_u8 w0).2 (bd_u8 w1).1 (bd_u8 w1).2 (by omega) (by omega) (bd_i8 w3).1 (bd_i8 w3).2 w
end Go.Proofs.Ytgahikbejepafaa
