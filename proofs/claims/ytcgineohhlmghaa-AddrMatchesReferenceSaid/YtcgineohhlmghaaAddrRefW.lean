/- The walk of AddrMatchesReference. -/
import Derived.Test.YtcgineohhlmghaaAddrAwake
namespace Go.Proofs.Ytcgineohhlmghaa
open Go.RowKit Num
set_option linter.unusedVariables false

set_option maxRecDepth 100000 in
set_option maxHeartbeats 4000000 in
theorem addrMatchesReference_out (a0 a1 a2 a3 : Int) (a4 : Bool) (w : World) (h : ¬ (0 ≤ a1 ∧ a1 ≤ 65535 ∧ 0 ≤ a2 ∧ a2 ≤ 65536) ∨ (0 ≤ a1 ∧ a1 ≤ 65535 ∧ 0 ≤ a2 ∧ a2 ≤ 65536) ∧ ¬ (0 ≤ a3 ∧ a3 ≤ 65535)) :
    Calls Try.prog 3 #[.int .i64 a0, .int .i64 a1, .int .i64 a2, .int .i64 a3, .bool a4] w fun e w' => e = .returned (.bool true) ∧ Below w.heap.size w w' := by
  rcases h with h | ⟨⟨h1, h2, h3, h4⟩, h5⟩
  all_goals
    go_enter Try.func3, Try.ntmps3
    go_wp2_with fail
    refine (awake3 _).mono ?_
    rintro e w1 ⟨rfl, hb1⟩
    go_wp2_with fail
    refine (wrap_any _ _).mono ?_
    rintro e w' ⟨rfl, rfl⟩
    go_wp2_with fail
    refine (amod_any _ _).mono ?_
    rintro e w' ⟨rfl, rfl⟩
    go_wp2_with fail
  · refine (right_no _ _ _ h).mono ?_
    rintro e w' ⟨rfl, rfl⟩
    go_wp2
    go_ret
    exact ⟨rfl, hb1⟩
  · refine (right_yes _ _ _ h1 h2 h3 h4).mono ?_
    rintro e w' ⟨rfl, rfl⟩
    go_wp2_with fail
    refine (right_no _ _ _ (by omega)).mono ?_
    rintro e w' ⟨rfl, rfl⟩
    go_wp2
    go_ret
    exact ⟨rfl, hb1⟩

set_option maxRecDepth 100000 in
set_option maxHeartbeats 4000000 in
theorem addrMatchesReference_in (a0 a1 a3 : Int) (n : Nat) (a4 : Bool) (w : World) (h1 : 0 ≤ a1) (h2 : a1 ≤ 65535) (h4 : n ≤ 65536) (h5 : 0 ≤ a3) (h6 : a3 ≤ 65535) :
    Calls Try.prog 3 #[.int .i64 a0, .int .i64 a1, .int .i64 n, .int .i64 a3, .bool a4] w fun e w' => e = .returned (.bool true) ∧ Below w.heap.size w w' := by
  have hp : (a4 = false ∧ chk a1 n a4 = 0) ∨ (a4 = true ∧ 65536 < a1 + n ∧ chk a1 n a4 = 4) ∨ (a4 = true ∧ a1 + n ≤ 65536 ∧ chk a1 n a4 = 0) := by
    cases a4
    · exact .inl ⟨rfl, by simp [chk]⟩
    · rcases Int.lt_or_le 65536 (a1 + n) with h | h
      · exact .inr (.inl ⟨rfl, h, by simp [chk, h]⟩)
      · exact .inr (.inr ⟨rfl, h, by simp [chk]; omega⟩)
  rcases hp with ⟨rfl, hc⟩ | ⟨rfl, hl, hc⟩ | ⟨rfl, hl, hc⟩
  all_goals
    have HC := Lib.hid hc
    clear hc
    by_cases hn : 2000 < n
    all_goals
      go_enter Try.func3, Try.ntmps3
      go_wp2_with fail
      refine (awake3 _).mono ?_
      rintro e w1 ⟨rfl, hb1⟩
      go_wp2_with fail
      refine (wrap_any _ _).mono ?_
      rintro e w' ⟨rfl, rfl⟩
      go_wp2_with fail
      refine (amod_any _ _).mono ?_
      rintro e w' ⟨rfl, rfl⟩
      go_wp2_with fail
      refine (right_yes _ _ _ h1 h2 (by omega) (by omega)).mono ?_
      rintro e w' ⟨rfl, rfl⟩
      go_wp2_with fail
      refine (right_yes _ _ _ h5 h6 (by omega) (by omega)).mono ?_
      rintro e w' ⟨rfl, rfl⟩
      go_wp2_with fail
      refine (check_any _ _ _ _ h1 h2 (by omega) (by omega)).mono ?_
      rintro e w' ⟨rfl, rfl⟩
      rw [HC.out]
      go_wp2_with fail
      refine (in_any _ _ _ _ h1 h2 h5 h6).mono ?_
      rintro e w' ⟨rfl, rfl⟩
      go_wp2_with fail
      refine (rin_any _ _ _ _ h1 h2 h4 h5 h6).mono ?_
      rintro e w2 ⟨rfl, hb2⟩
      go_wp2_with fail
    · go_ret
      exact ⟨by simp, hb1.trans (hb2.mono hb1.size)⟩
    · refine (list_any _ _ _ h1 h2 h4).mono ?_
      rintro e w3 ⟨⟨A, c, rfl, hr⟩, hb3⟩
      go_wp2_with fail
      refine (rlist_any _ _ _ h1 h2 h4).mono ?_
      rintro e w4 ⟨⟨A2, c2, rfl, hr2⟩, hb4⟩
      go_wp2_with fail
      refine (numbers_same _ _ _ _ _ (lst a1 n) _ rfl (by rw [lst_len]; exact h4) (hr.below hb4) hr2).mono ?_
      rintro e w5 ⟨rfl, hb5⟩
      clear hr hr2
      go_wp2
      go_ret
      exact ⟨by simp, (((hb1.trans (hb2.mono hb1.size)).trans (hb3.mono (Nat.le_trans hb1.size hb2.size))).trans (hb4.mono (Nat.le_trans hb1.size (Nat.le_trans hb2.size hb3.size)))).trans (hb5.mono (Nat.le_trans hb1.size (Nat.le_trans hb2.size (Nat.le_trans hb3.size hb4.size))))⟩

theorem addrMatchesReference_walk (a0 a1 a2 a3 : Int) (a4 : Bool) (w0 : (Lit.int .i64 a0).wf = true) (w1 : (Lit.int .i64 a1).wf = true) (w2 : (Lit.int .i64 a2).wf = true) (w3 : (Lit.int .i64 a3).wf = true) (w : World) :
    Calls Try.prog 3 #[.int .i64 a0, .int .i64 a1, .int .i64 a2, .int .i64 a3, .bool a4] w fun e w' => e = .returned (.bool true) ∧ Below w.heap.size w w' := by
  by_cases h : 0 ≤ a1 ∧ a1 ≤ 65535 ∧ 0 ≤ a2 ∧ a2 ≤ 65536
  · by_cases h2 : 0 ≤ a3 ∧ a3 ≤ 65535
    · obtain ⟨n, rfl⟩ := Int.eq_ofNat_of_zero_le h.2.2.1
      exact addrMatchesReference_in a0 a1 a3 n a4 w h.1 h.2.1 (by omega) h2.1 h2.2
    · exact addrMatchesReference_out _ _ _ _ _ _ (.inr ⟨h, h2⟩)
  · exact addrMatchesReference_out _ _ _ _ _ _ (.inl h)
end Go.Proofs.Ytcgineohhlmghaa
