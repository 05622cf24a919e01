/- The walk of AddrMoves. -/
import Derived.Test.YtcgineohhlmghaaAddrAwake
namespace Go.Proofs.Ytcgineohhlmghaa
open Go.RowKit Num
set_option linter.unusedVariables false

set_option maxRecDepth 100000 in
set_option maxHeartbeats 4000000 in
theorem addrMoves_out (a n b m d : Int) (w : World) (h : ¬ (0 ≤ a ∧ a ≤ 65535 ∧ 0 ≤ n ∧ n ≤ 65536) ∨ (0 ≤ a ∧ a ≤ 65535 ∧ 0 ≤ n ∧ n ≤ 65536) ∧ ¬ (0 ≤ b ∧ b ≤ 65535 ∧ 0 ≤ m ∧ m ≤ 65536) ∨ (0 ≤ a ∧ a ≤ 65535 ∧ 0 ≤ n ∧ n ≤ 65536) ∧ (0 ≤ b ∧ b ≤ 65535 ∧ 0 ≤ m ∧ m ≤ 65536) ∧ (d < -1000000 ∨ -1000000 ≤ d ∧ 1000000 < d)) :
    Calls Try.prog 5 #[.int .i64 a, .int .i64 n, .int .i64 b, .int .i64 m, .int .i64 d] w fun e w' => e = .returned (.bool true) ∧ Below w.heap.size w w' := by
  rcases h with h | ⟨⟨h1, h2, h3, h4⟩, h5⟩ | ⟨⟨h1, h2, h3, h4⟩, ⟨g1, g2, g3, g4⟩, h6 | ⟨h6, h7⟩⟩
  all_goals
    go_enter Try.func5, Try.ntmps5
    go_wp2_with fail
    refine (awake3 _).mono ?_
    rintro e w1 ⟨rfl, hb1⟩
    go_wp2_with fail
  · refine (right_no _ _ _ h).mono ?_
    rintro e w' ⟨rfl, rfl⟩
    go_wp2_with fail
    refine (awake3 _).mono ?_
    rintro e w2 ⟨rfl, hb2⟩
    go_wp2
    go_ret
    exact ⟨rfl, hb1.trans (hb2.mono hb1.size)⟩
  · refine (right_yes _ _ _ h1 h2 h3 h4).mono ?_
    rintro e w' ⟨rfl, rfl⟩
    go_wp2_with fail
    refine (right_no _ _ _ h5).mono ?_
    rintro e w' ⟨rfl, rfl⟩
    go_wp2_with fail
    refine (awake3 _).mono ?_
    rintro e w2 ⟨rfl, hb2⟩
    go_wp2
    go_ret
    exact ⟨rfl, hb1.trans (hb2.mono hb1.size)⟩
  all_goals
    refine (right_yes _ _ _ h1 h2 h3 h4).mono ?_
    rintro e w' ⟨rfl, rfl⟩
    go_wp2_with fail
    refine (right_yes _ _ _ g1 g2 g3 g4).mono ?_
    rintro e w' ⟨rfl, rfl⟩
    go_wp2_with fail
    refine (awake3 _).mono ?_
    rintro e w2 ⟨rfl, hb2⟩
    go_wp2
    go_ret
    exact ⟨rfl, hb1.trans (hb2.mono hb1.size)⟩

set_option maxRecDepth 100000 in
set_option maxHeartbeats 4000000 in
theorem addrMoves_in (a n b m d : Int) (w : World) (h1 : 0 ≤ a) (h2 : a ≤ 65535) (h3 : 0 ≤ n) (h4 : n ≤ 65536) (g1 : 0 ≤ b) (g2 : b ≤ 65535) (g3 : 0 ≤ m) (g4 : m ≤ 65536) (d1 : -1000000 ≤ d) (d2 : d ≤ 1000000) :
    Calls Try.prog 5 #[.int .i64 a, .int .i64 n, .int .i64 b, .int .i64 m, .int .i64 d] w fun e w' => e = .returned (.bool true) ∧ Below w.heap.size w w' := by
  have hi := inB_move a n b d
  have ho := ovB_move a n b m d
  have Hi := Lib.hid hi
  have Ho := Lib.hid ho
  clear hi ho
  have x0 : 0 ≤ (a + d) % 65536 := by omega
  have x1 : (a + d) % 65536 ≤ 65535 := by omega
  have y0 : 0 ≤ (b + d) % 65536 := by omega
  have y1 : (b + d) % 65536 ≤ 65535 := by omega
  go_enter Try.func5, Try.ntmps5
  go_wp2_with fail
  refine (awake3 _).mono ?_
  rintro e w1 ⟨rfl, hb1⟩
  go_wp2_with fail
  refine (right_yes _ _ _ h1 h2 h3 h4).mono ?_
  rintro e w' ⟨rfl, rfl⟩
  go_wp2_with fail
  refine (right_yes _ _ _ g1 g2 g3 g4).mono ?_
  rintro e w' ⟨rfl, rfl⟩
  go_wp2_with fail
  refine (wrap_any _ _).mono ?_
  rintro e w' ⟨rfl, rfl⟩
  go_wp2_with fail
  refine (wrap_any _ _).mono ?_
  rintro e w' ⟨rfl, rfl⟩
  generalize hx : (a + d) % 65536 = x at *
  generalize hy : (b + d) % 65536 = y at *
  clear hx hy
  go_wp2_with fail
  refine (right_yes _ _ _ x0 x1 (by omega) (by omega)).mono ?_
  rintro e w' ⟨rfl, rfl⟩
  go_wp2_with fail
  refine (right_yes _ _ _ y0 y1 (by omega) (by omega)).mono ?_
  rintro e w' ⟨rfl, rfl⟩
  go_wp2_with fail
  refine (in_any _ _ _ _ h1 h2 g1 g2).mono ?_
  rintro e w' ⟨rfl, rfl⟩
  go_wp2_with fail
  refine (in_any _ _ _ _ x0 x1 y0 y1).mono ?_
  rintro e w' ⟨rfl, rfl⟩
  rw [Hi.out]
  have e1 : (inB a n b == inB a n b) = true := by simp
  go_wp2_with fail
  refine (ov_any _ _ _ _ _ h1 h2 g1 g2 h3 h4 g3 g4).mono ?_
  rintro e w' ⟨rfl, rfl⟩
  go_wp2_with fail
  refine (ov_any _ _ _ _ _ x0 x1 y0 y1 h3 h4 g3 g4).mono ?_
  rintro e w' ⟨rfl, rfl⟩
  rw [Ho.out]
  go_wp2
  go_ret
  exact ⟨by simp, hb1⟩

theorem addrMoves_walk (a n b m d : Int) (w0 : (Lit.int .i64 a).wf = true) (w1 : (Lit.int .i64 n).wf = true) (w2 : (Lit.int .i64 b).wf = true) (w3 : (Lit.int .i64 m).wf = true) (w4 : (Lit.int .i64 d).wf = true) (w : World) :
    Calls Try.prog 5 #[.int .i64 a, .int .i64 n, .int .i64 b, .int .i64 m, .int .i64 d] w fun e w' => e = .returned (.bool true) ∧ Below w.heap.size w w' := by
  by_cases h : 0 ≤ a ∧ a ≤ 65535 ∧ 0 ≤ n ∧ n ≤ 65536
  · by_cases h2 : 0 ≤ b ∧ b ≤ 65535 ∧ 0 ≤ m ∧ m ≤ 65536
    · by_cases h3 : -1000000 ≤ d ∧ d ≤ 1000000
      · exact addrMoves_in a n b m d w h.1 h.2.1 h.2.2.1 h.2.2.2 h2.1 h2.2.1 h2.2.2.1 h2.2.2.2 h3.1 h3.2
      · exact addrMoves_out _ _ _ _ _ _ (.inr (.inr ⟨h, h2, by omega⟩))
    · exact addrMoves_out _ _ _ _ _ _ (.inr (.inl ⟨h, h2⟩))
  · exact addrMoves_out _ _ _ _ _ _ (.inl h)
end Go.Proofs.Ytcgineohhlmghaa
