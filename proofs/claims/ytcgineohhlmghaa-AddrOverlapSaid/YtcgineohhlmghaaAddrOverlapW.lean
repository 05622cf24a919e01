/- The walk of AddrOverlap. -/
import Derived.Test.YtcgineohhlmghaaAddrAwake
namespace Go.Proofs.Ytcgineohhlmghaa
open Go.RowKit Num
set_option linter.unusedVariables false

set_option maxRecDepth 100000 in
set_option maxHeartbeats 4000000 in
theorem addrOverlap_out (a n b m : Int) (w : World) (h : ¬ (0 ≤ a ∧ a ≤ 65535 ∧ 0 ≤ n ∧ n ≤ 65536) ∨ (0 ≤ a ∧ a ≤ 65535 ∧ 0 ≤ n ∧ n ≤ 65536) ∧ ¬ (0 ≤ b ∧ b ≤ 65535 ∧ 0 ≤ m ∧ m ≤ 65536) ∨ (0 ≤ a ∧ a ≤ 65535 ∧ 0 ≤ n ∧ n ≤ 65536) ∧ (0 ≤ b ∧ b ≤ 65535 ∧ 0 ≤ m ∧ m ≤ 65536) ∧ 200 < m) :
    Calls Try.prog 4 #[.int .i64 a, .int .i64 n, .int .i64 b, .int .i64 m] w fun e w' => e = .returned (.bool true) ∧ Below w.heap.size w w' := by
  rcases h with h | ⟨⟨h1, h2, h3, h4⟩, h5⟩ | ⟨⟨h1, h2, h3, h4⟩, ⟨g1, g2, g3, g4⟩, h6⟩
  all_goals
    go_enter Try.func4, Try.ntmps4
    go_wp2_with fail
    refine (awake3 _).mono ?_
    rintro e w1 ⟨rfl, hb1⟩
    go_wp2_with fail
  · refine (right_no _ _ _ h).mono ?_
    rintro e w' ⟨rfl, rfl⟩
    go_wp2_with fail
    refine (awake3 _).mono ?_
    rintro e w2 ⟨rfl, hb2⟩
    go_wp2
    go_ret
    exact ⟨rfl, hb1.trans (hb2.mono hb1.size)⟩
  · refine (right_yes _ _ _ h1 h2 h3 h4).mono ?_
    rintro e w' ⟨rfl, rfl⟩
    go_wp2_with fail
    refine (right_no _ _ _ h5).mono ?_
    rintro e w' ⟨rfl, rfl⟩
    go_wp2_with fail
    refine (awake3 _).mono ?_
    rintro e w2 ⟨rfl, hb2⟩
    go_wp2
    go_ret
    exact ⟨rfl, hb1.trans (hb2.mono hb1.size)⟩
  · refine (right_yes _ _ _ h1 h2 h3 h4).mono ?_
    rintro e w' ⟨rfl, rfl⟩
    go_wp2_with fail
    refine (right_yes _ _ _ g1 g2 g3 g4).mono ?_
    rintro e w' ⟨rfl, rfl⟩
    go_wp2_with fail
    refine (awake3 _).mono ?_
    rintro e w2 ⟨rfl, hb2⟩
    go_wp2
    go_ret
    exact ⟨rfl, hb1.trans (hb2.mono hb1.size)⟩

set_option maxRecDepth 100000 in
set_option maxHeartbeats 4000000 in
theorem addrOverlap_in (a b : Int) (n m : Nat) (w : World) (h1 : 0 ≤ a) (h2 : a ≤ 65535) (h4 : n ≤ 65536) (g1 : 0 ≤ b) (g2 : b ≤ 65535) (h6 : m ≤ 200) :
    Calls Try.prog 4 #[.int .i64 a, .int .i64 n, .int .i64 b, .int .i64 m] w fun e w' => e = .returned (.bool true) ∧ Below w.heap.size w w' := by
  go_enter Try.func4, Try.ntmps4
  go_wp2_with fail
  refine (awake3 _).mono ?_
  rintro e w1 ⟨rfl, hb1⟩
  go_wp2_with fail
  refine (right_yes _ _ _ h1 h2 (by omega) (by omega)).mono ?_
  rintro e w' ⟨rfl, rfl⟩
  go_wp2_with fail
  refine (right_yes _ _ _ g1 g2 (by omega) (by omega)).mono ?_
  rintro e w' ⟨rfl, rfl⟩
  go_wp2_with fail
  refine (rlist_any _ _ _ g1 g2 (by omega)).mono ?_
  rintro e w2 ⟨⟨A, c, rfl, hr⟩, hb2⟩
  rw [lst_len]
  have hb := hb1.trans (hb2.mono hb1.size)
  clear hb1 hb2
  go_wp2_with fail
  go_loopw [9, 11] (fun s i wr => ∃ k : Nat, k ≤ m ∧ i = .int .i64 k ∧ s = .bool (someB a n b k) ∧ Below w.heap.size w wr ∧ Below w2.heap.size w2 wr) (fun _ i _ => m - (intOf i).toNat)
  case atStart => exact ⟨0, Nat.zero_le _, rfl, rfl, hb, Below.refl _ _⟩
  case round =>
    obtain ⟨k, hk, rfl, rfl, hbw, hbr⟩ := hrel
    by_cases hlt : k < m
    · by_cases hs : someB a n b k = true
      · have hss := someB_succ a n b k
        rw [hs, Bool.true_or] at hss
        have Hss := Lib.hid hss
        clear hss
        rw [hs]
        go_wp2
        go_roundw
        case rel => exact ⟨k + 1, by omega, by go_num, by rw [Hss.out], hbw, hbr⟩
        case measure => simp [intOf]; omega
      · have hs' : someB a n b k = false := by simpa using hs
        have hss := someB_succ a n b k
        rw [hs', Bool.false_or] at hss
        have Hss := Lib.hid hss
        clear hss hs
        rw [hs']
        clear hs'
        obtain ⟨g, o, rfl, hg, hc⟩ := (hr.below hbr).at_ (k := k) (by rw [lst_len]; exact hlt)
        rw [lst_get] at hc
        go_wp2_with fail
        refine (rin_any a _ n _ h1 h2 h4 (by omega) (by omega)).mono ?_
        rintro e w3 ⟨rfl, hb3⟩
        go_wp2
        go_roundw
        case rel => exact ⟨k + 1, by omega, by go_num, by rw [Hss.out], hbw.trans (hb3.mono hbw.size), hbr.trans (hb3.mono hbr.size)⟩
        case measure => simp [intOf]; omega
    · have hkm : k = m := by omega
      subst hkm
      have ho := ovB_some a n b k (by omega) (by omega) (by omega)
      have Ho := Lib.hid ho
      have ho2 := (ovB_comm b k a n).trans ho
      have Ho2 := Lib.hid ho2
      clear ho ho2
      go_wp2_with fail
      refine (ov_any a n b k _ h1 h2 g1 g2 (by omega) (by omega) (by omega) (by omega)).mono ?_
      rintro e w' ⟨rfl, rfl⟩
      rw [Ho.out]
      generalize hS : someB a n b k = S at *
      cases S
      all_goals
        go_wp2_with fail
        refine (ov_any b k a n _ g1 g2 h1 h2 (by omega) (by omega) (by omega) (by omega)).mono ?_
        rintro e w' ⟨rfl, rfl⟩
        rw [Ho2.out]
        go_wp2
        go_ret
        exact ⟨by simp, hbw⟩

theorem addrOverlap_walk (a n b m : Int) (w0 : (Lit.int .i64 a).wf = true) (w1 : (Lit.int .i64 n).wf = true) (w2 : (Lit.int .i64 b).wf = true) (w3 : (Lit.int .i64 m).wf = true) (w : World) :
    Calls Try.prog 4 #[.int .i64 a, .int .i64 n, .int .i64 b, .int .i64 m] w fun e w' => e = .returned (.bool true) ∧ Below w.heap.size w w' := by
  by_cases h : 0 ≤ a ∧ a ≤ 65535 ∧ 0 ≤ n ∧ n ≤ 65536
  · by_cases h2 : 0 ≤ b ∧ b ≤ 65535 ∧ 0 ≤ m ∧ m ≤ 65536
    · by_cases h3 : 200 < m
      · exact addrOverlap_out _ _ _ _ _ (.inr (.inr ⟨h, h2, h3⟩))
      · obtain ⟨n, rfl⟩ := Int.eq_ofNat_of_zero_le h.2.2.1
        obtain ⟨m, rfl⟩ := Int.eq_ofNat_of_zero_le h2.2.2.1
        exact addrOverlap_in a b n m w h.1 h.2.1 (by omega) h2.1 h2.2.1 (by omega)
    · exact addrOverlap_out _ _ _ _ _ (.inr (.inl ⟨h, h2⟩))
  · exact addrOverlap_out _ _ _ _ _ (.inl h)
end Go.Proofs.Ytcgineohhlmghaa
