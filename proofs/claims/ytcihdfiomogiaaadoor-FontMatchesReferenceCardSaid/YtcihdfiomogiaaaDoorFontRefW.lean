/- The walk of FontMatchesReference. -/
import Derived.Test.YtcihdfiomogiaaaDoorFontAwake
namespace Go.Proofs.YtcihdfiomogiaaaDoor
open Go.RowKit Num
set_option linter.unusedVariables false

set_option maxRecDepth 100000 in
set_option maxHeartbeats 4000000 in
theorem fontMatchesReference_no (n : Int) (w : World) (h : n < 0) (hL : Laid w) :
    Calls Tryd.prog 3 #[.int .i64 n] w fun e w' => e = .returned (.bool true) ∧ Below w.heap.size w w' := by
  go_enter Tryd.func3, Tryd.ntmps3
  go_wp2_with fail
  refine (awake4 _ hL).mono ?_
  rintro e w1 ⟨rfl, hb1⟩
  go_wp2_with fail
  refine (smallAt_no _ _ h).mono ?_
  rintro e w' ⟨rfl, rfl⟩
  go_wp2_with fail
  refine (bigAt_no _ _ h).mono ?_
  rintro e w' ⟨rfl, rfl⟩
  go_wp2_with fail
  refine (glyph_no _ _ _ h).mono ?_
  rintro e w' ⟨rfl, rfl⟩
  go_wp2_with fail
  refine (glyph_no _ _ _ h).mono ?_
  rintro e w' ⟨rfl, rfl⟩
  go_wp2
  go_ret
  exact ⟨rfl, hb1⟩

set_option maxRecDepth 100000 in
set_option maxHeartbeats 4000000 in
theorem fontMatchesReference_yes (n : Int) (w : World) (h : 0 ≤ n) (hL : Laid w) :
    Calls Tryd.prog 3 #[.int .i64 n] w fun e w' => e = .returned (.bool true) ∧ Below w.heap.size w w' := by
  obtain ⟨k, hk⟩ : ∃ k : Nat, n % 16 = k := ⟨(n % 16).toNat, by omega⟩
  have hk16 : k < 16 := by omega
  have ht : n.tmod 16 = k := by rw [tmod_pos n 16 h, hk]
  have q0 : 0 ≤ 5 * (k : Int) := by omega
  have q1 : 0 ≤ 5 * (k : Int) + 5 := by omega
  have q2 : 0 ≤ 10 * (k : Int) := by omega
  have q3 : 0 ≤ 10 * (k : Int) + 10 := by omega
  go_enter Tryd.func3, Tryd.ntmps3
  go_wp2_with fail
  refine (awake4 _ hL).mono ?_
  rintro e w1 ⟨rfl, hb1⟩
  have L1 := hL.step hb1
  go_wp2_with fail
  refine (smallAt_yes _ _ h).mono ?_
  rintro e w' ⟨rfl, rfl⟩
  rw [hk]
  go_wp2_with fail
  refine (bigAt_yes _ _ h).mono ?_
  rintro e w' ⟨rfl, rfl⟩
  rw [hk]
  go_wp2_with fail
  refine (glyph_small n k _ h hk L1).mono ?_
  rintro e w2 h2
  obtain ⟨g2, c2, rfl, _, _, _, r2, b2⟩ := h2.form (smallG_len hk16) (by omega)
  have B2 := hb1.trans (b2.mono hb1.size)
  have L2 := L1.step b2
  go_wp2_with fail
  refine (rsmall_any _).mono ?_
  rintro e w3 h3
  obtain ⟨g3, c3, rfl, m3, _, _, r3, b3⟩ := h3.form smallL_len (by omega)
  have B3 := B2.trans (b3.mono B2.size)
  have L3 := L2.step b3
  have m3 : (80 : Int) ≤ (c3 : Int) := by omega
  have m4 : 5 * (k : Int) + 5 ≤ (c3 : Int) := by omega
  have m5 : 5 * (k : Int) < (c3 : Int) := by omega
  clear h2 h3
  go_wp2_with fail
  refine (same_any _ _ _ _ _ _ (smallG k) (smallG k) _ (smallG_len hk16) (smallG_len hk16) (by omega) (by omega) (r2.below b3) (r3.part0 (5 * k) 5)).mono ?_
  rintro e w4 ⟨rfl, b4⟩
  rw [decide_eq_true rfl]
  have L4 := L3.step b4
  have B4 := B3.trans (b4.mono B3.size)
  clear r2 r3 b2 b3 b4 m3 m4 m5 L1 L2 L3 B2 B3 hb1
  go_wp2_with fail
  refine (glyph_big n k _ h hk L4).mono ?_
  rintro e w5 h2
  obtain ⟨g5, c5, rfl, _, _, _, r2, b2⟩ := h2.form (bigG_len hk16) (by omega)
  have B5 := B4.trans (b2.mono B4.size)
  go_wp2_with fail
  refine (rbig_any _).mono ?_
  rintro e w6 h3
  obtain ⟨g6, c6, rfl, m3, _, _, r3, b3⟩ := h3.form bigL_len (by omega)
  have B6 := B5.trans (b3.mono B5.size)
  have m3 : (160 : Int) ≤ (c6 : Int) := by omega
  have m4 : 10 * (k : Int) + 10 ≤ (c6 : Int) := by omega
  have m5 : 10 * (k : Int) < (c6 : Int) := by omega
  clear h2 h3
  go_wp2_with fail
  refine (same_any _ _ _ _ _ _ (bigG k) (bigG k) _ (bigG_len hk16) (bigG_len hk16) (by omega) (by omega) (r2.below b3) (r3.part0 (10 * k) 10)).mono ?_
  rintro e w7 ⟨rfl, b7⟩
  rw [decide_eq_true rfl]
  have B7 := B6.trans (b7.mono B6.size)
  clear r2 r3 b2 b3 b7 m3 m4 m5 L4 B4 B5 B6
  go_wp2
  go_ret
  exact ⟨rfl, B7⟩

theorem fontMatchesReference_walk (n : Int) (w0 : (Lit.int .i64 n).wf = true) (w : World) (hL : Laid w) :
    Calls Tryd.prog 3 #[.int .i64 n] w fun e w' => e = .returned (.bool true) ∧ Below w.heap.size w w' := by
  by_cases h : 0 ≤ n
  · exact fontMatchesReference_yes n w h hL
  · exact fontMatchesReference_no n w (by omega) hL
end Go.Proofs.YtcihdfiomogiaaaDoor
