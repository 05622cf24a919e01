/- The walk of ProfileNames. -/
import Derived.Test.YtgndlgcgphgilaaDoorProfNums
namespace Go.Proofs.YtgndlgcgphgilaaDoor
open Go.RowKit Num
set_option linter.unusedVariables false

set_option maxRecDepth 100000 in
set_option maxHeartbeats 4000000 in
theorem pnames_yes (s : ByteArray) (l : Int) (b0 b1 b2 b3 b4 b5 b6 : Bool) (w : World) (hL : Laid w) (ws : s.size ≤ maxLen) (hs : s.size ≤ 1000) (h0 : 1 ≤ l) (h1 : l ≤ 3)
    (Hp : Hid (∀ w, Laid w → Calls Tryd.prog 16 #[.string s] w fun e w' => e = .returned (.tuple #[profV l b0 b1 b2 b3 b4 b5 b6, .int .i64 0]) ∧ Below w.heap.size w w'))
    (Hn : Hid (∀ w, Calls Tryd.prog 15 #[profV l b0 b1 b2 b3 b4 b5 b6] w fun e w' => e = .returned (.string s) ∧ Below w.heap.size w w')) :
    Calls Tryd.prog 5 #[.string s] w fun e w' => e = .returned (.bool true) ∧ Below w.heap.size w w' := by
  unfold maxLen at ws
  have S0 := Lib.hid (Since.start hL)
  clear hL
  go_enter Tryd.func5, Tryd.ntmps5
  go_wp2_with fail
  refine (awake2 _ S0.out.laid).mono ?_
  rintro e w1 ⟨rfl, hb1⟩
  have S1 := Lib.hid (S0.out.step hb1)
  clear hb1 S0
  go_wp2_with fail
  refine (Hp.out _ S1.out.laid).mono ?_
  rintro e w2 ⟨rfl, hb2⟩
  have S2 := Lib.hid ((S1.out.step hb2).alloc (.cells #[.int .i64 l, .bool b0, .bool b1, .bool b2, .bool b3, .bool b4, .bool b5, .bool b6] 23))
  have hP2 := Lib.hid (Holds.new w2 23 l b0 b1 b2 b3 b4 b5 b6)
  clear hb2 S1
  go_wp2_with fail
  refine (rvalid_yes l b0 b1 b2 b3 b4 b5 b6 _ h0 h1).mono ?_
  rintro e w3 ⟨rfl, hb3⟩
  have S3 := Lib.hid (S2.out.step hb3)
  have hc := hP2.out.step hb3
  clear hb3 S2 hP2
  obtain ⟨y1, c0, c1, c2, c3, c4, c5, c6, c7⟩ := hc
  go_wp2_with fail
  refine (Hn.out _).mono ?_
  rintro e w4 ⟨rfl, hb4⟩
  have S4 := S3.out.step hb4
  have kb := S4.below
  clear S4 hb4 S3 c0 c1 c2 c3 c4 c5 c6 c7
  go_wp2_with fail
  go_ret
  exact ⟨by simp, kb⟩

set_option maxRecDepth 100000 in
set_option maxHeartbeats 4000000 in
theorem pnames_no (s : ByteArray) (w : World) (hL : Laid w) (ws : s.size ≤ maxLen) (hs : s.size ≤ 1000)
    (Hp : Hid (∀ w, Laid w → Calls Tryd.prog 16 #[.string s] w fun e w' => e = .returned (.tuple #[profV 0 false false false false false false false, .int .i64 6]) ∧ Below w.heap.size w w'))
    (Hne : Hid (∀ (l : Int) (b0 b1 b2 b3 b4 b5 b6 : Bool), 1 ≤ l → l ≤ 3 → nameTo l b0 b1 b2 b3 b4 b5 b6 7 ≠ s)) :
    Calls Tryd.prog 5 #[.string s] w fun e w' => e = .returned (.bool true) ∧ Below w.heap.size w w' := by
  unfold maxLen at ws
  have S0 := Lib.hid (Since.start hL)
  clear hL
  go_enter Tryd.func5, Tryd.ntmps5
  go_wp2_with fail
  refine (awake2 _ S0.out.laid).mono ?_
  rintro e w1 ⟨rfl, hb1⟩
  have S1 := Lib.hid (S0.out.step hb1)
  clear hb1 S0
  go_wp2_with fail
  refine (Hp.out _ S1.out.laid).mono ?_
  rintro e w2 ⟨rfl, hb2⟩
  have S2 := Lib.hid ((S1.out.step hb2).alloc (.cells #[.int .i64 0, .bool false, .bool false, .bool false, .bool false, .bool false, .bool false, .bool false] 23))
  clear hb2 S1
  go_wp2_with fail
  go_loopw [5] (fun n wr => ∃ k : Nat, k ≤ 384 ∧ n = .int .i64 k ∧ Since w wr) (fun n _ => 384 - (intOf n).toNat)
  case atStart => exact ⟨0, by omega, rfl, S2.out⟩
  case round =>
    clear S2
    obtain ⟨k, hk, rfl, hS⟩ := hrel
    have S3 := Lib.hid hS
    clear hS
    by_cases hlt : k < 384
    · have Hat := Lib.hid fun w => rat_any k w hlt
      have Hnm := Lib.hid fun w => rname_yes (1 + (k : Int) / 128) (bitB k 1) (bitB k 2) (bitB k 4) (bitB k 8) (bitB k 16) (bitB k 32) (bitB k 64) w (by omega) (by omega)
      have hne := Hne.out (1 + (k : Int) / 128) (bitB k 1) (bitB k 2) (bitB k 4) (bitB k 8) (bitB k 16) (bitB k 32) (bitB k 64) (by omega) (by omega)
      generalize nameTo (1 + (k : Int) / 128) (bitB k 1) (bitB k 2) (bitB k 4) (bitB k 8) (bitB k 16) (bitB k 32) (bitB k 64) 7 = N at *
      generalize 1 + (k : Int) / 128 = q at *
      generalize bitB k 1 = d0 at *
      generalize bitB k 2 = d1 at *
      generalize bitB k 4 = d2 at *
      generalize bitB k 8 = d3 at *
      generalize bitB k 16 = d4 at *
      generalize bitB k 32 = d5 at *
      generalize bitB k 64 = d6 at *
      have q1 : (N.toList == s.toList) = false := by
        rw [beq_eq_false_iff_ne]
        intro e
        rw [Go.ByteArray.toList_eq, Go.ByteArray.toList_eq] at e
        exact hne (Go.WideShapes.bytes_inj e)
      clear hne
      go_wp2_with fail
      refine (Hat.out _).mono ?_
      rintro e w4 ⟨rfl, hb4⟩
      have S4 := Lib.hid (S3.out.step hb4)
      clear hb4 S3 Hat
      go_wp2_with fail
      refine (Hnm.out _).mono ?_
      rintro e w5 ⟨rfl, hb5⟩
      have S5 := Lib.hid (S4.out.step hb5)
      clear hb5 S4 Hnm
      go_wp2_with fail
      go_roundw
      case rel => exact ⟨k + 1, by omega, by go_num, S5.out⟩
      case measure => simp [intOf]; omega
    · go_wp2_with fail
      go_ret
      exact ⟨rfl, S3.out.below⟩

theorem profileNames_walk (s : ByteArray) (ws : s.size ≤ maxLen) (w : World) (hL : Laid w) :
    Calls Tryd.prog 5 #[.string s] w fun e w' => e = .returned (.bool true) ∧ Below w.heap.size w w' := by
  by_cases hs : s.size ≤ 1000
  · have hp := fun w hL => parse_any s w ws hL
    rcases parse_ways s with ⟨l, b0, b1, b2, b3, b4, b5, b6, h0, h1, e, ev⟩ | ⟨ev, hne⟩
    · rw [ev] at hp
      have hn := fun w => rname_yes l b0 b1 b2 b3 b4 b5 b6 w h0 h1
      rw [← e] at hn
      exact pnames_yes s l b0 b1 b2 b3 b4 b5 b6 w hL ws hs h0 h1 (Lib.hid hp) (Lib.hid hn)
    · rw [ev] at hp
      exact pnames_no s w hL ws hs (Lib.hid hp) (Lib.hid hne)
  · unfold maxLen at ws
    have S0 := Lib.hid (Since.start hL)
    clear hL
    have q1 : (1000 : Int) < (s.size : Int) := by omega
    go_enter Tryd.func5, Tryd.ntmps5
    go_wp2_with fail
    refine (awake2 _ S0.out.laid).mono ?_
    rintro e w1 ⟨rfl, hb1⟩
    have S1 := Lib.hid (S0.out.step hb1)
    clear hb1 S0
    go_wp2_with fail
    refine (awake2 _ S1.out.laid).mono ?_
    rintro e w2 ⟨rfl, hb2⟩
    have S2 := S1.out.step hb2
    clear hb2
    go_wp2_with fail
    go_ret
    exact ⟨rfl, S2.below⟩
end Go.Proofs.YtgndlgcgphgilaaDoor
