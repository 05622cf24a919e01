/- Numbers of profiles, and the walk of ProfileNumbers. -/
import Derived.Test.YtgndlgcgphgilaaDoorProfRefW
namespace Go.Proofs.YtgndlgcgphgilaaDoor
open Go.RowKit Num
set_option linter.unusedVariables false

theorem num_at : ∀ k : Nat, k < 384 → numTo (1 + (k : Int) / 128) (bitB k 1) (bitB k 2) (bitB k 4) (bitB k 8) (bitB k 16) (bitB k 32) (bitB k 64) 7 = k := by decide +kernel
theorem back1 : ∀ (b0 b1 b2 b3 b4 b5 b6 : Bool), (numTo 1 b0 b1 b2 b3 b4 b5 b6 7).toNat < 384 ∧ 1 + ((numTo 1 b0 b1 b2 b3 b4 b5 b6 7).toNat : Int) / 128 = 1 ∧ ((numTo 1 b0 b1 b2 b3 b4 b5 b6 7).toNat : Int) = numTo 1 b0 b1 b2 b3 b4 b5 b6 7 ∧ bitB (numTo 1 b0 b1 b2 b3 b4 b5 b6 7).toNat 1 = b0 ∧ bitB (numTo 1 b0 b1 b2 b3 b4 b5 b6 7).toNat 2 = b1 ∧ bitB (numTo 1 b0 b1 b2 b3 b4 b5 b6 7).toNat 4 = b2 ∧ bitB (numTo 1 b0 b1 b2 b3 b4 b5 b6 7).toNat 8 = b3 ∧ bitB (numTo 1 b0 b1 b2 b3 b4 b5 b6 7).toNat 16 = b4 ∧ bitB (numTo 1 b0 b1 b2 b3 b4 b5 b6 7).toNat 32 = b5 ∧ bitB (numTo 1 b0 b1 b2 b3 b4 b5 b6 7).toNat 64 = b6 := by decide +kernel
theorem back2 : ∀ (b0 b1 b2 b3 b4 b5 b6 : Bool), (numTo 2 b0 b1 b2 b3 b4 b5 b6 7).toNat < 384 ∧ 1 + ((numTo 2 b0 b1 b2 b3 b4 b5 b6 7).toNat : Int) / 128 = 2 ∧ ((numTo 2 b0 b1 b2 b3 b4 b5 b6 7).toNat : Int) = numTo 2 b0 b1 b2 b3 b4 b5 b6 7 ∧ bitB (numTo 2 b0 b1 b2 b3 b4 b5 b6 7).toNat 1 = b0 ∧ bitB (numTo 2 b0 b1 b2 b3 b4 b5 b6 7).toNat 2 = b1 ∧ bitB (numTo 2 b0 b1 b2 b3 b4 b5 b6 7).toNat 4 = b2 ∧ bitB (numTo 2 b0 b1 b2 b3 b4 b5 b6 7).toNat 8 = b3 ∧ bitB (numTo 2 b0 b1 b2 b3 b4 b5 b6 7).toNat 16 = b4 ∧ bitB (numTo 2 b0 b1 b2 b3 b4 b5 b6 7).toNat 32 = b5 ∧ bitB (numTo 2 b0 b1 b2 b3 b4 b5 b6 7).toNat 64 = b6 := by decide +kernel
theorem back3 : ∀ (b0 b1 b2 b3 b4 b5 b6 : Bool), (numTo 3 b0 b1 b2 b3 b4 b5 b6 7).toNat < 384 ∧ 1 + ((numTo 3 b0 b1 b2 b3 b4 b5 b6 7).toNat : Int) / 128 = 3 ∧ ((numTo 3 b0 b1 b2 b3 b4 b5 b6 7).toNat : Int) = numTo 3 b0 b1 b2 b3 b4 b5 b6 7 ∧ bitB (numTo 3 b0 b1 b2 b3 b4 b5 b6 7).toNat 1 = b0 ∧ bitB (numTo 3 b0 b1 b2 b3 b4 b5 b6 7).toNat 2 = b1 ∧ bitB (numTo 3 b0 b1 b2 b3 b4 b5 b6 7).toNat 4 = b2 ∧ bitB (numTo 3 b0 b1 b2 b3 b4 b5 b6 7).toNat 8 = b3 ∧ bitB (numTo 3 b0 b1 b2 b3 b4 b5 b6 7).toNat 16 = b4 ∧ bitB (numTo 3 b0 b1 b2 b3 b4 b5 b6 7).toNat 32 = b5 ∧ bitB (numTo 3 b0 b1 b2 b3 b4 b5 b6 7).toNat 64 = b6 := by decide +kernel
theorem at_prof (l : Int) (b0 b1 b2 b3 b4 b5 b6 : Bool) (w : World) (h0 : 1 ≤ l) (h1 : l ≤ 3) :
    Calls Tryd.prog 8 #[.int .i64 (numTo l b0 b1 b2 b3 b4 b5 b6 7)] w fun e w' => e = .returned (.tuple #[profV l b0 b1 b2 b3 b4 b5 b6, .int .i64 0]) ∧ Below w.heap.size w w' := by
  have hb : (numTo l b0 b1 b2 b3 b4 b5 b6 7).toNat < 384 ∧ 1 + ((numTo l b0 b1 b2 b3 b4 b5 b6 7).toNat : Int) / 128 = l ∧ ((numTo l b0 b1 b2 b3 b4 b5 b6 7).toNat : Int) = numTo l b0 b1 b2 b3 b4 b5 b6 7 ∧ bitB (numTo l b0 b1 b2 b3 b4 b5 b6 7).toNat 1 = b0 ∧ bitB (numTo l b0 b1 b2 b3 b4 b5 b6 7).toNat 2 = b1 ∧ bitB (numTo l b0 b1 b2 b3 b4 b5 b6 7).toNat 4 = b2 ∧ bitB (numTo l b0 b1 b2 b3 b4 b5 b6 7).toNat 8 = b3 ∧ bitB (numTo l b0 b1 b2 b3 b4 b5 b6 7).toNat 16 = b4 ∧ bitB (numTo l b0 b1 b2 b3 b4 b5 b6 7).toNat 32 = b5 ∧ bitB (numTo l b0 b1 b2 b3 b4 b5 b6 7).toNat 64 = b6 := by
    obtain rfl | rfl | rfl : l = 1 ∨ l = 2 ∨ l = 3 := by omega
    · exact back1 b0 b1 b2 b3 b4 b5 b6
    · exact back2 b0 b1 b2 b3 b4 b5 b6
    · exact back3 b0 b1 b2 b3 b4 b5 b6
  obtain ⟨e0, e1, e2, f0, f1, f2, f3, f4, f5, f6⟩ := hb
  have h := at_num _ w e0
  rw [e1, e2, f0, f1, f2, f3, f4, f5, f6] at h
  exact h
theorem parse_name (l : Int) (b0 b1 b2 b3 b4 b5 b6 : Bool) (w : World) (hL : Laid w) (h0 : 1 ≤ l) (h1 : l ≤ 3) :
    Calls Tryd.prog 16 #[.string (nameTo l b0 b1 b2 b3 b4 b5 b6 7)] w fun e w' => e = .returned (.tuple #[profV l b0 b1 b2 b3 b4 b5 b6, .int .i64 0]) ∧ Below w.heap.size w w' := by
  have h := parse_any (nameTo l b0 b1 b2 b3 b4 b5 b6 7) w (Nat.le_trans (nameTo_size l b0 b1 b2 b3 b4 b5 b6 h0 h1 7 (by omega)) (by decide)) hL
  rw [name_parse l b0 b1 b2 b3 b4 b5 b6 h0 h1] at h
  exact h

set_option maxRecDepth 100000 in
set_option maxHeartbeats 4000000 in
theorem pn_core (l : Int) (b0 b1 b2 b3 b4 b5 b6 : Bool) (n : Int) (K q : Int) (d0 d1 d2 d3 d4 d5 d6 : Bool) (N : ByteArray) (w : World) (hL : Laid w) (n0 : 0 ≤ n) (n1 : n ≤ 65535) (hK : Hid (n % 384 = K))
    (Hat : Hid (∀ w, Calls Tryd.prog 8 #[.int .i64 K] w fun e w' => e = .returned (.tuple #[profV q d0 d1 d2 d3 d4 d5 d6, .int .i64 0]) ∧ Below w.heap.size w w'))
    (Hnum : Hid (∀ w, Calls Tryd.prog 9 #[profV q d0 d1 d2 d3 d4 d5 d6] w fun e w' => e = .returned (.tuple #[.int .i64 K, .int .i64 0]) ∧ Below w.heap.size w w'))
    (Hname : Hid (∀ w, Laid w → Calls Tryd.prog 14 #[profV q d0 d1 d2 d3 d4 d5 d6] w fun e w' => e = .returned (.string N) ∧ Below w.heap.size w w'))
    (Hparse : Hid (∀ w, Laid w → Calls Tryd.prog 16 #[.string N] w fun e w' => e = .returned (.tuple #[profV q d0 d1 d2 d3 d4 d5 d6, .int .i64 0]) ∧ Below w.heap.size w w')) :
    Calls Tryd.prog 4 #[profV l b0 b1 b2 b3 b4 b5 b6, .int .u16 n] w fun e w' => e = .returned (.bool true) ∧ Below w.heap.size w w' := by
  have S0 := Lib.hid ((Since.start hL).alloc (.cells #[.int .i64 l, .bool b0, .bool b1, .bool b2, .bool b3, .bool b4, .bool b5, .bool b6] 23))
  have hP := Lib.hid (Holds.new w 23 l b0 b1 b2 b3 b4 b5 b6)
  clear hL
  go_enter Tryd.func4, Tryd.ntmps4
  go_wp2_with fail
  refine (awake2 _ S0.out.laid).mono ?_
  rintro e w1 ⟨rfl, hb1⟩
  have S1 := Lib.hid (S0.out.step hb1)
  have hP1 := Lib.hid (hP.out.step hb1)
  clear hb1 S0 hP
  go_wp2_with fail
  have hk := hK.out
  generalize n % 384 = K' at *
  subst hk
  clear hK n0 n1
  refine (Hat.out _).mono ?_
  rintro e w2 ⟨rfl, hb2⟩
  have S2 := Lib.hid ((S1.out.step hb2).alloc (.cells #[.int .i64 q, .bool d0, .bool d1, .bool d2, .bool d3, .bool d4, .bool d5, .bool d6] 23))
  have hP2 := Lib.hid ((hP1.out.step hb2).alloc (.cells #[.int .i64 q, .bool d0, .bool d1, .bool d2, .bool d3, .bool d4, .bool d5, .bool d6] 23))
  have hQ2 := Lib.hid (Holds.new w2 23 q d0 d1 d2 d3 d4 d5 d6)
  clear hb2 S1 hP1
  go_wp2_with fail
  refine (Hnum.out _).mono ?_
  rintro e w3 ⟨rfl, hb3⟩
  have S3 := Lib.hid (S2.out.step hb3)
  have hP3 := Lib.hid (hP2.out.step hb3)
  have hQ3 := Lib.hid (hQ2.out.step hb3)
  clear hb3 S2 hP2 hQ2
  have hc := hQ3.out
  obtain ⟨y2, c0, c1, c2, c3, c4, c5, c6, c7⟩ := hc
  go_wp2_with fail
  refine (Hname.out _ S3.out.laid).mono ?_
  rintro e w4 ⟨rfl, hb4⟩
  have S4 := Lib.hid (S3.out.step hb4)
  have hP4 := Lib.hid (hP3.out.step hb4)
  have hQ4 := Lib.hid (hQ3.out.step hb4)
  clear hb4 S3 hP3 hQ3 c0 c1 c2 c3 c4 c5 c6 c7
  go_wp2_with fail
  refine (Hparse.out _ S4.out.laid).mono ?_
  rintro e w5 ⟨rfl, hb5⟩
  have S5 := Lib.hid ((S4.out.step hb5).alloc (.cells #[.int .i64 q, .bool d0, .bool d1, .bool d2, .bool d3, .bool d4, .bool d5, .bool d6] 23))
  have hP5 := Lib.hid ((hP4.out.step hb5).alloc (.cells #[.int .i64 q, .bool d0, .bool d1, .bool d2, .bool d3, .bool d4, .bool d5, .bool d6] 23))
  have hc := (hQ4.out.step hb5)
  have hd := hP4.out.step hb5
  clear hb5 S4 hP4 hQ4
  obtain ⟨y3, c0, c1, c2, c3, c4, c5, c6, c7⟩ := hc
  obtain ⟨y4, g0, g1, g2, g3, g4, g5, g6, g7⟩ := hd
  by_cases h : l < 1 ∨ 3 < l
  · go_wp2_with fail
    refine (rvalid_no l b0 b1 b2 b3 b4 b5 b6 _ h).mono ?_
    rintro e w6 ⟨rfl, hb6⟩
    have S6 := Lib.hid (S5.out.step hb6)
    clear hb6 c0 c1 c2 c3 c4 c5 c6 c7 g0 g1 g2 g3 g4 g5 g6 g7
    go_wp2_with fail
    go_ret
    exact ⟨rfl, S6.out.below⟩
  · have h0 : 1 ≤ l := by omega
    have h1 : l ≤ 3 := by omega
    have Hat2 := Lib.hid fun w => at_prof l b0 b1 b2 b3 b4 b5 b6 w h0 h1
    have Hnum2 := Lib.hid fun w => number_yes l b0 b1 b2 b3 b4 b5 b6 w h0 h1
    generalize numTo l b0 b1 b2 b3 b4 b5 b6 7 = J at *
    go_wp2_with fail
    refine (rvalid_yes l b0 b1 b2 b3 b4 b5 b6 _ h0 h1).mono ?_
    rintro e w6 ⟨rfl, hb6⟩
    have S6 := Lib.hid (S5.out.step hb6)
    have hP6 := Lib.hid (hP5.out.step hb6)
    have hd := hP6.out
    clear hb6 S5 hP5 c0 c1 c2 c3 c4 c5 c6 c7 g0 g1 g2 g3 g4 g5 g6 g7
    obtain ⟨y5, g0, g1, g2, g3, g4, g5, g6, g7⟩ := hd
    go_wp2_with fail
    refine (Hnum2.out _).mono ?_
    rintro e w7 ⟨rfl, hb7⟩
    have S7 := Lib.hid (S6.out.step hb7)
    have hP7 := Lib.hid (hP6.out.step hb7)
    clear hb7 S6 hP6 g0 g1 g2 g3 g4 g5 g6 g7
    go_wp2_with fail
    refine (Hat2.out _).mono ?_
    rintro e w8 ⟨rfl, hb8⟩
    have S8 := Lib.hid ((S7.out.step hb8).alloc (.cells #[.int .i64 l, .bool b0, .bool b1, .bool b2, .bool b3, .bool b4, .bool b5, .bool b6] 23))
    have hd := hP7.out.step hb8
    clear hb8 S7 hP7
    obtain ⟨y6, g0, g1, g2, g3, g4, g5, g6, g7⟩ := hd
    go_wp2_with fail
    go_ret
    exact ⟨by simp, S8.out.below⟩

theorem profileNumbers_walk (l : Int) (b0 b1 b2 b3 b4 b5 b6 : Bool) (n : Int) (_ : (Lit.int .i64 l).wf = true) (wn : (Lit.int .u16 n).wf = true) (w : World) (hL : Laid w) :
    Calls Tryd.prog 4 #[profV l b0 b1 b2 b3 b4 b5 b6, .int .u16 n] w fun e w' => e = .returned (.bool true) ∧ Below w.heap.size w w' := by
  obtain ⟨n0, n1⟩ := bd_u16 wn
  obtain ⟨k, hk⟩ := Int.eq_ofNat_of_zero_le (show 0 ≤ n % 384 by omega)
  have hk2 : k < 384 := by omega
  have hq0 : 1 ≤ 1 + (k : Int) / 128 := by omega
  have hq1 : 1 + (k : Int) / 128 ≤ 3 := by omega
  refine pn_core l b0 b1 b2 b3 b4 b5 b6 n k (1 + (k : Int) / 128) (bitB k 1) (bitB k 2) (bitB k 4) (bitB k 8) (bitB k 16) (bitB k 32) (bitB k 64) (nameTo (1 + (k : Int) / 128) (bitB k 1) (bitB k 2) (bitB k 4) (bitB k 8) (bitB k 16) (bitB k 32) (bitB k 64) 7) w hL n0 n1 (Lib.hid hk) (Lib.hid fun w => at_num k w hk2) (Lib.hid fun w => ?_) (Lib.hid fun w hL => name_yes _ _ _ _ _ _ _ _ w hq0 hq1 hL) (Lib.hid fun w hL => parse_name _ _ _ _ _ _ _ _ w hL hq0 hq1)
  have h := number_yes (1 + (k : Int) / 128) (bitB k 1) (bitB k 2) (bitB k 4) (bitB k 8) (bitB k 16) (bitB k 32) (bitB k 64) w hq0 hq1
  rw [num_at k hk2] at h
  exact h
end Go.Proofs.YtgndlgcgphgilaaDoor
