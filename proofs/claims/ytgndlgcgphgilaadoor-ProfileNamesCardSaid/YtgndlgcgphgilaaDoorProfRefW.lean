/- The walk of ProfileMatchesReference. -/
import Derived.Test.YtgndlgcgphgilaaDoorProfAwake
import Derived.Test.YtgndlgcgphgilaaDoorCalm
namespace Go.Proofs.YtgndlgcgphgilaaDoor
open Go.RowKit Num
set_option linter.unusedVariables false

theorem Holds.calm {b : Nat} {l : Int} {b0 b1 b2 b3 b4 b5 b6 : Bool} {W : World} (h : Holds b l b0 b1 b2 b3 b4 b5 b6 W) : (∀ x : Calm W, x.w.cell? ⟨b, 0, none⟩ = some (.int .i64 l)) ∧ (∀ x : Calm W, x.w.cell? ⟨b, 1, none⟩ = some (.bool b0)) ∧ (∀ x : Calm W, x.w.cell? ⟨b, 2, none⟩ = some (.bool b1)) ∧ (∀ x : Calm W, x.w.cell? ⟨b, 3, none⟩ = some (.bool b2)) ∧ (∀ x : Calm W, x.w.cell? ⟨b, 4, none⟩ = some (.bool b3)) ∧ (∀ x : Calm W, x.w.cell? ⟨b, 5, none⟩ = some (.bool b4)) ∧ (∀ x : Calm W, x.w.cell? ⟨b, 6, none⟩ = some (.bool b5)) ∧ (∀ x : Calm W, x.w.cell? ⟨b, 7, none⟩ = some (.bool b6)) :=
  ⟨Calm.cell h.2.1 h.1, Calm.cell h.2.2.1 h.1, Calm.cell h.2.2.2.1 h.1, Calm.cell h.2.2.2.2.1 h.1, Calm.cell h.2.2.2.2.2.1 h.1, Calm.cell h.2.2.2.2.2.2.1 h.1, Calm.cell h.2.2.2.2.2.2.2.1 h.1, Calm.cell h.2.2.2.2.2.2.2.2 h.1⟩
theorem atB_bitB (n : Nat) : atB n 7 0 = bitB n 1 ∧ atB n 7 1 = bitB n 2 ∧ atB n 7 2 = bitB n 4 ∧ atB n 7 3 = bitB n 8 ∧ atB n 7 4 = bitB n 16 ∧ atB n 7 5 = bitB n 32 ∧ atB n 7 6 = bitB n 64 := by
  simp [atB, bitB]
theorem at_num (n : Nat) (w : World) (h : n < 384) :
    Calls Tryd.prog 8 #[.int .i64 n] w fun e w' => e = .returned (.tuple #[profV (1 + n / 128) (bitB n 1) (bitB n 2) (bitB n 4) (bitB n 8) (bitB n 16) (bitB n 32) (bitB n 64), .int .i64 0]) ∧ Below w.heap.size w w' := by
  have e := at_yes n w h
  obtain ⟨a0, a1, a2, a3, a4, a5, a6⟩ := atB_bitB n
  rw [a0, a1, a2, a3, a4, a5, a6] at e
  exact e
theorem rvalid_yes (l : Int) (b0 b1 b2 b3 b4 b5 b6 : Bool) (w : World) (h0 : 1 ≤ l) (h1 : l ≤ 3) :
    Calls Tryd.prog 11 #[profV l b0 b1 b2 b3 b4 b5 b6] w fun e w' => e = .returned (.bool true) ∧ Below w.heap.size w w' := by
  have h := rvalid_any l b0 b1 b2 b3 b4 b5 b6 w
  rw [decide_eq_true ⟨h0, h1⟩] at h
  exact h
theorem rvalid_no (l : Int) (b0 b1 b2 b3 b4 b5 b6 : Bool) (w : World) (h : l < 1 ∨ 3 < l) :
    Calls Tryd.prog 11 #[profV l b0 b1 b2 b3 b4 b5 b6] w fun e w' => e = .returned (.bool false) ∧ Below w.heap.size w w' := by
  have h' := rvalid_any l b0 b1 b2 b3 b4 b5 b6 w
  rw [decide_eq_false (by omega)] at h'
  exact h'

set_option maxRecDepth 100000 in
set_option maxHeartbeats 4000000 in
theorem pm_in_yes (l : Int) (b0 b1 b2 b3 b4 b5 b6 : Bool) (n : Nat) (hn : n < 384) (w : World) (hL : Laid w) (h0 : 1 ≤ l) (h1 : l ≤ 3) :
    Calls Tryd.prog 3 #[profV l b0 b1 b2 b3 b4 b5 b6, .int .i64 n] w fun e w' => e = .returned (.bool true) ∧ Below w.heap.size w w' := by
  have Hat := Lib.hid fun w => at_num n w hn
  have Hrat := Lib.hid fun w => rat_any n w hn
  generalize hq : 1 + (n : Int) / 128 = q at *
  generalize bitB n 1 = d0 at *
  generalize bitB n 2 = d1 at *
  generalize bitB n 4 = d2 at *
  generalize bitB n 8 = d3 at *
  generalize bitB n 16 = d4 at *
  generalize bitB n 32 = d5 at *
  generalize bitB n 64 = d6 at *
  clear hq
  have S0 := Lib.hid ((Since.start hL).alloc (.cells #[.int .i64 l, .bool b0, .bool b1, .bool b2, .bool b3, .bool b4, .bool b5, .bool b6] 23))
  have hP := Lib.hid (Holds.new w 23 l b0 b1 b2 b3 b4 b5 b6)
  clear hL
  go_enter Tryd.func3, Tryd.ntmps3
  go_wp2_with fail
  refine (awake2 _ S0.out.laid).mono ?_
  rintro e w1 ⟨rfl, hb1⟩
  have S1 := Lib.hid (S0.out.step hb1)
  have hP1 := Lib.hid (hP.out.step hb1)
  clear hb1 S0 hP
  go_wp2_with fail
  refine (Hat.out _).mono ?_
  rintro e w2 ⟨rfl, hb2⟩
  have S2 := Lib.hid ((S1.out.step hb2).alloc (.cells #[.int .i64 q, .bool d0, .bool d1, .bool d2, .bool d3, .bool d4, .bool d5, .bool d6] 23))
  have hP2 := Lib.hid ((hP1.out.step hb2).alloc (.cells #[.int .i64 q, .bool d0, .bool d1, .bool d2, .bool d3, .bool d4, .bool d5, .bool d6] 23))
  have hQ2 := Lib.hid (Holds.new w2 23 q d0 d1 d2 d3 d4 d5 d6)
  have hc := hP1.out.step hb2
  have y : w.heap.size < w2.heap.size := hc.1
  clear hb2 S1 hP1
  obtain ⟨y', c0, c1, c2, c3, c4, c5, c6, c7⟩ := hc
  go_wp2_with fail
  refine (number_yes l b0 b1 b2 b3 b4 b5 b6 _ h0 h1).mono ?_
  rintro e w3 ⟨rfl, hb3⟩
  have S3 := Lib.hid (S2.out.step hb3)
  have hP3 := Lib.hid (hP2.out.step hb3)
  have hQ3 := Lib.hid (hQ2.out.step hb3)
  have z3 := hQ3.out.1
  clear hb3 S2 hP2 hQ2 c0 c1 c2 c3 c4 c5 c6 c7
  obtain ⟨k0, k1, k2, k3, k4, k5, k6, k7⟩ := hQ3.out.calm
  have e0 : decide ((0 : Int) ≤ (n : Int)) = true := by simp
  have e1 : decide ((n : Int) < 384) = true := by simp; omega
  have e2 : decide ((n : Int) < 0) = false := by simp
  have e3 : decide ((384 : Int) ≤ (n : Int)) = false := by simp; omega
  go_wp2_with fail
  refine calm_region (by kernel_rfl) (by kernel_rfl) ?_
  repeat (go_big_quiet_step ((go_at_call 10; exact calm_call (Hrat.out _))))
  refine wpQuiet_nil ?_
  intro _ hw'
  obtain ⟨x, rfl⟩ := hw'
  have hb4 := x.below
  generalize x.w = w4 at *
  have S4 := Lib.hid (S3.out.step hb4)
  have hP4 := Lib.hid (hP3.out.step hb4)
  clear x S3 hP3 hQ3 hb4 k0 k1 k2 k3 k4 k5 k6 k7
  have hc := hP4.out
  obtain ⟨y2, c0, c1, c2, c3, c4, c5, c6, c7⟩ := hc
  go_wp2_with fail
  refine (rvalid_yes l b0 b1 b2 b3 b4 b5 b6 _ h0 h1).mono ?_
  rintro e w5 ⟨rfl, hb5⟩
  have S5 := Lib.hid (S4.out.step hb5)
  have hP5 := Lib.hid (hP4.out.step hb5)
  have hc := hP4.out.step hb5
  clear hb5 S4 hP4 c0 c1 c2 c3 c4 c5 c6 c7
  obtain ⟨y3, c0, c1, c2, c3, c4, c5, c6, c7⟩ := hc
  go_wp2_with fail
  refine (rnumber_any l b0 b1 b2 b3 b4 b5 b6 _ h0 h1).mono ?_
  rintro e w6 ⟨rfl, hb6⟩
  have S6 := Lib.hid (S5.out.step hb6)
  have hP6 := Lib.hid (hP5.out.step hb6)
  have hc := hP5.out.step hb6
  clear c0 c1 c2 c3 c4 c5 c6 c7
  obtain ⟨y4, c0, c1, c2, c3, c4, c5, c6, c7⟩ := hc
  go_wp2_with fail
  refine (rvalid_yes l b0 b1 b2 b3 b4 b5 b6 _ h0 h1).mono ?_
  rintro e w8 ⟨rfl, hb8⟩
  have S7 := Lib.hid (S6.out.step hb8)
  have hP7 := Lib.hid (hP6.out.step hb8)
  clear hb8 S6 hP6
  clear hb6 S5 hP5 c0 c1 c2 c3 c4 c5 c6 c7
  go_wp2_with fail
  obtain ⟨k0, k1, k2, k3, k4, k5, k6, k7⟩ := hP7.out.calm
  have HL := Lib.hid fun x : Calm w8 => S7.out.laid.below x.below S7.out.laid.1
  refine calm_region (by kernel_rfl) (by kernel_rfl) ?_
  repeat (go_big_quiet_step (first | (go_at_call 13; exact calm_call (valid_yes l b0 b1 b2 b3 b4 b5 b6 _ h0 h1)) | (go_at_call 11; exact calm_call (rvalid_yes l b0 b1 b2 b3 b4 b5 b6 _ h0 h1)) | (go_at_call 14; exact calm_call (name_yes l b0 b1 b2 b3 b4 b5 b6 _ h0 h1 (HL.out _))) | (go_at_call 15; exact calm_call (rname_yes l b0 b1 b2 b3 b4 b5 b6 _ h0 h1))))
  refine wpQuiet_nil ?_
  intro _ hw'
  obtain ⟨x, rfl⟩ := hw'
  have hb7 := x.below
  generalize x.w = w7 at *
  go_wp2_with fail
  go_ret
  exact ⟨by simp, (S7.out.step hb7).below⟩

set_option maxRecDepth 100000 in
set_option maxHeartbeats 4000000 in
theorem pm_in_no (l : Int) (b0 b1 b2 b3 b4 b5 b6 : Bool) (n : Nat) (hn : n < 384) (w : World) (hL : Laid w) (h : l < 1 ∨ 3 < l) :
    Calls Tryd.prog 3 #[profV l b0 b1 b2 b3 b4 b5 b6, .int .i64 n] w fun e w' => e = .returned (.bool true) ∧ Below w.heap.size w w' := by
  have Hat := Lib.hid fun w => at_num n w hn
  have Hrat := Lib.hid fun w => rat_any n w hn
  generalize hq : 1 + (n : Int) / 128 = q at *
  generalize bitB n 1 = d0 at *
  generalize bitB n 2 = d1 at *
  generalize bitB n 4 = d2 at *
  generalize bitB n 8 = d3 at *
  generalize bitB n 16 = d4 at *
  generalize bitB n 32 = d5 at *
  generalize bitB n 64 = d6 at *
  clear hq
  have S0 := Lib.hid ((Since.start hL).alloc (.cells #[.int .i64 l, .bool b0, .bool b1, .bool b2, .bool b3, .bool b4, .bool b5, .bool b6] 23))
  have hP := Lib.hid (Holds.new w 23 l b0 b1 b2 b3 b4 b5 b6)
  clear hL
  go_enter Tryd.func3, Tryd.ntmps3
  go_wp2_with fail
  refine (awake2 _ S0.out.laid).mono ?_
  rintro e w1 ⟨rfl, hb1⟩
  have S1 := Lib.hid (S0.out.step hb1)
  have hP1 := Lib.hid (hP.out.step hb1)
  clear hb1 S0 hP
  go_wp2_with fail
  refine (Hat.out _).mono ?_
  rintro e w2 ⟨rfl, hb2⟩
  have S2 := Lib.hid ((S1.out.step hb2).alloc (.cells #[.int .i64 q, .bool d0, .bool d1, .bool d2, .bool d3, .bool d4, .bool d5, .bool d6] 23))
  have hP2 := Lib.hid ((hP1.out.step hb2).alloc (.cells #[.int .i64 q, .bool d0, .bool d1, .bool d2, .bool d3, .bool d4, .bool d5, .bool d6] 23))
  have hQ2 := Lib.hid (Holds.new w2 23 q d0 d1 d2 d3 d4 d5 d6)
  have hc := hP1.out.step hb2
  have y : w.heap.size < w2.heap.size := hc.1
  clear hb2 S1 hP1
  obtain ⟨y', c0, c1, c2, c3, c4, c5, c6, c7⟩ := hc
  go_wp2_with fail
  refine (number_no l b0 b1 b2 b3 b4 b5 b6 _ h).mono ?_
  rintro e w3 ⟨rfl, hb3⟩
  have S3 := Lib.hid (S2.out.step hb3)
  have hP3 := Lib.hid (hP2.out.step hb3)
  have hQ3 := Lib.hid (hQ2.out.step hb3)
  have z3 := hQ3.out.1
  clear hb3 S2 hP2 hQ2 c0 c1 c2 c3 c4 c5 c6 c7
  obtain ⟨k0, k1, k2, k3, k4, k5, k6, k7⟩ := hQ3.out.calm
  have e0 : decide ((0 : Int) ≤ (n : Int)) = true := by simp
  have e1 : decide ((n : Int) < 384) = true := by simp; omega
  have e2 : decide ((n : Int) < 0) = false := by simp
  have e3 : decide ((384 : Int) ≤ (n : Int)) = false := by simp; omega
  go_wp2_with fail
  refine calm_region (by kernel_rfl) (by kernel_rfl) ?_
  repeat (go_big_quiet_step ((go_at_call 10; exact calm_call (Hrat.out _))))
  refine wpQuiet_nil ?_
  intro _ hw'
  obtain ⟨x, rfl⟩ := hw'
  have hb4 := x.below
  generalize x.w = w4 at *
  have S4 := Lib.hid (S3.out.step hb4)
  have hP4 := Lib.hid (hP3.out.step hb4)
  clear x S3 hP3 hQ3 hb4 k0 k1 k2 k3 k4 k5 k6 k7
  have hc := hP4.out
  obtain ⟨y2, c0, c1, c2, c3, c4, c5, c6, c7⟩ := hc
  go_wp2_with fail
  refine (rvalid_no l b0 b1 b2 b3 b4 b5 b6 _ h).mono ?_
  rintro e w5 ⟨rfl, hb5⟩
  have S5 := Lib.hid (S4.out.step hb5)
  have hP5 := Lib.hid (hP4.out.step hb5)
  have hc := hP4.out.step hb5
  clear hb5 S4 hP4 c0 c1 c2 c3 c4 c5 c6 c7
  obtain ⟨y3, c0, c1, c2, c3, c4, c5, c6, c7⟩ := hc
  go_wp2_with fail
  refine (rvalid_no l b0 b1 b2 b3 b4 b5 b6 _ h).mono ?_
  rintro e w6 ⟨rfl, hb6⟩
  have S6 := Lib.hid (S5.out.step hb6)
  have hP6 := Lib.hid (hP5.out.step hb6)
  clear hb6 S5 hP5 c0 c1 c2 c3 c4 c5 c6 c7
  go_wp2_with fail
  obtain ⟨k0, k1, k2, k3, k4, k5, k6, k7⟩ := hP6.out.calm
  have HL := Lib.hid fun x : Calm w6 => S6.out.laid.below x.below S6.out.laid.1
  refine calm_region (by kernel_rfl) (by kernel_rfl) ?_
  repeat (go_big_quiet_step (first | (go_at_call 13; exact calm_call (valid_no l b0 b1 b2 b3 b4 b5 b6 _ h)) | (go_at_call 11; exact calm_call (rvalid_no l b0 b1 b2 b3 b4 b5 b6 _ h)) | (go_at_call 14; exact calm_call (name_no l b0 b1 b2 b3 b4 b5 b6 _ h)) | (go_at_call 15; exact calm_call (rname_no l b0 b1 b2 b3 b4 b5 b6 _ h))))
  refine wpQuiet_nil ?_
  intro _ hw'
  obtain ⟨x, rfl⟩ := hw'
  have hb7 := x.below
  generalize x.w = w7 at *
  go_wp2_with fail
  go_ret
  exact ⟨by simp, (S6.out.step hb7).below⟩

set_option maxRecDepth 100000 in
set_option maxHeartbeats 4000000 in
theorem pm_out_yes (l : Int) (b0 b1 b2 b3 b4 b5 b6 : Bool) (n : Int) (hn : n < 0 ∨ 384 ≤ n) (w : World) (hL : Laid w) (h0 : 1 ≤ l) (h1 : l ≤ 3) :
    Calls Tryd.prog 3 #[profV l b0 b1 b2 b3 b4 b5 b6, .int .i64 n] w fun e w' => e = .returned (.bool true) ∧ Below w.heap.size w w' := by
  have Hat := Lib.hid fun w => at_no n w hn
  have S0 := Lib.hid ((Since.start hL).alloc (.cells #[.int .i64 l, .bool b0, .bool b1, .bool b2, .bool b3, .bool b4, .bool b5, .bool b6] 23))
  have hP := Lib.hid (Holds.new w 23 l b0 b1 b2 b3 b4 b5 b6)
  clear hL
  go_enter Tryd.func3, Tryd.ntmps3
  go_wp2_with fail
  refine (awake2 _ S0.out.laid).mono ?_
  rintro e w1 ⟨rfl, hb1⟩
  have S1 := Lib.hid (S0.out.step hb1)
  have hP1 := Lib.hid (hP.out.step hb1)
  clear hb1 S0 hP
  go_wp2_with fail
  refine (Hat.out _).mono ?_
  rintro e w2 ⟨rfl, hb2⟩
  have S2 := Lib.hid ((S1.out.step hb2).alloc (.cells #[.int .i64 0, .bool false, .bool false, .bool false, .bool false, .bool false, .bool false, .bool false] 23))
  have hP2 := Lib.hid ((hP1.out.step hb2).alloc (.cells #[.int .i64 0, .bool false, .bool false, .bool false, .bool false, .bool false, .bool false, .bool false] 23))
  have hQ2 := Lib.hid (Holds.new w2 23 0 false false false false false false false)
  have hc := hP1.out.step hb2
  have y : w.heap.size < w2.heap.size := hc.1
  clear hb2 S1 hP1
  obtain ⟨y', c0, c1, c2, c3, c4, c5, c6, c7⟩ := hc
  go_wp2_with fail
  refine (number_yes l b0 b1 b2 b3 b4 b5 b6 _ h0 h1).mono ?_
  rintro e w3 ⟨rfl, hb3⟩
  have S3 := Lib.hid (S2.out.step hb3)
  have hP3 := Lib.hid (hP2.out.step hb3)
  have hQ3 := Lib.hid (hQ2.out.step hb3)
  have z3 := hQ3.out.1
  clear hb3 S2 hP2 hQ2 c0 c1 c2 c3 c4 c5 c6 c7
  obtain ⟨k0, k1, k2, k3, k4, k5, k6, k7⟩ := hQ3.out.calm
  have hn2 : n < 0 ∨ (0 ≤ n ∧ 384 ≤ n) := by omega
  clear hn
  rcases hn2 with e0 | ⟨e0, e1⟩
  · have q0 : decide ((0 : Int) ≤ n) = false := decide_eq_false (by omega)
    have q1 : decide (n < 0) = true := decide_eq_true (by omega)
    clear e0
    go_wp2_with fail
    refine calm_region (by kernel_rfl) (by kernel_rfl) ?_
    repeat (go_big_quiet_step (fail))
    refine wpQuiet_nil ?_
    intro _ hw'
    obtain ⟨x, rfl⟩ := hw'
    have hb4 := x.below
    generalize x.w = w4 at *
    have S4 := Lib.hid (S3.out.step hb4)
    have hP4 := Lib.hid (hP3.out.step hb4)
    clear x S3 hP3 hQ3 hb4 k0 k1 k2 k3 k4 k5 k6 k7
    have hc := hP4.out
    obtain ⟨y2, c0, c1, c2, c3, c4, c5, c6, c7⟩ := hc
    go_wp2_with fail
    refine (rvalid_yes l b0 b1 b2 b3 b4 b5 b6 _ h0 h1).mono ?_
    rintro e w5 ⟨rfl, hb5⟩
    have S5 := Lib.hid (S4.out.step hb5)
    have hP5 := Lib.hid (hP4.out.step hb5)
    have hc := hP4.out.step hb5
    clear hb5 S4 hP4 c0 c1 c2 c3 c4 c5 c6 c7
    obtain ⟨y3, c0, c1, c2, c3, c4, c5, c6, c7⟩ := hc
    go_wp2_with fail
    refine (rnumber_any l b0 b1 b2 b3 b4 b5 b6 _ h0 h1).mono ?_
    rintro e w6 ⟨rfl, hb6⟩
    have S6 := Lib.hid (S5.out.step hb6)
    have hP6 := Lib.hid (hP5.out.step hb6)
    have hc := hP5.out.step hb6
    clear c0 c1 c2 c3 c4 c5 c6 c7
    obtain ⟨y4, c0, c1, c2, c3, c4, c5, c6, c7⟩ := hc
    go_wp2_with fail
    refine (rvalid_yes l b0 b1 b2 b3 b4 b5 b6 _ h0 h1).mono ?_
    rintro e w8 ⟨rfl, hb8⟩
    have S7 := Lib.hid (S6.out.step hb8)
    have hP7 := Lib.hid (hP6.out.step hb8)
    clear hb8 S6 hP6
    clear hb6 S5 hP5 c0 c1 c2 c3 c4 c5 c6 c7
    go_wp2_with fail
    obtain ⟨k0, k1, k2, k3, k4, k5, k6, k7⟩ := hP7.out.calm
    have HL := Lib.hid fun x : Calm w8 => S7.out.laid.below x.below S7.out.laid.1
    refine calm_region (by kernel_rfl) (by kernel_rfl) ?_
    repeat (go_big_quiet_step (first | (go_at_call 13; exact calm_call (valid_yes l b0 b1 b2 b3 b4 b5 b6 _ h0 h1)) | (go_at_call 11; exact calm_call (rvalid_yes l b0 b1 b2 b3 b4 b5 b6 _ h0 h1)) | (go_at_call 14; exact calm_call (name_yes l b0 b1 b2 b3 b4 b5 b6 _ h0 h1 (HL.out _))) | (go_at_call 15; exact calm_call (rname_yes l b0 b1 b2 b3 b4 b5 b6 _ h0 h1))))
    refine wpQuiet_nil ?_
    intro _ hw'
    obtain ⟨x, rfl⟩ := hw'
    have hb7 := x.below
    generalize x.w = w7 at *
    go_wp2_with fail
    go_ret
    exact ⟨by simp, (S7.out.step hb7).below⟩
  · have q0 : decide ((0 : Int) ≤ n) = true := decide_eq_true (by omega)
    have q1 : decide (n < 384) = false := decide_eq_false (by omega)
    have q2 : decide (n < 0) = false := decide_eq_false (by omega)
    have q3 : decide ((384 : Int) ≤ n) = true := decide_eq_true (by omega)
    clear e0 e1
    go_wp2_with fail
    refine calm_region (by kernel_rfl) (by kernel_rfl) ?_
    repeat (go_big_quiet_step (fail))
    refine wpQuiet_nil ?_
    intro _ hw'
    obtain ⟨x, rfl⟩ := hw'
    have hb4 := x.below
    generalize x.w = w4 at *
    have S4 := Lib.hid (S3.out.step hb4)
    have hP4 := Lib.hid (hP3.out.step hb4)
    clear x S3 hP3 hQ3 hb4 k0 k1 k2 k3 k4 k5 k6 k7
    have hc := hP4.out
    obtain ⟨y2, c0, c1, c2, c3, c4, c5, c6, c7⟩ := hc
    go_wp2_with fail
    refine (rvalid_yes l b0 b1 b2 b3 b4 b5 b6 _ h0 h1).mono ?_
    rintro e w5 ⟨rfl, hb5⟩
    have S5 := Lib.hid (S4.out.step hb5)
    have hP5 := Lib.hid (hP4.out.step hb5)
    have hc := hP4.out.step hb5
    clear hb5 S4 hP4 c0 c1 c2 c3 c4 c5 c6 c7
    obtain ⟨y3, c0, c1, c2, c3, c4, c5, c6, c7⟩ := hc
    go_wp2_with fail
    refine (rnumber_any l b0 b1 b2 b3 b4 b5 b6 _ h0 h1).mono ?_
    rintro e w6 ⟨rfl, hb6⟩
    have S6 := Lib.hid (S5.out.step hb6)
    have hP6 := Lib.hid (hP5.out.step hb6)
    have hc := hP5.out.step hb6
    clear c0 c1 c2 c3 c4 c5 c6 c7
    obtain ⟨y4, c0, c1, c2, c3, c4, c5, c6, c7⟩ := hc
    go_wp2_with fail
    refine (rvalid_yes l b0 b1 b2 b3 b4 b5 b6 _ h0 h1).mono ?_
    rintro e w8 ⟨rfl, hb8⟩
    have S7 := Lib.hid (S6.out.step hb8)
    have hP7 := Lib.hid (hP6.out.step hb8)
    clear hb8 S6 hP6
    clear hb6 S5 hP5 c0 c1 c2 c3 c4 c5 c6 c7
    go_wp2_with fail
    obtain ⟨k0, k1, k2, k3, k4, k5, k6, k7⟩ := hP7.out.calm
    have HL := Lib.hid fun x : Calm w8 => S7.out.laid.below x.below S7.out.laid.1
    refine calm_region (by kernel_rfl) (by kernel_rfl) ?_
    repeat (go_big_quiet_step (first | (go_at_call 13; exact calm_call (valid_yes l b0 b1 b2 b3 b4 b5 b6 _ h0 h1)) | (go_at_call 11; exact calm_call (rvalid_yes l b0 b1 b2 b3 b4 b5 b6 _ h0 h1)) | (go_at_call 14; exact calm_call (name_yes l b0 b1 b2 b3 b4 b5 b6 _ h0 h1 (HL.out _))) | (go_at_call 15; exact calm_call (rname_yes l b0 b1 b2 b3 b4 b5 b6 _ h0 h1))))
    refine wpQuiet_nil ?_
    intro _ hw'
    obtain ⟨x, rfl⟩ := hw'
    have hb7 := x.below
    generalize x.w = w7 at *
    go_wp2_with fail
    go_ret
    exact ⟨by simp, (S7.out.step hb7).below⟩

set_option maxRecDepth 100000 in
set_option maxHeartbeats 4000000 in
theorem pm_out_no (l : Int) (b0 b1 b2 b3 b4 b5 b6 : Bool) (n : Int) (hn : n < 0 ∨ 384 ≤ n) (w : World) (hL : Laid w) (h : l < 1 ∨ 3 < l) :
    Calls Tryd.prog 3 #[profV l b0 b1 b2 b3 b4 b5 b6, .int .i64 n] w fun e w' => e = .returned (.bool true) ∧ Below w.heap.size w w' := by
  have Hat := Lib.hid fun w => at_no n w hn
  have S0 := Lib.hid ((Since.start hL).alloc (.cells #[.int .i64 l, .bool b0, .bool b1, .bool b2, .bool b3, .bool b4, .bool b5, .bool b6] 23))
  have hP := Lib.hid (Holds.new w 23 l b0 b1 b2 b3 b4 b5 b6)
  clear hL
  go_enter Tryd.func3, Tryd.ntmps3
  go_wp2_with fail
  refine (awake2 _ S0.out.laid).mono ?_
  rintro e w1 ⟨rfl, hb1⟩
  have S1 := Lib.hid (S0.out.step hb1)
  have hP1 := Lib.hid (hP.out.step hb1)
  clear hb1 S0 hP
  go_wp2_with fail
  refine (Hat.out _).mono ?_
  rintro e w2 ⟨rfl, hb2⟩
  have S2 := Lib.hid ((S1.out.step hb2).alloc (.cells #[.int .i64 0, .bool false, .bool false, .bool false, .bool false, .bool false, .bool false, .bool false] 23))
  have hP2 := Lib.hid ((hP1.out.step hb2).alloc (.cells #[.int .i64 0, .bool false, .bool false, .bool false, .bool false, .bool false, .bool false, .bool false] 23))
  have hQ2 := Lib.hid (Holds.new w2 23 0 false false false false false false false)
  have hc := hP1.out.step hb2
  have y : w.heap.size < w2.heap.size := hc.1
  clear hb2 S1 hP1
  obtain ⟨y', c0, c1, c2, c3, c4, c5, c6, c7⟩ := hc
  go_wp2_with fail
  refine (number_no l b0 b1 b2 b3 b4 b5 b6 _ h).mono ?_
  rintro e w3 ⟨rfl, hb3⟩
  have S3 := Lib.hid (S2.out.step hb3)
  have hP3 := Lib.hid (hP2.out.step hb3)
  have hQ3 := Lib.hid (hQ2.out.step hb3)
  have z3 := hQ3.out.1
  clear hb3 S2 hP2 hQ2 c0 c1 c2 c3 c4 c5 c6 c7
  obtain ⟨k0, k1, k2, k3, k4, k5, k6, k7⟩ := hQ3.out.calm
  have hn2 : n < 0 ∨ (0 ≤ n ∧ 384 ≤ n) := by omega
  clear hn
  rcases hn2 with e0 | ⟨e0, e1⟩
  · have q0 : decide ((0 : Int) ≤ n) = false := decide_eq_false (by omega)
    have q1 : decide (n < 0) = true := decide_eq_true (by omega)
    clear e0
    go_wp2_with fail
    refine calm_region (by kernel_rfl) (by kernel_rfl) ?_
    repeat (go_big_quiet_step (fail))
    refine wpQuiet_nil ?_
    intro _ hw'
    obtain ⟨x, rfl⟩ := hw'
    have hb4 := x.below
    generalize x.w = w4 at *
    have S4 := Lib.hid (S3.out.step hb4)
    have hP4 := Lib.hid (hP3.out.step hb4)
    clear x S3 hP3 hQ3 hb4 k0 k1 k2 k3 k4 k5 k6 k7
    have hc := hP4.out
    obtain ⟨y2, c0, c1, c2, c3, c4, c5, c6, c7⟩ := hc
    go_wp2_with fail
    refine (rvalid_no l b0 b1 b2 b3 b4 b5 b6 _ h).mono ?_
    rintro e w5 ⟨rfl, hb5⟩
    have S5 := Lib.hid (S4.out.step hb5)
    have hP5 := Lib.hid (hP4.out.step hb5)
    have hc := hP4.out.step hb5
    clear hb5 S4 hP4 c0 c1 c2 c3 c4 c5 c6 c7
    obtain ⟨y3, c0, c1, c2, c3, c4, c5, c6, c7⟩ := hc
    go_wp2_with fail
    refine (rvalid_no l b0 b1 b2 b3 b4 b5 b6 _ h).mono ?_
    rintro e w6 ⟨rfl, hb6⟩
    have S6 := Lib.hid (S5.out.step hb6)
    have hP6 := Lib.hid (hP5.out.step hb6)
    clear hb6 S5 hP5 c0 c1 c2 c3 c4 c5 c6 c7
    go_wp2_with fail
    obtain ⟨k0, k1, k2, k3, k4, k5, k6, k7⟩ := hP6.out.calm
    have HL := Lib.hid fun x : Calm w6 => S6.out.laid.below x.below S6.out.laid.1
    refine calm_region (by kernel_rfl) (by kernel_rfl) ?_
    repeat (go_big_quiet_step (first | (go_at_call 13; exact calm_call (valid_no l b0 b1 b2 b3 b4 b5 b6 _ h)) | (go_at_call 11; exact calm_call (rvalid_no l b0 b1 b2 b3 b4 b5 b6 _ h)) | (go_at_call 14; exact calm_call (name_no l b0 b1 b2 b3 b4 b5 b6 _ h)) | (go_at_call 15; exact calm_call (rname_no l b0 b1 b2 b3 b4 b5 b6 _ h))))
    refine wpQuiet_nil ?_
    intro _ hw'
    obtain ⟨x, rfl⟩ := hw'
    have hb7 := x.below
    generalize x.w = w7 at *
    go_wp2_with fail
    go_ret
    exact ⟨by simp, (S6.out.step hb7).below⟩
  · have q0 : decide ((0 : Int) ≤ n) = true := decide_eq_true (by omega)
    have q1 : decide (n < 384) = false := decide_eq_false (by omega)
    have q2 : decide (n < 0) = false := decide_eq_false (by omega)
    have q3 : decide ((384 : Int) ≤ n) = true := decide_eq_true (by omega)
    clear e0 e1
    go_wp2_with fail
    refine calm_region (by kernel_rfl) (by kernel_rfl) ?_
    repeat (go_big_quiet_step (fail))
    refine wpQuiet_nil ?_
    intro _ hw'
    obtain ⟨x, rfl⟩ := hw'
    have hb4 := x.below
    generalize x.w = w4 at *
    have S4 := Lib.hid (S3.out.step hb4)
    have hP4 := Lib.hid (hP3.out.step hb4)
    clear x S3 hP3 hQ3 hb4 k0 k1 k2 k3 k4 k5 k6 k7
    have hc := hP4.out
    obtain ⟨y2, c0, c1, c2, c3, c4, c5, c6, c7⟩ := hc
    go_wp2_with fail
    refine (rvalid_no l b0 b1 b2 b3 b4 b5 b6 _ h).mono ?_
    rintro e w5 ⟨rfl, hb5⟩
    have S5 := Lib.hid (S4.out.step hb5)
    have hP5 := Lib.hid (hP4.out.step hb5)
    have hc := hP4.out.step hb5
    clear hb5 S4 hP4 c0 c1 c2 c3 c4 c5 c6 c7
    obtain ⟨y3, c0, c1, c2, c3, c4, c5, c6, c7⟩ := hc
    go_wp2_with fail
    refine (rvalid_no l b0 b1 b2 b3 b4 b5 b6 _ h).mono ?_
    rintro e w6 ⟨rfl, hb6⟩
    have S6 := Lib.hid (S5.out.step hb6)
    have hP6 := Lib.hid (hP5.out.step hb6)
    clear hb6 S5 hP5 c0 c1 c2 c3 c4 c5 c6 c7
    go_wp2_with fail
    obtain ⟨k0, k1, k2, k3, k4, k5, k6, k7⟩ := hP6.out.calm
    have HL := Lib.hid fun x : Calm w6 => S6.out.laid.below x.below S6.out.laid.1
    refine calm_region (by kernel_rfl) (by kernel_rfl) ?_
    repeat (go_big_quiet_step (first | (go_at_call 13; exact calm_call (valid_no l b0 b1 b2 b3 b4 b5 b6 _ h)) | (go_at_call 11; exact calm_call (rvalid_no l b0 b1 b2 b3 b4 b5 b6 _ h)) | (go_at_call 14; exact calm_call (name_no l b0 b1 b2 b3 b4 b5 b6 _ h)) | (go_at_call 15; exact calm_call (rname_no l b0 b1 b2 b3 b4 b5 b6 _ h))))
    refine wpQuiet_nil ?_
    intro _ hw'
    obtain ⟨x, rfl⟩ := hw'
    have hb7 := x.below
    generalize x.w = w7 at *
    go_wp2_with fail
    go_ret
    exact ⟨by simp, (S6.out.step hb7).below⟩

theorem profileMatchesReference_walk (l : Int) (b0 b1 b2 b3 b4 b5 b6 : Bool) (n : Int) (_ : (Lit.int .i64 l).wf = true) (_ : (Lit.int .i64 n).wf = true) (w : World) (hL : Laid w) :
    Calls Tryd.prog 3 #[profV l b0 b1 b2 b3 b4 b5 b6, .int .i64 n] w fun e w' => e = .returned (.bool true) ∧ Below w.heap.size w w' := by
  by_cases hn : n < 0 ∨ 384 ≤ n
  · by_cases h : l < 1 ∨ 3 < l
    · exact pm_out_no l b0 b1 b2 b3 b4 b5 b6 n hn w hL h
    · exact pm_out_yes l b0 b1 b2 b3 b4 b5 b6 n hn w hL (by omega) (by omega)
  · obtain ⟨N, rfl⟩ := Int.eq_ofNat_of_zero_le (show 0 ≤ n by omega)
    by_cases h : l < 1 ∨ 3 < l
    · exact pm_in_no l b0 b1 b2 b3 b4 b5 b6 N (by omega) w hL h
    · exact pm_in_yes l b0 b1 b2 b3 b4 b5 b6 N (by omega) w hL (by omega) (by omega)
end Go.Proofs.YtgndlgcgphgilaaDoor
