/- The walk of ProfileQuirks. -/
import Derived.Test.YtgndlgcgphgilaaDoorProfNums
namespace Go.Proofs.YtgndlgcgphgilaaDoor
open Go.RowKit Num
set_option linter.unusedVariables false

theorem flip0_yes : ∀ k : Nat, k < 384 → bitB k 1 = true → (k - 1) < 384 ∧ (k - 1) / 128 = k / 128 ∧ bitB (k - 1) 1 = false ∧ bitB (k - 1) 2 = bitB k 2 ∧ bitB (k - 1) 4 = bitB k 4 ∧ bitB (k - 1) 8 = bitB k 8 ∧ bitB (k - 1) 16 = bitB k 16 ∧ bitB (k - 1) 32 = bitB k 32 ∧ bitB (k - 1) 64 = bitB k 64 := by decide +kernel
theorem flip0_no : ∀ k : Nat, k < 384 → bitB k 1 = false → (k + 1) < 384 ∧ (k + 1) / 128 = k / 128 ∧ bitB (k + 1) 1 = true ∧ bitB (k + 1) 2 = bitB k 2 ∧ bitB (k + 1) 4 = bitB k 4 ∧ bitB (k + 1) 8 = bitB k 8 ∧ bitB (k + 1) 16 = bitB k 16 ∧ bitB (k + 1) 32 = bitB k 32 ∧ bitB (k + 1) 64 = bitB k 64 := by decide +kernel
theorem flip1_yes : ∀ k : Nat, k < 384 → bitB k 2 = true → (k - 2) < 384 ∧ (k - 2) / 128 = k / 128 ∧ bitB (k - 2) 1 = bitB k 1 ∧ bitB (k - 2) 2 = false ∧ bitB (k - 2) 4 = bitB k 4 ∧ bitB (k - 2) 8 = bitB k 8 ∧ bitB (k - 2) 16 = bitB k 16 ∧ bitB (k - 2) 32 = bitB k 32 ∧ bitB (k - 2) 64 = bitB k 64 := by decide +kernel
theorem flip1_no : ∀ k : Nat, k < 384 → bitB k 2 = false → (k + 2) < 384 ∧ (k + 2) / 128 = k / 128 ∧ bitB (k + 2) 1 = bitB k 1 ∧ bitB (k + 2) 2 = true ∧ bitB (k + 2) 4 = bitB k 4 ∧ bitB (k + 2) 8 = bitB k 8 ∧ bitB (k + 2) 16 = bitB k 16 ∧ bitB (k + 2) 32 = bitB k 32 ∧ bitB (k + 2) 64 = bitB k 64 := by decide +kernel
theorem flip2_yes : ∀ k : Nat, k < 384 → bitB k 4 = true → (k - 4) < 384 ∧ (k - 4) / 128 = k / 128 ∧ bitB (k - 4) 1 = bitB k 1 ∧ bitB (k - 4) 2 = bitB k 2 ∧ bitB (k - 4) 4 = false ∧ bitB (k - 4) 8 = bitB k 8 ∧ bitB (k - 4) 16 = bitB k 16 ∧ bitB (k - 4) 32 = bitB k 32 ∧ bitB (k - 4) 64 = bitB k 64 := by decide +kernel
theorem flip2_no : ∀ k : Nat, k < 384 → bitB k 4 = false → (k + 4) < 384 ∧ (k + 4) / 128 = k / 128 ∧ bitB (k + 4) 1 = bitB k 1 ∧ bitB (k + 4) 2 = bitB k 2 ∧ bitB (k + 4) 4 = true ∧ bitB (k + 4) 8 = bitB k 8 ∧ bitB (k + 4) 16 = bitB k 16 ∧ bitB (k + 4) 32 = bitB k 32 ∧ bitB (k + 4) 64 = bitB k 64 := by decide +kernel
theorem flip3_yes : ∀ k : Nat, k < 384 → bitB k 8 = true → (k - 8) < 384 ∧ (k - 8) / 128 = k / 128 ∧ bitB (k - 8) 1 = bitB k 1 ∧ bitB (k - 8) 2 = bitB k 2 ∧ bitB (k - 8) 4 = bitB k 4 ∧ bitB (k - 8) 8 = false ∧ bitB (k - 8) 16 = bitB k 16 ∧ bitB (k - 8) 32 = bitB k 32 ∧ bitB (k - 8) 64 = bitB k 64 := by decide +kernel
theorem flip3_no : ∀ k : Nat, k < 384 → bitB k 8 = false → (k + 8) < 384 ∧ (k + 8) / 128 = k / 128 ∧ bitB (k + 8) 1 = bitB k 1 ∧ bitB (k + 8) 2 = bitB k 2 ∧ bitB (k + 8) 4 = bitB k 4 ∧ bitB (k + 8) 8 = true ∧ bitB (k + 8) 16 = bitB k 16 ∧ bitB (k + 8) 32 = bitB k 32 ∧ bitB (k + 8) 64 = bitB k 64 := by decide +kernel
theorem flip4_yes : ∀ k : Nat, k < 384 → bitB k 16 = true → (k - 16) < 384 ∧ (k - 16) / 128 = k / 128 ∧ bitB (k - 16) 1 = bitB k 1 ∧ bitB (k - 16) 2 = bitB k 2 ∧ bitB (k - 16) 4 = bitB k 4 ∧ bitB (k - 16) 8 = bitB k 8 ∧ bitB (k - 16) 16 = false ∧ bitB (k - 16) 32 = bitB k 32 ∧ bitB (k - 16) 64 = bitB k 64 := by decide +kernel
theorem flip4_no : ∀ k : Nat, k < 384 → bitB k 16 = false → (k + 16) < 384 ∧ (k + 16) / 128 = k / 128 ∧ bitB (k + 16) 1 = bitB k 1 ∧ bitB (k + 16) 2 = bitB k 2 ∧ bitB (k + 16) 4 = bitB k 4 ∧ bitB (k + 16) 8 = bitB k 8 ∧ bitB (k + 16) 16 = true ∧ bitB (k + 16) 32 = bitB k 32 ∧ bitB (k + 16) 64 = bitB k 64 := by decide +kernel
theorem flip5_yes : ∀ k : Nat, k < 384 → bitB k 32 = true → (k - 32) < 384 ∧ (k - 32) / 128 = k / 128 ∧ bitB (k - 32) 1 = bitB k 1 ∧ bitB (k - 32) 2 = bitB k 2 ∧ bitB (k - 32) 4 = bitB k 4 ∧ bitB (k - 32) 8 = bitB k 8 ∧ bitB (k - 32) 16 = bitB k 16 ∧ bitB (k - 32) 32 = false ∧ bitB (k - 32) 64 = bitB k 64 := by decide +kernel
theorem flip5_no : ∀ k : Nat, k < 384 → bitB k 32 = false → (k + 32) < 384 ∧ (k + 32) / 128 = k / 128 ∧ bitB (k + 32) 1 = bitB k 1 ∧ bitB (k + 32) 2 = bitB k 2 ∧ bitB (k + 32) 4 = bitB k 4 ∧ bitB (k + 32) 8 = bitB k 8 ∧ bitB (k + 32) 16 = bitB k 16 ∧ bitB (k + 32) 32 = true ∧ bitB (k + 32) 64 = bitB k 64 := by decide +kernel
theorem flip6_yes : ∀ k : Nat, k < 384 → bitB k 64 = true → (k - 64) < 384 ∧ (k - 64) / 128 = k / 128 ∧ bitB (k - 64) 1 = bitB k 1 ∧ bitB (k - 64) 2 = bitB k 2 ∧ bitB (k - 64) 4 = bitB k 4 ∧ bitB (k - 64) 8 = bitB k 8 ∧ bitB (k - 64) 16 = bitB k 16 ∧ bitB (k - 64) 32 = bitB k 32 ∧ bitB (k - 64) 64 = false := by decide +kernel
theorem flip6_no : ∀ k : Nat, k < 384 → bitB k 64 = false → (k + 64) < 384 ∧ (k + 64) / 128 = k / 128 ∧ bitB (k + 64) 1 = bitB k 1 ∧ bitB (k + 64) 2 = bitB k 2 ∧ bitB (k + 64) 4 = bitB k 4 ∧ bitB (k + 64) 8 = bitB k 8 ∧ bitB (k + 64) 16 = bitB k 16 ∧ bitB (k + 64) 32 = bitB k 32 ∧ bitB (k + 64) 64 = true := by decide +kernel

set_option maxRecDepth 100000 in
set_option maxHeartbeats 8000000 in
theorem profileQuirks_walk (n b : Int) (wn : (Lit.int .u16 n).wf = true) (wb : (Lit.int .u8 b).wf = true) (w : World) (hL : Laid w) :
    Calls Tryd.prog 6 #[.int .u16 n, .int .u8 b] w fun e w' => e = .returned (.bool true) ∧ Below w.heap.size w w' := by
  obtain ⟨n0, n1⟩ := bd_u16 wn
  obtain ⟨b0, b1⟩ := bd_u8 wb
  obtain ⟨K, hK⟩ := Int.eq_ofNat_of_zero_le (show 0 ≤ n % 384 by omega)
  obtain ⟨J, hJ⟩ := Int.eq_ofNat_of_zero_le (show 0 ≤ b % 7 by omega)
  have hK2 : K < 384 := by omega
  have hJ2 : J < 7 := by omega
  have HK := Lib.hid hK
  have HJ := Lib.hid hJ
  clear hK hJ wn wb
  have S0 := Lib.hid (Since.start hL)
  clear hL
  go_enter Tryd.func6, Tryd.ntmps6
  go_wp2_with fail
  refine (awake2 _ S0.out.laid).mono ?_
  rintro e w1 ⟨rfl, hb1⟩
  have S1 := Lib.hid (S0.out.step hb1)
  clear hb1 S0
  go_wp2_with fail
  have hk := HK.out
  generalize n % 384 = K' at *
  subst hk
  clear HK n0 n1
  go_loop [6, 7] (fun v i => ∃ k : Nat, k ≤ J ∧ v = .int .i64 ((2 ^ k : Nat) : Int) ∧ i = .int .i64 k) (fun _ i => J - (intOf i).toNat)
  case atStart => exact ⟨0, Nat.zero_le _, rfl, rfl⟩
  case round =>
    obtain ⟨k, hk, rfl, rfl⟩ := hrel
    have hj := HJ.out
    by_cases hlt : k < J
    · have hp : 2 ^ k ≤ 2 ^ 6 := Nat.pow_le_pow_right (by omega) (by omega)
      have hs : 2 ^ (k + 1) = 2 * 2 ^ k := by rw [Nat.pow_succ, Nat.mul_comm]
      have Hs := Lib.hid hs
      clear hs
      generalize hM : 2 ^ k = M at *
      clear hM
      have hlt2 : decide ((k : Int) < b % 7) = true := decide_eq_true (by omega)
      clear hj
      go_wp2_with fail
      exact ⟨⟨k + 1, by omega, by rw [Hs.out]; go_num, by go_num⟩, by simp [intOf]; omega⟩
    · obtain rfl : k = J := by omega
      clear hj hlt hk
      have Hat := Lib.hid fun w => at_num K w hK2
      have hv : ∃ v : Int, v = ((2 ^ k : Nat) : Int) := ⟨_, rfl⟩
      obtain ⟨v, hv⟩ := hv
      rw [← hv]
      obtain rfl | rfl | rfl | rfl | rfl | rfl | rfl : k = 0 ∨ k = 1 ∨ k = 2 ∨ k = 3 ∨ k = 4 ∨ k = 5 ∨ k = 6 := by omega
      · obtain rfl : v = 1 := hv
        have hlt2 : decide ((0 : Int) < b % 7) = false := decide_eq_false (by have := HJ.out; omega)
        cases hd : bitB K 1
        · obtain ⟨fo, fl, g0, g1, g2, g3, g4, g5, g6⟩ := flip0_no K hK2 hd
          have hat2 := fun w => at_num (K + 1) w fo
          have hnum2 := fun w => number_yes (1 + (((K + 1) : Nat) : Int) / 128) (bitB (K + 1) 1) (bitB (K + 1) 2) (bitB (K + 1) 4) (bitB (K + 1) 8) (bitB (K + 1) 16) (bitB (K + 1) 32) (bitB (K + 1) 64) w (by omega) (by omega)
          rw [num_at (K + 1) fo] at hnum2
          rw [g0, g1, g2, g3, g4, g5, g6] at hat2 hnum2
          rw [show (1 : Int) + (((K + 1) : Nat) : Int) / 128 = 1 + (K : Int) / 128 from by omega] at hat2 hnum2
          rw [show (((K + 1) : Nat) : Int) = ((K : Int) + 1) from by unfold bitB at hd; simp at hd; omega] at hat2 hnum2
          have Hat2 := Lib.hid hat2
          have Hnum2 := Lib.hid hnum2
          rw [hd] at Hat
          have hq1 : ((K : Int) / 1 % 2 == 1) = false := by rw [← hd]; exact bit_of K 1
          have hq2 : ((K : Int) % 2 == 1) = false := by rw [← hd]; simpa using bit_of K 1
          clear hd hat2 hnum2 g0 g1 g2 g3 g4 g5 g6 fo fl
          generalize bitB K 2 = d1 at *
          generalize bitB K 4 = d2 at *
          generalize bitB K 8 = d3 at *
          generalize bitB K 16 = d4 at *
          generalize bitB K 32 = d5 at *
          generalize bitB K 64 = d6 at *
          go_wp2_with fail
          refine (Hat.out _).mono ?_
          rintro e w2 ⟨rfl, hb2⟩
          have S2 := Lib.hid ((S1.out.step hb2).alloc (.cells #[.int .i64 (1 + K / 128), .bool false, .bool d1, .bool d2, .bool d3, .bool d4, .bool d5, .bool d6] 23))
          have hP2 := Lib.hid (Holds.new w2 23 (1 + K / 128) false d1 d2 d3 d4 d5 d6)
          clear hb2 Hat
          go_wp2_with fail
          refine (Hat2.out _).mono ?_
          rintro e w3 ⟨rfl, hb3⟩
          have S3 := Lib.hid ((S2.out.step hb3).alloc (.cells #[.int .i64 (1 + K / 128), .bool true, .bool d1, .bool d2, .bool d3, .bool d4, .bool d5, .bool d6] 23))
          have hP3 := Lib.hid ((hP2.out.step hb3).alloc (.cells #[.int .i64 (1 + K / 128), .bool true, .bool d1, .bool d2, .bool d3, .bool d4, .bool d5, .bool d6] 23))
          have hQ3 := Lib.hid (Holds.new w3 23 (1 + K / 128) true d1 d2 d3 d4 d5 d6)
          clear hb3 Hat2 S2 hP2
          go_wp2_with fail
          refine (Hnum2.out _).mono ?_
          rintro e w4 ⟨rfl, hb4⟩
          have S4 := S3.out.step hb4
          have hc := hP3.out.step hb4
          have he := hQ3.out.step hb4
          clear hb4 S3 hP3 hQ3 Hnum2
          have kb := S4.below
          clear S4
          obtain ⟨y1, c0, c1, c2, c3, c4, c5, c6, c7⟩ := hc
          obtain ⟨y2, k0, k1, k2, k3, k4, k5, k6, k7⟩ := he
          go_wp2_with fail
          go_ret
          exact ⟨by simp, kb⟩
        · obtain ⟨fo, fl, g0, g1, g2, g3, g4, g5, g6⟩ := flip0_yes K hK2 hd
          have hat2 := fun w => at_num (K - 1) w fo
          have hnum2 := fun w => number_yes (1 + (((K - 1) : Nat) : Int) / 128) (bitB (K - 1) 1) (bitB (K - 1) 2) (bitB (K - 1) 4) (bitB (K - 1) 8) (bitB (K - 1) 16) (bitB (K - 1) 32) (bitB (K - 1) 64) w (by omega) (by omega)
          rw [num_at (K - 1) fo] at hnum2
          rw [g0, g1, g2, g3, g4, g5, g6] at hat2 hnum2
          rw [show (1 : Int) + (((K - 1) : Nat) : Int) / 128 = 1 + (K : Int) / 128 from by omega] at hat2 hnum2
          rw [show (((K - 1) : Nat) : Int) = ((K : Int) - 1) from by unfold bitB at hd; simp at hd; omega] at hat2 hnum2
          have Hat2 := Lib.hid hat2
          have Hnum2 := Lib.hid hnum2
          rw [hd] at Hat
          have hq1 : ((K : Int) / 1 % 2 == 1) = true := by rw [← hd]; exact bit_of K 1
          have hq2 : ((K : Int) % 2 == 1) = true := by rw [← hd]; simpa using bit_of K 1
          clear hd hat2 hnum2 g0 g1 g2 g3 g4 g5 g6 fo fl
          generalize bitB K 2 = d1 at *
          generalize bitB K 4 = d2 at *
          generalize bitB K 8 = d3 at *
          generalize bitB K 16 = d4 at *
          generalize bitB K 32 = d5 at *
          generalize bitB K 64 = d6 at *
          go_wp2_with fail
          refine (Hat.out _).mono ?_
          rintro e w2 ⟨rfl, hb2⟩
          have S2 := Lib.hid ((S1.out.step hb2).alloc (.cells #[.int .i64 (1 + K / 128), .bool true, .bool d1, .bool d2, .bool d3, .bool d4, .bool d5, .bool d6] 23))
          have hP2 := Lib.hid (Holds.new w2 23 (1 + K / 128) true d1 d2 d3 d4 d5 d6)
          clear hb2 Hat
          go_wp2_with fail
          refine (Hat2.out _).mono ?_
          rintro e w3 ⟨rfl, hb3⟩
          have S3 := Lib.hid ((S2.out.step hb3).alloc (.cells #[.int .i64 (1 + K / 128), .bool false, .bool d1, .bool d2, .bool d3, .bool d4, .bool d5, .bool d6] 23))
          have hP3 := Lib.hid ((hP2.out.step hb3).alloc (.cells #[.int .i64 (1 + K / 128), .bool false, .bool d1, .bool d2, .bool d3, .bool d4, .bool d5, .bool d6] 23))
          have hQ3 := Lib.hid (Holds.new w3 23 (1 + K / 128) false d1 d2 d3 d4 d5 d6)
          clear hb3 Hat2 S2 hP2
          go_wp2_with fail
          refine (Hnum2.out _).mono ?_
          rintro e w4 ⟨rfl, hb4⟩
          have S4 := S3.out.step hb4
          have hc := hP3.out.step hb4
          have he := hQ3.out.step hb4
          clear hb4 S3 hP3 hQ3 Hnum2
          have kb := S4.below
          clear S4
          obtain ⟨y1, c0, c1, c2, c3, c4, c5, c6, c7⟩ := hc
          obtain ⟨y2, k0, k1, k2, k3, k4, k5, k6, k7⟩ := he
          go_wp2_with fail
          go_ret
          exact ⟨by simp, kb⟩
      · obtain rfl : v = 2 := hv
        have hlt2 : decide ((1 : Int) < b % 7) = false := decide_eq_false (by have := HJ.out; omega)
        cases hd : bitB K 2
        · obtain ⟨fo, fl, g0, g1, g2, g3, g4, g5, g6⟩ := flip1_no K hK2 hd
          have hat2 := fun w => at_num (K + 2) w fo
          have hnum2 := fun w => number_yes (1 + (((K + 2) : Nat) : Int) / 128) (bitB (K + 2) 1) (bitB (K + 2) 2) (bitB (K + 2) 4) (bitB (K + 2) 8) (bitB (K + 2) 16) (bitB (K + 2) 32) (bitB (K + 2) 64) w (by omega) (by omega)
          rw [num_at (K + 2) fo] at hnum2
          rw [g0, g1, g2, g3, g4, g5, g6] at hat2 hnum2
          rw [show (1 : Int) + (((K + 2) : Nat) : Int) / 128 = 1 + (K : Int) / 128 from by omega] at hat2 hnum2
          rw [show (((K + 2) : Nat) : Int) = ((K : Int) + 2) from by unfold bitB at hd; simp at hd; omega] at hat2 hnum2
          have Hat2 := Lib.hid hat2
          have Hnum2 := Lib.hid hnum2
          rw [hd] at Hat
          have hq1 : ((K : Int) / 2 % 2 == 1) = false := by rw [← hd]; exact bit_of K 2
          clear hd hat2 hnum2 g0 g1 g2 g3 g4 g5 g6 fo fl
          generalize bitB K 1 = d0 at *
          generalize bitB K 4 = d2 at *
          generalize bitB K 8 = d3 at *
          generalize bitB K 16 = d4 at *
          generalize bitB K 32 = d5 at *
          generalize bitB K 64 = d6 at *
          go_wp2_with fail
          refine (Hat.out _).mono ?_
          rintro e w2 ⟨rfl, hb2⟩
          have S2 := Lib.hid ((S1.out.step hb2).alloc (.cells #[.int .i64 (1 + K / 128), .bool d0, .bool false, .bool d2, .bool d3, .bool d4, .bool d5, .bool d6] 23))
          have hP2 := Lib.hid (Holds.new w2 23 (1 + K / 128) d0 false d2 d3 d4 d5 d6)
          clear hb2 Hat
          go_wp2_with fail
          refine (Hat2.out _).mono ?_
          rintro e w3 ⟨rfl, hb3⟩
          have S3 := Lib.hid ((S2.out.step hb3).alloc (.cells #[.int .i64 (1 + K / 128), .bool d0, .bool true, .bool d2, .bool d3, .bool d4, .bool d5, .bool d6] 23))
          have hP3 := Lib.hid ((hP2.out.step hb3).alloc (.cells #[.int .i64 (1 + K / 128), .bool d0, .bool true, .bool d2, .bool d3, .bool d4, .bool d5, .bool d6] 23))
          have hQ3 := Lib.hid (Holds.new w3 23 (1 + K / 128) d0 true d2 d3 d4 d5 d6)
          clear hb3 Hat2 S2 hP2
          go_wp2_with fail
          refine (Hnum2.out _).mono ?_
          rintro e w4 ⟨rfl, hb4⟩
          have S4 := S3.out.step hb4
          have hc := hP3.out.step hb4
          have he := hQ3.out.step hb4
          clear hb4 S3 hP3 hQ3 Hnum2
          have kb := S4.below
          clear S4
          obtain ⟨y1, c0, c1, c2, c3, c4, c5, c6, c7⟩ := hc
          obtain ⟨y2, k0, k1, k2, k3, k4, k5, k6, k7⟩ := he
          go_wp2_with fail
          go_ret
          exact ⟨by simp, kb⟩
        · obtain ⟨fo, fl, g0, g1, g2, g3, g4, g5, g6⟩ := flip1_yes K hK2 hd
          have hat2 := fun w => at_num (K - 2) w fo
          have hnum2 := fun w => number_yes (1 + (((K - 2) : Nat) : Int) / 128) (bitB (K - 2) 1) (bitB (K - 2) 2) (bitB (K - 2) 4) (bitB (K - 2) 8) (bitB (K - 2) 16) (bitB (K - 2) 32) (bitB (K - 2) 64) w (by omega) (by omega)
          rw [num_at (K - 2) fo] at hnum2
          rw [g0, g1, g2, g3, g4, g5, g6] at hat2 hnum2
          rw [show (1 : Int) + (((K - 2) : Nat) : Int) / 128 = 1 + (K : Int) / 128 from by omega] at hat2 hnum2
          rw [show (((K - 2) : Nat) : Int) = ((K : Int) - 2) from by unfold bitB at hd; simp at hd; omega] at hat2 hnum2
          have Hat2 := Lib.hid hat2
          have Hnum2 := Lib.hid hnum2
          rw [hd] at Hat
          have hq1 : ((K : Int) / 2 % 2 == 1) = true := by rw [← hd]; exact bit_of K 2
          clear hd hat2 hnum2 g0 g1 g2 g3 g4 g5 g6 fo fl
          generalize bitB K 1 = d0 at *
          generalize bitB K 4 = d2 at *
          generalize bitB K 8 = d3 at *
          generalize bitB K 16 = d4 at *
          generalize bitB K 32 = d5 at *
          generalize bitB K 64 = d6 at *
          go_wp2_with fail
          refine (Hat.out _).mono ?_
          rintro e w2 ⟨rfl, hb2⟩
          have S2 := Lib.hid ((S1.out.step hb2).alloc (.cells #[.int .i64 (1 + K / 128), .bool d0, .bool true, .bool d2, .bool d3, .bool d4, .bool d5, .bool d6] 23))
          have hP2 := Lib.hid (Holds.new w2 23 (1 + K / 128) d0 true d2 d3 d4 d5 d6)
          clear hb2 Hat
          go_wp2_with fail
          refine (Hat2.out _).mono ?_
          rintro e w3 ⟨rfl, hb3⟩
          have S3 := Lib.hid ((S2.out.step hb3).alloc (.cells #[.int .i64 (1 + K / 128), .bool d0, .bool false, .bool d2, .bool d3, .bool d4, .bool d5, .bool d6] 23))
          have hP3 := Lib.hid ((hP2.out.step hb3).alloc (.cells #[.int .i64 (1 + K / 128), .bool d0, .bool false, .bool d2, .bool d3, .bool d4, .bool d5, .bool d6] 23))
          have hQ3 := Lib.hid (Holds.new w3 23 (1 + K / 128) d0 false d2 d3 d4 d5 d6)
          clear hb3 Hat2 S2 hP2
          go_wp2_with fail
          refine (Hnum2.out _).mono ?_
          rintro e w4 ⟨rfl, hb4⟩
          have S4 := S3.out.step hb4
          have hc := hP3.out.step hb4
          have he := hQ3.out.step hb4
          clear hb4 S3 hP3 hQ3 Hnum2
          have kb := S4.below
          clear S4
          obtain ⟨y1, c0, c1, c2, c3, c4, c5, c6, c7⟩ := hc
          obtain ⟨y2, k0, k1, k2, k3, k4, k5, k6, k7⟩ := he
          go_wp2_with fail
          go_ret
          exact ⟨by simp, kb⟩
      · obtain rfl : v = 4 := hv
        have hlt2 : decide ((2 : Int) < b % 7) = false := decide_eq_false (by have := HJ.out; omega)
        cases hd : bitB K 4
        · obtain ⟨fo, fl, g0, g1, g2, g3, g4, g5, g6⟩ := flip2_no K hK2 hd
          have hat2 := fun w => at_num (K + 4) w fo
          have hnum2 := fun w => number_yes (1 + (((K + 4) : Nat) : Int) / 128) (bitB (K + 4) 1) (bitB (K + 4) 2) (bitB (K + 4) 4) (bitB (K + 4) 8) (bitB (K + 4) 16) (bitB (K + 4) 32) (bitB (K + 4) 64) w (by omega) (by omega)
          rw [num_at (K + 4) fo] at hnum2
          rw [g0, g1, g2, g3, g4, g5, g6] at hat2 hnum2
          rw [show (1 : Int) + (((K + 4) : Nat) : Int) / 128 = 1 + (K : Int) / 128 from by omega] at hat2 hnum2
          rw [show (((K + 4) : Nat) : Int) = ((K : Int) + 4) from by unfold bitB at hd; simp at hd; omega] at hat2 hnum2
          have Hat2 := Lib.hid hat2
          have Hnum2 := Lib.hid hnum2
          rw [hd] at Hat
          have hq1 : ((K : Int) / 4 % 2 == 1) = false := by rw [← hd]; exact bit_of K 4
          clear hd hat2 hnum2 g0 g1 g2 g3 g4 g5 g6 fo fl
          generalize bitB K 1 = d0 at *
          generalize bitB K 2 = d1 at *
          generalize bitB K 8 = d3 at *
          generalize bitB K 16 = d4 at *
          generalize bitB K 32 = d5 at *
          generalize bitB K 64 = d6 at *
          go_wp2_with fail
          refine (Hat.out _).mono ?_
          rintro e w2 ⟨rfl, hb2⟩
          have S2 := Lib.hid ((S1.out.step hb2).alloc (.cells #[.int .i64 (1 + K / 128), .bool d0, .bool d1, .bool false, .bool d3, .bool d4, .bool d5, .bool d6] 23))
          have hP2 := Lib.hid (Holds.new w2 23 (1 + K / 128) d0 d1 false d3 d4 d5 d6)
          clear hb2 Hat
          go_wp2_with fail
          refine (Hat2.out _).mono ?_
          rintro e w3 ⟨rfl, hb3⟩
          have S3 := Lib.hid ((S2.out.step hb3).alloc (.cells #[.int .i64 (1 + K / 128), .bool d0, .bool d1, .bool true, .bool d3, .bool d4, .bool d5, .bool d6] 23))
          have hP3 := Lib.hid ((hP2.out.step hb3).alloc (.cells #[.int .i64 (1 + K / 128), .bool d0, .bool d1, .bool true, .bool d3, .bool d4, .bool d5, .bool d6] 23))
          have hQ3 := Lib.hid (Holds.new w3 23 (1 + K / 128) d0 d1 true d3 d4 d5 d6)
          clear hb3 Hat2 S2 hP2
          go_wp2_with fail
          refine (Hnum2.out _).mono ?_
          rintro e w4 ⟨rfl, hb4⟩
          have S4 := S3.out.step hb4
          have hc := hP3.out.step hb4
          have he := hQ3.out.step hb4
          clear hb4 S3 hP3 hQ3 Hnum2
          have kb := S4.below
          clear S4
          obtain ⟨y1, c0, c1, c2, c3, c4, c5, c6, c7⟩ := hc
          obtain ⟨y2, k0, k1, k2, k3, k4, k5, k6, k7⟩ := he
          go_wp2_with fail
          go_ret
          exact ⟨by simp, kb⟩
        · obtain ⟨fo, fl, g0, g1, g2, g3, g4, g5, g6⟩ := flip2_yes K hK2 hd
          have hat2 := fun w => at_num (K - 4) w fo
          have hnum2 := fun w => number_yes (1 + (((K - 4) : Nat) : Int) / 128) (bitB (K - 4) 1) (bitB (K - 4) 2) (bitB (K - 4) 4) (bitB (K - 4) 8) (bitB (K - 4) 16) (bitB (K - 4) 32) (bitB (K - 4) 64) w (by omega) (by omega)
          rw [num_at (K - 4) fo] at hnum2
          rw [g0, g1, g2, g3, g4, g5, g6] at hat2 hnum2
          rw [show (1 : Int) + (((K - 4) : Nat) : Int) / 128 = 1 + (K : Int) / 128 from by omega] at hat2 hnum2
          rw [show (((K - 4) : Nat) : Int) = ((K : Int) - 4) from by unfold bitB at hd; simp at hd; omega] at hat2 hnum2
          have Hat2 := Lib.hid hat2
          have Hnum2 := Lib.hid hnum2
          rw [hd] at Hat
          have hq1 : ((K : Int) / 4 % 2 == 1) = true := by rw [← hd]; exact bit_of K 4
          clear hd hat2 hnum2 g0 g1 g2 g3 g4 g5 g6 fo fl
          generalize bitB K 1 = d0 at *
          generalize bitB K 2 = d1 at *
          generalize bitB K 8 = d3 at *
          generalize bitB K 16 = d4 at *
          generalize bitB K 32 = d5 at *
          generalize bitB K 64 = d6 at *
          go_wp2_with fail
          refine (Hat.out _).mono ?_
          rintro e w2 ⟨rfl, hb2⟩
          have S2 := Lib.hid ((S1.out.step hb2).alloc (.cells #[.int .i64 (1 + K / 128), .bool d0, .bool d1, .bool true, .bool d3, .bool d4, .bool d5, .bool d6] 23))
          have hP2 := Lib.hid (Holds.new w2 23 (1 + K / 128) d0 d1 true d3 d4 d5 d6)
          clear hb2 Hat
          go_wp2_with fail
          refine (Hat2.out _).mono ?_
          rintro e w3 ⟨rfl, hb3⟩
          have S3 := Lib.hid ((S2.out.step hb3).alloc (.cells #[.int .i64 (1 + K / 128), .bool d0, .bool d1, .bool false, .bool d3, .bool d4, .bool d5, .bool d6] 23))
          have hP3 := Lib.hid ((hP2.out.step hb3).alloc (.cells #[.int .i64 (1 + K / 128), .bool d0, .bool d1, .bool false, .bool d3, .bool d4, .bool d5, .bool d6] 23))
          have hQ3 := Lib.hid (Holds.new w3 23 (1 + K / 128) d0 d1 false d3 d4 d5 d6)
          clear hb3 Hat2 S2 hP2
          go_wp2_with fail
          refine (Hnum2.out _).mono ?_
          rintro e w4 ⟨rfl, hb4⟩
          have S4 := S3.out.step hb4
          have hc := hP3.out.step hb4
          have he := hQ3.out.step hb4
          clear hb4 S3 hP3 hQ3 Hnum2
          have kb := S4.below
          clear S4
          obtain ⟨y1, c0, c1, c2, c3, c4, c5, c6, c7⟩ := hc
          obtain ⟨y2, k0, k1, k2, k3, k4, k5, k6, k7⟩ := he
          go_wp2_with fail
          go_ret
          exact ⟨by simp, kb⟩
      · obtain rfl : v = 8 := hv
        have hlt2 : decide ((3 : Int) < b % 7) = false := decide_eq_false (by have := HJ.out; omega)
        cases hd : bitB K 8
        · obtain ⟨fo, fl, g0, g1, g2, g3, g4, g5, g6⟩ := flip3_no K hK2 hd
          have hat2 := fun w => at_num (K + 8) w fo
          have hnum2 := fun w => number_yes (1 + (((K + 8) : Nat) : Int) / 128) (bitB (K + 8) 1) (bitB (K + 8) 2) (bitB (K + 8) 4) (bitB (K + 8) 8) (bitB (K + 8) 16) (bitB (K + 8) 32) (bitB (K + 8) 64) w (by omega) (by omega)
          rw [num_at (K + 8) fo] at hnum2
          rw [g0, g1, g2, g3, g4, g5, g6] at hat2 hnum2
          rw [show (1 : Int) + (((K + 8) : Nat) : Int) / 128 = 1 + (K : Int) / 128 from by omega] at hat2 hnum2
          rw [show (((K + 8) : Nat) : Int) = ((K : Int) + 8) from by unfold bitB at hd; simp at hd; omega] at hat2 hnum2
          have Hat2 := Lib.hid hat2
          have Hnum2 := Lib.hid hnum2
          rw [hd] at Hat
          have hq1 : ((K : Int) / 8 % 2 == 1) = false := by rw [← hd]; exact bit_of K 8
          clear hd hat2 hnum2 g0 g1 g2 g3 g4 g5 g6 fo fl
          generalize bitB K 1 = d0 at *
          generalize bitB K 2 = d1 at *
          generalize bitB K 4 = d2 at *
          generalize bitB K 16 = d4 at *
          generalize bitB K 32 = d5 at *
          generalize bitB K 64 = d6 at *
          go_wp2_with fail
          refine (Hat.out _).mono ?_
          rintro e w2 ⟨rfl, hb2⟩
          have S2 := Lib.hid ((S1.out.step hb2).alloc (.cells #[.int .i64 (1 + K / 128), .bool d0, .bool d1, .bool d2, .bool false, .bool d4, .bool d5, .bool d6] 23))
          have hP2 := Lib.hid (Holds.new w2 23 (1 + K / 128) d0 d1 d2 false d4 d5 d6)
          clear hb2 Hat
          go_wp2_with fail
          refine (Hat2.out _).mono ?_
          rintro e w3 ⟨rfl, hb3⟩
          have S3 := Lib.hid ((S2.out.step hb3).alloc (.cells #[.int .i64 (1 + K / 128), .bool d0, .bool d1, .bool d2, .bool true, .bool d4, .bool d5, .bool d6] 23))
          have hP3 := Lib.hid ((hP2.out.step hb3).alloc (.cells #[.int .i64 (1 + K / 128), .bool d0, .bool d1, .bool d2, .bool true, .bool d4, .bool d5, .bool d6] 23))
          have hQ3 := Lib.hid (Holds.new w3 23 (1 + K / 128) d0 d1 d2 true d4 d5 d6)
          clear hb3 Hat2 S2 hP2
          go_wp2_with fail
          refine (Hnum2.out _).mono ?_
          rintro e w4 ⟨rfl, hb4⟩
          have S4 := S3.out.step hb4
          have hc := hP3.out.step hb4
          have he := hQ3.out.step hb4
          clear hb4 S3 hP3 hQ3 Hnum2
          have kb := S4.below
          clear S4
          obtain ⟨y1, c0, c1, c2, c3, c4, c5, c6, c7⟩ := hc
          obtain ⟨y2, k0, k1, k2, k3, k4, k5, k6, k7⟩ := he
          go_wp2_with fail
          go_ret
          exact ⟨by simp, kb⟩
        · obtain ⟨fo, fl, g0, g1, g2, g3, g4, g5, g6⟩ := flip3_yes K hK2 hd
          have hat2 := fun w => at_num (K - 8) w fo
          have hnum2 := fun w => number_yes (1 + (((K - 8) : Nat) : Int) / 128) (bitB (K - 8) 1) (bitB (K - 8) 2) (bitB (K - 8) 4) (bitB (K - 8) 8) (bitB (K - 8) 16) (bitB (K - 8) 32) (bitB (K - 8) 64) w (by omega) (by omega)
          rw [num_at (K - 8) fo] at hnum2
          rw [g0, g1, g2, g3, g4, g5, g6] at hat2 hnum2
          rw [show (1 : Int) + (((K - 8) : Nat) : Int) / 128 = 1 + (K : Int) / 128 from by omega] at hat2 hnum2
          rw [show (((K - 8) : Nat) : Int) = ((K : Int) - 8) from by unfold bitB at hd; simp at hd; omega] at hat2 hnum2
          have Hat2 := Lib.hid hat2
          have Hnum2 := Lib.hid hnum2
          rw [hd] at Hat
          have hq1 : ((K : Int) / 8 % 2 == 1) = true := by rw [← hd]; exact bit_of K 8
          clear hd hat2 hnum2 g0 g1 g2 g3 g4 g5 g6 fo fl
          generalize bitB K 1 = d0 at *
          generalize bitB K 2 = d1 at *
          generalize bitB K 4 = d2 at *
          generalize bitB K 16 = d4 at *
          generalize bitB K 32 = d5 at *
          generalize bitB K 64 = d6 at *
          go_wp2_with fail
          refine (Hat.out _).mono ?_
          rintro e w2 ⟨rfl, hb2⟩
          have S2 := Lib.hid ((S1.out.step hb2).alloc (.cells #[.int .i64 (1 + K / 128), .bool d0, .bool d1, .bool d2, .bool true, .bool d4, .bool d5, .bool d6] 23))
          have hP2 := Lib.hid (Holds.new w2 23 (1 + K / 128) d0 d1 d2 true d4 d5 d6)
          clear hb2 Hat
          go_wp2_with fail
          refine (Hat2.out _).mono ?_
          rintro e w3 ⟨rfl, hb3⟩
          have S3 := Lib.hid ((S2.out.step hb3).alloc (.cells #[.int .i64 (1 + K / 128), .bool d0, .bool d1, .bool d2, .bool false, .bool d4, .bool d5, .bool d6] 23))
          have hP3 := Lib.hid ((hP2.out.step hb3).alloc (.cells #[.int .i64 (1 + K / 128), .bool d0, .bool d1, .bool d2, .bool false, .bool d4, .bool d5, .bool d6] 23))
          have hQ3 := Lib.hid (Holds.new w3 23 (1 + K / 128) d0 d1 d2 false d4 d5 d6)
          clear hb3 Hat2 S2 hP2
          go_wp2_with fail
          refine (Hnum2.out _).mono ?_
          rintro e w4 ⟨rfl, hb4⟩
          have S4 := S3.out.step hb4
          have hc := hP3.out.step hb4
          have he := hQ3.out.step hb4
          clear hb4 S3 hP3 hQ3 Hnum2
          have kb := S4.below
          clear S4
          obtain ⟨y1, c0, c1, c2, c3, c4, c5, c6, c7⟩ := hc
          obtain ⟨y2, k0, k1, k2, k3, k4, k5, k6, k7⟩ := he
          go_wp2_with fail
          go_ret
          exact ⟨by simp, kb⟩
      · obtain rfl : v = 16 := hv
        have hlt2 : decide ((4 : Int) < b % 7) = false := decide_eq_false (by have := HJ.out; omega)
        cases hd : bitB K 16
        · obtain ⟨fo, fl, g0, g1, g2, g3, g4, g5, g6⟩ := flip4_no K hK2 hd
          have hat2 := fun w => at_num (K + 16) w fo
          have hnum2 := fun w => number_yes (1 + (((K + 16) : Nat) : Int) / 128) (bitB (K + 16) 1) (bitB (K + 16) 2) (bitB (K + 16) 4) (bitB (K + 16) 8) (bitB (K + 16) 16) (bitB (K + 16) 32) (bitB (K + 16) 64) w (by omega) (by omega)
          rw [num_at (K + 16) fo] at hnum2
          rw [g0, g1, g2, g3, g4, g5, g6] at hat2 hnum2
          rw [show (1 : Int) + (((K + 16) : Nat) : Int) / 128 = 1 + (K : Int) / 128 from by omega] at hat2 hnum2
          rw [show (((K + 16) : Nat) : Int) = ((K : Int) + 16) from by unfold bitB at hd; simp at hd; omega] at hat2 hnum2
          have Hat2 := Lib.hid hat2
          have Hnum2 := Lib.hid hnum2
          rw [hd] at Hat
          have hq1 : ((K : Int) / 16 % 2 == 1) = false := by rw [← hd]; exact bit_of K 16
          clear hd hat2 hnum2 g0 g1 g2 g3 g4 g5 g6 fo fl
          generalize bitB K 1 = d0 at *
          generalize bitB K 2 = d1 at *
          generalize bitB K 4 = d2 at *
          generalize bitB K 8 = d3 at *
          generalize bitB K 32 = d5 at *
          generalize bitB K 64 = d6 at *
          go_wp2_with fail
          refine (Hat.out _).mono ?_
          rintro e w2 ⟨rfl, hb2⟩
          have S2 := Lib.hid ((S1.out.step hb2).alloc (.cells #[.int .i64 (1 + K / 128), .bool d0, .bool d1, .bool d2, .bool d3, .bool false, .bool d5, .bool d6] 23))
          have hP2 := Lib.hid (Holds.new w2 23 (1 + K / 128) d0 d1 d2 d3 false d5 d6)
          clear hb2 Hat
          go_wp2_with fail
          refine (Hat2.out _).mono ?_
          rintro e w3 ⟨rfl, hb3⟩
          have S3 := Lib.hid ((S2.out.step hb3).alloc (.cells #[.int .i64 (1 + K / 128), .bool d0, .bool d1, .bool d2, .bool d3, .bool true, .bool d5, .bool d6] 23))
          have hP3 := Lib.hid ((hP2.out.step hb3).alloc (.cells #[.int .i64 (1 + K / 128), .bool d0, .bool d1, .bool d2, .bool d3, .bool true, .bool d5, .bool d6] 23))
          have hQ3 := Lib.hid (Holds.new w3 23 (1 + K / 128) d0 d1 d2 d3 true d5 d6)
          clear hb3 Hat2 S2 hP2
          go_wp2_with fail
          refine (Hnum2.out _).mono ?_
          rintro e w4 ⟨rfl, hb4⟩
          have S4 := S3.out.step hb4
          have hc := hP3.out.step hb4
          have he := hQ3.out.step hb4
          clear hb4 S3 hP3 hQ3 Hnum2
          have kb := S4.below
          clear S4
          obtain ⟨y1, c0, c1, c2, c3, c4, c5, c6, c7⟩ := hc
          obtain ⟨y2, k0, k1, k2, k3, k4, k5, k6, k7⟩ := he
          go_wp2_with fail
          go_ret
          exact ⟨by simp, kb⟩
        · obtain ⟨fo, fl, g0, g1, g2, g3, g4, g5, g6⟩ := flip4_yes K hK2 hd
          have hat2 := fun w => at_num (K - 16) w fo
          have hnum2 := fun w => number_yes (1 + (((K - 16) : Nat) : Int) / 128) (bitB (K - 16) 1) (bitB (K - 16) 2) (bitB (K - 16) 4) (bitB (K - 16) 8) (bitB (K - 16) 16) (bitB (K - 16) 32) (bitB (K - 16) 64) w (by omega) (by omega)
          rw [num_at (K - 16) fo] at hnum2
          rw [g0, g1, g2, g3, g4, g5, g6] at hat2 hnum2
          rw [show (1 : Int) + (((K - 16) : Nat) : Int) / 128 = 1 + (K : Int) / 128 from by omega] at hat2 hnum2
          rw [show (((K - 16) : Nat) : Int) = ((K : Int) - 16) from by unfold bitB at hd; simp at hd; omega] at hat2 hnum2
          have Hat2 := Lib.hid hat2
          have Hnum2 := Lib.hid hnum2
          rw [hd] at Hat
          have hq1 : ((K : Int) / 16 % 2 == 1) = true := by rw [← hd]; exact bit_of K 16
          clear hd hat2 hnum2 g0 g1 g2 g3 g4 g5 g6 fo fl
          generalize bitB K 1 = d0 at *
          generalize bitB K 2 = d1 at *
          generalize bitB K 4 = d2 at *
          generalize bitB K 8 = d3 at *
          generalize bitB K 32 = d5 at *
          generalize bitB K 64 = d6 at *
          go_wp2_with fail
          refine (Hat.out _).mono ?_
          rintro e w2 ⟨rfl, hb2⟩
          have S2 := Lib.hid ((S1.out.step hb2).alloc (.cells #[.int .i64 (1 + K / 128), .bool d0, .bool d1, .bool d2, .bool d3, .bool true, .bool d5, .bool d6] 23))
          have hP2 := Lib.hid (Holds.new w2 23 (1 + K / 128) d0 d1 d2 d3 true d5 d6)
          clear hb2 Hat
          go_wp2_with fail
          refine (Hat2.out _).mono ?_
          rintro e w3 ⟨rfl, hb3⟩
          have S3 := Lib.hid ((S2.out.step hb3).alloc (.cells #[.int .i64 (1 + K / 128), .bool d0, .bool d1, .bool d2, .bool d3, .bool false, .bool d5, .bool d6] 23))
          have hP3 := Lib.hid ((hP2.out.step hb3).alloc (.cells #[.int .i64 (1 + K / 128), .bool d0, .bool d1, .bool d2, .bool d3, .bool false, .bool d5, .bool d6] 23))
          have hQ3 := Lib.hid (Holds.new w3 23 (1 + K / 128) d0 d1 d2 d3 false d5 d6)
          clear hb3 Hat2 S2 hP2
          go_wp2_with fail
          refine (Hnum2.out _).mono ?_
          rintro e w4 ⟨rfl, hb4⟩
          have S4 := S3.out.step hb4
          have hc := hP3.out.step hb4
          have he := hQ3.out.step hb4
          clear hb4 S3 hP3 hQ3 Hnum2
          have kb := S4.below
          clear S4
          obtain ⟨y1, c0, c1, c2, c3, c4, c5, c6, c7⟩ := hc
          obtain ⟨y2, k0, k1, k2, k3, k4, k5, k6, k7⟩ := he
          go_wp2_with fail
          go_ret
          exact ⟨by simp, kb⟩
      · obtain rfl : v = 32 := hv
        have hlt2 : decide ((5 : Int) < b % 7) = false := decide_eq_false (by have := HJ.out; omega)
        cases hd : bitB K 32
        · obtain ⟨fo, fl, g0, g1, g2, g3, g4, g5, g6⟩ := flip5_no K hK2 hd
          have hat2 := fun w => at_num (K + 32) w fo
          have hnum2 := fun w => number_yes (1 + (((K + 32) : Nat) : Int) / 128) (bitB (K + 32) 1) (bitB (K + 32) 2) (bitB (K + 32) 4) (bitB (K + 32) 8) (bitB (K + 32) 16) (bitB (K + 32) 32) (bitB (K + 32) 64) w (by omega) (by omega)
          rw [num_at (K + 32) fo] at hnum2
          rw [g0, g1, g2, g3, g4, g5, g6] at hat2 hnum2
          rw [show (1 : Int) + (((K + 32) : Nat) : Int) / 128 = 1 + (K : Int) / 128 from by omega] at hat2 hnum2
          rw [show (((K + 32) : Nat) : Int) = ((K : Int) + 32) from by unfold bitB at hd; simp at hd; omega] at hat2 hnum2
          have Hat2 := Lib.hid hat2
          have Hnum2 := Lib.hid hnum2
          rw [hd] at Hat
          have hq1 : ((K : Int) / 32 % 2 == 1) = false := by rw [← hd]; exact bit_of K 32
          clear hd hat2 hnum2 g0 g1 g2 g3 g4 g5 g6 fo fl
          generalize bitB K 1 = d0 at *
          generalize bitB K 2 = d1 at *
          generalize bitB K 4 = d2 at *
          generalize bitB K 8 = d3 at *
          generalize bitB K 16 = d4 at *
          generalize bitB K 64 = d6 at *
          go_wp2_with fail
          refine (Hat.out _).mono ?_
          rintro e w2 ⟨rfl, hb2⟩
          have S2 := Lib.hid ((S1.out.step hb2).alloc (.cells #[.int .i64 (1 + K / 128), .bool d0, .bool d1, .bool d2, .bool d3, .bool d4, .bool false, .bool d6] 23))
          have hP2 := Lib.hid (Holds.new w2 23 (1 + K / 128) d0 d1 d2 d3 d4 false d6)
          clear hb2 Hat
          go_wp2_with fail
          refine (Hat2.out _).mono ?_
          rintro e w3 ⟨rfl, hb3⟩
          have S3 := Lib.hid ((S2.out.step hb3).alloc (.cells #[.int .i64 (1 + K / 128), .bool d0, .bool d1, .bool d2, .bool d3, .bool d4, .bool true, .bool d6] 23))
          have hP3 := Lib.hid ((hP2.out.step hb3).alloc (.cells #[.int .i64 (1 + K / 128), .bool d0, .bool d1, .bool d2, .bool d3, .bool d4, .bool true, .bool d6] 23))
          have hQ3 := Lib.hid (Holds.new w3 23 (1 + K / 128) d0 d1 d2 d3 d4 true d6)
          clear hb3 Hat2 S2 hP2
          go_wp2_with fail
          refine (Hnum2.out _).mono ?_
          rintro e w4 ⟨rfl, hb4⟩
          have S4 := S3.out.step hb4
          have hc := hP3.out.step hb4
          have he := hQ3.out.step hb4
          clear hb4 S3 hP3 hQ3 Hnum2
          have kb := S4.below
          clear S4
          obtain ⟨y1, c0, c1, c2, c3, c4, c5, c6, c7⟩ := hc
          obtain ⟨y2, k0, k1, k2, k3, k4, k5, k6, k7⟩ := he
          go_wp2_with fail
          go_ret
          exact ⟨by simp, kb⟩
        · obtain ⟨fo, fl, g0, g1, g2, g3, g4, g5, g6⟩ := flip5_yes K hK2 hd
          have hat2 := fun w => at_num (K - 32) w fo
          have hnum2 := fun w => number_yes (1 + (((K - 32) : Nat) : Int) / 128) (bitB (K - 32) 1) (bitB (K - 32) 2) (bitB (K - 32) 4) (bitB (K - 32) 8) (bitB (K - 32) 16) (bitB (K - 32) 32) (bitB (K - 32) 64) w (by omega) (by omega)
          rw [num_at (K - 32) fo] at hnum2
          rw [g0, g1, g2, g3, g4, g5, g6] at hat2 hnum2
          rw [show (1 : Int) + (((K - 32) : Nat) : Int) / 128 = 1 + (K : Int) / 128 from by omega] at hat2 hnum2
          rw [show (((K - 32) : Nat) : Int) = ((K : Int) - 32) from by unfold bitB at hd; simp at hd; omega] at hat2 hnum2
          have Hat2 := Lib.hid hat2
          have Hnum2 := Lib.hid hnum2
          rw [hd] at Hat
          have hq1 : ((K : Int) / 32 % 2 == 1) = true := by rw [← hd]; exact bit_of K 32
          clear hd hat2 hnum2 g0 g1 g2 g3 g4 g5 g6 fo fl
          generalize bitB K 1 = d0 at *
          generalize bitB K 2 = d1 at *
          generalize bitB K 4 = d2 at *
          generalize bitB K 8 = d3 at *
          generalize bitB K 16 = d4 at *
          generalize bitB K 64 = d6 at *
          go_wp2_with fail
          refine (Hat.out _).mono ?_
          rintro e w2 ⟨rfl, hb2⟩
          have S2 := Lib.hid ((S1.out.step hb2).alloc (.cells #[.int .i64 (1 + K / 128), .bool d0, .bool d1, .bool d2, .bool d3, .bool d4, .bool true, .bool d6] 23))
          have hP2 := Lib.hid (Holds.new w2 23 (1 + K / 128) d0 d1 d2 d3 d4 true d6)
          clear hb2 Hat
          go_wp2_with fail
          refine (Hat2.out _).mono ?_
          rintro e w3 ⟨rfl, hb3⟩
          have S3 := Lib.hid ((S2.out.step hb3).alloc (.cells #[.int .i64 (1 + K / 128), .bool d0, .bool d1, .bool d2, .bool d3, .bool d4, .bool false, .bool d6] 23))
          have hP3 := Lib.hid ((hP2.out.step hb3).alloc (.cells #[.int .i64 (1 + K / 128), .bool d0, .bool d1, .bool d2, .bool d3, .bool d4, .bool false, .bool d6] 23))
          have hQ3 := Lib.hid (Holds.new w3 23 (1 + K / 128) d0 d1 d2 d3 d4 false d6)
          clear hb3 Hat2 S2 hP2
          go_wp2_with fail
          refine (Hnum2.out _).mono ?_
          rintro e w4 ⟨rfl, hb4⟩
          have S4 := S3.out.step hb4
          have hc := hP3.out.step hb4
          have he := hQ3.out.step hb4
          clear hb4 S3 hP3 hQ3 Hnum2
          have kb := S4.below
          clear S4
          obtain ⟨y1, c0, c1, c2, c3, c4, c5, c6, c7⟩ := hc
          obtain ⟨y2, k0, k1, k2, k3, k4, k5, k6, k7⟩ := he
          go_wp2_with fail
          go_ret
          exact ⟨by simp, kb⟩
      · obtain rfl : v = 64 := hv
        have hlt2 : decide ((6 : Int) < b % 7) = false := decide_eq_false (by have := HJ.out; omega)
        cases hd : bitB K 64
        · obtain ⟨fo, fl, g0, g1, g2, g3, g4, g5, g6⟩ := flip6_no K hK2 hd
          have hat2 := fun w => at_num (K + 64) w fo
          have hnum2 := fun w => number_yes (1 + (((K + 64) : Nat) : Int) / 128) (bitB (K + 64) 1) (bitB (K + 64) 2) (bitB (K + 64) 4) (bitB (K + 64) 8) (bitB (K + 64) 16) (bitB (K + 64) 32) (bitB (K + 64) 64) w (by omega) (by omega)
          rw [num_at (K + 64) fo] at hnum2
          rw [g0, g1, g2, g3, g4, g5, g6] at hat2 hnum2
          rw [show (1 : Int) + (((K + 64) : Nat) : Int) / 128 = 1 + (K : Int) / 128 from by omega] at hat2 hnum2
          rw [show (((K + 64) : Nat) : Int) = ((K : Int) + 64) from by unfold bitB at hd; simp at hd; omega] at hat2 hnum2
          have Hat2 := Lib.hid hat2
          have Hnum2 := Lib.hid hnum2
          rw [hd] at Hat
          have hq1 : ((K : Int) / 64 % 2 == 1) = false := by rw [← hd]; exact bit_of K 64
          clear hd hat2 hnum2 g0 g1 g2 g3 g4 g5 g6 fo fl
          generalize bitB K 1 = d0 at *
          generalize bitB K 2 = d1 at *
          generalize bitB K 4 = d2 at *
          generalize bitB K 8 = d3 at *
          generalize bitB K 16 = d4 at *
          generalize bitB K 32 = d5 at *
          go_wp2_with fail
          refine (Hat.out _).mono ?_
          rintro e w2 ⟨rfl, hb2⟩
          have S2 := Lib.hid ((S1.out.step hb2).alloc (.cells #[.int .i64 (1 + K / 128), .bool d0, .bool d1, .bool d2, .bool d3, .bool d4, .bool d5, .bool false] 23))
          have hP2 := Lib.hid (Holds.new w2 23 (1 + K / 128) d0 d1 d2 d3 d4 d5 false)
          clear hb2 Hat
          go_wp2_with fail
          refine (Hat2.out _).mono ?_
          rintro e w3 ⟨rfl, hb3⟩
          have S3 := Lib.hid ((S2.out.step hb3).alloc (.cells #[.int .i64 (1 + K / 128), .bool d0, .bool d1, .bool d2, .bool d3, .bool d4, .bool d5, .bool true] 23))
          have hP3 := Lib.hid ((hP2.out.step hb3).alloc (.cells #[.int .i64 (1 + K / 128), .bool d0, .bool d1, .bool d2, .bool d3, .bool d4, .bool d5, .bool true] 23))
          have hQ3 := Lib.hid (Holds.new w3 23 (1 + K / 128) d0 d1 d2 d3 d4 d5 true)
          clear hb3 Hat2 S2 hP2
          go_wp2_with fail
          refine (Hnum2.out _).mono ?_
          rintro e w4 ⟨rfl, hb4⟩
          have S4 := S3.out.step hb4
          have hc := hP3.out.step hb4
          have he := hQ3.out.step hb4
          clear hb4 S3 hP3 hQ3 Hnum2
          have kb := S4.below
          clear S4
          obtain ⟨y1, c0, c1, c2, c3, c4, c5, c6, c7⟩ := hc
          obtain ⟨y2, k0, k1, k2, k3, k4, k5, k6, k7⟩ := he
          go_wp2_with fail
          go_ret
          exact ⟨by simp, kb⟩
        · obtain ⟨fo, fl, g0, g1, g2, g3, g4, g5, g6⟩ := flip6_yes K hK2 hd
          have hat2 := fun w => at_num (K - 64) w fo
          have hnum2 := fun w => number_yes (1 + (((K - 64) : Nat) : Int) / 128) (bitB (K - 64) 1) (bitB (K - 64) 2) (bitB (K - 64) 4) (bitB (K - 64) 8) (bitB (K - 64) 16) (bitB (K - 64) 32) (bitB (K - 64) 64) w (by omega) (by omega)
          rw [num_at (K - 64) fo] at hnum2
          rw [g0, g1, g2, g3, g4, g5, g6] at hat2 hnum2
          rw [show (1 : Int) + (((K - 64) : Nat) : Int) / 128 = 1 + (K : Int) / 128 from by omega] at hat2 hnum2
          rw [show (((K - 64) : Nat) : Int) = ((K : Int) - 64) from by unfold bitB at hd; simp at hd; omega] at hat2 hnum2
          have Hat2 := Lib.hid hat2
          have Hnum2 := Lib.hid hnum2
          rw [hd] at Hat
          have hq1 : ((K : Int) / 64 % 2 == 1) = true := by rw [← hd]; exact bit_of K 64
          clear hd hat2 hnum2 g0 g1 g2 g3 g4 g5 g6 fo fl
          generalize bitB K 1 = d0 at *
          generalize bitB K 2 = d1 at *
          generalize bitB K 4 = d2 at *
          generalize bitB K 8 = d3 at *
          generalize bitB K 16 = d4 at *
          generalize bitB K 32 = d5 at *
          go_wp2_with fail
          refine (Hat.out _).mono ?_
          rintro e w2 ⟨rfl, hb2⟩
          have S2 := Lib.hid ((S1.out.step hb2).alloc (.cells #[.int .i64 (1 + K / 128), .bool d0, .bool d1, .bool d2, .bool d3, .bool d4, .bool d5, .bool true] 23))
          have hP2 := Lib.hid (Holds.new w2 23 (1 + K / 128) d0 d1 d2 d3 d4 d5 true)
          clear hb2 Hat
          go_wp2_with fail
          refine (Hat2.out _).mono ?_
          rintro e w3 ⟨rfl, hb3⟩
          have S3 := Lib.hid ((S2.out.step hb3).alloc (.cells #[.int .i64 (1 + K / 128), .bool d0, .bool d1, .bool d2, .bool d3, .bool d4, .bool d5, .bool false] 23))
          have hP3 := Lib.hid ((hP2.out.step hb3).alloc (.cells #[.int .i64 (1 + K / 128), .bool d0, .bool d1, .bool d2, .bool d3, .bool d4, .bool d5, .bool false] 23))
          have hQ3 := Lib.hid (Holds.new w3 23 (1 + K / 128) d0 d1 d2 d3 d4 d5 false)
          clear hb3 Hat2 S2 hP2
          go_wp2_with fail
          refine (Hnum2.out _).mono ?_
          rintro e w4 ⟨rfl, hb4⟩
          have S4 := S3.out.step hb4
          have hc := hP3.out.step hb4
          have he := hQ3.out.step hb4
          clear hb4 S3 hP3 hQ3 Hnum2
          have kb := S4.below
          clear S4
          obtain ⟨y1, c0, c1, c2, c3, c4, c5, c6, c7⟩ := hc
          obtain ⟨y2, k0, k1, k2, k3, k4, k5, k6, k7⟩ := he
          go_wp2_with fail
          go_ret
          exact ⟨by simp, kb⟩
end Go.Proofs.YtgndlgcgphgilaaDoor
