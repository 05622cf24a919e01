/- Contracts of profile.Valid and profile.Number. -/
import Derived.Test.YtgndlgcgphgilaaDoorProf
namespace Go.Proofs.YtgndlgcgphgilaaDoor
open Go.RowKit Num
set_option linter.unusedVariables false

set_option maxHeartbeats 400000 in
theorem valid_yes (l : Int) (b0 b1 b2 b3 b4 b5 b6 : Bool) (w : World) (h0 : 1 ≤ l) (h1 : l ≤ 3) :
    Calls Tryd.prog 13 #[profV l b0 b1 b2 b3 b4 b5 b6] w fun e w' => e = .returned (.bool true) ∧ Below w.heap.size w w' := by
  go_enter Tryd.func13, Tryd.ntmps13
  go_wp2
  go_returns
  exact ⟨rfl, by go_grown⟩
set_option maxHeartbeats 400000 in
theorem valid_no (l : Int) (b0 b1 b2 b3 b4 b5 b6 : Bool) (w : World) (h : l < 1 ∨ 3 < l) :
    Calls Tryd.prog 13 #[profV l b0 b1 b2 b3 b4 b5 b6] w fun e w' => e = .returned (.bool false) ∧ Below w.heap.size w w' := by
  have h : l < 1 ∨ (1 ≤ l ∧ 3 < l) := by omega
  rcases h with h | ⟨h, h2⟩
  all_goals
    go_enter Tryd.func13, Tryd.ntmps13
    go_wp2
    go_returns
    exact ⟨by simp; try omega, by go_grown⟩

def bi (b : Bool) (n : Int) : Int := if b then n else 0
/-- The number of a profile, with its first k quirks. -/
def numTo (l : Int) (b0 b1 b2 b3 b4 b5 b6 : Bool) : Nat → Int
  | 0 => (l - 1) * 128
  | 1 => (l - 1) * 128 + bi b0 1
  | 2 => (l - 1) * 128 + bi b0 1 + bi b1 2
  | 3 => (l - 1) * 128 + bi b0 1 + bi b1 2 + bi b2 4
  | 4 => (l - 1) * 128 + bi b0 1 + bi b1 2 + bi b2 4 + bi b3 8
  | 5 => (l - 1) * 128 + bi b0 1 + bi b1 2 + bi b2 4 + bi b3 8 + bi b4 16
  | 6 => (l - 1) * 128 + bi b0 1 + bi b1 2 + bi b2 4 + bi b3 8 + bi b4 16 + bi b5 32
  | _ => (l - 1) * 128 + bi b0 1 + bi b1 2 + bi b2 4 + bi b3 8 + bi b4 16 + bi b5 32 + bi b6 64

theorem or_step (l : Int) (b0 b1 b2 b3 b4 b5 b6 : Bool) (h0 : 1 ≤ l) (h1 : l ≤ 3) :
    (b0 = true → bits .or .i64 (numTo l b0 b1 b2 b3 b4 b5 b6 0) 1 = numTo l b0 b1 b2 b3 b4 b5 b6 1) ∧ (b1 = true → bits .or .i64 (numTo l b0 b1 b2 b3 b4 b5 b6 1) 2 = numTo l b0 b1 b2 b3 b4 b5 b6 2) ∧ (b2 = true → bits .or .i64 (numTo l b0 b1 b2 b3 b4 b5 b6 2) 4 = numTo l b0 b1 b2 b3 b4 b5 b6 3) ∧
    (b3 = true → bits .or .i64 (numTo l b0 b1 b2 b3 b4 b5 b6 3) 8 = numTo l b0 b1 b2 b3 b4 b5 b6 4) ∧ (b4 = true → bits .or .i64 (numTo l b0 b1 b2 b3 b4 b5 b6 4) 16 = numTo l b0 b1 b2 b3 b4 b5 b6 5) ∧ (b5 = true → bits .or .i64 (numTo l b0 b1 b2 b3 b4 b5 b6 5) 32 = numTo l b0 b1 b2 b3 b4 b5 b6 6) ∧ (b6 = true → bits .or .i64 (numTo l b0 b1 b2 b3 b4 b5 b6 6) 64 = numTo l b0 b1 b2 b3 b4 b5 b6 7) := by
  obtain rfl | rfl | rfl : l = 1 ∨ l = 2 ∨ l = 3 := by omega
  all_goals (clear h0 h1; revert b0 b1 b2 b3 b4 b5 b6; decide +kernel)
theorem no_step (l : Int) (b0 b1 b2 b3 b4 b5 b6 : Bool) :
    (b0 = false → numTo l b0 b1 b2 b3 b4 b5 b6 0 = numTo l b0 b1 b2 b3 b4 b5 b6 1) ∧ (b1 = false → numTo l b0 b1 b2 b3 b4 b5 b6 1 = numTo l b0 b1 b2 b3 b4 b5 b6 2) ∧ (b2 = false → numTo l b0 b1 b2 b3 b4 b5 b6 2 = numTo l b0 b1 b2 b3 b4 b5 b6 3) ∧
    (b3 = false → numTo l b0 b1 b2 b3 b4 b5 b6 3 = numTo l b0 b1 b2 b3 b4 b5 b6 4) ∧ (b4 = false → numTo l b0 b1 b2 b3 b4 b5 b6 4 = numTo l b0 b1 b2 b3 b4 b5 b6 5) ∧ (b5 = false → numTo l b0 b1 b2 b3 b4 b5 b6 5 = numTo l b0 b1 b2 b3 b4 b5 b6 6) ∧ (b6 = false → numTo l b0 b1 b2 b3 b4 b5 b6 6 = numTo l b0 b1 b2 b3 b4 b5 b6 7) := by
  refine ⟨?_, ?_, ?_, ?_, ?_, ?_, ?_⟩ <;> (intro h; subst h; simp [numTo, bi])

set_option maxHeartbeats 2000000 in
theorem number_yes (l : Int) (b0 b1 b2 b3 b4 b5 b6 : Bool) (w : World) (h0 : 1 ≤ l) (h1 : l ≤ 3) :
    Calls Tryd.prog 9 #[profV l b0 b1 b2 b3 b4 b5 b6] w fun e w' => e = .returned (.tuple #[.int .i64 (numTo l b0 b1 b2 b3 b4 b5 b6 7), .int .i64 0]) ∧ Below w.heap.size w w' := by
  obtain ⟨i0, i1, i2, i3, i4, i5, i6⟩ := quirk_at
  go_enter Tryd.func9, Tryd.ntmps9
  go_wp2_with fail
  refine (valid_yes l b0 b1 b2 b3 b4 b5 b6 _ h0 h1).mono ?_
  rintro e w1 ⟨rfl, hb1⟩
  have hh1 := (Holds.new w 23 l b0 b1 b2 b3 b4 b5 b6).below hb1 (by simp)
  have hb := ((Below.refl w.heap.size w).alloc (Nat.le_refl _) _).trans (hb1.mono (by simp))
  clear hb1
  obtain ⟨z1, c0, c1, c2, c3, c4, c5, c6, c7⟩ := hh1
  go_wp2_with fail
  have hh1 : Holds w.heap.size l b0 b1 b2 b3 b4 b5 b6 w1 := ⟨z1, c0, c1, c2, c3, c4, c5, c6, c7⟩
  refine (quirks_any _).mono ?_
  rintro e w2 ⟨rfl, hb2⟩
  have hh := hh1.below hb2 z1
  have hb3 := hb.trans (hb2.mono (by omega))
  clear hb hb2 hh1 z1 c0 c1 c2 c3 c4 c5 c6 c7
  go_wp2
  go_loopw [4, 15] (fun n c wr => ∃ k : Nat, k ≤ 7 ∧ n = .int .i64 (numTo l b0 b1 b2 b3 b4 b5 b6 k) ∧ c = .int .i64 k ∧ Holds w.heap.size l b0 b1 b2 b3 b4 b5 b6 wr ∧ Below w.heap.size w wr) (fun _ c _ => 7 - (intOf c).toNat)
  case atStart => exact ⟨0, by omega, rfl, rfl, hh, hb3⟩
  case round =>
    clear hh hb3
    obtain ⟨k, hk, rfl, rfl, hh, hb⟩ := hrel
    have Hs := Lib.hid hh
    obtain ⟨z, c0, c1, c2, c3, c4, c5, c6, c7⟩ := hh
    obtain rfl | rfl | rfl | rfl | rfl | rfl | rfl | rfl : k = 0 ∨ k = 1 ∨ k = 2 ∨ k = 3 ∨ k = 4 ∨ k = 5 ∨ k = 6 ∨ k = 7 := by omega
    · generalize hM : numTo l b0 b1 b2 b3 b4 b5 b6 0 = M
      have HM := Lib.hid hM
      clear hM
      by_cases hc : b0 = true
      · subst hc
        go_wp2_with fail
        refine (q1_any _ _).mono ?_
        rintro e w' ⟨rfl, rfl⟩
        go_wp2
        go_roundw
        case rel => exact ⟨1, by omega, by rw [← HM.out, (or_step l _ _ _ _ _ _ _ h0 h1).1 rfl], rfl, Hs.out.below ((Below.refl _ _).alloc (Nat.le_refl _) _) z, by go_grown⟩
        case measure => simp [intOf]
      · have hc : b0 = false := by simpa using hc
        subst hc
        go_wp2_with fail
        refine (q1_any _ _).mono ?_
        rintro e w' ⟨rfl, rfl⟩
        go_wp2
        go_roundw
        case rel => exact ⟨1, by omega, by rw [← HM.out, (no_step l _ _ _ _ _ _ _).1 rfl], rfl, Hs.out.below ((Below.refl _ _).alloc (Nat.le_refl _) _) z, by go_grown⟩
        case measure => simp [intOf]
    · generalize hM : numTo l b0 b1 b2 b3 b4 b5 b6 1 = M
      have HM := Lib.hid hM
      clear hM
      by_cases hc : b1 = true
      · subst hc
        go_wp2_with fail
        refine (q2_any _ _).mono ?_
        rintro e w' ⟨rfl, rfl⟩
        go_wp2
        go_roundw
        case rel => exact ⟨2, by omega, by rw [← HM.out, (or_step l _ _ _ _ _ _ _ h0 h1).2.1 rfl], rfl, Hs.out.below ((Below.refl _ _).alloc (Nat.le_refl _) _) z, by go_grown⟩
        case measure => simp [intOf]
      · have hc : b1 = false := by simpa using hc
        subst hc
        go_wp2_with fail
        refine (q2_any _ _).mono ?_
        rintro e w' ⟨rfl, rfl⟩
        go_wp2
        go_roundw
        case rel => exact ⟨2, by omega, by rw [← HM.out, (no_step l _ _ _ _ _ _ _).2.1 rfl], rfl, Hs.out.below ((Below.refl _ _).alloc (Nat.le_refl _) _) z, by go_grown⟩
        case measure => simp [intOf]
    · generalize hM : numTo l b0 b1 b2 b3 b4 b5 b6 2 = M
      have HM := Lib.hid hM
      clear hM
      by_cases hc : b2 = true
      · subst hc
        go_wp2_with fail
        refine (q3_any _ _).mono ?_
        rintro e w' ⟨rfl, rfl⟩
        go_wp2
        go_roundw
        case rel => exact ⟨3, by omega, by rw [← HM.out, (or_step l _ _ _ _ _ _ _ h0 h1).2.2.1 rfl], rfl, Hs.out.below ((Below.refl _ _).alloc (Nat.le_refl _) _) z, by go_grown⟩
        case measure => simp [intOf]
      · have hc : b2 = false := by simpa using hc
        subst hc
        go_wp2_with fail
        refine (q3_any _ _).mono ?_
        rintro e w' ⟨rfl, rfl⟩
        go_wp2
        go_roundw
        case rel => exact ⟨3, by omega, by rw [← HM.out, (no_step l _ _ _ _ _ _ _).2.2.1 rfl], rfl, Hs.out.below ((Below.refl _ _).alloc (Nat.le_refl _) _) z, by go_grown⟩
        case measure => simp [intOf]
    · generalize hM : numTo l b0 b1 b2 b3 b4 b5 b6 3 = M
      have HM := Lib.hid hM
      clear hM
      by_cases hc : b3 = true
      · subst hc
        go_wp2_with fail
        refine (q4_any _ _).mono ?_
        rintro e w' ⟨rfl, rfl⟩
        go_wp2
        go_roundw
        case rel => exact ⟨4, by omega, by rw [← HM.out, (or_step l _ _ _ _ _ _ _ h0 h1).2.2.2.1 rfl], rfl, Hs.out.below ((Below.refl _ _).alloc (Nat.le_refl _) _) z, by go_grown⟩
        case measure => simp [intOf]
      · have hc : b3 = false := by simpa using hc
        subst hc
        go_wp2_with fail
        refine (q4_any _ _).mono ?_
        rintro e w' ⟨rfl, rfl⟩
        go_wp2
        go_roundw
        case rel => exact ⟨4, by omega, by rw [← HM.out, (no_step l _ _ _ _ _ _ _).2.2.2.1 rfl], rfl, Hs.out.below ((Below.refl _ _).alloc (Nat.le_refl _) _) z, by go_grown⟩
        case measure => simp [intOf]
    · generalize hM : numTo l b0 b1 b2 b3 b4 b5 b6 4 = M
      have HM := Lib.hid hM
      clear hM
      by_cases hc : b4 = true
      · subst hc
        go_wp2_with fail
        refine (q5_any _ _).mono ?_
        rintro e w' ⟨rfl, rfl⟩
        go_wp2
        go_roundw
        case rel => exact ⟨5, by omega, by rw [← HM.out, (or_step l _ _ _ _ _ _ _ h0 h1).2.2.2.2.1 rfl], rfl, Hs.out.below ((Below.refl _ _).alloc (Nat.le_refl _) _) z, by go_grown⟩
        case measure => simp [intOf]
      · have hc : b4 = false := by simpa using hc
        subst hc
        go_wp2_with fail
        refine (q5_any _ _).mono ?_
        rintro e w' ⟨rfl, rfl⟩
        go_wp2
        go_roundw
        case rel => exact ⟨5, by omega, by rw [← HM.out, (no_step l _ _ _ _ _ _ _).2.2.2.2.1 rfl], rfl, Hs.out.below ((Below.refl _ _).alloc (Nat.le_refl _) _) z, by go_grown⟩
        case measure => simp [intOf]
    · generalize hM : numTo l b0 b1 b2 b3 b4 b5 b6 5 = M
      have HM := Lib.hid hM
      clear hM
      by_cases hc : b5 = true
      · subst hc
        go_wp2_with fail
        refine (q6_any _ _).mono ?_
        rintro e w' ⟨rfl, rfl⟩
        go_wp2
        go_roundw
        case rel => exact ⟨6, by omega, by rw [← HM.out, (or_step l _ _ _ _ _ _ _ h0 h1).2.2.2.2.2.1 rfl], rfl, Hs.out.below ((Below.refl _ _).alloc (Nat.le_refl _) _) z, by go_grown⟩
        case measure => simp [intOf]
      · have hc : b5 = false := by simpa using hc
        subst hc
        go_wp2_with fail
        refine (q6_any _ _).mono ?_
        rintro e w' ⟨rfl, rfl⟩
        go_wp2
        go_roundw
        case rel => exact ⟨6, by omega, by rw [← HM.out, (no_step l _ _ _ _ _ _ _).2.2.2.2.2.1 rfl], rfl, Hs.out.below ((Below.refl _ _).alloc (Nat.le_refl _) _) z, by go_grown⟩
        case measure => simp [intOf]
    · generalize hM : numTo l b0 b1 b2 b3 b4 b5 b6 6 = M
      have HM := Lib.hid hM
      clear hM
      by_cases hc : b6 = true
      · subst hc
        go_wp2_with fail
        refine (q7_any _ _).mono ?_
        rintro e w' ⟨rfl, rfl⟩
        go_wp2
        go_roundw
        case rel => exact ⟨7, by omega, by rw [← HM.out, (or_step l _ _ _ _ _ _ _ h0 h1).2.2.2.2.2.2 rfl], rfl, Hs.out.below ((Below.refl _ _).alloc (Nat.le_refl _) _) z, by go_grown⟩
        case measure => simp [intOf]
      · have hc : b6 = false := by simpa using hc
        subst hc
        go_wp2_with fail
        refine (q7_any _ _).mono ?_
        rintro e w' ⟨rfl, rfl⟩
        go_wp2
        go_roundw
        case rel => exact ⟨7, by omega, by rw [← HM.out, (no_step l _ _ _ _ _ _ _).2.2.2.2.2.2 rfl], rfl, Hs.out.below ((Below.refl _ _).alloc (Nat.le_refl _) _) z, by go_grown⟩
        case measure => simp [intOf]
    · go_wp2
      go_returns
      exact ⟨rfl, hb⟩

set_option maxHeartbeats 400000 in
theorem number_no (l : Int) (b0 b1 b2 b3 b4 b5 b6 : Bool) (w : World) (h : l < 1 ∨ 3 < l) :
    Calls Tryd.prog 9 #[profV l b0 b1 b2 b3 b4 b5 b6] w fun e w' => e = .returned (.tuple #[.int .i64 0, .int .i64 5]) ∧ Below w.heap.size w w' := by
  go_enter Tryd.func9, Tryd.ntmps9
  go_wp2_with fail
  refine (valid_no l b0 b1 b2 b3 b4 b5 b6 _ h).mono ?_
  rintro e w1 ⟨rfl, hb1⟩
  have hb := ((Below.refl w.heap.size w).alloc (Nat.le_refl _) _).trans (hb1.mono (by simp))
  clear hb1
  go_wp2
  go_returns
  exact ⟨rfl, hb⟩
end Go.Proofs.YtgndlgcgphgilaaDoor
