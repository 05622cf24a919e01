/- Contract of profile.Name. -/
import Derived.Test.YtgndlgcgphgilaaDoorProfNum
namespace Go.Proofs.YtgndlgcgphgilaaDoor
open Go.RowKit Num
set_option linter.unusedVariables false

/-- The words of the levels lie in the package's table. -/
def Laid (w : World) : Prop := 0 < w.heap.size ∧ w.cell? ⟨0, 0, none⟩ = some (.string ⟨#[99, 104, 105, 112, 56]⟩) ∧ w.cell? ⟨0, 1, none⟩ = some (.string ⟨#[115, 99, 104, 105, 112]⟩) ∧ w.cell? ⟨0, 2, none⟩ = some (.string ⟨#[120, 111, 99, 104, 105, 112]⟩)
theorem Laid.below {w w' : World} {n : Nat} (h : Laid w) (hb : Below n w w') (hn : 0 < n) : Laid w' := by
  obtain ⟨h0, h⟩ := h
  refine ⟨Nat.lt_of_lt_of_le h0 hb.size, ?_⟩
  have e : ∀ j, w'.cell? ⟨0, j, none⟩ = w.cell? ⟨0, j, none⟩ := fun j => hb.cell (p := ⟨0, j, none⟩) hn
  simpa only [e] using h

def levS (l : Int) : ByteArray := if l = 1 then ⟨#[99, 104, 105, 112, 56]⟩ else if l = 2 then ⟨#[115, 99, 104, 105, 112]⟩ else ⟨#[120, 111, 99, 104, 105, 112]⟩
def ap (b : Bool) (x s : ByteArray) : ByteArray := if b then s ++ x else s
/-- The name of a profile, with its first k quirks. -/
def nameTo (l : Int) (b0 b1 b2 b3 b4 b5 b6 : Bool) : Nat → ByteArray
  | 0 => levS l
  | 1 => ap b0 ⟨#[43, 115, 104, 105, 102, 116]⟩ (levS l)
  | 2 => ap b1 ⟨#[43, 107, 101, 101, 112]⟩ (ap b0 ⟨#[43, 115, 104, 105, 102, 116]⟩ (levS l))
  | 3 => ap b2 ⟨#[43, 106, 117, 109, 112]⟩ (ap b1 ⟨#[43, 107, 101, 101, 112]⟩ (ap b0 ⟨#[43, 115, 104, 105, 102, 116]⟩ (levS l)))
  | 4 => ap b3 ⟨#[43, 108, 111, 103, 105, 99]⟩ (ap b2 ⟨#[43, 106, 117, 109, 112]⟩ (ap b1 ⟨#[43, 107, 101, 101, 112]⟩ (ap b0 ⟨#[43, 115, 104, 105, 102, 116]⟩ (levS l))))
  | 5 => ap b4 ⟨#[43, 99, 108, 105, 112]⟩ (ap b3 ⟨#[43, 108, 111, 103, 105, 99]⟩ (ap b2 ⟨#[43, 106, 117, 109, 112]⟩ (ap b1 ⟨#[43, 107, 101, 101, 112]⟩ (ap b0 ⟨#[43, 115, 104, 105, 102, 116]⟩ (levS l)))))
  | 6 => ap b5 ⟨#[43, 119, 97, 105, 116]⟩ (ap b4 ⟨#[43, 99, 108, 105, 112]⟩ (ap b3 ⟨#[43, 108, 111, 103, 105, 99]⟩ (ap b2 ⟨#[43, 106, 117, 109, 112]⟩ (ap b1 ⟨#[43, 107, 101, 101, 112]⟩ (ap b0 ⟨#[43, 115, 104, 105, 102, 116]⟩ (levS l))))))
  | _ => ap b6 ⟨#[43, 102, 97, 117, 108, 116]⟩ (ap b5 ⟨#[43, 119, 97, 105, 116]⟩ (ap b4 ⟨#[43, 99, 108, 105, 112]⟩ (ap b3 ⟨#[43, 108, 111, 103, 105, 99]⟩ (ap b2 ⟨#[43, 106, 117, 109, 112]⟩ (ap b1 ⟨#[43, 107, 101, 101, 112]⟩ (ap b0 ⟨#[43, 115, 104, 105, 102, 116]⟩ (levS l)))))))

theorem Laid.at {w : World} (h : Laid w) {l : Int} (h0 : 1 ≤ l) (h1 : l ≤ 3) : w.cell? ⟨0, l.toNat - 1, none⟩ = some (.string (levS l)) := by
  obtain ⟨_, g0, g1, g2⟩ := h
  obtain rfl | rfl | rfl : l = 1 ∨ l = 2 ∨ l = 3 := by omega
  · exact g0
  · exact g1
  · exact g2

theorem nameTo_size (l : Int) (b0 b1 b2 b3 b4 b5 b6 : Bool) (h0 : 1 ≤ l) (h1 : l ≤ 3) (k : Nat) (hk : k ≤ 7) : (nameTo l b0 b1 b2 b3 b4 b5 b6 k).size ≤ 50 := by
  obtain rfl | rfl | rfl : l = 1 ∨ l = 2 ∨ l = 3 := by omega
  all_goals (clear h0 h1; obtain rfl | rfl | rfl | rfl | rfl | rfl | rfl | rfl : k = 0 ∨ k = 1 ∨ k = 2 ∨ k = 3 ∨ k = 4 ∨ k = 5 ∨ k = 6 ∨ k = 7 := by omega)
  all_goals (clear hk; revert b0 b1 b2 b3 b4 b5 b6; decide +kernel)

set_option maxHeartbeats 400000 in
theorem name_no (l : Int) (b0 b1 b2 b3 b4 b5 b6 : Bool) (w : World) (h : l < 1 ∨ 3 < l) :
    Calls Tryd.prog 14 #[profV l b0 b1 b2 b3 b4 b5 b6] w fun e w' => e = .returned (.string ⟨#[]⟩) ∧ Below w.heap.size w w' := by
  go_enter Tryd.func14, Tryd.ntmps14
  go_wp2_with fail
  refine (valid_no l b0 b1 b2 b3 b4 b5 b6 _ h).mono ?_
  rintro e w1 ⟨rfl, hb1⟩
  have hb := ((Below.refl w.heap.size w).alloc (Nat.le_refl _) _).trans (hb1.mono (by simp))
  clear hb1
  go_wp2
  go_returns
  exact ⟨rfl, hb⟩

set_option maxHeartbeats 4000000 in
theorem name_yes (l : Int) (b0 b1 b2 b3 b4 b5 b6 : Bool) (w : World) (h0 : 1 ≤ l) (h1 : l ≤ 3) (hL : Laid w) :
    Calls Tryd.prog 14 #[profV l b0 b1 b2 b3 b4 b5 b6] w fun e w' => e = .returned (.string (nameTo l b0 b1 b2 b3 b4 b5 b6 7)) ∧ Below w.heap.size w w' := by
  obtain ⟨i0, i1, i2, i3, i4, i5, i6⟩ := quirk_at
  go_enter Tryd.func14, Tryd.ntmps14
  go_wp2_with fail
  refine (valid_yes l b0 b1 b2 b3 b4 b5 b6 _ h0 h1).mono ?_
  rintro e w1 ⟨rfl, hb1⟩
  have hh1 := (Holds.new w 23 l b0 b1 b2 b3 b4 b5 b6).below hb1 (by simp)
  have hb := ((Below.refl w.heap.size w).alloc (Nat.le_refl _) _).trans (hb1.mono (by simp))
  have hL1 := hL.below hb hL.1
  clear hb1
  have Hh1 := Lib.hid hh1
  obtain ⟨z1, c0, c1, c2, c3, c4, c5, c6, c7⟩ := hh1
  have hg := hL1.at h0 h1
  clear hL hL1
  go_wp2_with fail
  clear hg
  refine (quirks_any _).mono ?_
  rintro e w2 ⟨rfl, hb2⟩
  have hh := Hh1.out.below hb2 z1
  have hb3 := hb.trans (hb2.mono (by omega))
  clear hb hb2 Hh1 z1 c0 c1 c2 c3 c4 c5 c6 c7
  go_wp2
  go_loopw [3, 15] (fun n c wr => ∃ k : Nat, k ≤ 7 ∧ n = .string (nameTo l b0 b1 b2 b3 b4 b5 b6 k) ∧ c = .int .i64 k ∧ Holds w.heap.size l b0 b1 b2 b3 b4 b5 b6 wr ∧ Below w.heap.size w wr) (fun _ c _ => 7 - (intOf c).toNat)
  case atStart => exact ⟨0, by omega, rfl, rfl, hh, hb3⟩
  case round =>
    clear hh hb3
    obtain ⟨k, hk, rfl, rfl, hh, hb⟩ := hrel
    have hsz := nameTo_size l b0 b1 b2 b3 b4 b5 b6 h0 h1 k hk
    have Hs := Lib.hid hh
    obtain ⟨z, c0, c1, c2, c3, c4, c5, c6, c7⟩ := hh
    obtain rfl | rfl | rfl | rfl | rfl | rfl | rfl | rfl : k = 0 ∨ k = 1 ∨ k = 2 ∨ k = 3 ∨ k = 4 ∨ k = 5 ∨ k = 6 ∨ k = 7 := by omega
    · generalize hM : nameTo l b0 b1 b2 b3 b4 b5 b6 0 = M at *
      have HM := Lib.hid hM
      clear hM
      by_cases hc : b0 = true
      · subst hc
        go_wp2_with fail
        refine (q1_any _ _).mono ?_
        rintro e w' ⟨rfl, rfl⟩
        go_wp2
        go_roundw
        case rel => exact ⟨1, by omega, by rw [← HM.out]; rfl, rfl, Hs.out.below ((Below.refl _ _).alloc (Nat.le_refl _) _) z, by go_grown⟩
        case measure => simp [intOf]
      · have hc : b0 = false := by simpa using hc
        subst hc
        go_wp2_with fail
        refine (q1_any _ _).mono ?_
        rintro e w' ⟨rfl, rfl⟩
        go_wp2
        go_roundw
        case rel => exact ⟨1, by omega, by rw [← HM.out]; rfl, rfl, Hs.out.below ((Below.refl _ _).alloc (Nat.le_refl _) _) z, by go_grown⟩
        case measure => simp [intOf]
    · generalize hM : nameTo l b0 b1 b2 b3 b4 b5 b6 1 = M at *
      have HM := Lib.hid hM
      clear hM
      by_cases hc : b1 = true
      · subst hc
        go_wp2_with fail
        refine (q2_any _ _).mono ?_
        rintro e w' ⟨rfl, rfl⟩
        go_wp2
        go_roundw
        case rel => exact ⟨2, by omega, by rw [← HM.out]; rfl, rfl, Hs.out.below ((Below.refl _ _).alloc (Nat.le_refl _) _) z, by go_grown⟩
        case measure => simp [intOf]
      · have hc : b1 = false := by simpa using hc
        subst hc
        go_wp2_with fail
        refine (q2_any _ _).mono ?_
        rintro e w' ⟨rfl, rfl⟩
        go_wp2
        go_roundw
        case rel => exact ⟨2, by omega, by rw [← HM.out]; rfl, rfl, Hs.out.below ((Below.refl _ _).alloc (Nat.le_refl _) _) z, by go_grown⟩
        case measure => simp [intOf]
    · generalize hM : nameTo l b0 b1 b2 b3 b4 b5 b6 2 = M at *
      have HM := Lib.hid hM
      clear hM
      by_cases hc : b2 = true
      · subst hc
        go_wp2_with fail
        refine (q3_any _ _).mono ?_
        rintro e w' ⟨rfl, rfl⟩
        go_wp2
        go_roundw
        case rel => exact ⟨3, by omega, by rw [← HM.out]; rfl, rfl, Hs.out.below ((Below.refl _ _).alloc (Nat.le_refl _) _) z, by go_grown⟩
        case measure => simp [intOf]
      · have hc : b2 = false := by simpa using hc
        subst hc
        go_wp2_with fail
        refine (q3_any _ _).mono ?_
        rintro e w' ⟨rfl, rfl⟩
        go_wp2
        go_roundw
        case rel => exact ⟨3, by omega, by rw [← HM.out]; rfl, rfl, Hs.out.below ((Below.refl _ _).alloc (Nat.le_refl _) _) z, by go_grown⟩
        case measure => simp [intOf]
    · generalize hM : nameTo l b0 b1 b2 b3 b4 b5 b6 3 = M at *
      have HM := Lib.hid hM
      clear hM
      by_cases hc : b3 = true
      · subst hc
        go_wp2_with fail
        refine (q4_any _ _).mono ?_
        rintro e w' ⟨rfl, rfl⟩
        go_wp2
        go_roundw
        case rel => exact ⟨4, by omega, by rw [← HM.out]; rfl, rfl, Hs.out.below ((Below.refl _ _).alloc (Nat.le_refl _) _) z, by go_grown⟩
        case measure => simp [intOf]
      · have hc : b3 = false := by simpa using hc
        subst hc
        go_wp2_with fail
        refine (q4_any _ _).mono ?_
        rintro e w' ⟨rfl, rfl⟩
        go_wp2
        go_roundw
        case rel => exact ⟨4, by omega, by rw [← HM.out]; rfl, rfl, Hs.out.below ((Below.refl _ _).alloc (Nat.le_refl _) _) z, by go_grown⟩
        case measure => simp [intOf]
    · generalize hM : nameTo l b0 b1 b2 b3 b4 b5 b6 4 = M at *
      have HM := Lib.hid hM
      clear hM
      by_cases hc : b4 = true
      · subst hc
        go_wp2_with fail
        refine (q5_any _ _).mono ?_
        rintro e w' ⟨rfl, rfl⟩
        go_wp2
        go_roundw
        case rel => exact ⟨5, by omega, by rw [← HM.out]; rfl, rfl, Hs.out.below ((Below.refl _ _).alloc (Nat.le_refl _) _) z, by go_grown⟩
        case measure => simp [intOf]
      · have hc : b4 = false := by simpa using hc
        subst hc
        go_wp2_with fail
        refine (q5_any _ _).mono ?_
        rintro e w' ⟨rfl, rfl⟩
        go_wp2
        go_roundw
        case rel => exact ⟨5, by omega, by rw [← HM.out]; rfl, rfl, Hs.out.below ((Below.refl _ _).alloc (Nat.le_refl _) _) z, by go_grown⟩
        case measure => simp [intOf]
    · generalize hM : nameTo l b0 b1 b2 b3 b4 b5 b6 5 = M at *
      have HM := Lib.hid hM
      clear hM
      by_cases hc : b5 = true
      · subst hc
        go_wp2_with fail
        refine (q6_any _ _).mono ?_
        rintro e w' ⟨rfl, rfl⟩
        go_wp2
        go_roundw
        case rel => exact ⟨6, by omega, by rw [← HM.out]; rfl, rfl, Hs.out.below ((Below.refl _ _).alloc (Nat.le_refl _) _) z, by go_grown⟩
        case measure => simp [intOf]
      · have hc : b5 = false := by simpa using hc
        subst hc
        go_wp2_with fail
        refine (q6_any _ _).mono ?_
        rintro e w' ⟨rfl, rfl⟩
        go_wp2
        go_roundw
        case rel => exact ⟨6, by omega, by rw [← HM.out]; rfl, rfl, Hs.out.below ((Below.refl _ _).alloc (Nat.le_refl _) _) z, by go_grown⟩
        case measure => simp [intOf]
    · generalize hM : nameTo l b0 b1 b2 b3 b4 b5 b6 6 = M at *
      have HM := Lib.hid hM
      clear hM
      by_cases hc : b6 = true
      · subst hc
        go_wp2_with fail
        refine (q7_any _ _).mono ?_
        rintro e w' ⟨rfl, rfl⟩
        go_wp2
        go_roundw
        case rel => exact ⟨7, by omega, by rw [← HM.out]; rfl, rfl, Hs.out.below ((Below.refl _ _).alloc (Nat.le_refl _) _) z, by go_grown⟩
        case measure => simp [intOf]
      · have hc : b6 = false := by simpa using hc
        subst hc
        go_wp2_with fail
        refine (q7_any _ _).mono ?_
        rintro e w' ⟨rfl, rfl⟩
        go_wp2
        go_roundw
        case rel => exact ⟨7, by omega, by rw [← HM.out]; rfl, rfl, Hs.out.below ((Below.refl _ _).alloc (Nat.le_refl _) _) z, by go_grown⟩
        case measure => simp [intOf]
    · go_wp2
      go_returns
      exact ⟨rfl, hb⟩
end Go.Proofs.YtgndlgcgphgilaaDoor
