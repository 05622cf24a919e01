/- The walk of AudioSilent. -/
import Derived.Test.YtojgblpgbfpcbaaAudAwake
import Derived.Test.YtojgblpgbfpcbaaAudRef
import Derived.Test.YtojgblpgbfpcbaaSame
import Derived.Test.YtojgblpgbfpcbaaAudOps
import Derived.Test.YtojgblpgbfpcbaaBytOpen
import Derived.Test.YtojgblpgbfpcbaaAppRd
namespace Go.Proofs.Ytojgblpgbfpcbaa
open Go.RowKit Num
set_option linter.unusedVariables false
set_option linter.unusedSimpArgs false

set_option maxRecDepth 100000 in
set_option maxHeartbeats 8000000 in
theorem audioSilent_walk (A : Option Addr) (n c : Nat) (L : List Int) (w : World) (H : ArgB w A n c L) :
    Calls Try.prog 6 #[.slice A n c] w fun e w' => e = .returned (.bool true) ∧ Below w.heap.size w w' := by
  have HA := Lib.hid H
  clear H
  obtain ⟨P, hP⟩ : ∃ P, pad L = P := ⟨_, rfl⟩
  have HP := Lib.hid hP
  have OK := Lib.hid (hP ▸ pad_ok HA.out.bd : OkP P)
  clear hP
  obtain ⟨v0, hv0⟩ : ∃ v0, v0 = w := ⟨_, rfl⟩
  subst hv0
  go_enter Try.func6, Try.ntmps6
  go_wp2_with fail
  refine (awake11 _).mono ?_
  rintro e v1 ⟨rfl, b1⟩
  have BV := Lib.hid b1
  clear b1
  by_cases hlen0 : 1000 < n
  · have k0 : (1000 : Int) < (n : Int) := by omega
    go_wp2_with fail
    refine (awake11 _).mono ?_
    rintro e v2 ⟨rfl, b1⟩
    have BV := Lib.hid (BV.out.trans (b1.mono BV.out.size))
    clear b1
    go_wp2
    go_ret
    exact ⟨rfl, BV.out⟩
  have k0 : ¬ (1000 : Int) < (n : Int) := by omega
  have N0 := Lib.hid (show n ≤ 1000 by omega)
  go_wp2_with fail
  refine (fill_any A n c L v1 (HA.out.rd.below BV.out) HA.out.len (by have := N0.out; unfold maxLen; omega)).mono ?_
  rintro e v2 ⟨g, rfl, hg, hG, b1⟩
  rw [HP.out] at hG
  have G := Lib.hid hG
  clear hG hg
  have BV := Lib.hid (BV.out.trans (b1.mono BV.out.size))
  clear b1
  go_wp2
  go_loopw [4, 5, 6] (fun z o i wr => ∃ k : Nat, k ≤ 16 ∧ i = .int .i64 (k : Int) ∧ z = .int .i64 (cnt P 0 k : Int) ∧ o = .int .i64 (cnt P 255 k : Int) ∧ Below v2.heap.size v2 wr) (fun _ _ i _ => 16 - (intOf i).toNat)
  case atStart => exact ⟨0, by omega, rfl, rfl, rfl, Below.refl _ _⟩
  case round =>
    obtain ⟨k, hk, rfl, rfl, rfl, hB⟩ := hrel
    have WB := Lib.hid hB
    clear hB
    by_cases hlt : k < 16
    · have kI : (k : Int) < 16 := by omega
      have c1 : wr.cell? ⟨g, k, none⟩ = some (.int .u8 (P k)) := by rw [(G.out.step WB.out).cell, pc_get _ _ hlt]
      have KL := Lib.hid hlt
      have z1 := cnt_le P 0 k
      have o1 := cnt_le P 255 k
      have CZ := Lib.hid (And.intro (cnt_hit (P := P) (v := 0) (n := k)) (cnt_miss (P := P) (v := 0) (n := k)))
      have CO := Lib.hid (And.intro (cnt_hit (P := P) (v := 255) (n := k)) (cnt_miss (P := P) (v := 255) (n := k)))
      obtain ⟨z, hz⟩ : ∃ z, cnt P 0 k = z := ⟨_, rfl⟩
      obtain ⟨o, ho⟩ : ∃ o, cnt P 255 k = o := ⟨_, rfl⟩
      obtain ⟨x, hx⟩ : ∃ x, P k = x := ⟨_, rfl⟩
      rw [hz] at z1 CZ ⊢
      rw [ho] at o1 CO ⊢
      rw [hx] at c1 CZ CO
      clear hz ho hx hlt
      rcases (show x = 0 ∨ x = 255 ∨ (x ≠ 0 ∧ x ≠ 255) by omega) with rfl | rfl | ⟨x0, x1⟩
      · have EZ := Lib.hid (CZ.out.1 rfl)
        have EO := Lib.hid (CO.out.2 (by decide))
        go_wp2
        go_roundw
        case rel => exact ⟨k + 1, by have := KL.out; omega, by go_num, by rw [EZ.out]; go_num, by rw [EO.out], WB.out⟩
        case measure => simp [intOf]; have := KL.out; omega
      · have EZ := Lib.hid (CZ.out.2 (by decide))
        have EO := Lib.hid (CO.out.1 rfl)
        go_wp2
        go_roundw
        case rel => exact ⟨k + 1, by have := KL.out; omega, by go_num, by rw [EZ.out], by rw [EO.out]; go_num, WB.out⟩
        case measure => simp [intOf]; have := KL.out; omega
      · have EZ := Lib.hid (CZ.out.2 x0)
        have EO := Lib.hid (CO.out.2 x1)
        have y0 : (x == 0) = false := by simpa using x0
        have y1 : (x == 255) = false := by simpa using x1
        clear x0 x1
        go_wp2
        go_roundw
        case rel => exact ⟨k + 1, by have := KL.out; omega, by go_num, by rw [EZ.out], by rw [EO.out], WB.out⟩
        case measure => simp [intOf]; have := KL.out; omega
    · obtain rfl : k = 16 := by omega
      have SC := Lib.hid (sil_counts OK.out)
      obtain ⟨z, hz⟩ : ∃ z, cnt P 0 16 = z := ⟨_, rfl⟩
      obtain ⟨o, ho⟩ : ∃ o, cnt P 255 16 = o := ⟨_, rfl⟩
      rw [hz] at SC ⊢
      rw [ho] at SC ⊢
      clear hz ho
      have BV := Lib.hid (BV.out.trans (WB.out.mono BV.out.size))
      clear WB G hlt hk
      by_cases hzz : z = 16
      · have hoo : True := trivial
        have SV := Lib.hid (show sil P = true by rw [SC.out]; simp [hzz, hoo])
        have zz : ((z : Int) == 16) = true := by simp; omega
        clear hoo hzz
        go_wp2_with fail
        refine (new_any wr).mono ?_
        rintro e v4 ⟨rfl, b1⟩
        have BV := Lib.hid (BV.out.trans (b1.mono BV.out.size))
        clear b1
        go_wp2_with fail
        refine (HP.out ▸ load_any zeroP 64 A n c L v4 (HA.out.rd.below BV.out) HA.out.len).mono ?_
        rintro e v5 ⟨rfl, b1⟩
        have BV := Lib.hid (BV.out.trans (b1.mono BV.out.size))
        clear b1
        go_wp2_with fail
        refine (silent_any P 64 v5).mono ?_
        rintro e v6 ⟨rfl, b1⟩
        have BV := Lib.hid (BV.out.trans (b1.mono BV.out.size))
        clear b1
        rw [SV.out]
        clear SV SC
        go_wp2
        go_ret
        exact ⟨rfl, BV.out⟩
      · by_cases hoo : o = 16
        · have SV := Lib.hid (show sil P = true by rw [SC.out]; simp [hzz, hoo])
          have zz : ((z : Int) == 16) = false := by simp; omega
          have oo : ((o : Int) == 16) = true := by simp; omega
          clear hoo hzz
          go_wp2_with fail
          refine (new_any wr).mono ?_
          rintro e v4 ⟨rfl, b1⟩
          have BV := Lib.hid (BV.out.trans (b1.mono BV.out.size))
          clear b1
          go_wp2_with fail
          refine (HP.out ▸ load_any zeroP 64 A n c L v4 (HA.out.rd.below BV.out) HA.out.len).mono ?_
          rintro e v5 ⟨rfl, b1⟩
          have BV := Lib.hid (BV.out.trans (b1.mono BV.out.size))
          clear b1
          go_wp2_with fail
          refine (silent_any P 64 v5).mono ?_
          rintro e v6 ⟨rfl, b1⟩
          have BV := Lib.hid (BV.out.trans (b1.mono BV.out.size))
          clear b1
          rw [SV.out]
          clear SV SC
          go_wp2
          go_ret
          exact ⟨rfl, BV.out⟩
        · have SV := Lib.hid (show sil P = false by rw [SC.out]; simp [hzz, hoo])
          have zz : ((z : Int) == 16) = false := by simp; omega
          have oo : ((o : Int) == 16) = false := by simp; omega
          clear hoo hzz
          go_wp2_with fail
          refine (new_any wr).mono ?_
          rintro e v4 ⟨rfl, b1⟩
          have BV := Lib.hid (BV.out.trans (b1.mono BV.out.size))
          clear b1
          go_wp2_with fail
          refine (HP.out ▸ load_any zeroP 64 A n c L v4 (HA.out.rd.below BV.out) HA.out.len).mono ?_
          rintro e v5 ⟨rfl, b1⟩
          have BV := Lib.hid (BV.out.trans (b1.mono BV.out.size))
          clear b1
          go_wp2_with fail
          refine (silent_any P 64 v5).mono ?_
          rintro e v6 ⟨rfl, b1⟩
          have BV := Lib.hid (BV.out.trans (b1.mono BV.out.size))
          clear b1
          rw [SV.out]
          clear SV SC
          go_wp2
          go_ret
          exact ⟨rfl, BV.out⟩
end Go.Proofs.Ytojgblpgbfpcbaa
