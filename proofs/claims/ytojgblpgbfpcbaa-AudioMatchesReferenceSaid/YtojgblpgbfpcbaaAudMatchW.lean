/- The walk of AudioMatchesReference. -/
import Derived.Test.YtojgblpgbfpcbaaAudAwake
import Derived.Test.YtojgblpgbfpcbaaAudRef
import Derived.Test.YtojgblpgbfpcbaaSame
import Derived.Test.YtojgblpgbfpcbaaAudOps
import Derived.Test.YtojgblpgbfpcbaaBytOpen
import Derived.Test.YtojgblpgbfpcbaaAppRd
import Derived.Deep.Cut
namespace Go.Proofs.Ytojgblpgbfpcbaa
open Go.RowKit Num
set_option linter.unusedVariables false
set_option linter.unusedSimpArgs false

theorem mod128 (i : Int) : (i.tmod 128 < 0 → i.tmod 128 + 128 = i % 128) ∧ (¬ i.tmod 128 < 0 → i.tmod 128 = i % 128) := by
  by_cases h : i < 0
  · rw [tmod_neg i 128 h]; omega
  · rw [tmod_pos i 128 (by omega)]; omega

set_option maxRecDepth 100000 in
set_option maxHeartbeats 8000000 in
/-- The law from its loop on. -/
theorem audM (A : Option Addr) (n c : Nat) (L : List Int) (q i : Int) (w : World) (H : ArgB w A n c L) :
    Calls Try.prog 3 #[.slice A n c, .int .u8 q, .int .i64 i] w fun e w' => e = .returned (.bool true) ∧ Below w.heap.size w w' := by
  have HA := Lib.hid H
  clear H
  obtain ⟨P, hP⟩ : ∃ P, pad L = P := ⟨_, rfl⟩
  have HP := Lib.hid hP
  have OK := Lib.hid (hP ▸ pad_ok HA.out.bd : OkP P)
  clear hP
  obtain ⟨v0, hv0⟩ : ∃ v0, v0 = w := ⟨_, rfl⟩
  subst hv0
  go_enter Try.func3, Try.ntmps3
  go_wp2_with fail
  refine (awake11 _).mono ?_
  rintro e v1 ⟨rfl, b1⟩
  have BV := Lib.hid b1
  clear b1
  by_cases hlen0 : 1000 < n
  · have k0 : (1000 : Int) < (n : Int) := by omega
    go_wp2_with fail
    refine (awake11 _).mono ?_
    rintro e v2 ⟨rfl, b1⟩
    have BV := Lib.hid (BV.out.trans (b1.mono BV.out.size))
    clear b1
    go_wp2
    go_ret
    exact ⟨rfl, BV.out⟩
  have k0 : ¬ (1000 : Int) < (n : Int) := by omega
  have N0 := Lib.hid (show n ≤ 1000 by omega)
  go_wp2_with fail
  refine (new_any v1).mono ?_
  rintro e v2 ⟨rfl, b1⟩
  have BV := Lib.hid (BV.out.trans (b1.mono BV.out.size))
  clear b1
  go_wp2_with fail
  refine (HP.out ▸ load_any zeroP 64 A n c L v2 (HA.out.rd.below BV.out) HA.out.len).mono ?_
  rintro e v3 ⟨rfl, b1⟩
  have BV := Lib.hid (BV.out.trans (b1.mono BV.out.size))
  clear b1
  go_wp2_with fail
  refine (tune_any P 64 q v3).mono ?_
  rintro e v4 ⟨rfl, b1⟩
  have BV := Lib.hid (BV.out.trans (b1.mono BV.out.size))
  clear b1
  simp only []
  go_at_K
  go_step
  refine list_var_all (ds := ac P q) aggAud zeroAud (ac_size _ _) (ac_size _ _) (ac_one _ _) rfl rfl rfl (.tmp 7) (.tmp 25) rfl (by simp [Act.eval, Act.put]) (by simp [Act.eval, Act.put]) ?_
  simp only [Act.put, List.setIfInBounds_toArray, List.set_cons_zero, List.set_cons_succ]
  have S := Lib.hid (AB.new v4 P q)
  have BA := below_new v4 (.cells (ac P q) 26)
  have BV := Lib.hid (BV.out.trans (BA.mono BV.out.size))
  clear BA
  obtain ⟨a, hq⟩ : ∃ q, v4.heap.size = q := ⟨_, rfl⟩
  generalize v4.alloc (.cells (ac P q) 26) = v5 at *
  rw [hq] at S ⊢
  clear hq
  go_wp2_with fail
  refine (fill_any A n c L v5 (HA.out.rd.below BV.out) HA.out.len (by have := N0.out; unfold maxLen; omega)).mono ?_
  rintro e v6 ⟨g, rfl, hg, hG, b1⟩
  rw [HP.out] at hG
  have G := Lib.hid hG
  have S := Lib.hid (S.out.step b1)
  clear hG hg
  have BV := Lib.hid (BV.out.trans (b1.mono BV.out.size))
  clear b1
  go_wp2_with fail
  refine (samples_any g P v6 OK.out G.out).mono ?_
  rintro e v7 ⟨⟨D, d, rfl, hR⟩, b1⟩
  have R := Lib.hid hR
  have G := Lib.hid (G.out.step b1)
  have S := Lib.hid (S.out.step b1)
  clear hR
  have BV := Lib.hid (BV.out.trans (b1.mono BV.out.size))
  clear b1
  obtain ⟨k0, hk0⟩ : ∃ k0 : Nat, i % 128 = (k0 : Int) := ⟨(i % 128).toNat, by omega⟩
  have I0 := Lib.hid (show smp P i = smpN P k0 by unfold smp; rw [hk0, Int.toNat_natCast])
  have k0l : k0 < 128 := by omega
  have hm := mod128 i
  rw [hk0] at hm
  obtain ⟨m, hmm⟩ : ∃ m, i.tmod 128 = m := ⟨_, rfl⟩
  by_cases hneg : i.tmod 128 < 0
  · have hm1 := hm.1 hneg
    clear hk0 hm
    rw [hmm] at hm1 hneg
    go_wp2
    go_loopw [11, 12] (fun s j wr => ∃ k : Nat, k ≤ 128 ∧ j = .int .i64 (k : Int) ∧ s = .bool (silN P k) ∧ Below v7.heap.size v7 wr) (fun _ j _ => 128 - (intOf j).toNat)
    case atStart => exact ⟨0, by omega, rfl, by rw [silN_zero], Below.refl _ _⟩
    case round =>
      obtain ⟨k, hk, rfl, rfl, hB⟩ := hrel
      have WB := Lib.hid hB
      clear hB
      by_cases hlt : k < 128
      · have kI : (k : Int) < 128 := by omega
        have KL := Lib.hid hlt
        have SS := Lib.hid (silN_succ P k)
        have SM := Lib.hid fun w : World => smp_nat P k hlt ▸ sample_any P q (k : Int) w
        obtain ⟨r, o, hD, hr, c1⟩ := (R.out.below WB.out).at_ (k := k) (by rw [smps_len]; exact hlt)
        obtain ⟨r', o', hD', hr', c2⟩ := (R.out.below WB.out).at_ (k := 0) (by rw [smps_len]; omega)
        rw [smps_get _ _ _ hlt] at c1
        rw [smps_get _ _ _ (by omega)] at c2
        obtain rfl := hD
        injection hD' with hD'
        injection hD' with e1 e2
        subst e1 e2
        rw [Nat.add_zero] at c2
        obtain ⟨x, hx⟩ : ∃ x, smpN P k = x := ⟨_, rfl⟩
        obtain ⟨y, hy⟩ : ∃ y, smpN P 0 = y := ⟨_, rfl⟩
        obtain ⟨z, hz⟩ : ∃ z, silN P k = z := ⟨_, rfl⟩
        rw [hx] at c1 SS SM
        rw [hy] at c2 SS
        rw [hz] at SS ⊢
        clear hx hy hz hlt hr'
        have kc1 := Calm.cell c1 hr
        have kc2 := Calm.cell c2 hr
        have S1 := Lib.hid (S.out.step WB.out)
        go_upto_region 13 with fail
        cases z
        · refine calm_region (by kernel_rfl) (by kernel_rfl) ?_
          repeat (go_big_quiet_step (fail))
          refine wpQuiet_nil ?_
          intro _ hw'
          obtain ⟨u, rfl⟩ := hw'
          have WB := Lib.hid (WB.out.trans (u.below.mono WB.out.size))
          have S1 := Lib.hid (S1.out.step u.below)
          have d1 := (u.below.cell (p := ⟨r, o + k, none⟩) hr).trans c1
          have hr2 := Nat.lt_of_lt_of_le hr u.below.size
          clear kc1 kc2 c1 c2
          generalize u.w = wu at *
          have kc1 := Calm.cell d1 hr2
          go_upto_region 14 with fail
          have KA := Lib.hid S1.out.calm
          refine calm_region (by kernel_rfl) (by kernel_rfl) ?_
          repeat (first
            | (refine quiet_loadA KA.out ?_ (.tmp 7) ?_ ?_ ?_; (focus rfl); (focus rfl); (focus (simp [Act.eval]; done)); simp only [Act.put, List.setIfInBounds_toArray, List.set_cons_zero, List.set_cons_succ])
            | go_big_quiet_step ((go_at_call 13; exact calm_call (SM.out _))))
          refine wpQuiet_nil ?_
          intro _ hw'
          obtain ⟨u2, rfl⟩ := hw'
          have WB := Lib.hid (WB.out.trans (u2.below.mono WB.out.size))
          clear KA kc1 d1
          generalize u2.w = wz at *
          go_wp2
          go_roundw
          case rel => exact ⟨k + 1, by have := KL.out; omega, by go_num, by rw [SS.out]; rfl, WB.out⟩
          case measure => simp [intOf]; have := KL.out; omega
        · refine calm_region (by kernel_rfl) (by kernel_rfl) ?_
          repeat (go_big_quiet_step (fail))
          refine wpQuiet_nil ?_
          intro _ hw'
          obtain ⟨u, rfl⟩ := hw'
          have WB := Lib.hid (WB.out.trans (u.below.mono WB.out.size))
          have S1 := Lib.hid (S1.out.step u.below)
          have d1 := (u.below.cell (p := ⟨r, o + k, none⟩) hr).trans c1
          have hr2 := Nat.lt_of_lt_of_le hr u.below.size
          clear kc1 kc2 c1 c2
          generalize u.w = wu at *
          have kc1 := Calm.cell d1 hr2
          go_upto_region 14 with fail
          have KA := Lib.hid S1.out.calm
          refine calm_region (by kernel_rfl) (by kernel_rfl) ?_
          repeat (first
            | (refine quiet_loadA KA.out ?_ (.tmp 7) ?_ ?_ ?_; (focus rfl); (focus rfl); (focus (simp [Act.eval]; done)); simp only [Act.put, List.setIfInBounds_toArray, List.set_cons_zero, List.set_cons_succ])
            | go_big_quiet_step ((go_at_call 13; exact calm_call (SM.out _))))
          refine wpQuiet_nil ?_
          intro _ hw'
          obtain ⟨u2, rfl⟩ := hw'
          have WB := Lib.hid (WB.out.trans (u2.below.mono WB.out.size))
          clear KA kc1 d1
          generalize u2.w = wz at *
          go_wp2
          go_roundw
          case rel => exact ⟨k + 1, by have := KL.out; omega, by go_num, by rw [SS.out]; rw [Bool.true_and], WB.out⟩
          case measure => simp [intOf]; have := KL.out; omega
      · obtain rfl : k = 128 := by omega
        have S1 := Lib.hid (S.out.step WB.out)
        have G1 := Lib.hid (G.out.step WB.out)
        have SC := Lib.hid fun x : Calm wr => (show _ from same2_any (some ⟨a, 0, none⟩) (some ⟨g, 0, none⟩) 16 16 16 16 (lstP P) (lstP P) x.w (lstP_len P) (lstP_len P) (by omega) (by omega) (S1.out.step x.below).rd (pc_rd (G1.out.step x.below)) : Calls Try.prog 14 #[.slice (some ⟨a, 0, none⟩) 16 16, .slice (some ⟨g, 0, none⟩) 16 16] x.w fun e w' => e = .returned (.bool (decide (lstP P = lstP P))) ∧ Below x.w.heap.size x.w w')
        rw [decide_eq_true rfl] at SC
        obtain ⟨r, o, hD, hr, c1⟩ := (R.out.below WB.out).at_ (k := k0) (by rw [smps_len]; exact k0l)
        rw [smps_get _ _ _ k0l] at c1
        have SI := Lib.hid fun w : World => I0.out ▸ sample_any P q i w
        obtain ⟨x, hx⟩ : ∃ x, smpN P k0 = x := ⟨_, rfl⟩
        rw [hx] at c1 SI
        obtain ⟨z, hz⟩ : ∃ z, silN P 128 = z := ⟨_, rfl⟩
        have SL := Lib.hid fun w : World => (show sil P = z from hz) ▸ silent_any P q w
        rw [hz]
        obtain rfl := hD
        have k0I : (k0 : Int) < 128 := by omega
        clear hx hz hlt hk
        have kc1 := Calm.cell c1 hr
        have kc2 := Calm.cell (W := wr) S1.out.pitch S1.out.lt
        have BV := Lib.hid (BV.out.trans (WB.out.mono BV.out.size))
        go_upto_region 16 with fail
        have KA := Lib.hid S1.out.calm
        refine calm_region (by kernel_rfl) (by kernel_rfl) ?_
        repeat (first
          | (refine quiet_loadA KA.out ?_ (.tmp 7) ?_ ?_ ?_; (focus rfl); (focus rfl); (focus (simp [Act.eval]; done)); simp only [Act.put, List.setIfInBounds_toArray, List.set_cons_zero, List.set_cons_succ])
          | go_big_quiet_step ((first | (go_at_call 13; exact calm_call (SI.out _)) | (go_at_call 15; exact calm_call (SL.out _)) | (go_at_call 14; exact calm_call (SC.out _)))))
        refine wpQuiet_nil ?_
        intro _ hw'
        obtain ⟨u2, rfl⟩ := hw'
        have BV := Lib.hid (BV.out.trans (u2.below.mono BV.out.size))
        go_wp2
        go_ret
        exact ⟨by simp, BV.out⟩
  · have hm1 := hm.2 hneg
    rw [hm1] at hmm hneg
    clear hk0 hm
    subst hmm
    go_wp2
    go_loopw [11, 12] (fun s j wr => ∃ k : Nat, k ≤ 128 ∧ j = .int .i64 (k : Int) ∧ s = .bool (silN P k) ∧ Below v7.heap.size v7 wr) (fun _ j _ => 128 - (intOf j).toNat)
    case atStart => exact ⟨0, by omega, rfl, by rw [silN_zero], Below.refl _ _⟩
    case round =>
      obtain ⟨k, hk, rfl, rfl, hB⟩ := hrel
      have WB := Lib.hid hB
      clear hB
      by_cases hlt : k < 128
      · have kI : (k : Int) < 128 := by omega
        have KL := Lib.hid hlt
        have SS := Lib.hid (silN_succ P k)
        have SM := Lib.hid fun w : World => smp_nat P k hlt ▸ sample_any P q (k : Int) w
        obtain ⟨r, o, hD, hr, c1⟩ := (R.out.below WB.out).at_ (k := k) (by rw [smps_len]; exact hlt)
        obtain ⟨r', o', hD', hr', c2⟩ := (R.out.below WB.out).at_ (k := 0) (by rw [smps_len]; omega)
        rw [smps_get _ _ _ hlt] at c1
        rw [smps_get _ _ _ (by omega)] at c2
        obtain rfl := hD
        injection hD' with hD'
        injection hD' with e1 e2
        subst e1 e2
        rw [Nat.add_zero] at c2
        obtain ⟨x, hx⟩ : ∃ x, smpN P k = x := ⟨_, rfl⟩
        obtain ⟨y, hy⟩ : ∃ y, smpN P 0 = y := ⟨_, rfl⟩
        obtain ⟨z, hz⟩ : ∃ z, silN P k = z := ⟨_, rfl⟩
        rw [hx] at c1 SS SM
        rw [hy] at c2 SS
        rw [hz] at SS ⊢
        clear hx hy hz hlt hr'
        have kc1 := Calm.cell c1 hr
        have kc2 := Calm.cell c2 hr
        have S1 := Lib.hid (S.out.step WB.out)
        go_upto_region 13 with fail
        cases z
        · refine calm_region (by kernel_rfl) (by kernel_rfl) ?_
          repeat (go_big_quiet_step (fail))
          refine wpQuiet_nil ?_
          intro _ hw'
          obtain ⟨u, rfl⟩ := hw'
          have WB := Lib.hid (WB.out.trans (u.below.mono WB.out.size))
          have S1 := Lib.hid (S1.out.step u.below)
          have d1 := (u.below.cell (p := ⟨r, o + k, none⟩) hr).trans c1
          have hr2 := Nat.lt_of_lt_of_le hr u.below.size
          clear kc1 kc2 c1 c2
          generalize u.w = wu at *
          have kc1 := Calm.cell d1 hr2
          go_upto_region 14 with fail
          have KA := Lib.hid S1.out.calm
          refine calm_region (by kernel_rfl) (by kernel_rfl) ?_
          repeat (first
            | (refine quiet_loadA KA.out ?_ (.tmp 7) ?_ ?_ ?_; (focus rfl); (focus rfl); (focus (simp [Act.eval]; done)); simp only [Act.put, List.setIfInBounds_toArray, List.set_cons_zero, List.set_cons_succ])
            | go_big_quiet_step ((go_at_call 13; exact calm_call (SM.out _))))
          refine wpQuiet_nil ?_
          intro _ hw'
          obtain ⟨u2, rfl⟩ := hw'
          have WB := Lib.hid (WB.out.trans (u2.below.mono WB.out.size))
          clear KA kc1 d1
          generalize u2.w = wz at *
          go_wp2
          go_roundw
          case rel => exact ⟨k + 1, by have := KL.out; omega, by go_num, by rw [SS.out]; rfl, WB.out⟩
          case measure => simp [intOf]; have := KL.out; omega
        · refine calm_region (by kernel_rfl) (by kernel_rfl) ?_
          repeat (go_big_quiet_step (fail))
          refine wpQuiet_nil ?_
          intro _ hw'
          obtain ⟨u, rfl⟩ := hw'
          have WB := Lib.hid (WB.out.trans (u.below.mono WB.out.size))
          have S1 := Lib.hid (S1.out.step u.below)
          have d1 := (u.below.cell (p := ⟨r, o + k, none⟩) hr).trans c1
          have hr2 := Nat.lt_of_lt_of_le hr u.below.size
          clear kc1 kc2 c1 c2
          generalize u.w = wu at *
          have kc1 := Calm.cell d1 hr2
          go_upto_region 14 with fail
          have KA := Lib.hid S1.out.calm
          refine calm_region (by kernel_rfl) (by kernel_rfl) ?_
          repeat (first
            | (refine quiet_loadA KA.out ?_ (.tmp 7) ?_ ?_ ?_; (focus rfl); (focus rfl); (focus (simp [Act.eval]; done)); simp only [Act.put, List.setIfInBounds_toArray, List.set_cons_zero, List.set_cons_succ])
            | go_big_quiet_step ((go_at_call 13; exact calm_call (SM.out _))))
          refine wpQuiet_nil ?_
          intro _ hw'
          obtain ⟨u2, rfl⟩ := hw'
          have WB := Lib.hid (WB.out.trans (u2.below.mono WB.out.size))
          clear KA kc1 d1
          generalize u2.w = wz at *
          go_wp2
          go_roundw
          case rel => exact ⟨k + 1, by have := KL.out; omega, by go_num, by rw [SS.out]; rw [Bool.true_and], WB.out⟩
          case measure => simp [intOf]; have := KL.out; omega
      · obtain rfl : k = 128 := by omega
        have S1 := Lib.hid (S.out.step WB.out)
        have G1 := Lib.hid (G.out.step WB.out)
        have SC := Lib.hid fun x : Calm wr => (show _ from same2_any (some ⟨a, 0, none⟩) (some ⟨g, 0, none⟩) 16 16 16 16 (lstP P) (lstP P) x.w (lstP_len P) (lstP_len P) (by omega) (by omega) (S1.out.step x.below).rd (pc_rd (G1.out.step x.below)) : Calls Try.prog 14 #[.slice (some ⟨a, 0, none⟩) 16 16, .slice (some ⟨g, 0, none⟩) 16 16] x.w fun e w' => e = .returned (.bool (decide (lstP P = lstP P))) ∧ Below x.w.heap.size x.w w')
        rw [decide_eq_true rfl] at SC
        obtain ⟨r, o, hD, hr, c1⟩ := (R.out.below WB.out).at_ (k := k0) (by rw [smps_len]; exact k0l)
        rw [smps_get _ _ _ k0l] at c1
        have SI := Lib.hid fun w : World => I0.out ▸ sample_any P q i w
        obtain ⟨x, hx⟩ : ∃ x, smpN P k0 = x := ⟨_, rfl⟩
        rw [hx] at c1 SI
        obtain ⟨z, hz⟩ : ∃ z, silN P 128 = z := ⟨_, rfl⟩
        have SL := Lib.hid fun w : World => (show sil P = z from hz) ▸ silent_any P q w
        rw [hz]
        obtain rfl := hD
        have k0I : (k0 : Int) < 128 := by omega
        clear hx hz hlt hk
        have kc1 := Calm.cell c1 hr
        have kc2 := Calm.cell (W := wr) S1.out.pitch S1.out.lt
        have BV := Lib.hid (BV.out.trans (WB.out.mono BV.out.size))
        go_upto_region 16 with fail
        have KA := Lib.hid S1.out.calm
        refine calm_region (by kernel_rfl) (by kernel_rfl) ?_
        repeat (first
          | (refine quiet_loadA KA.out ?_ (.tmp 7) ?_ ?_ ?_; (focus rfl); (focus rfl); (focus (simp [Act.eval]; done)); simp only [Act.put, List.setIfInBounds_toArray, List.set_cons_zero, List.set_cons_succ])
          | go_big_quiet_step ((first | (go_at_call 13; exact calm_call (SI.out _)) | (go_at_call 15; exact calm_call (SL.out _)) | (go_at_call 14; exact calm_call (SC.out _)))))
        refine wpQuiet_nil ?_
        intro _ hw'
        obtain ⟨u2, rfl⟩ := hw'
        have BV := Lib.hid (BV.out.trans (u2.below.mono BV.out.size))
        go_wp2
        go_ret
        exact ⟨by simp, BV.out⟩
theorem audioMatchesReference_walk (A : Option Addr) (n c : Nat) (L : List Int) (q i : Int) (w : World) (H : ArgB w A n c L) (w1 : (Lit.int .u8 q).wf = true) (w2 : (Lit.int .i64 i).wf = true) :
    Calls Try.prog 3 #[.slice A n c, .int .u8 q, .int .i64 i] w fun e w' => e = .returned (.bool true) ∧ Below w.heap.size w w' := audM A n c L q i w H
end Go.Proofs.Ytojgblpgbfpcbaa
