/- The walk of AudioSamples. -/
import Derived.Test.YtojgblpgbfpcbaaAudAwake
import Derived.Test.YtojgblpgbfpcbaaAudRef
import Derived.Test.YtojgblpgbfpcbaaSame
import Derived.Test.YtojgblpgbfpcbaaAudOps
import Derived.Test.YtojgblpgbfpcbaaBytOpen
import Derived.Test.YtojgblpgbfpcbaaAppRd
import Derived.Deep.Cut
import Derived.IntWalk
namespace Go.Proofs.Ytojgblpgbfpcbaa
open Go.RowKit Num
set_option linter.unusedVariables false
set_option linter.unusedSimpArgs false

theorem bd_i32 {a : Int} (h : (Lit.int .i32 a).wf = true) : -2147483648 ≤ a ∧ a ≤ 2147483647 := by
  simp [Lit.wf, IntKind.min, IntKind.max, IntKind.signed, IntKind.bits] at h
  omega

set_option maxRecDepth 100000 in
set_option maxHeartbeats 8000000 in
theorem audioSamples_walk (A : Option Addr) (n c : Nat) (L : List Int) (B : Option Addr) (m d : Nat) (M : List Int) (i : Int) (w : World) (H : ArgB w A n c L) (H2 : ArgB w B m d M) (wi : (Lit.int .i32 i).wf = true) :
    Calls Try.prog 4 #[.slice A n c, .slice B m d, .int .i32 i] w fun e w' => e = .returned (.bool true) ∧ Below w.heap.size w w' := by
  obtain ⟨i0, i1⟩ := bd_i32 wi
  have HA := Lib.hid H
  have HB := Lib.hid H2
  clear H H2 wi
  obtain ⟨P, hP⟩ : ∃ P, pad L = P := ⟨_, rfl⟩
  have HP := Lib.hid hP
  have OK := Lib.hid (hP ▸ pad_ok HA.out.bd : OkP P)
  clear hP
  obtain ⟨Q, hQ⟩ : ∃ Q, pad M = Q := ⟨_, rfl⟩
  have HQ := Lib.hid hQ
  have OQ := Lib.hid (hQ ▸ pad_ok HB.out.bd : OkP Q)
  clear hQ
  obtain ⟨v0, hv0⟩ : ∃ v0, v0 = w := ⟨_, rfl⟩
  subst hv0
  go_enter Try.func4, Try.ntmps4
  go_wp2_with fail
  refine (awake11 _).mono ?_
  rintro e v1 ⟨rfl, b1⟩
  have BV := Lib.hid b1
  clear b1
  by_cases hlen0 : 1000 < n
  · have k0 : (1000 : Int) < (n : Int) := by omega
    go_wp2_with fail
    refine (awake11 _).mono ?_
    rintro e v2 ⟨rfl, b1⟩
    have BV := Lib.hid (BV.out.trans (b1.mono BV.out.size))
    clear b1
    go_wp2
    go_ret
    exact ⟨rfl, BV.out⟩
  have k0 : ¬ (1000 : Int) < (n : Int) := by omega
  by_cases hlen1 : 1000 < m
  · have k1 : (1000 : Int) < (m : Int) := by omega
    go_wp2_with fail
    refine (awake11 _).mono ?_
    rintro e v2 ⟨rfl, b1⟩
    have BV := Lib.hid (BV.out.trans (b1.mono BV.out.size))
    clear b1
    go_wp2
    go_ret
    exact ⟨rfl, BV.out⟩
  have k1 : ¬ (1000 : Int) < (m : Int) := by omega
  have N0 := Lib.hid (show n ≤ 1000 by omega)
  have N1 := Lib.hid (show m ≤ 1000 by omega)
  go_wp2_with fail
  refine (new_any v1).mono ?_
  rintro e v2 ⟨rfl, b1⟩
  have BV := Lib.hid (BV.out.trans (b1.mono BV.out.size))
  clear b1
  go_wp2_with fail
  refine (HP.out ▸ load_any zeroP 64 A n c L v2 (HA.out.rd.below BV.out) HA.out.len).mono ?_
  rintro e v3 ⟨rfl, b1⟩
  have BV := Lib.hid (BV.out.trans (b1.mono BV.out.size))
  clear b1
  simp only []
  go_at_K
  go_step
  refine list_var_all (ds := ac P 64) aggAud zeroAud (ac_size _ _) (ac_size _ _) (ac_one _ _) rfl rfl rfl (.tmp 7) (.tmp 27) rfl (by simp [Act.eval, Act.put]) (by simp [Act.eval, Act.put]) ?_
  simp only [Act.put, List.setIfInBounds_toArray, List.set_cons_zero, List.set_cons_succ]
  have S := Lib.hid (AB.new v3 P 64)
  have BA := below_new v3 (.cells (ac P 64) 26)
  have BV := Lib.hid (BV.out.trans (BA.mono BV.out.size))
  clear BA
  obtain ⟨a, hq⟩ : ∃ q, v3.heap.size = q := ⟨_, rfl⟩
  generalize v3.alloc (.cells (ac P 64) 26) = v4 at *
  rw [hq] at S ⊢
  clear hq
  go_wp2_with fail
  refine (new_any v4).mono ?_
  rintro e v5 ⟨rfl, b1⟩
  have S := Lib.hid (S.out.step b1)
  have BV := Lib.hid (BV.out.trans (b1.mono BV.out.size))
  clear b1
  go_wp2_with fail
  refine (HQ.out ▸ load_any zeroP 64 B m d M v5 (HB.out.rd.below BV.out) HB.out.len).mono ?_
  rintro e v6 ⟨rfl, b1⟩
  have S := Lib.hid (S.out.step b1)
  have BV := Lib.hid (BV.out.trans (b1.mono BV.out.size))
  clear b1
  simp only []
  go_at_K
  go_step
  refine list_var_all (ds := ac Q 64) aggAud zeroAud (ac_size _ _) (ac_size _ _) (ac_one _ _) rfl rfl rfl (.tmp 8) (.tmp 30) rfl (by simp [Act.eval, Act.put]) (by simp [Act.eval, Act.put]) ?_
  simp only [Act.put, List.setIfInBounds_toArray, List.set_cons_zero, List.set_cons_succ]
  have U := Lib.hid (AB.new v6 Q 64)
  have BA := below_new v6 (.cells (ac Q 64) 26)
  have S := Lib.hid (S.out.step BA)
  have BV := Lib.hid (BV.out.trans (BA.mono BV.out.size))
  clear BA
  obtain ⟨b, hq⟩ : ∃ q, v6.heap.size = q := ⟨_, rfl⟩
  generalize v6.alloc (.cells (ac Q 64) 26) = v7 at *
  rw [hq] at U ⊢
  clear hq
  go_wp2
  go_loopw [9, 10] (fun s j wr => ∃ k : Nat, k ≤ 128 ∧ j = .int .i64 (k : Int) ∧ s = .bool (eqS P Q k) ∧ Below v7.heap.size v7 wr) (fun _ j _ => 128 - (intOf j).toNat)
  case atStart => exact ⟨0, by omega, rfl, by rw [eqS_zero], Below.refl _ _⟩
  case round =>
    obtain ⟨k, hk, rfl, rfl, hB⟩ := hrel
    have WB := Lib.hid hB
    clear hB
    by_cases hlt : k < 128
    · have kI : (k : Int) < 128 := by omega
      have KL := Lib.hid hlt
      have ES := Lib.hid (eqS_succ P Q k)
      have SP := Lib.hid fun w : World => smp_nat P k hlt ▸ sample_any P 64 (k : Int) w
      have SQ := Lib.hid fun w : World => smp_nat Q k hlt ▸ sample_any Q 64 (k : Int) w
      obtain ⟨x, hx⟩ : ∃ x, smpN P k = x := ⟨_, rfl⟩
      obtain ⟨y, hy⟩ : ∃ y, smpN Q k = y := ⟨_, rfl⟩
      obtain ⟨z, hz⟩ : ∃ z, eqS P Q k = z := ⟨_, rfl⟩
      rw [hx] at ES SP
      rw [hy] at ES SQ
      rw [hz] at ES ⊢
      clear hx hy hz hlt
      have KS := Lib.hid (S.out.step WB.out).calm
      have KU := Lib.hid (U.out.step WB.out).calm
      go_upto_region 9 with fail
      cases z
      · have kc : True := trivial
        clear kc
        refine calm_region (by kernel_rfl) (by kernel_rfl) ?_
        repeat (go_big_quiet_step (fail))
        refine wpQuiet_nil ?_
        intro _ hw'
        obtain ⟨u, rfl⟩ := hw'
        have WB := Lib.hid (WB.out.trans (u.below.mono WB.out.size))
        clear KS KU SP SQ
        go_wp2
        go_roundw
        case rel => exact ⟨k + 1, by have := KL.out; omega, by go_num, by rw [ES.out]; rfl, WB.out⟩
        case measure => simp [intOf]; have := KL.out; omega
      · have kc : True := trivial
        clear kc
        refine calm_region (by kernel_rfl) (by kernel_rfl) ?_
        go_big_quiet_step (fail)
        go_big_quiet_step (fail)
        refine quiet_loadA KS.out ?_ (.tmp 7) ?_ ?_ ?_
        focus rfl
        focus rfl
        focus (simp [Act.eval]; done)
        simp only [Act.put, List.setIfInBounds_toArray, List.set_cons_zero, List.set_cons_succ]
        go_big_quiet_step (fail)
        go_big_quiet_step ((go_at_call 13; exact calm_call (SP.out _)))
        refine quiet_loadA KU.out ?_ (.tmp 8) ?_ ?_ ?_
        focus rfl
        focus rfl
        focus (simp [Act.eval]; done)
        simp only [Act.put, List.setIfInBounds_toArray, List.set_cons_zero, List.set_cons_succ]
        go_big_quiet_step (fail)
        go_big_quiet_step ((go_at_call 13; exact calm_call (SQ.out _)))
        go_big_quiet_step (fail)
        go_big_quiet_step (fail)
        go_big_quiet_step (fail)
        refine wpQuiet_nil ?_
        intro _ hw'
        obtain ⟨u, rfl⟩ := hw'
        have WB := Lib.hid (WB.out.trans (u.below.mono WB.out.size))
        clear KS KU SP SQ
        go_wp2
        go_roundw
        case rel => exact ⟨k + 1, by have := KL.out; omega, by go_num, by rw [ES.out]; rw [Bool.true_and], WB.out⟩
        case measure => simp [intOf]; have := KL.out; omega
    · obtain rfl : k = 128 := by omega
      have EP := Lib.hid (eqS_all OK.out OQ.out)
      have SA := Lib.hid (And.intro (smp_add P i) (smp_sub P i))
      obtain ⟨z, hz⟩ : ∃ z, eqS P Q 128 = z := ⟨_, rfl⟩
      rw [hz] at EP ⊢
      have f1 := IntWalk.i64_in (i + 128) (by omega)
      have f2 := IntWalk.i64_in (i - 256) (by omega)
      have f3 := IntWalk.i64_in i (by omega)
      have SM := Lib.hid fun w : World => sample_any P 64 i w
      have SN := Lib.hid fun w : World => SA.out.1 ▸ sample_any P 64 (i + 128) w
      have SO := Lib.hid fun w : World => SA.out.2 ▸ sample_any P 64 (i - 256) w
      obtain ⟨x, hx⟩ : ∃ x, smp P i = x := ⟨_, rfl⟩
      rw [hx] at SM SN SO
      have KS := Lib.hid (S.out.step WB.out).calm
      have KU := Lib.hid (U.out.step WB.out).calm
      have BV := Lib.hid (BV.out.trans (WB.out.mono BV.out.size))
      clear hx hz hlt hk SA
      go_upto_region 11 with fail
      refine calm_region (by kernel_rfl) (by kernel_rfl) ?_
      go_big_quiet_step (fail)
      go_big_quiet_step (fail)
      refine quiet_loadPat KS.out ?_ (.tmp 48) ?_ ?_ ?_
      focus rfl
      focus rfl
      focus (simp [Act.eval]; done)
      simp only [Act.put, List.setIfInBounds_toArray, List.set_cons_zero, List.set_cons_succ]
      go_big_quiet_step (fail)
      refine quiet_loadPat KU.out ?_ (.tmp 50) ?_ ?_ ?_
      focus rfl
      focus rfl
      focus (simp [Act.eval]; done)
      simp only [Act.put, List.setIfInBounds_toArray, List.set_cons_zero, List.set_cons_succ]
      refine quiet_eqPt (P := P) (Q := Q) ?_ (.tmp 49) (.tmp 51) 24 ?_ ?_ ?_ ?_
      focus rfl
      focus rfl
      focus (simp [Act.eval]; done)
      focus (simp [Act.eval]; done)
      rw [← EP.out]
      simp only [Act.put, List.setIfInBounds_toArray, List.set_cons_zero, List.set_cons_succ]
      go_big_quiet_step (fail)
      go_big_quiet_step (fail)
      refine quiet_loadA KS.out ?_ (.tmp 7) ?_ ?_ ?_
      focus rfl
      focus rfl
      focus (simp [Act.eval]; done)
      simp only [Act.put, List.setIfInBounds_toArray, List.set_cons_zero, List.set_cons_succ]
      go_big_quiet_step (fail)
      go_big_quiet_step ((go_at_call 13; exact calm_call (SM.out _)))
      refine quiet_loadA KS.out ?_ (.tmp 7) ?_ ?_ ?_
      focus rfl
      focus rfl
      focus (simp [Act.eval]; done)
      simp only [Act.put, List.setIfInBounds_toArray, List.set_cons_zero, List.set_cons_succ]
      go_big_quiet_step (fail)
      go_big_quiet_step (fail)
      go_big_quiet_step ((go_at_call 13; exact calm_call (SN.out _)))
      go_big_quiet_step (fail)
      go_big_quiet_step (fail)
      go_big_quiet_step (fail)
      refine quiet_loadA KS.out ?_ (.tmp 7) ?_ ?_ ?_
      focus rfl
      focus rfl
      focus (simp [Act.eval]; done)
      simp only [Act.put, List.setIfInBounds_toArray, List.set_cons_zero, List.set_cons_succ]
      go_big_quiet_step (fail)
      go_big_quiet_step ((go_at_call 13; exact calm_call (SM.out _)))
      refine quiet_loadA KS.out ?_ (.tmp 7) ?_ ?_ ?_
      focus rfl
      focus rfl
      focus (simp [Act.eval]; done)
      simp only [Act.put, List.setIfInBounds_toArray, List.set_cons_zero, List.set_cons_succ]
      go_big_quiet_step (fail)
      go_big_quiet_step (fail)
      go_big_quiet_step ((go_at_call 13; exact calm_call (SO.out _)))
      go_big_quiet_step (fail)
      go_big_quiet_step (fail)
      go_big_quiet_step (fail)
      refine wpQuiet_nil ?_
      intro _ hw'
      obtain ⟨u2, rfl⟩ := hw'
      have BV := Lib.hid (BV.out.trans (u2.below.mono BV.out.size))
      clear KS KU
      go_wp2
      go_ret
      exact ⟨by simp, BV.out⟩
end Go.Proofs.Ytojgblpgbfpcbaa
