/- The walk of KeypadEdges. -/
import Derived.Test.YtdlomdkapepkbaaKeyAwake
import Derived.Test.YtdlomdkapepkbaaKeyOpen
import Derived.Test.YtdlomdkapepkbaaLate
import Derived.Shelf.Abstract
import Derived.Test.YtdlomdkapepkbaaPlain
namespace Go.Proofs.Ytdlomdkapepkbaa
open Go.RowKit Go.Shelf Num
set_option linter.unusedVariables false
set_option linter.unusedSimpArgs false

set_option maxRecDepth 100000 in
set_option maxHeartbeats 16000000 in
theorem keypadEdges_walk (A : Option Addr) (n c : Nat) (l : List Ev) (ev : Ev) (w : World) (H : ArgE w A n c l) (we : ev.ok) :
    Calls Try.prog 4 #[.slice A n c, .agg (ec ev)] w fun e w' => e = .returned (.bool true) ∧ Below w.heap.size w w' := by
  obtain ⟨ek, ed⟩ := ev
  obtain ⟨e0, e1⟩ := we
  unfold ec
  simp only at e0 e1 ⊢
  have GE := Lib.hid H
  have mx := H.max
  have nc := H.cap
  clear H
  obtain ⟨v0, hv0⟩ : ∃ v0, v0 = w := ⟨_, rfl⟩
  subst hv0
  have E := Lib.hid (Blk.new v0 30 #[.int .i64 ek, .bool ed])
  have BV := Lib.hid (below_newK v0 (.cells #[.int .i64 ek, .bool ed] 30))
  obtain ⟨g, hg⟩ : ∃ g, v0.heap.size = g := ⟨_, rfl⟩
  have HG := Lib.hid hg
  rw [hg] at E
  clear hg
  go_enter Try.func4, Try.ntmps4
  go_wp2_with fail
  generalize v0.alloc (.cells #[.int .i64 ek, .bool ed] 30) = va at *
  rw [HG.out]
  refine (awake9 _).mono ?_
  rintro e v1 ⟨rfl, b1⟩
  have E := Lib.hid (E.out.step b1)
  have BV := Lib.hid (BV.out.trans (b1.mono BV.out.size))
  clear b1
  by_cases hlen : 200 < n
  · have k1 : (200 : Int) < (n : Int) := by omega
    go_wp2_with fail
    refine (awake9 _).mono ?_
    rintro e v2 ⟨rfl, b1⟩
    have BV := Lib.hid (BV.out.trans (b1.mono BV.out.size))
    clear b1
    go_wp2
    go_ret
    exact ⟨rfl, BV.out⟩
  have k1 : ¬ (200 : Int) < (n : Int) := by omega
  obtain ⟨K0, hK0⟩ : ∃ K, K = aft up l := ⟨_, rfl⟩
  obtain ⟨K1, hK1⟩ : ∃ K1, K1 = ap K0 ⟨ek, ed⟩ := ⟨_, rfl⟩
  obtain ⟨rl, hrl⟩ : ∃ rl, rl = rel K0 ⟨ek, ed⟩ := ⟨_, rfl⟩
  have AL := Lib.hid fun (w' : World) (hb : Below v0.heap.size v0 w') => all_any up K0 (rls up l) A n c l w' (GE.out.ev.step hb) (by omega) hK0 rfl
  have AP0 := Lib.hid fun w' => (hK1 ▸ hrl ▸ apply_any K0 ⟨ek, ed⟩ w' : Calls Try.prog 8 #[.agg (kc K0), .agg #[.int .i64 ek, .bool ed]] w' fun x w'' => x = .returned (.tuple #[.agg (kc K1), .bool rl]) ∧ Below w'.heap.size w' w'')
  have AP1 := Lib.hid fun w' => (show Calls Try.prog 8 #[.agg (kc K1), .agg #[.int .i64 ek, .bool ed]] w' fun x w'' => x = .returned (.tuple #[.agg (kc K1), .bool false]) ∧ Below w'.heap.size w' w'' from by
    have h := apply_any K1 ⟨ek, ed⟩ w'
    rw [hK1, ap_twice, rel_twice] at h
    rw [hK1]
    exact h)
  have HS := Lib.hid (fun (j : Nat) (hj : j < 16) (h : ek = (j : Int)) => (show rl = (K0 j && !K1 j) ∧ K1 j = ed by rw [hrl, hK1]; exact ⟨rel_same K0 ⟨ek, ed⟩ j hj h.symm, ap_same K0 ⟨ek, ed⟩ j hj h.symm⟩))
  have HO := Lib.hid (fun (j : Nat) (h : ek ≠ (j : Int)) => (show K1 j = K0 j by rw [hK1]; exact ap_other K0 ⟨ek, ed⟩ j (fun q => h q.symm)))
  have HX := Lib.hid (fun h : ¬ (0 ≤ ek ∧ ek ≤ 15) => (show K1 = K0 ∧ rl = false by rw [hrl, hK1]; exact ⟨ap_out h, rel_out h⟩))
  obtain ⟨LL, hLL⟩ : ∃ L, L = rls up l := ⟨_, rfl⟩
  rw [← hLL] at AL
  clear hK0 hK1 hrl hLL
  go_upto_region 3 with fail
  refine wp_region_lit ?_
  refine list_build_all (cs := kc up) rfl rfl (by simp [Act.eval]; exact built_pad) ?_
  simp only [Act.put, List.setIfInBounds_toArray, List.set_cons_zero, List.set_cons_succ]
  go_wp2_with fail
  refine (AL.out _ BV.out).mono ?_
  rintro e v2 ⟨⟨D1, c1, rfl, hrow⟩, b1⟩
  have E := Lib.hid (E.out.step b1)
  clear hrow
  have BV := Lib.hid (BV.out.trans (b1.mono BV.out.size))
  clear b1
  simp only []
  go_at_K
  iterate 10 go_step
  refine list_var_all (ds := kc K0) aggPad zeroPad (kc_size _) (kc_size _) (kc_one _) rfl rfl rfl (.tmp 5) (.tmp 24) rfl (by simp [Act.eval, Act.put]) (by simp [Act.eval, Act.put]) ?_
  simp only [Act.put, List.setIfInBounds_toArray, List.set_cons_zero, List.set_cons_succ]
  have P := Lib.hid (KB.new v2 K0)
  have BA := below_newK v2 (.cells (kc K0) 26)
  have E := Lib.hid (E.out.step BA)
  have BV := Lib.hid (BV.out.trans (BA.mono BV.out.size))
  clear BA
  obtain ⟨p, hq⟩ : ∃ q, v2.heap.size = q := ⟨_, rfl⟩
  generalize v2.alloc (.cells (kc K0) 26) = v3 at *
  rw [hq] at P ⊢
  clear hq
  go_upto_region 4 with fail
  refine wp_region_lit ?_
  refine list_load_all aggPad P.out (kc_size _) rfl (.tmp 5) rfl (by simp [Act.eval, Act.put]) ?_
  simp only [Act.put, List.setIfInBounds_toArray, List.set_cons_zero, List.set_cons_succ]
  refine list_load_all aggEv E.out rfl rfl (.tmp 3) rfl (by simp [Act.eval, Act.put]) ?_
  simp only [Act.put, List.setIfInBounds_toArray, List.set_cons_zero, List.set_cons_succ]
  go_wp2_with fail
  refine (AP0.out _).mono ?_
  rintro e v4 ⟨rfl, b1⟩
  have E := Lib.hid (E.out.step b1)
  have P := Lib.hid (P.out.step b1)
  have BV := Lib.hid (BV.out.trans (b1.mono BV.out.size))
  clear b1
  simp only []
  go_at_K
  iterate 10 go_step
  refine list_var_all (ds := kc K1) aggPad zeroPad (kc_size _) (kc_size _) (kc_one _) rfl rfl rfl (.tmp 7) (.tmp 30) rfl (by simp [Act.eval, Act.put]) (by simp [Act.eval, Act.put]) ?_
  simp only [Act.put, List.setIfInBounds_toArray, List.set_cons_zero, List.set_cons_succ]
  have Q := Lib.hid (KB.new v4 K1)
  have BA := below_newK v4 (.cells (kc K1) 26)
  have E := Lib.hid (E.out.step BA)
  have P := Lib.hid (P.out.step BA)
  have BV := Lib.hid (BV.out.trans (BA.mono BV.out.size))
  clear BA
  obtain ⟨q, hq⟩ : ∃ q, v4.heap.size = q := ⟨_, rfl⟩
  generalize v4.alloc (.cells (kc K1) 26) = v5 at *
  rw [hq] at Q ⊢
  clear hq
  go_upto_region 5 with fail
  refine wp_region_lit ?_
  refine list_load_all aggPad Q.out (kc_size _) rfl (.tmp 7) rfl (by simp [Act.eval, Act.put]) ?_
  simp only [Act.put, List.setIfInBounds_toArray, List.set_cons_zero, List.set_cons_succ]
  refine list_load_all aggEv E.out rfl rfl (.tmp 3) rfl (by simp [Act.eval, Act.put]) ?_
  simp only [Act.put, List.setIfInBounds_toArray, List.set_cons_zero, List.set_cons_succ]
  go_wp2_with fail
  refine (AP1.out _).mono ?_
  rintro e v6 ⟨rfl, b1⟩
  have E := Lib.hid (E.out.step b1)
  have P := Lib.hid (P.out.step b1)
  have Q := Lib.hid (Q.out.step b1)
  have BV := Lib.hid (BV.out.trans (b1.mono BV.out.size))
  clear b1
  simp only []
  go_at_K
  iterate 10 go_step
  refine list_var_all (ds := kc K1) aggPad zeroPad (kc_size _) (kc_size _) (kc_one _) rfl rfl rfl (.tmp 9) (.tmp 36) rfl (by simp [Act.eval, Act.put]) (by simp [Act.eval, Act.put]) ?_
  simp only [Act.put, List.setIfInBounds_toArray, List.set_cons_zero, List.set_cons_succ]
  have R := Lib.hid (KB.new v6 K1)
  have BA := below_newK v6 (.cells (kc K1) 26)
  have E := Lib.hid (E.out.step BA)
  have P := Lib.hid (P.out.step BA)
  have Q := Lib.hid (Q.out.step BA)
  have BV := Lib.hid (BV.out.trans (BA.mono BV.out.size))
  clear BA
  obtain ⟨r, hq⟩ : ∃ q, v6.heap.size = q := ⟨_, rfl⟩
  generalize v6.alloc (.cells (kc K1) 26) = v7 at *
  rw [hq] at R ⊢
  clear hq
  clear AL AP0 AP1
  go_wp2
  go_loopw [11] (fun i wr => ∃ j : Nat, j ≤ 16 ∧ i = .int .i64 (j : Int) ∧ Below v7.heap.size v7 wr) (fun i _ => 16 - (intOf i).toNat)
  case atStart => exact ⟨0, Nat.zero_le _, rfl, Below.refl _ _⟩
  case round =>
    obtain ⟨j, hj, rfl, hb⟩ := hrel
    have HB := Lib.hid hb
    have E := Lib.hid (E.out.step hb)
    have P := Lib.hid (P.out.step hb)
    have Q := Lib.hid (Q.out.step hb)
    have R := Lib.hid (R.out.step hb)
    have BV := Lib.hid (BV.out.trans (hb.mono BV.out.size))
    clear hb
    by_cases hlt : j < 16
    · have j0 : 0 ≤ (j : Int) := by omega
      have j1 : (j : Int) < 16 := by omega
      have q1 : ∀ u : Calm wr, u.w.cell? ⟨g, 0, none⟩ = some (.int .i64 ek) := fun u => by rw [(E.out.step u.below).cell]; rfl
      have q2 : ∀ u : Calm wr, u.w.cell? ⟨g, 1, none⟩ = some (.bool ed) := fun u => by rw [(E.out.step u.below).cell]; rfl
      obtain ⟨pv, hpv⟩ : ∃ v, K0 j = v := ⟨_, rfl⟩
      obtain ⟨qv, hqv⟩ : ∃ v, K1 j = v := ⟨_, rfl⟩
      have q3 : ∀ u : Calm wr, u.w.cell? ⟨p, j, none⟩ = some (.bool pv) := fun u => by rw [(P.out.step u.below).cell hlt, hpv]
      have q4 : ∀ u : Calm wr, u.w.cell? ⟨q, j, none⟩ = some (.bool qv) := fun u => by rw [(Q.out.step u.below).cell hlt, hqv]
      by_cases hf : ek = (j : Int)
      · obtain ⟨h1, h2⟩ := HS.out j hlt hf
        rw [hpv, hqv] at h1
        rw [hqv] at h2
        have f1 : ((j : Int) == ek) = true := by simp [hf]
        have f2 : ((j : Int) != ek) = false := by simp [hf]
        clear hpv hqv hf HS HO HX
        subst h2
        subst h1
        cases pv
        all_goals
          cases qv
          all_goals
            go_upto_region 9 with fail
            refine calm_region (by kernel_rfl) (by kernel_rfl) ?_
            repeat (go_big_quiet_step (fail))
            refine wpQuiet_nil ?_
            intro _ hw'
            obtain ⟨u, rfl⟩ := hw'
            have HB := Lib.hid (HB.out.trans (u.below.mono HB.out.size))
            clear q1 q2 q3 q4
            generalize u.w = w5 at *
            go_wp2
            go_roundw
            case rel => exact ⟨j + 1, by omega, by go_num, HB.out⟩
            case measure => simp [intOf]; omega
      · have h1 := HO.out j hf
        rw [hpv, hqv] at h1
        have f1 : ((j : Int) == ek) = false := by simp; omega
        have f2 : ((j : Int) != ek) = true := by simp; omega
        clear hpv hqv hf HS HO HX
        subst h1
        cases qv
        all_goals
          go_upto_region 9 with fail
          refine calm_region (by kernel_rfl) (by kernel_rfl) ?_
          repeat (go_big_quiet_step (fail))
          refine wpQuiet_nil ?_
          intro _ hw'
          obtain ⟨u, rfl⟩ := hw'
          have HB := Lib.hid (HB.out.trans (u.below.mono HB.out.size))
          clear q1 q2 q3 q4
          generalize u.w = w5 at *
          go_wp2
          go_roundw
          case rel => exact ⟨j + 1, by omega, by go_num, HB.out⟩
          case measure => simp [intOf]; omega
    · have j1 : ¬ (j : Int) < 16 := by omega
      clear HS HO
      go_upto_region 11 with fail
      clear j1
      have q1 : ∀ u : Calm wr, u.w.cell? ⟨g, 0, none⟩ = some (.int .i64 ek) := fun u => by rw [(E.out.step u.below).cell]; rfl
      have KP := Lib.hid (fun (w' : World) (hw : ∃ u : Calm wr, w' = u.w) => show KB p K0 w' by obtain ⟨u, rfl⟩ := hw; exact P.out.step u.below)
      have KQ := Lib.hid (fun (w' : World) (hw : ∃ u : Calm wr, w' = u.w) => show KB q K1 w' by obtain ⟨u, rfl⟩ := hw; exact Q.out.step u.below)
      have KR := Lib.hid (fun (w' : World) (hw : ∃ u : Calm wr, w' = u.w) => show KB r K1 w' by obtain ⟨u, rfl⟩ := hw; exact R.out.step u.below)
      by_cases h : 0 ≤ ek ∧ ek ≤ 15
      · have f1 : decide (0 ≤ ek) = true := decide_eq_true h.1
        have f2 : decide (ek ≤ 15) = true := decide_eq_true h.2
        have f3 := h.1
        have f4 := h.2
        clear h HX
        refine calm_plain ?_
        refine quiet_load_all aggPad KR.out (kc_size _) ?_ (.tmp 9) rfl ?_ ?_
        (focus rfl)
        (focus (simp [Act.eval]; done))
        simp only [Act.put, List.setIfInBounds_toArray, List.set_cons_zero, List.set_cons_succ]
        refine quiet_load_all aggPad KQ.out (kc_size _) ?_ (.tmp 7) rfl ?_ ?_
        (focus rfl)
        (focus (simp [Act.eval]; done))
        simp only [Act.put, List.setIfInBounds_toArray, List.set_cons_zero, List.set_cons_succ]
        refine quiet_eqK (K := K1) ?_ (.tmp 87) (.tmp 88) 26 rfl ?_ ?_ ?_
        (focus rfl)
        (focus (simp [Act.eval]; done))
        (focus (simp [Act.eval]; done))
        simp only [Act.put, List.setIfInBounds_toArray, List.set_cons_zero, List.set_cons_succ]
        repeat (go_big_quiet_step (fail))
        refine wpQuiet_nil ?_
        intro _ hw'
        obtain ⟨u, rfl⟩ := hw'
        have BV := Lib.hid (BV.out.trans (u.below.mono BV.out.size))
        iterate 3 go_step
        go_ret
        exact ⟨rfl, BV.out⟩
      · obtain ⟨h1, h2⟩ := HX.out h
        subst h1
        subst h2
        clear HX
        by_cases f3 : 0 ≤ ek
        · have f4 : ¬ ek ≤ 15 := fun q => h ⟨f3, q⟩
          have f1 : decide (0 ≤ ek) = true := decide_eq_true f3
          have f2 : decide (ek ≤ 15) = false := decide_eq_false f4
          clear h
          refine calm_plain ?_
          refine quiet_load_all aggPad KR.out (kc_size _) ?_ (.tmp 9) rfl ?_ ?_
          (focus rfl)
          (focus (simp [Act.eval]; done))
          simp only [Act.put, List.setIfInBounds_toArray, List.set_cons_zero, List.set_cons_succ]
          refine quiet_load_all aggPad KQ.out (kc_size _) ?_ (.tmp 7) rfl ?_ ?_
          (focus rfl)
          (focus (simp [Act.eval]; done))
          simp only [Act.put, List.setIfInBounds_toArray, List.set_cons_zero, List.set_cons_succ]
          refine quiet_eqK (K := K1) ?_ (.tmp 87) (.tmp 88) 26 rfl ?_ ?_ ?_
          (focus rfl)
          (focus (simp [Act.eval]; done))
          (focus (simp [Act.eval]; done))
          simp only [Act.put, List.setIfInBounds_toArray, List.set_cons_zero, List.set_cons_succ]
          iterate 14 (go_big_quiet_step (fail))
          refine quiet_load_all aggPad KQ.out (kc_size _) ?_ (.tmp 7) rfl ?_ ?_
          (focus rfl)
          (focus (simp [Act.eval]; done))
          simp only [Act.put, List.setIfInBounds_toArray, List.set_cons_zero, List.set_cons_succ]
          refine quiet_load_all aggPad KP.out (kc_size _) ?_ (.tmp 5) rfl ?_ ?_
          (focus rfl)
          (focus (simp [Act.eval]; done))
          simp only [Act.put, List.setIfInBounds_toArray, List.set_cons_zero, List.set_cons_succ]
          refine quiet_eqK (K := K1) ?_ (.tmp 104) (.tmp 105) 26 rfl ?_ ?_ ?_
          (focus rfl)
          (focus (simp [Act.eval]; done))
          (focus (simp [Act.eval]; done))
          simp only [Act.put, List.setIfInBounds_toArray, List.set_cons_zero, List.set_cons_succ]
          repeat (go_big_quiet_step (fail))
          refine wpQuiet_nil ?_
          intro _ hw'
          obtain ⟨u, rfl⟩ := hw'
          have BV := Lib.hid (BV.out.trans (u.below.mono BV.out.size))
          iterate 3 go_step
          go_ret
          exact ⟨rfl, BV.out⟩
        · have f1 : decide (0 ≤ ek) = false := decide_eq_false f3
          clear h
          refine calm_plain ?_
          refine quiet_load_all aggPad KR.out (kc_size _) ?_ (.tmp 9) rfl ?_ ?_
          (focus rfl)
          (focus (simp [Act.eval]; done))
          simp only [Act.put, List.setIfInBounds_toArray, List.set_cons_zero, List.set_cons_succ]
          refine quiet_load_all aggPad KQ.out (kc_size _) ?_ (.tmp 7) rfl ?_ ?_
          (focus rfl)
          (focus (simp [Act.eval]; done))
          simp only [Act.put, List.setIfInBounds_toArray, List.set_cons_zero, List.set_cons_succ]
          refine quiet_eqK (K := K1) ?_ (.tmp 87) (.tmp 88) 26 rfl ?_ ?_ ?_
          (focus rfl)
          (focus (simp [Act.eval]; done))
          (focus (simp [Act.eval]; done))
          simp only [Act.put, List.setIfInBounds_toArray, List.set_cons_zero, List.set_cons_succ]
          iterate 14 (go_big_quiet_step (fail))
          refine quiet_load_all aggPad KQ.out (kc_size _) ?_ (.tmp 7) rfl ?_ ?_
          (focus rfl)
          (focus (simp [Act.eval]; done))
          simp only [Act.put, List.setIfInBounds_toArray, List.set_cons_zero, List.set_cons_succ]
          refine quiet_load_all aggPad KP.out (kc_size _) ?_ (.tmp 5) rfl ?_ ?_
          (focus rfl)
          (focus (simp [Act.eval]; done))
          simp only [Act.put, List.setIfInBounds_toArray, List.set_cons_zero, List.set_cons_succ]
          refine quiet_eqK (K := K1) ?_ (.tmp 104) (.tmp 105) 26 rfl ?_ ?_ ?_
          (focus rfl)
          (focus (simp [Act.eval]; done))
          (focus (simp [Act.eval]; done))
          simp only [Act.put, List.setIfInBounds_toArray, List.set_cons_zero, List.set_cons_succ]
          repeat (go_big_quiet_step (fail))
          refine wpQuiet_nil ?_
          intro _ hw'
          obtain ⟨u, rfl⟩ := hw'
          have BV := Lib.hid (BV.out.trans (u.below.mono BV.out.size))
          iterate 3 go_step
          go_ret
          exact ⟨rfl, BV.out⟩

end Go.Proofs.Ytdlomdkapepkbaa
