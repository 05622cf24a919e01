/- The walk of AudioLoads. -/
import Derived.Test.YtojgblpgbfpcbaaAudAwake
import Derived.Test.YtojgblpgbfpcbaaAudRef
import Derived.Test.YtojgblpgbfpcbaaSame
import Derived.Test.YtojgblpgbfpcbaaAudOps
import Derived.Test.YtojgblpgbfpcbaaBytOpen
import Derived.Test.YtojgblpgbfpcbaaAppRd
import Derived.Deep.Cut
namespace Go.Proofs.Ytojgblpgbfpcbaa
open Go.RowKit Num
set_option linter.unusedVariables false
set_option linter.unusedSimpArgs false

set_option maxRecDepth 100000 in
set_option maxHeartbeats 8000000 in
theorem audioLoads_walk (A : Option Addr) (n c : Nat) (L : List Int) (B : Option Addr) (m d : Nat) (M : List Int) (q : Int) (w : World) (H : ArgB w A n c L) (H2 : ArgB w B m d M) (wq : (Lit.int .u8 q).wf = true) :
    Calls Try.prog 5 #[.slice A n c, .slice B m d, .int .u8 q] w fun e w' => e = .returned (.bool true) ∧ Below w.heap.size w w' := by
  have HA := Lib.hid H
  have HB := Lib.hid H2
  clear H H2 wq
  obtain ⟨P, hP⟩ : ∃ P, pad L = P := ⟨_, rfl⟩
  have HP := Lib.hid hP
  clear hP
  obtain ⟨Q, hQ⟩ : ∃ Q, pad M = Q := ⟨_, rfl⟩
  have HQ := Lib.hid hQ
  clear hQ
  obtain ⟨v0, hv0⟩ : ∃ v0, v0 = w := ⟨_, rfl⟩
  subst hv0
  go_enter Try.func5, Try.ntmps5
  go_wp2_with fail
  refine (awake11 _).mono ?_
  rintro e v1 ⟨rfl, b1⟩
  have BV := Lib.hid b1
  clear b1
  by_cases hlen0 : 1000 < n
  · have k0 : (1000 : Int) < (n : Int) := by omega
    go_wp2_with fail
    refine (awake11 _).mono ?_
    rintro e v2 ⟨rfl, b1⟩
    have BV := Lib.hid (BV.out.trans (b1.mono BV.out.size))
    clear b1
    go_wp2
    go_ret
    exact ⟨rfl, BV.out⟩
  have k0 : ¬ (1000 : Int) < (n : Int) := by omega
  by_cases hlen1 : 1000 < m
  · have k1 : (1000 : Int) < (m : Int) := by omega
    go_wp2_with fail
    refine (awake11 _).mono ?_
    rintro e v2 ⟨rfl, b1⟩
    have BV := Lib.hid (BV.out.trans (b1.mono BV.out.size))
    clear b1
    go_wp2
    go_ret
    exact ⟨rfl, BV.out⟩
  have k1 : ¬ (1000 : Int) < (m : Int) := by omega
  have N0 := Lib.hid (show n ≤ 1000 by omega)
  have N1 := Lib.hid (show m ≤ 1000 by omega)
  go_upto_region 3 with fail
  refine wp_region_lit ?_
  have hown0 : (v1.alloc (.cells #[] 5)).ownsRow v1.heap.size 5 1 (.slice (some ⟨v1.heap.size, 0, none⟩) 0 0) 0 (([] : List Int).map (Value.int .u8)) := World.ownsRow_made v1 #[] 0 (Nat.le_refl _) (by unfold maxLen; omega) rfl
  have B1 := Lib.hid (below_new v1 (.cells #[] 5))
  have O1 := Lib.hid hown0
  clear hown0
  iterate 6 go_step
  refine wpList_append_rd rfl (.tmp 23) (.tmp 24) rfl v1.heap.size (.slice (some ⟨v1.heap.size, 0, none⟩) 0 0) 0 [] (by simp [Act.eval]) O1.out B m d M (by simp [Act.eval]) ((HB.out.rd.below BV.out).below B1.out) HB.out.len (by have := N1.out; omega) (by simp) ?_
  intro vo w2 hown hgrow
  rw [Nat.zero_add, List.nil_append] at hown
  have B2 := B1.out.grown hgrow (by simp) fun j ej => (O1.out.lt j ej).1
  obtain ⟨D, e, rfl⟩ := own_form hown
  have RD := Lib.hid (own_rd hown)
  have BV := Lib.hid (BV.out.trans (B2.mono BV.out.size))
  clear hown hgrow B2 B1 O1
  simp only [Act.put, List.setIfInBounds_toArray, List.set_cons_zero, List.set_cons_succ]
  go_wp2_with fail
  refine (new_any w2).mono ?_
  rintro e v2 ⟨rfl, b1⟩
  have RD := Lib.hid (RD.out.below b1)
  have BV := Lib.hid (BV.out.trans (b1.mono BV.out.size))
  clear b1
  go_wp2_with fail
  refine (HP.out ▸ load_any zeroP 64 A n c L v2 (HA.out.rd.below BV.out) HA.out.len).mono ?_
  rintro e v3 ⟨rfl, b1⟩
  have RD := Lib.hid (RD.out.below b1)
  have BV := Lib.hid (BV.out.trans (b1.mono BV.out.size))
  clear b1
  go_wp2_with fail
  refine (tune_any P 64 q v3).mono ?_
  rintro e v4 ⟨rfl, b1⟩
  have RD := Lib.hid (RD.out.below b1)
  have BV := Lib.hid (BV.out.trans (b1.mono BV.out.size))
  clear b1
  simp only []
  go_at_K
  go_step
  refine list_var_all (ds := ac P q) aggAud zeroAud (ac_size _ _) (ac_size _ _) (ac_one _ _) rfl rfl rfl (.tmp 8) (.tmp 30) rfl (by simp [Act.eval, Act.put]) (by simp [Act.eval, Act.put]) ?_
  simp only [Act.put, List.setIfInBounds_toArray, List.set_cons_zero, List.set_cons_succ]
  have X := Lib.hid (AB.new v4 P q)
  have BA := below_new v4 (.cells (ac P q) 26)
  have RD := Lib.hid (RD.out.below BA)
  have BV := Lib.hid (BV.out.trans (BA.mono BV.out.size))
  clear BA
  obtain ⟨a, hq⟩ : ∃ q, v4.heap.size = q := ⟨_, rfl⟩
  generalize v4.alloc (.cells (ac P q) 26) = v5 at *
  rw [hq] at X ⊢
  clear hq
  go_upto_region 5 with fail
  refine wp_region_lit ?_
  refine list_load_all aggAud X.out (ac_size _ _) rfl (.tmp 8) rfl (by simp [Act.eval]) ?_
  simp only [Act.put, List.setIfInBounds_toArray, List.set_cons_zero, List.set_cons_succ]
  go_wp2_with fail
  refine (HQ.out ▸ load_any P q D m e M v5 RD.out HB.out.len).mono ?_
  rintro e v6 ⟨rfl, b1⟩
  have RD := Lib.hid (RD.out.below b1)
  have BV := Lib.hid (BV.out.trans (b1.mono BV.out.size))
  clear b1
  simp only []
  go_at_K
  go_step
  refine list_var_all (ds := ac Q q) aggAud zeroAud (ac_size _ _) (ac_size _ _) (ac_one _ _) rfl rfl rfl (.tmp 9) (.tmp 33) rfl (by simp [Act.eval, Act.put]) (by simp [Act.eval, Act.put]) ?_
  simp only [Act.put, List.setIfInBounds_toArray, List.set_cons_zero, List.set_cons_succ]
  have Y := Lib.hid (AB.new v6 Q q)
  have BA := below_new v6 (.cells (ac Q q) 26)
  have RD := Lib.hid (RD.out.below BA)
  have BV := Lib.hid (BV.out.trans (BA.mono BV.out.size))
  clear BA
  obtain ⟨b, hq⟩ : ∃ q, v6.heap.size = q := ⟨_, rfl⟩
  generalize v6.alloc (.cells (ac Q q) 26) = v7 at *
  rw [hq] at Y ⊢
  clear hq
  have LC := Lib.hid fun x : Calm v7 => HQ.out ▸ load_any zeroP 64 B m d M x.w ((HB.out.rd.below BV.out).below x.below) HB.out.len
  have SC := Lib.hid fun x : Calm v7 => (show _ from same2_any D B e d m m M M x.w HB.out.len HB.out.len (by have := N1.out; omega) (by have := N1.out; omega) (RD.out.below x.below) ((HB.out.rd.below BV.out).below x.below) : Calls Try.prog 14 #[.slice D m e, .slice B m d] x.w fun e w' => e = .returned (.bool (decide (M = M))) ∧ Below x.w.heap.size x.w w')
  rw [decide_eq_true rfl] at SC
  have c16 := Calm.cell (W := v7) Y.out.pitch Y.out.lt
  have KY := Lib.hid Y.out.calm
  go_upto_region 6 with fail
  refine calm_region (by kernel_rfl) (by kernel_rfl) ?_
  go_big_quiet_step (fail)
  go_big_quiet_step (fail)
  go_big_quiet_step (fail)
  go_big_quiet_step (fail)
  go_big_quiet_step (fail)
  go_big_quiet_step (fail)
  refine quiet_loadPat KY.out ?_ (.tmp 39) ?_ ?_ ?_
  focus rfl
  focus rfl
  focus (simp [Act.eval]; done)
  simp only [Act.put, List.setIfInBounds_toArray, List.set_cons_zero, List.set_cons_succ]
  go_big_quiet_step ((go_at_call 10; exact calm_call (new_any _)))
  go_big_quiet_step (fail)
  go_big_quiet_step ((go_at_call 9; exact calm_call (LC.out _)))
  refine quiet_patOf (P := Q) (p := 64) ?_ (.tmp 43) ?_ ?_ ?_
  focus rfl
  focus rfl
  focus (simp [Act.eval]; done)
  simp only [Act.put, List.setIfInBounds_toArray, List.set_cons_zero, List.set_cons_succ]
  refine quiet_eqPt (P := Q) (Q := Q) ?_ (.tmp 40) (.tmp 44) 24 ?_ ?_ ?_ ?_
  focus rfl
  focus rfl
  focus (simp [Act.eval]; done)
  focus (simp [Act.eval]; done)
  rw [eqP_self]
  simp only [Act.put, List.setIfInBounds_toArray, List.set_cons_zero, List.set_cons_succ]
  go_big_quiet_step (fail)
  go_big_quiet_step (fail)
  refine quiet_loadA KY.out ?_ (.tmp 9) ?_ ?_ ?_
  focus rfl
  focus rfl
  focus (simp [Act.eval]; done)
  simp only [Act.put, List.setIfInBounds_toArray, List.set_cons_zero, List.set_cons_succ]
  go_big_quiet_step ((go_at_call 8; exact calm_call (tune_any Q q 1 _)))
  refine quiet_patOf (P := Q) (p := 1) ?_ (.tmp 49) ?_ ?_ ?_
  focus rfl
  focus rfl
  focus (simp [Act.eval]; done)
  simp only [Act.put, List.setIfInBounds_toArray, List.set_cons_zero, List.set_cons_succ]
  go_big_quiet_step (fail)
  refine quiet_loadPat KY.out ?_ (.tmp 51) ?_ ?_ ?_
  focus rfl
  focus rfl
  focus (simp [Act.eval]; done)
  simp only [Act.put, List.setIfInBounds_toArray, List.set_cons_zero, List.set_cons_succ]
  refine quiet_eqPt (P := Q) (Q := Q) ?_ (.tmp 50) (.tmp 52) 24 ?_ ?_ ?_ ?_
  focus rfl
  focus rfl
  focus (simp [Act.eval]; done)
  focus (simp [Act.eval]; done)
  rw [eqP_self]
  simp only [Act.put, List.setIfInBounds_toArray, List.set_cons_zero, List.set_cons_succ]
  go_big_quiet_step (fail)
  go_big_quiet_step (fail)
  go_big_quiet_step (fail)
  go_big_quiet_step (fail)
  go_big_quiet_step ((go_at_call 14; exact calm_call (SC.out _)))
  go_big_quiet_step (fail)
  go_big_quiet_step (fail)
  refine wpQuiet_nil ?_
  intro _ hw'
  obtain ⟨u, rfl⟩ := hw'
  have BV := Lib.hid (BV.out.trans (u.below.mono BV.out.size))
  clear KY c16 LC SC
  go_wp2
  go_ret
  exact ⟨by simp, BV.out⟩
end Go.Proofs.Ytojgblpgbfpcbaa
