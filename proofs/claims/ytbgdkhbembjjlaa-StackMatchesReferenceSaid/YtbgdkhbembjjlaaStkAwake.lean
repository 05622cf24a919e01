/- The contract of 'awake' of layer 17. -/
import Derived.Test.YtbgdkhbembjjlaaStkList
import Derived.Test.YtbgdkhbembjjlaaLate
import Derived.Deep.Cut
import Derived.Shelf.Abstract
namespace Go.Proofs.Ytbgdkhbembjjlaa
open Go.RowKit Go.Shelf Num
set_option linter.unusedVariables false
set_option linter.unusedSimpArgs false
set_option maxRecDepth 100000

set_option maxHeartbeats 8000000 in
theorem awake17 (w : World) : Calls Try.prog 6 #[] w fun e w' => e = .returned (.bool true) ∧ Below w.heap.size w w' := by
  have P1 := Lib.hid fun w => (push_yes [] 514 (by decide) w : Calls Try.prog 9 #[.agg (stkL []), .int .i64 514] w fun e w' => e = .returned (.tuple #[.agg (stkL [514]), .int .i64 0]) ∧ Below w.heap.size w w')
  have P2 := Lib.hid fun w => (push_yes [514] 600 (by decide) w : Calls Try.prog 9 #[.agg (stkL [514]), .int .i64 600] w fun e w' => e = .returned (.tuple #[.agg (stkL [514, 600]), .int .i64 0]) ∧ Below w.heap.size w w')
  have P3 := Lib.hid fun w => (pop_yes [514] 600 (by decide) w : Calls Try.prog 7 #[.agg (stkL [514, 600])] w fun e w' => e = .returned (.tuple #[.agg (stkL [514]), .int .i64 600, .int .i64 0]) ∧ Below w.heap.size w w')
  have P4 := Lib.hid fun w => (pop_yes [] 514 (by decide) w : Calls Try.prog 7 #[.agg (stkL [514])] w fun e w' => e = .returned (.tuple #[.agg (stkL []), .int .i64 514, .int .i64 0]) ∧ Below w.heap.size w w')
  obtain ⟨v0, hv0⟩ : ∃ v0, v0 = w := ⟨_, rfl⟩
  subst hv0
  have BV := Lib.hid (Below.refl v0.heap.size v0)
  go_enter Try.func6, Try.ntmps6
  go_upto_region 1 with fail
  refine wp_region_lit ?_
  refine list_build_all (cs := stkL []) rfl rfl (by simp [Act.eval]; exact built_stk) ?_
  simp only [Act.put, List.setIfInBounds_toArray, List.set_cons_zero, List.set_cons_succ]
  go_wp2_with fail
  refine (P1.out _).mono ?_
  rintro e w2 ⟨rfl, b1⟩
  have BV := Lib.hid (BV.out.trans (b1.mono BV.out.size))
  clear b1
  simp only []
  go_at_K
  iterate 10 go_step
  refine list_var_all (ds := stkL [514]) aggStk zeroStk (stkL_size _) (stkL_size _) (stkL_one _) rfl rfl rfl (.tmp 1) (.tmp 17) rfl (by simp [Act.eval, Act.put]) (by simp [Act.eval, Act.put]) ?_
  simp only [Act.put, List.setIfInBounds_toArray, List.set_cons_zero, List.set_cons_succ]
  have K1 := Lib.hid (TB8.new w2 [514])
  have BA := below_newT w2 (.cells (stkL [514]) 26)
  have BV := Lib.hid (BV.out.trans (BA.mono BV.out.size))
  clear BA
  obtain ⟨p1, hq⟩ : ∃ q, w2.heap.size = q := ⟨_, rfl⟩
  generalize w2.alloc (.cells (stkL [514]) 26) = w3 at *
  rw [hq] at K1 ⊢
  clear hq
  go_upto_region 2 with fail
  refine wp_region_lit ?_
  refine list_load_all aggStk K1.out (stkL_size _) rfl (.tmp 1) rfl (by simp [Act.eval, Act.put]) ?_
  simp only [Act.put, List.setIfInBounds_toArray, List.set_cons_zero, List.set_cons_succ]
  go_wp2_with fail
  refine (P2.out _).mono ?_
  rintro e w4 ⟨rfl, b1⟩
  have K1 := Lib.hid (K1.out.step b1)
  have BV := Lib.hid (BV.out.trans (b1.mono BV.out.size))
  clear b1
  simp only []
  go_at_K
  iterate 10 go_step
  refine list_var_all (ds := stkL [514, 600]) aggStk zeroStk (stkL_size _) (stkL_size _) (stkL_one _) rfl rfl rfl (.tmp 3) (.tmp 22) rfl (by simp [Act.eval, Act.put]) (by simp [Act.eval, Act.put]) ?_
  simp only [Act.put, List.setIfInBounds_toArray, List.set_cons_zero, List.set_cons_succ]
  have K3 := Lib.hid (TB8.new w4 [514, 600])
  have BA := below_newT w4 (.cells (stkL [514, 600]) 26)
  have K1 := Lib.hid (K1.out.step BA)
  have BV := Lib.hid (BV.out.trans (BA.mono BV.out.size))
  clear BA
  obtain ⟨p3, hq⟩ : ∃ q, w4.heap.size = q := ⟨_, rfl⟩
  generalize w4.alloc (.cells (stkL [514, 600]) 26) = w5 at *
  rw [hq] at K3 ⊢
  clear hq
  go_upto_region 3 with fail
  refine wp_region_lit ?_
  refine list_load_all aggStk K3.out (stkL_size _) rfl (.tmp 3) rfl (by simp [Act.eval, Act.put]) ?_
  simp only [Act.put, List.setIfInBounds_toArray, List.set_cons_zero, List.set_cons_succ]
  go_wp2_with fail
  refine (P3.out _).mono ?_
  rintro e w6 ⟨rfl, b1⟩
  have K1 := Lib.hid (K1.out.step b1)
  have K3 := Lib.hid (K3.out.step b1)
  have BV := Lib.hid (BV.out.trans (b1.mono BV.out.size))
  clear b1
  simp only []
  go_at_K
  iterate 13 go_step
  refine list_var_all (ds := stkL [514]) aggStk zeroStk (stkL_size _) (stkL_size _) (stkL_one _) rfl rfl rfl (.tmp 5) (.tmp 27) rfl (by simp [Act.eval, Act.put]) (by simp [Act.eval, Act.put]) ?_
  simp only [Act.put, List.setIfInBounds_toArray, List.set_cons_zero, List.set_cons_succ]
  have K5 := Lib.hid (TB8.new w6 [514])
  have BA := below_newT w6 (.cells (stkL [514]) 26)
  have K1 := Lib.hid (K1.out.step BA)
  have K3 := Lib.hid (K3.out.step BA)
  have BV := Lib.hid (BV.out.trans (BA.mono BV.out.size))
  clear BA
  obtain ⟨p5, hq⟩ : ∃ q, w6.heap.size = q := ⟨_, rfl⟩
  generalize w6.alloc (.cells (stkL [514]) 26) = w7 at *
  rw [hq] at K5 ⊢
  clear hq
  go_upto_region 4 with fail
  refine wp_region_lit ?_
  refine list_load_all aggStk K5.out (stkL_size _) rfl (.tmp 5) rfl (by simp [Act.eval, Act.put]) ?_
  simp only [Act.put, List.setIfInBounds_toArray, List.set_cons_zero, List.set_cons_succ]
  go_wp2_with fail
  refine (P4.out _).mono ?_
  rintro e w8 ⟨rfl, b1⟩
  have K1 := Lib.hid (K1.out.step b1)
  have K3 := Lib.hid (K3.out.step b1)
  have K5 := Lib.hid (K5.out.step b1)
  have BV := Lib.hid (BV.out.trans (b1.mono BV.out.size))
  clear b1
  simp only []
  go_at_K
  iterate 13 go_step
  refine list_var_all (ds := stkL []) aggStk zeroStk (stkL_size _) (stkL_size _) (stkL_one _) rfl rfl rfl (.tmp 8) (.tmp 33) rfl (by simp [Act.eval, Act.put]) (by simp [Act.eval, Act.put]) ?_
  simp only [Act.put, List.setIfInBounds_toArray, List.set_cons_zero, List.set_cons_succ]
  have K8 := Lib.hid (TB8.new w8 [])
  have BA := below_newT w8 (.cells (stkL []) 26)
  have K1 := Lib.hid (K1.out.step BA)
  have K3 := Lib.hid (K3.out.step BA)
  have K5 := Lib.hid (K5.out.step BA)
  have BV := Lib.hid (BV.out.trans (BA.mono BV.out.size))
  clear BA
  obtain ⟨p8, hq⟩ : ∃ q, w8.heap.size = q := ⟨_, rfl⟩
  generalize w8.alloc (.cells (stkL []) 26) = w9 at *
  rw [hq] at K8 ⊢
  clear hq
  go_upto_region 5 with fail
  refine wp_region_lit ?_
  refine list_load_all aggStk K8.out (stkL_size _) rfl (.tmp 8) rfl (by simp [Act.eval, Act.put]) ?_
  simp only [Act.put, List.setIfInBounds_toArray, List.set_cons_zero, List.set_cons_succ]
  go_wp2_with fail
  refine (pop_no _).mono ?_
  rintro e w10 ⟨rfl, b1⟩
  have K1 := Lib.hid (K1.out.step b1)
  have K3 := Lib.hid (K3.out.step b1)
  have K5 := Lib.hid (K5.out.step b1)
  have K8 := Lib.hid (K8.out.step b1)
  have BV := Lib.hid (BV.out.trans (b1.mono BV.out.size))
  clear b1
  simp only []
  go_at_K
  iterate 13 go_step
  refine list_var_all (ds := stkL []) aggStk zeroStk (stkL_size _) (stkL_size _) (stkL_one _) rfl rfl rfl (.tmp 11) (.tmp 39) rfl (by simp [Act.eval, Act.put]) (by simp [Act.eval, Act.put]) ?_
  simp only [Act.put, List.setIfInBounds_toArray, List.set_cons_zero, List.set_cons_succ]
  have K11 := Lib.hid (TB8.new w10 [])
  have BA := below_newT w10 (.cells (stkL []) 26)
  have K1 := Lib.hid (K1.out.step BA)
  have K3 := Lib.hid (K3.out.step BA)
  have K5 := Lib.hid (K5.out.step BA)
  have K8 := Lib.hid (K8.out.step BA)
  have BV := Lib.hid (BV.out.trans (BA.mono BV.out.size))
  clear BA
  obtain ⟨p11, hq⟩ : ∃ q, w10.heap.size = q := ⟨_, rfl⟩
  generalize w10.alloc (.cells (stkL []) 26) = w11 at *
  rw [hq] at K11 ⊢
  clear hq
  go_upto_region 6 with fail
  have CK1 := Lib.hid K1.out.calm
  have CK5 := Lib.hid K5.out.calm
  have CK8 := Lib.hid K8.out.calm
  clear P1 P2 P3 P4 K1 K3 K5 K8 K11
  refine calm_plain ?_
  repeat (first
    | (refine quiet_load_all aggStk CK5.out (stkL_size _) ?_ (.tmp 5) ?_ ?_ ?_; (focus rfl); (focus rfl); (focus (simp [Act.eval]; done)); simp only [Act.put, List.setIfInBounds_toArray, List.set_cons_zero, List.set_cons_succ])
    | (refine quiet_load_all aggStk CK1.out (stkL_size _) ?_ (.tmp 1) ?_ ?_ ?_; (focus rfl); (focus rfl); (focus (simp [Act.eval]; done)); simp only [Act.put, List.setIfInBounds_toArray, List.set_cons_zero, List.set_cons_succ])
    | (refine quiet_load_all aggStk CK8.out (stkL_size _) ?_ (.tmp 8) ?_ ?_ ?_; (focus rfl); (focus rfl); (focus (simp [Act.eval]; done)); simp only [Act.put, List.setIfInBounds_toArray, List.set_cons_zero, List.set_cons_succ])
    | (refine quiet_litT ?_ ?_ ?_; (focus rfl); (focus rfl); simp only [Act.put, List.setIfInBounds_toArray, List.set_cons_zero, List.set_cons_succ])
    | (refine quiet_eqT (L := [514]) ?_ (.tmp 57) (.tmp 58) 26 ?_ ?_ ?_ ?_; (focus rfl); (focus rfl); (focus (simp [Act.eval]; done)); (focus (simp [Act.eval]; done)); simp only [Act.put, List.setIfInBounds_toArray, List.set_cons_zero, List.set_cons_succ])
    | (refine quiet_eqT (L := []) ?_ (.tmp 70) (.tmp 71) 26 ?_ ?_ ?_ ?_; (focus rfl); (focus rfl); (focus (simp [Act.eval]; done)); (focus (simp [Act.eval]; done)); simp only [Act.put, List.setIfInBounds_toArray, List.set_cons_zero, List.set_cons_succ])
    | go_big_quiet_step (fail))
  refine wpQuiet_nil ?_
  intro _ hw'
  obtain ⟨u, rfl⟩ := hw'
  have b1 := u.below
  generalize u.w = w12 at *
  have BV := Lib.hid (BV.out.trans (b1.mono BV.out.size))
  clear b1
  go_wp2_with fail
  go_ret
  exact ⟨rfl, BV.out⟩
end Go.Proofs.Ytbgdkhbembjjlaa
