/- Stage 18: The contract of 'awake' of layer 18. -/
import Derived.Test.YtfjdhhheofcanaaAluSpec
namespace Go.Proofs.Ytfjdhhheofcanaa
open Go.RowKit Num Dec Cpu
set_option linter.unusedVariables false
set_option linter.unusedSimpArgs false
set_option maxRecDepth 100000

def va : Nat → Nat := fun j => if j = 1 then 200 else if j = 2 then 100 else 0
def vb : Nat → Nat := fun j => if j = 1 then 44 else if j = 2 then 100 else if j = 15 then 1 else 0
def vc : Nat → Nat := fun j => if j = 3 then 7 else 0
def q0 : Pr := ⟨0, false, false, false, false, false, false, false⟩
theorem ok_va : OkV va := fun j _ => by unfold va; split <;> (try split) <;> omega
theorem ok_vb : OkV vb := fun j _ => by unfold vb; split <;> (try split) <;> (try split) <;> omega
theorem ok_vc : OkV vc := fun j _ => by unfold vc; split <;> omega
theorem e_va : rg (aluV va ⟨14, (1 : Nat), (2 : Nat), 0, (0 : Nat), 0, 0⟩ q0) = rg vb := by kernel_rfl
theorem e_vc : rg (aluV vc ⟨3, (0 : Nat), (0 : Nat), 0, (0 : Nat), 0, 0⟩ q0) = rg vc := by kernel_rfl
theorem e_s5 : skB vb ⟨5, (1 : Nat), (0 : Nat), 0, (44 : Nat), 0, 0⟩ = true := by decide
theorem e_s10 : skB vb ⟨10, (0 : Nat), (0 : Nat), 0, (0 : Nat), 0, 0⟩ = false := by decide
set_option maxHeartbeats 8000000 in
theorem awake18 (S : AluSpec) (w : World) : Calls Try.prog 8 #[] w fun e w' => e = .returned (.bool true) ∧ Below w.heap.size w w' := by
  have P1 : Hid (∀ w : World, Calls Try.prog 10 #[.agg (rg va), .agg (icells ⟨14, 1, 2, 0, 0, 0, 0⟩), .agg (prc q0)] w fun e w' => e = .returned (.tuple #[.agg (rg vb), .bool true]) ∧ Below w.heap.size w w') := Lib.hid fun w => (S.do_ va 14 1 2 0 0 0 0 q0 w ok_va (by decide) (by decide) (by decide)).mono fun e w' h => ⟨h.1.trans (by rw [e_va]; rfl), h.2⟩
  have P2 : Hid (∀ w : World, Calls Try.prog 10 #[.agg (rg vc), .agg (icells ⟨3, 0, 0, 0, 0, 0, 0⟩), .agg (prc q0)] w fun e w' => e = .returned (.tuple #[.agg (rg vc), .bool false]) ∧ Below w.heap.size w w') := Lib.hid fun w => (S.do_ vc 3 0 0 0 0 0 0 q0 w ok_vc (by decide) (by decide) (by decide)).mono fun e w' h => ⟨h.1.trans (by rw [e_vc]; rfl), h.2⟩
  have P3 : Hid (∀ w : World, Calls Try.prog 12 #[.agg (rg vb), .agg (icells ⟨5, 1, 0, 0, 44, 0, 0⟩)] w fun e w' => e = .returned (.tuple #[.bool true, .bool true]) ∧ Below w.heap.size w w') := Lib.hid fun w => (S.sk vb 5 1 0 44 0 0 0 w ok_vb (by decide) (by decide) (by decide)).mono fun e w' h => ⟨h.1.trans (by rw [e_s5]; rfl), h.2⟩
  have P4 : Hid (∀ w : World, Calls Try.prog 12 #[.agg (rg vb), .agg (icells ⟨10, 0, 0, 0, 0, 0, 0⟩)] w fun e w' => e = .returned (.tuple #[.bool false, .bool false]) ∧ Below w.heap.size w w') := Lib.hid fun w => (S.sk vb 10 0 0 0 0 0 0 w ok_vb (by decide) (by decide) (by decide)).mono fun e w' h => ⟨h.1.trans (by rw [e_s10]; rfl), h.2⟩
  have P5 : Hid (∀ w : World, Calls Try.prog 14 #[.int .u8 209] w fun e w' => e = .returned (.agg #[.int .u8 2, .int .u8 0, .int .u8 9]) ∧ Below w.heap.size w w') := Lib.hid fun w => S.dg 209 w (by decide)
  obtain ⟨v0, hv0⟩ : ∃ v0, v0 = w := ⟨_, rfl⟩
  subst hv0
  have BV := Lib.hid (Below.refl v0.heap.size v0)
  clear S
  go_enter Try.func8, Try.ntmps8
  go_upto_region 1 with fail
  refine wp_region_lit ?_
  refine list_build_all (cs := rg va) rfl rfl (by simp [Act.eval]; kernel_rfl) ?_
  simp only [Act.put, List.setIfInBounds_toArray, List.set_cons_zero, List.set_cons_succ]
  refine list_build_all (cs := icells ⟨14, 1, 2, 0, 0, 0, 0⟩) rfl rfl (by simp [Act.eval]; kernel_rfl) ?_
  simp only [Act.put, List.setIfInBounds_toArray, List.set_cons_zero, List.set_cons_succ]
  refine list_build_all (cs := prc q0) rfl rfl (by simp [Act.eval]; kernel_rfl) ?_
  simp only [Act.put, List.setIfInBounds_toArray, List.set_cons_zero, List.set_cons_succ]
  go_wp2_with fail
  refine (P1.out _).mono ?_
  rintro e w2 ⟨rfl, b1⟩
  have BV := Lib.hid (BV.out.trans (b1.mono BV.out.size))
  clear b1
  simp only []
  go_at_K
  iterate 10 go_step
  refine list_var_all (ds := rg vb) aggPat zeroRg (pc_size _) (rg_size _) (rg_one _) rfl rfl rfl (.tmp 1) (.tmp 14) rfl (by simp [Act.eval, Act.put]) (by simp [Act.eval, Act.put]) ?_
  simp only [Act.put, List.setIfInBounds_toArray, List.set_cons_zero, List.set_cons_succ]
  have K1 := Lib.hid (Blk.new w2 22 (rg vb))
  have BA := below_newP w2 (.cells (rg vb) 22)
  have BV := Lib.hid (BV.out.trans (BA.mono BV.out.size))
  clear BA
  obtain ⟨bK1, hq⟩ : ∃ q, w2.heap.size = q := ⟨_, rfl⟩
  generalize w2.alloc (.cells (rg vb) 22) = w3 at *
  rw [hq] at K1 ⊢
  clear hq
  go_upto_region 2 with fail
  refine wp_region_lit ?_
  refine list_build_all (cs := rg vc) rfl rfl (by simp [Act.eval]; kernel_rfl) ?_
  simp only [Act.put, List.setIfInBounds_toArray, List.set_cons_zero, List.set_cons_succ]
  refine list_build_all (cs := icells ⟨3, 0, 0, 0, 0, 0, 0⟩) rfl rfl (by simp [Act.eval]; kernel_rfl) ?_
  simp only [Act.put, List.setIfInBounds_toArray, List.set_cons_zero, List.set_cons_succ]
  refine list_build_all (cs := prc q0) rfl rfl (by simp [Act.eval]; kernel_rfl) ?_
  simp only [Act.put, List.setIfInBounds_toArray, List.set_cons_zero, List.set_cons_succ]
  go_wp2_with fail
  refine (P2.out _).mono ?_
  rintro e w4 ⟨rfl, b1⟩
  have K1 := Lib.hid (K1.out.step b1)
  have BV := Lib.hid (BV.out.trans (b1.mono BV.out.size))
  clear b1
  simp only []
  go_at_K
  iterate 10 go_step
  refine list_var_all (ds := rg vc) aggPat zeroRg (pc_size _) (rg_size _) (rg_one _) rfl rfl rfl (.tmp 3) (.tmp 21) rfl (by simp [Act.eval, Act.put]) (by simp [Act.eval, Act.put]) ?_
  simp only [Act.put, List.setIfInBounds_toArray, List.set_cons_zero, List.set_cons_succ]
  have K3 := Lib.hid (Blk.new w4 22 (rg vc))
  have BA := below_newP w4 (.cells (rg vc) 22)
  have K1 := Lib.hid (K1.out.step BA)
  have BV := Lib.hid (BV.out.trans (BA.mono BV.out.size))
  clear BA
  obtain ⟨bK3, hq⟩ : ∃ q, w4.heap.size = q := ⟨_, rfl⟩
  generalize w4.alloc (.cells (rg vc) 22) = w5 at *
  rw [hq] at K3 ⊢
  clear hq
  go_upto_region 3 with fail
  refine wp_region_lit ?_
  refine list_load_all aggPat K1.out (rg_size _) rfl (.tmp 1) rfl (by simp [Act.eval, Act.put]) ?_
  simp only [Act.put, List.setIfInBounds_toArray, List.set_cons_zero, List.set_cons_succ]
  refine list_build_all (cs := icells ⟨5, 1, 0, 0, 44, 0, 0⟩) rfl rfl (by simp [Act.eval]; kernel_rfl) ?_
  simp only [Act.put, List.setIfInBounds_toArray, List.set_cons_zero, List.set_cons_succ]
  go_wp2_with fail
  refine (P3.out _).mono ?_
  rintro e w6 ⟨rfl, b1⟩
  have K1 := Lib.hid (K1.out.step b1)
  have K3 := Lib.hid (K3.out.step b1)
  have BV := Lib.hid (BV.out.trans (b1.mono BV.out.size))
  clear b1
  go_upto_region 4 with fail
  refine wp_region_lit ?_
  refine list_load_all aggPat K1.out (rg_size _) rfl (.tmp 1) rfl (by simp [Act.eval, Act.put]) ?_
  simp only [Act.put, List.setIfInBounds_toArray, List.set_cons_zero, List.set_cons_succ]
  refine list_build_all (cs := icells ⟨10, 0, 0, 0, 0, 0, 0⟩) rfl rfl (by simp [Act.eval]; kernel_rfl) ?_
  simp only [Act.put, List.setIfInBounds_toArray, List.set_cons_zero, List.set_cons_succ]
  go_wp2_with fail
  refine (P4.out _).mono ?_
  rintro e w7 ⟨rfl, b1⟩
  have K1 := Lib.hid (K1.out.step b1)
  have K3 := Lib.hid (K3.out.step b1)
  have BV := Lib.hid (BV.out.trans (b1.mono BV.out.size))
  clear b1
  go_upto_region 5 with fail
  have CK1 := Lib.hid (calm_blk K1.out)
  have CK3 := Lib.hid (calm_blk K3.out)
  clear P1 P2 P3 P4 K1 K3
  refine calm_plain ?_
  repeat (first
    | (refine quiet_load_all aggPat CK1.out (rg_size _) ?_ (.tmp 1) ?_ ?_ ?_; (focus rfl); (focus rfl); (focus (simp [Act.eval]; done)); simp only [Act.put, List.setIfInBounds_toArray, List.set_cons_zero, List.set_cons_succ])
    | (refine quiet_load_all aggPat CK3.out (rg_size _) ?_ (.tmp 3) ?_ ?_ ?_; (focus rfl); (focus rfl); (focus (simp [Act.eval]; done)); simp only [Act.put, List.setIfInBounds_toArray, List.set_cons_zero, List.set_cons_succ])
    | (refine quiet_build_all (cs := rg vb) (ty := 22) (parts := #[(1, Operand.const (.int .u8 44)), (2, Operand.const (.int .u8 100)), (15, Operand.const (.int .u8 1))]) ?_ rfl (by simp [Act.eval]; kernel_rfl) ?_; (focus rfl); simp only [Act.put, List.setIfInBounds_toArray, List.set_cons_zero, List.set_cons_succ])
    | (refine quiet_build_all (cs := rg vc) (ty := 22) (parts := #[(3, Operand.const (.int .u8 7))]) ?_ rfl (by simp [Act.eval]; kernel_rfl) ?_; (focus rfl); simp only [Act.put, List.setIfInBounds_toArray, List.set_cons_zero, List.set_cons_succ])
    | (refine quiet_build_all (cs := #[.int .u8 2, .int .u8 0, .int .u8 9]) (ty := 33) (parts := #[(0, Operand.const (.int .u8 2)), (1, Operand.const (.int .u8 0)), (2, Operand.const (.int .u8 9))]) ?_ rfl (by simp [Act.eval]; kernel_rfl) ?_; (focus rfl); simp only [Act.put, List.setIfInBounds_toArray, List.set_cons_zero, List.set_cons_succ])
    | (refine quiet_eqR (v := vb) ?_ (.tmp 35) (.tmp 36) 22 ?_ ?_ ?_ ?_; (focus rfl); (focus rfl); (focus (simp [Act.eval]; done)); (focus (simp [Act.eval]; done)); simp only [Act.put, List.setIfInBounds_toArray, List.set_cons_zero, List.set_cons_succ])
    | (refine quiet_eqR (v := vc) ?_ (.tmp 42) (.tmp 43) 22 ?_ ?_ ?_ ?_; (focus rfl); (focus rfl); (focus (simp [Act.eval]; done)); (focus (simp [Act.eval]; done)); simp only [Act.put, List.setIfInBounds_toArray, List.set_cons_zero, List.set_cons_succ])
    | (refine quiet_eq3 (a := 2) (b := 0) (c := 9) ?_ (.tmp 51) (.tmp 52) 33 ?_ ?_ ?_ ?_; (focus rfl); (focus rfl); (focus (simp [Act.eval]; done)); (focus (simp [Act.eval]; done)); simp only [Act.put, List.setIfInBounds_toArray, List.set_cons_zero, List.set_cons_succ])
    | go_big_quiet_step ((go_at_call 14; exact calm_call (P5.out _))))
  refine wpQuiet_nil ?_
  intro _ hw'
  obtain ⟨u, rfl⟩ := hw'
  have b1 := u.below
  generalize u.w = w8 at *
  have BV := Lib.hid (BV.out.trans (b1.mono BV.out.size))
  clear b1
  go_wp2_with fail
  go_ret
  exact ⟨rfl, BV.out⟩
end Go.Proofs.Ytfjdhhheofcanaa
