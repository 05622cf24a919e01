/- The contract of 'awake' of layer 12. -/
import Derived.Test.YtafgdkgmjigjoaaFla
import Derived.Test.YtafgdkgmjigjoaaFlaAllow
import Derived.Test.YtafgdkgmjigjoaaSame
namespace Go.Proofs.Ytafgdkgmjigjoaa
open Go.RowKit Num
set_option linter.unusedVariables false
set_option linter.unusedSimpArgs false

/-- The flags of the example. -/
def p923 : Nat → Int := ov (ov zeroP [1, 2, 3]) [9]
theorem p923_3 : (lstP p923).take (cl 3) = [9, 2, 3] := by decide +kernel
theorem p923_neg : (lstP p923).take (cl (-1)) = [] := by decide +kernel
theorem p923_99 : (lstP p923).take (cl 99) = lstP p923 := by decide +kernel

set_option maxRecDepth 100000 in
set_option maxHeartbeats 4000000 in
theorem awake12 (w : World) : Calls Try.prog 7 #[] w fun e w' => e = .returned (.bool true) ∧ Below w.heap.size w w' := by
  have A27 := Lib.hid fun w : World => (show allow 2 7 = true by decide) ▸ allowed_any 2 7 w (by decide)
  have A28 := Lib.hid fun w : World => (show allow 2 8 = false by decide) ▸ allowed_any 2 8 w (by decide)
  have A38 := Lib.hid fun w : World => (show allow 3 8 = true by decide) ▸ allowed_any 3 8 w (by decide)
  have A10 := Lib.hid fun w : World => (show allow 1 0 = false by decide) ▸ allowed_any 1 0 w (by decide)
  have L3 := Lib.hid fun w : World => (load_any p923 3 w).mono fun e w' h => Got.of (n := 3) (p923_3 ▸ h) rfl
  have LN := Lib.hid fun w : World => (load_any p923 (-1) w).mono fun e w' h => Got.of (n := 0) (p923_neg ▸ h) rfl
  have L99 := Lib.hid fun w : World => (load_any p923 99 w).mono fun e w' h => Got.of (n := 16) (p923_99 ▸ h) (lstP_len _)
  go_enter Try.func7, Try.ntmps7
  go_upto_region 1 with fail
  refine wp_region_lit ?_
  refine list_litF rfl rfl ?_
  simp only [Act.put, List.setIfInBounds_toArray, List.set_cons_zero, List.set_cons_succ]
  go_wp2_with fail
  have R1 := Lib.hid (show Rd _ _ [1, 2, 3] from rd_lit (Blk.new w 5 (arr [1, 2, 3])))
  have B := Lib.hid (below_new w (.cells (arr [1, 2, 3]) 5))
  refine (save_any zeroP (some ⟨w.heap.size, 0, none⟩) 3 3 [1, 2, 3] _ R1.out rfl).mono ?_
  rintro e w1 ⟨rfl, b1⟩
  have B := Lib.hid (B.out.trans (b1.mono B.out.size))
  clear b1 R1
  go_wp2_with fail
  have R1 := Lib.hid (show Rd _ _ [9] from rd_lit (Blk.new w1 5 (arr [9])))
  have B := Lib.hid (B.out.trans ((below_new w1 (.cells (arr [9]) 5)).mono B.out.size))
  refine (save_any (ov zeroP [1, 2, 3]) (some ⟨w1.heap.size, 0, none⟩) 1 1 [9] _ R1.out rfl).mono ?_
  rintro e w2 ⟨rfl, b1⟩
  have B := Lib.hid (B.out.trans (b1.mono B.out.size))
  clear b1 R1
  have e923 : pc (ov (ov zeroP [1, 2, 3]) [9]) = pc p923 := rfl
  rw [e923]
  clear e923
  generalize p923 = P at *
  simp only []
  go_at_K
  go_step
  refine list_var_all (ds := pc P) aggFla zeroFla (pc_size _) (pc_size _) (pc_one _) rfl rfl rfl (.tmp 1) (.tmp 6) rfl (by simp [Act.eval, Act.put]) (by simp [Act.eval, Act.put]) ?_
  simp only [Act.put, List.setIfInBounds_toArray, List.set_cons_zero, List.set_cons_succ]
  have F := Lib.hid (FB.new w2 P)
  have B := Lib.hid (B.out.trans ((below_new w2 (.cells (pc P) 26)).mono B.out.size))
  obtain ⟨b, hb⟩ : ∃ b, w2.heap.size = b := ⟨_, rfl⟩
  generalize w2.alloc (.cells (pc P) 26) = w4 at *
  rw [hb] at F ⊢
  clear hb
  go_upto_region 2 with fail
  refine wp_region_lit ?_
  refine list_loadF F.out rfl (.tmp 1) rfl (by simp [Act.eval]) ?_
  simp only [Act.put, List.setIfInBounds_toArray, List.set_cons_zero, List.set_cons_succ]
  go_wp2_with fail
  refine (L3.out _).mono ?_
  rintro e w5 h
  obtain ⟨X, c, rfl, o1, _, b1⟩ := h
  have O1 := Lib.hid (own_rd o1)
  have B := Lib.hid (B.out.trans (b1.mono B.out.size))
  have F := Lib.hid (F.out.step b1)
  clear b1 o1
  go_wp2_with fail
  have R1 := Lib.hid (show Rd _ _ [9, 2, 3] from rd_lit (Blk.new w5 5 (arr [9, 2, 3])))
  have BA := below_new w5 (.cells (arr [9, 2, 3]) 5)
  have O1 := Lib.hid (O1.out.below BA)
  have F := Lib.hid (F.out.step BA)
  have B := Lib.hid (B.out.trans (BA.mono B.out.size))
  clear BA
  refine (same2_any X (some ⟨w5.heap.size, 0, none⟩) c 3 3 3 [9, 2, 3] [9, 2, 3] _ rfl rfl (by omega) (by omega) O1.out R1.out).mono ?_
  rintro e w6 ⟨rfl, b1⟩
  have B := Lib.hid (B.out.trans (b1.mono B.out.size))
  have F := Lib.hid (F.out.step b1)
  clear b1 R1 O1
  rw [decide_eq_true (rfl : ([9, 2, 3] : List Int) = [9, 2, 3])]
  simp only []
  go_at_K
  iterate 4 go_step
  refine list_loadF F.out rfl (.tmp 1) rfl (by simp [Act.eval]) ?_
  simp only [Act.put, List.setIfInBounds_toArray, List.set_cons_zero, List.set_cons_succ]
  go_wp2_with fail
  refine (LN.out _).mono ?_
  rintro e w7 h
  obtain ⟨X2, c2, rfl, o1, _, b1⟩ := h
  have B := Lib.hid (B.out.trans (b1.mono B.out.size))
  have F := Lib.hid (F.out.step b1)
  clear b1 o1
  simp only []
  go_at_K
  iterate 11 go_step
  refine list_loadF F.out rfl (.tmp 1) rfl (by simp [Act.eval]) ?_
  simp only [Act.put, List.setIfInBounds_toArray, List.set_cons_zero, List.set_cons_succ]
  go_wp2_with fail
  refine (L99.out _).mono ?_
  rintro e w8 h
  obtain ⟨X3, c3, rfl, o1, _, b1⟩ := h
  have B := Lib.hid (B.out.trans (b1.mono B.out.size))
  clear b1 o1 F
  go_wp2_with fail
  refine (A27.out _).mono ?_
  rintro e w9 ⟨rfl, b1⟩
  have B := Lib.hid (B.out.trans (b1.mono B.out.size))
  clear b1
  go_wp2_with fail
  refine (A28.out _).mono ?_
  rintro e w10 ⟨rfl, b1⟩
  have B := Lib.hid (B.out.trans (b1.mono B.out.size))
  clear b1
  go_wp2_with fail
  refine (A38.out _).mono ?_
  rintro e w11 ⟨rfl, b1⟩
  have B := Lib.hid (B.out.trans (b1.mono B.out.size))
  clear b1
  go_wp2_with fail
  refine (A10.out _).mono ?_
  rintro e w12 ⟨rfl, b1⟩
  have B := Lib.hid (B.out.trans (b1.mono B.out.size))
  clear b1
  go_wp2_with fail
  go_ret
  exact ⟨rfl, B.out⟩
end Go.Proofs.Ytafgdkgmjigjoaa
