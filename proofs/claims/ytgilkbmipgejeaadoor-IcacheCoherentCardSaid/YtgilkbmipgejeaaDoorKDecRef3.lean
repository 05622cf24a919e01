/- The reference's Decode: what is illegal, and the two instructions of flags. -/
import Derived.Test.YtgilkbmipgejeaaDoorPk4a
namespace Go.Proofs.YtgilkbmipgejeaaDoor
open Go.RowKit Num Dec
set_option linter.unusedVariables false
set_option linter.unusedSimpArgs false

set_option maxRecDepth 100000 in
set_option maxHeartbeats 20000000 in
theorem rdecode_rest (b0 b1 b2 b3 : Nat) (l : Int) (w : World) (h0 : b0 < 256) (h1 : b1 < 256) (h2 : b2 < 256) (h3 : b3 < 256) (hno : ok b0 b1 l = true → (top (b0 * 256 + b1)).op = 43 ∨ (top (b0 * 256 + b1)).op = 44) :
    Calls Tryd.prog 37 #[.int .u8 (b0 : Int), .int .u8 (b1 : Int), .int .u8 (b2 : Int), .int .u8 (b3 : Int), .int .i64 l] w fun e w' => e = .returned (.agg (icells (dec b0 b1 b2 b3 l))) ∧ Below w.heap.size w w' := by
  have HNO := Lib.hid hno
  clear hno
  have SP := fun w => rsplit_nat b0 b1 h0 h1 w
  have OP := fun w => rop_any (b0 / 16) (b0 % 16) (b1 / 16) (b1 % 16) b1 (b0 % 16 * 256 + b1) w (by omega) (by omega)
  rw [show opR (b0 / 16) (b0 % 16) (b1 / 16) (b1 % 16) b1 (b0 % 16 * 256 + b1) = (top (b0 * 256 + b1)).op from op_same b0 b1 h0 h1] at OP
  unfold fcs at SP
  unfold fv at OP
  generalize e0 : b0 / 16 = hd at SP OP
  generalize e1 : b0 % 16 = x at SP OP
  generalize e2 : b1 / 16 = y at SP OP
  generalize e3 : b1 % 16 = n at SP OP
  generalize e4 : x * 256 + b1 = nnn at SP OP
  generalize hR : top (b0 * 256 + b1) = R at OP
  have HR := Lib.hid hR
  have KD := Lib.hid (show KindOk R by rw [← hR]; exact kind_top _)
  have SPH := Lib.hid SP
  have OPH := Lib.hid OP
  have HB := Lib.hid (And.intro h0 (And.intro h1 (And.intro h2 h3)))
  have E := Lib.hid (And.intro e0 (And.intro e1 (And.intro e2 (And.intro e3 e4))))
  clear SP OP e0 e1 e2 e3 e4 h0 h1 h2 h3 hR
  obtain ⟨o, ho⟩ : ∃ o, R.op = o := ⟨_, rfl⟩
  rw [ho] at OPH
  have HO := Lib.hid ho
  clear ho
  go_enter Tryd.func37, Tryd.ntmps37
  go_wp2_with fail
  refine (SPH.out _).mono ?_
  rintro e w1 ⟨rfl, b1'⟩
  have B1 := Lib.hid (((Below.refl w.heap.size w).alloc (Nat.le_refl _) (.cells zeroI 38)).trans (b1'.mono (by simp)))
  have R1 := Lib.hid ((Blk.new w 38 zeroI).step b1')
  have hw1 : w.heap.size < w1.heap.size := R1.out.lt
  clear b1' SPH
  go_wp2_with fail
  refine (OPH.out _).mono ?_
  rintro e w2 ⟨rfl, b2'⟩
  have R2 := Lib.hid ((R1.out.alloc (.cells #[.int .i64 (hd : Int), .int .i64 (x : Int), .int .i64 (y : Int), .int .i64 (n : Int), .int .i64 (b1 : Int), .int .i64 (nnn : Int)] 110)).step b2')
  have G2 := Lib.hid ((Blk.new w1 110 #[.int .i64 (hd : Int), .int .i64 (x : Int), .int .i64 (y : Int), .int .i64 (n : Int), .int .i64 (b1 : Int), .int .i64 (nnn : Int)]).step b2')
  have B2 := Lib.hid ((B1.out.alloc (Nat.le_of_lt hw1) (.cells #[.int .i64 (hd : Int), .int .i64 (x : Int), .int .i64 (y : Int), .int .i64 (n : Int), .int .i64 (b1 : Int), .int .i64 (nnn : Int)] 110)).trans (b2'.mono (by simp; omega)))
  have hg2 : w1.heap.size < w2.heap.size := G2.out.lt
  have hw2 : w.heap.size < w2.heap.size := R2.out.lt
  have cx := G2.out.cell 1
  simp only [List.getElem?_toArray, List.getElem?_cons_succ, List.getElem?_cons_zero] at cx
  clear b2' B1 R1 OPH
  simp only []
  by_cases hz : (o : Int) = 0
  · have n0 : ((o : Int) == 0) = true := by simpa using hz
    have NK : ok b0 b1 l = false := by
      unfold ok
      rw [HR.out, HO.out, show (o != 0) = false by simp; omega]
      rfl
    have FB := Lib.hid (show dec b0 b1 b2 b3 l = ⟨0, 0, 0, 0, 0, 0, 2⟩ by rw [dec_no NK, skl_no HB.out.1 HB.out.2.1 NK])
    clear NK
    go_upto_region 4 with fail
    refine wp_region_lit ?_
    refine list_build_all (cs := icells ⟨0, 0, 0, 0, 0, 0, 2⟩) rfl rfl (by kernel_rfl) ?_
    simp only [Act.put, List.setIfInBounds_toArray, List.set_cons_zero, List.set_cons_succ]
    refine list_store_all (ds := icells ⟨0, 0, 0, 0, 0, 0, 2⟩) aggInstr R2.out rfl rfl (by unfold Ones; kernel_rfl) rfl (.tmp 10) (.tmp 46) rfl rfl rfl ?_
    simp only [Act.put, List.setIfInBounds_toArray, List.set_cons_zero, List.set_cons_succ]
    have RR := Lib.hid (And.intro (R2.out.store (icells ⟨0, 0, 0, 0, 0, 0, 2⟩)) (belowRow' B2.out (Nat.le_refl _) (icells ⟨0, 0, 0, 0, 0, 0, 2⟩)))
    iterate 4 go_step
    simp only [Exit.then]
    exact bodyPost_ret (results_cell_row rfl _ _ w.heap.size _ _ _ _ rfl RR.out.1 Tryd.underlying38 rfl aggInstr.i) rfl ⟨by rw [FB.out], RR.out.2⟩
  · have n0 : ((o : Int) == 0) = false := by simpa using hz
    have HZ := Lib.hid hz
    have OKE := Lib.hid (show ok b0 b1 l = alw R l (x : Int) by unfold ok dx; rw [HR.out, HO.out, E.out.2.1, show (o != 0) = true by simp; have := HZ.out; omega]; rfl)
    have LV := Lib.hid (show lvR (o : Int) = (R.level : Int) ∧ 1 ≤ R.level ∧ R.level ≤ 3 by have := KD.out.2.2.2.2.2.2.2.1; rw [HO.out] at this; have := HZ.out; omega)
    clear hz
    have LC := Lib.hid (fun w => rlevel_any (o : Int) w)
    rw [LV.out.1] at LC
    obtain ⟨v, hv⟩ : ∃ v, R.level = v := ⟨_, rfl⟩
    rw [hv] at LC
    have HV := Lib.hid hv
    clear hv
    by_cases h1 : l < (v : Int)
    · have H1 := Lib.hid h1
      have d1 : decide (l < (v : Int)) = true := by simpa using h1
      clear h1
      go_wp2_with fail
      refine (LC.out _).mono ?_
      rintro e w3 ⟨rfl, rfl⟩
      have NK : ok b0 b1 l = false := by
        rw [OKE.out]
        by_cases hf : (R.op : Int) = 43 ∨ (R.op : Int) = 44
        · rw [alw_flag hf]
          have := (KD.out.2.2.2.2.2.2.2.2 (by omega)).2
          have := H1.out
          have := HV.out
          unfold allow
          exact decide_eq_false (by omega)
        · rw [alw_plain (fun h => hf (.inl h)) (fun h => hf (.inr h)), decide_eq_false (by have := H1.out; have := HV.out; omega)]
          rfl
      have FB := Lib.hid (show dec b0 b1 b2 b3 l = ⟨0, 0, 0, 0, 0, 0, 2⟩ by rw [dec_no NK, skl_no HB.out.1 HB.out.2.1 NK])
      clear NK
      go_upto_region 4 with fail
      refine wp_region_lit ?_
      refine list_build_all (cs := icells ⟨0, 0, 0, 0, 0, 0, 2⟩) rfl rfl (by kernel_rfl) ?_
      simp only [Act.put, List.setIfInBounds_toArray, List.set_cons_zero, List.set_cons_succ]
      refine list_store_all (ds := icells ⟨0, 0, 0, 0, 0, 0, 2⟩) aggInstr R2.out rfl rfl (by unfold Ones; kernel_rfl) rfl (.tmp 10) (.tmp 46) rfl rfl rfl ?_
      simp only [Act.put, List.setIfInBounds_toArray, List.set_cons_zero, List.set_cons_succ]
      have RR := Lib.hid (And.intro (R2.out.store (icells ⟨0, 0, 0, 0, 0, 0, 2⟩)) (belowRow' B2.out (Nat.le_refl _) (icells ⟨0, 0, 0, 0, 0, 0, 2⟩)))
      iterate 4 go_step
      simp only [Exit.then]
      exact bodyPost_ret (results_cell_row rfl _ _ w.heap.size _ _ _ _ rfl RR.out.1 Tryd.underlying38 rfl aggInstr.i) rfl ⟨by rw [FB.out], RR.out.2⟩
    · have H1 := Lib.hid h1
      have d1 : decide (l < (v : Int)) = false := by simpa using h1
      clear h1
      by_cases h4 : (3 : Int) < l
      · have H4 := Lib.hid h4
        have d4 : decide ((3 : Int) < l) = true := by simpa using h4
        clear h4
        go_wp2_with fail
        refine (LC.out _).mono ?_
        rintro e w3 ⟨rfl, rfl⟩
        have NK : ok b0 b1 l = false := by
          rw [OKE.out]
          by_cases hf : (R.op : Int) = 43 ∨ (R.op : Int) = 44
          · rw [alw_flag hf]
            have := H4.out
            unfold allow
            exact decide_eq_false (by omega)
          · rw [alw_plain (fun h => hf (.inl h)) (fun h => hf (.inr h)), decide_eq_false (p := l ≤ 3) (by have := H4.out; omega), Bool.and_false]
        have FB := Lib.hid (show dec b0 b1 b2 b3 l = ⟨0, 0, 0, 0, 0, 0, 2⟩ by rw [dec_no NK, skl_no HB.out.1 HB.out.2.1 NK])
        clear NK
        go_upto_region 4 with fail
        refine wp_region_lit ?_
        refine list_build_all (cs := icells ⟨0, 0, 0, 0, 0, 0, 2⟩) rfl rfl (by kernel_rfl) ?_
        simp only [Act.put, List.setIfInBounds_toArray, List.set_cons_zero, List.set_cons_succ]
        refine list_store_all (ds := icells ⟨0, 0, 0, 0, 0, 0, 2⟩) aggInstr R2.out rfl rfl (by unfold Ones; kernel_rfl) rfl (.tmp 10) (.tmp 46) rfl rfl rfl ?_
        simp only [Act.put, List.setIfInBounds_toArray, List.set_cons_zero, List.set_cons_succ]
        have RR := Lib.hid (And.intro (R2.out.store (icells ⟨0, 0, 0, 0, 0, 0, 2⟩)) (belowRow' B2.out (Nat.le_refl _) (icells ⟨0, 0, 0, 0, 0, 0, 2⟩)))
        iterate 4 go_step
        simp only [Exit.then]
        exact bodyPost_ret (results_cell_row rfl _ _ w.heap.size _ _ _ _ rfl RR.out.1 Tryd.underlying38 rfl aggInstr.i) rfl ⟨by rw [FB.out], RR.out.2⟩
      · have H4 := Lib.hid h4
        have d4 : decide ((3 : Int) < l) = false := by simpa using h4
        clear h4
        by_cases hf : (o : Int) = 43
        · have n43 : ((o : Int) == 43) = true := by simp; omega
          have PK := Lib.hid (KD.out.2.2.2.2.2.2.2.2 (by rw [HO.out]; omega)).1
          have HP := Lib.hid (show R.pk = .pX from PK.out)
          have AF := Lib.hid (show ok b0 b1 l = allow l (x : Int) by rw [OKE.out]; exact alw_flag (by rw [HO.out]; omega))
          clear hf
          cases hal : allow l (x : Int)
          · have HA := Lib.hid hal
            clear hal
            go_wp2_with fail
            refine (LC.out _).mono ?_
            rintro e w3 ⟨rfl, rfl⟩
            go_wp2_with fail
            refine (rallowed_any l (x : Int) _).mono ?_
            rintro e w4 ⟨rfl, rfl⟩
            rw [HA.out]
            have NK : ok b0 b1 l = false := by
              exact AF.out.trans HA.out
            have FB := Lib.hid (show dec b0 b1 b2 b3 l = ⟨0, 0, 0, 0, 0, 0, 2⟩ by rw [dec_no NK, skl_no HB.out.1 HB.out.2.1 NK])
            clear NK
            go_upto_region 4 with fail
            refine wp_region_lit ?_
            refine list_build_all (cs := icells ⟨0, 0, 0, 0, 0, 0, 2⟩) rfl rfl (by kernel_rfl) ?_
            simp only [Act.put, List.setIfInBounds_toArray, List.set_cons_zero, List.set_cons_succ]
            refine list_store_all (ds := icells ⟨0, 0, 0, 0, 0, 0, 2⟩) aggInstr R2.out rfl rfl (by unfold Ones; kernel_rfl) rfl (.tmp 10) (.tmp 46) rfl rfl rfl ?_
            simp only [Act.put, List.setIfInBounds_toArray, List.set_cons_zero, List.set_cons_succ]
            have RR := Lib.hid (And.intro (R2.out.store (icells ⟨0, 0, 0, 0, 0, 0, 2⟩)) (belowRow' B2.out (Nat.le_refl _) (icells ⟨0, 0, 0, 0, 0, 0, 2⟩)))
            iterate 4 go_step
            simp only [Exit.then]
            exact bodyPost_ret (results_cell_row rfl _ _ w.heap.size _ _ _ _ rfl RR.out.1 Tryd.underlying38 rfl aggInstr.i) rfl ⟨by rw [FB.out], RR.out.2⟩
          · have HA := Lib.hid hal
            clear hal
            go_wp2_with fail
            refine (LC.out _).mono ?_
            rintro e w3 ⟨rfl, rfl⟩
            go_wp2_with fail
            refine (rallowed_any l (x : Int) _).mono ?_
            rintro e w4 ⟨rfl, rfl⟩
            rw [HA.out]
            simp only []
            have OKY := Lib.hid (show ok b0 b1 l = true from AF.out.trans HA.out)
            have FD := Lib.hid (show dec b0 b1 b2 b3 l = ⟨(o : Int), pX .pX (x : Int), pY .pX (y : Int), pN .pX (x : Int) (n : Int), pNN .pX (b1 : Int), pA .pX (nnn : Int) (b2 * 256 + b3 : Nat), 2⟩ by rw [dec_yes OKY.out HR.out, skl_ok HB.out.1 HB.out.2.1 OKY.out, HR.out, HO.out, HP.out]; unfold dx; rw [E.out.2.1, E.out.2.2.1, E.out.2.2.2.1, E.out.2.2.2.2, if_neg (by have := KD.out.2.2.2.2.2.2.1; rw [HO.out, HP.out] at this; simp [hL] at this; omega)])
            have J0 := Lib.hid (show RB w w1.heap.size w2.heap.size #[.int .i64 (hd : Int), .int .i64 (x : Int), .int .i64 (y : Int), .int .i64 (n : Int), .int .i64 (b1 : Int), .int .i64 (nnn : Int)] #[.int .i64 (o : Int), .int .i64 0, .int .i64 0, .int .i64 0, .int .i64 0, .int .i64 0, .int .i64 2] (w2.alloc (.cells #[.int .i64 (o : Int), .int .i64 0, .int .i64 0, .int .i64 0, .int .i64 0, .int .i64 0, .int .i64 2] 38)) from ⟨R2.out.alloc _, G2.out.alloc _, Blk.new _ _ _, B2.out.alloc (Nat.le_of_lt R2.out.lt) _, hw1, G2.out.lt⟩)
            have J1 := Lib.hid (J0.out.alloc (.cells #[.int .i64 5, .int .i64 6, .int .i64 7, .int .i64 8, .int .i64 9, .int .i64 10, .int .i64 11, .int .i64 12, .int .i64 13, .int .i64 14, .int .i64 15, .int .i64 16, .int .i64 17, .int .i64 18, .int .i64 19, .int .i64 21, .int .i64 22, .int .i64 23, .int .i64 24, .int .i64 25, .int .i64 26, .int .i64 27, .int .i64 28, .int .i64 29, .int .i64 30, .int .i64 31, .int .i64 32, .int .i64 33, .int .i64 34, .int .i64 41, .int .i64 42, .int .i64 43, .int .i64 44, .int .i64 46, .int .i64 47, .int .i64 51] 3))
            go_wp2_with fail
            refine (in14_any (o : Int) LX _ 36 _ _ LX_len (by decide) (cell_list _ _ 3 LX _ _ rfl LX_cells (by first | rfl | simp))).mono ?_
            rintro e q1 ⟨rfl, rfl⟩
            rw [show inB (o : Int) LX = true by have := KD.out.1; rw [HO.out, HP.out] at this; exact this]
            clear J0
            generalize World.alloc _ _ = q1 at J1 ⊢
            obtain ⟨g, hg⟩ : ∃ g, w1.heap.size = g := ⟨_, rfl⟩
            obtain ⟨bx, hbx⟩ : ∃ bx, w2.heap.size = bx := ⟨_, rfl⟩
            rw [hg, hbx] at J1
            try rw [hg]
            try rw [hbx]
            have HGX := Lib.hid (And.intro hg hbx)
            clear hg hbx
            simp only []
            have J2 := Lib.hid ((J1.out.put 1 (.int .i64 (x : Int))).alloc (.cells #[.int .i64 7, .int .i64 10, .int .i64 11, .int .i64 12, .int .i64 13, .int .i64 14, .int .i64 15, .int .i64 16, .int .i64 17, .int .i64 18, .int .i64 19, .int .i64 23, .int .i64 41, .int .i64 46, .int .i64 47] 3))
            have cv1 := J1.out.var.cell 1
            have fv1 := J1.out.var.frozen 1
            simp only [icells, List.setIfInBounds_toArray, List.set_cons_zero, List.set_cons_succ, List.getElem?_toArray, List.getElem?_cons_succ, List.getElem?_cons_zero] at cv1
            have cx := J1.out.fl.cell 1
            have cy := J1.out.fl.cell 2
            have cn := J1.out.fl.cell 3
            have cb := J1.out.fl.cell 4
            have ca := J1.out.fl.cell 5
            simp only [List.getElem?_toArray, List.getElem?_cons_succ, List.getElem?_cons_zero] at cx cy cn cb ca
            go_wp2_with fail
            refine (in14_any (o : Int) LY _ 15 _ _ LY_len (by decide) (cell_list _ _ 3 LY _ _ rfl LY_cells (by first | rfl | simp))).mono ?_
            rintro e q2 ⟨rfl, rfl⟩
            rw [show inB (o : Int) LY = false by have := KD.out.2.1; rw [HO.out, HP.out] at this; exact this]
            clear J1 cv1 fv1 cx cy cn cb ca
            generalize World.alloc _ _ = q2 at J2 ⊢
            simp only []
            have J3 := Lib.hid (J2.out.alloc (.cells #[.int .i64 23, .int .i64 35, .int .i64 45] 3))
            have cx := J2.out.fl.cell 1
            have cy := J2.out.fl.cell 2
            have cn := J2.out.fl.cell 3
            have cb := J2.out.fl.cell 4
            have ca := J2.out.fl.cell 5
            simp only [List.getElem?_toArray, List.getElem?_cons_succ, List.getElem?_cons_zero] at cx cy cn cb ca
            go_wp2_with fail
            refine (in14_any (o : Int) LN _ 3 _ _ LN_len (by decide) (cell_list _ _ 3 LN _ _ rfl LN_cells (by first | rfl | simp))).mono ?_
            rintro e q3 ⟨rfl, rfl⟩
            rw [show inB (o : Int) LN = false by have := KD.out.2.2.1; rw [HO.out, HP.out] at this; exact this]
            clear J2 cx cy cn cb ca
            generalize World.alloc _ _ = q3 at J3 ⊢
            simp only []
            have n49 : ((o : Int) == 49) = false := by have := KD.out.2.2.2.2.2.1; rw [HO.out, HP.out] at this; exact this
            have J4 := Lib.hid (J3.out.alloc (.cells #[.int .i64 5, .int .i64 6, .int .i64 8, .int .i64 9, .int .i64 22] 3))
            have cx := J3.out.fl.cell 1
            have cy := J3.out.fl.cell 2
            have cn := J3.out.fl.cell 3
            have cb := J3.out.fl.cell 4
            have ca := J3.out.fl.cell 5
            simp only [List.getElem?_toArray, List.getElem?_cons_succ, List.getElem?_cons_zero] at cx cy cn cb ca
            go_wp2_with fail
            refine (in14_any (o : Int) LNN _ 5 _ _ LNN_len (by decide) (cell_list _ _ 3 LNN _ _ rfl LNN_cells (by first | rfl | simp))).mono ?_
            rintro e q4 ⟨rfl, rfl⟩
            rw [show inB (o : Int) LNN = false by have := KD.out.2.2.2.1; rw [HO.out, HP.out] at this; exact this]
            clear J3 cx cy cn cb ca
            generalize World.alloc _ _ = q4 at J4 ⊢
            simp only []
            have J5 := Lib.hid (J4.out.alloc (.cells #[.int .i64 3, .int .i64 4, .int .i64 20, .int .i64 21] 3))
            have cx := J4.out.fl.cell 1
            have cy := J4.out.fl.cell 2
            have cn := J4.out.fl.cell 3
            have cb := J4.out.fl.cell 4
            have ca := J4.out.fl.cell 5
            simp only [List.getElem?_toArray, List.getElem?_cons_succ, List.getElem?_cons_zero] at cx cy cn cb ca
            go_wp2_with fail
            refine (in14_any (o : Int) LA _ 4 _ _ LA_len (by decide) (cell_list _ _ 3 LA _ _ rfl LA_cells (by first | rfl | simp))).mono ?_
            rintro e q5 ⟨rfl, rfl⟩
            rw [show inB (o : Int) LA = false by have := KD.out.2.2.2.2.1; rw [HO.out, HP.out] at this; exact this]
            clear J4 cx cy cn cb ca
            generalize World.alloc _ _ = q5 at J5 ⊢
            simp only []
            have n48 : ((o : Int) == 48) = false := by have := KD.out.2.2.2.2.2.2.1; rw [HO.out, HP.out] at this; exact this
            have Z := Lib.hid (J5.out)
            have cx := J5.out.fl.cell 1
            have cy := J5.out.fl.cell 2
            have cn := J5.out.fl.cell 3
            have cb := J5.out.fl.cell 4
            have ca := J5.out.fl.cell 5
            simp only [List.getElem?_toArray, List.getElem?_cons_succ, List.getElem?_cons_zero] at cx cy cn cb ca
            go_upto_region 21 with fail
            have Y := Lib.hid (show RB w g bx #[.int .i64 (hd : Int), .int .i64 (x : Int), .int .i64 (y : Int), .int .i64 (n : Int), .int .i64 (b1 : Int), .int .i64 (nnn : Int)] (icells ⟨(o : Int), (x : Int), 0, 0, 0, 0, 2⟩) q5 from Z.out)
            refine wp_region_lit ?_
            refine list_load_all (cs := icells ⟨(o : Int), (x : Int), 0, 0, 0, 0, 2⟩) aggInstr Y.out.var rfl rfl (.tmp 13) rfl rfl ?_
            simp only [Act.put, List.setIfInBounds_toArray, List.set_cons_zero, List.set_cons_succ]
            refine list_store_all aggInstr Y.out.res rfl rfl (by unfold Ones; kernel_rfl) rfl (.tmp 10) (.tmp 94) rfl rfl rfl ?_
            simp only [Act.put, List.setIfInBounds_toArray, List.set_cons_zero, List.set_cons_succ]
            have RR := Y.out.res.store (icells ⟨(o : Int), (x : Int), 0, 0, 0, 0, 2⟩)
            have BR := belowRow' Y.out.low (Nat.le_refl _) (icells ⟨(o : Int), (x : Int), 0, 0, 0, 0, 2⟩)
            iterate 4 go_step
            exact bodyPost_ret (results_cell_row rfl _ _ w.heap.size _ _ _ _ rfl RR Tryd.underlying38 rfl aggInstr.i) rfl ⟨by rw [FD.out]; rfl, BR⟩
        · by_cases hf2 : (o : Int) = 44
          · clear hf
            have hf := hf2
            clear hf2
            have n44 : ((o : Int) == 44) = true := by simp; omega
            have n43 : ((o : Int) == 43) = false := by simp; omega
            have PK := Lib.hid (KD.out.2.2.2.2.2.2.2.2 (by rw [HO.out]; omega)).1
            have HP := Lib.hid (show R.pk = .pX from PK.out)
            have AF := Lib.hid (show ok b0 b1 l = allow l (x : Int) by rw [OKE.out]; exact alw_flag (by rw [HO.out]; omega))
            clear hf
            cases hal : allow l (x : Int)
            · have HA := Lib.hid hal
              clear hal
              go_wp2_with fail
              refine (LC.out _).mono ?_
              rintro e w3 ⟨rfl, rfl⟩
              go_wp2_with fail
              refine (rallowed_any l (x : Int) _).mono ?_
              rintro e w4 ⟨rfl, rfl⟩
              rw [HA.out]
              have NK : ok b0 b1 l = false := by
                exact AF.out.trans HA.out
              have FB := Lib.hid (show dec b0 b1 b2 b3 l = ⟨0, 0, 0, 0, 0, 0, 2⟩ by rw [dec_no NK, skl_no HB.out.1 HB.out.2.1 NK])
              clear NK
              go_upto_region 4 with fail
              refine wp_region_lit ?_
              refine list_build_all (cs := icells ⟨0, 0, 0, 0, 0, 0, 2⟩) rfl rfl (by kernel_rfl) ?_
              simp only [Act.put, List.setIfInBounds_toArray, List.set_cons_zero, List.set_cons_succ]
              refine list_store_all (ds := icells ⟨0, 0, 0, 0, 0, 0, 2⟩) aggInstr R2.out rfl rfl (by unfold Ones; kernel_rfl) rfl (.tmp 10) (.tmp 46) rfl rfl rfl ?_
              simp only [Act.put, List.setIfInBounds_toArray, List.set_cons_zero, List.set_cons_succ]
              have RR := Lib.hid (And.intro (R2.out.store (icells ⟨0, 0, 0, 0, 0, 0, 2⟩)) (belowRow' B2.out (Nat.le_refl _) (icells ⟨0, 0, 0, 0, 0, 0, 2⟩)))
              iterate 4 go_step
              simp only [Exit.then]
              exact bodyPost_ret (results_cell_row rfl _ _ w.heap.size _ _ _ _ rfl RR.out.1 Tryd.underlying38 rfl aggInstr.i) rfl ⟨by rw [FB.out], RR.out.2⟩
            · have HA := Lib.hid hal
              clear hal
              go_wp2_with fail
              refine (LC.out _).mono ?_
              rintro e w3 ⟨rfl, rfl⟩
              go_wp2_with fail
              refine (rallowed_any l (x : Int) _).mono ?_
              rintro e w4 ⟨rfl, rfl⟩
              rw [HA.out]
              simp only []
              have OKY := Lib.hid (show ok b0 b1 l = true from AF.out.trans HA.out)
              have FD := Lib.hid (show dec b0 b1 b2 b3 l = ⟨(o : Int), pX .pX (x : Int), pY .pX (y : Int), pN .pX (x : Int) (n : Int), pNN .pX (b1 : Int), pA .pX (nnn : Int) (b2 * 256 + b3 : Nat), 2⟩ by rw [dec_yes OKY.out HR.out, skl_ok HB.out.1 HB.out.2.1 OKY.out, HR.out, HO.out, HP.out]; unfold dx; rw [E.out.2.1, E.out.2.2.1, E.out.2.2.2.1, E.out.2.2.2.2, if_neg (by have := KD.out.2.2.2.2.2.2.1; rw [HO.out, HP.out] at this; simp [hL] at this; omega)])
              have J0 := Lib.hid (show RB w w1.heap.size w2.heap.size #[.int .i64 (hd : Int), .int .i64 (x : Int), .int .i64 (y : Int), .int .i64 (n : Int), .int .i64 (b1 : Int), .int .i64 (nnn : Int)] #[.int .i64 (o : Int), .int .i64 0, .int .i64 0, .int .i64 0, .int .i64 0, .int .i64 0, .int .i64 2] (w2.alloc (.cells #[.int .i64 (o : Int), .int .i64 0, .int .i64 0, .int .i64 0, .int .i64 0, .int .i64 0, .int .i64 2] 38)) from ⟨R2.out.alloc _, G2.out.alloc _, Blk.new _ _ _, B2.out.alloc (Nat.le_of_lt R2.out.lt) _, hw1, G2.out.lt⟩)
              have J1 := Lib.hid (J0.out.alloc (.cells #[.int .i64 5, .int .i64 6, .int .i64 7, .int .i64 8, .int .i64 9, .int .i64 10, .int .i64 11, .int .i64 12, .int .i64 13, .int .i64 14, .int .i64 15, .int .i64 16, .int .i64 17, .int .i64 18, .int .i64 19, .int .i64 21, .int .i64 22, .int .i64 23, .int .i64 24, .int .i64 25, .int .i64 26, .int .i64 27, .int .i64 28, .int .i64 29, .int .i64 30, .int .i64 31, .int .i64 32, .int .i64 33, .int .i64 34, .int .i64 41, .int .i64 42, .int .i64 43, .int .i64 44, .int .i64 46, .int .i64 47, .int .i64 51] 3))
              go_wp2_with fail
              refine (in14_any (o : Int) LX _ 36 _ _ LX_len (by decide) (cell_list _ _ 3 LX _ _ rfl LX_cells (by first | rfl | simp))).mono ?_
              rintro e q1 ⟨rfl, rfl⟩
              rw [show inB (o : Int) LX = true by have := KD.out.1; rw [HO.out, HP.out] at this; exact this]
              clear J0
              generalize World.alloc _ _ = q1 at J1 ⊢
              obtain ⟨g, hg⟩ : ∃ g, w1.heap.size = g := ⟨_, rfl⟩
              obtain ⟨bx, hbx⟩ : ∃ bx, w2.heap.size = bx := ⟨_, rfl⟩
              rw [hg, hbx] at J1
              try rw [hg]
              try rw [hbx]
              have HGX := Lib.hid (And.intro hg hbx)
              clear hg hbx
              simp only []
              have J2 := Lib.hid ((J1.out.put 1 (.int .i64 (x : Int))).alloc (.cells #[.int .i64 7, .int .i64 10, .int .i64 11, .int .i64 12, .int .i64 13, .int .i64 14, .int .i64 15, .int .i64 16, .int .i64 17, .int .i64 18, .int .i64 19, .int .i64 23, .int .i64 41, .int .i64 46, .int .i64 47] 3))
              have cv1 := J1.out.var.cell 1
              have fv1 := J1.out.var.frozen 1
              simp only [icells, List.setIfInBounds_toArray, List.set_cons_zero, List.set_cons_succ, List.getElem?_toArray, List.getElem?_cons_succ, List.getElem?_cons_zero] at cv1
              have cx := J1.out.fl.cell 1
              have cy := J1.out.fl.cell 2
              have cn := J1.out.fl.cell 3
              have cb := J1.out.fl.cell 4
              have ca := J1.out.fl.cell 5
              simp only [List.getElem?_toArray, List.getElem?_cons_succ, List.getElem?_cons_zero] at cx cy cn cb ca
              go_wp2_with fail
              refine (in14_any (o : Int) LY _ 15 _ _ LY_len (by decide) (cell_list _ _ 3 LY _ _ rfl LY_cells (by first | rfl | simp))).mono ?_
              rintro e q2 ⟨rfl, rfl⟩
              rw [show inB (o : Int) LY = false by have := KD.out.2.1; rw [HO.out, HP.out] at this; exact this]
              clear J1 cv1 fv1 cx cy cn cb ca
              generalize World.alloc _ _ = q2 at J2 ⊢
              simp only []
              have J3 := Lib.hid (J2.out.alloc (.cells #[.int .i64 23, .int .i64 35, .int .i64 45] 3))
              have cx := J2.out.fl.cell 1
              have cy := J2.out.fl.cell 2
              have cn := J2.out.fl.cell 3
              have cb := J2.out.fl.cell 4
              have ca := J2.out.fl.cell 5
              simp only [List.getElem?_toArray, List.getElem?_cons_succ, List.getElem?_cons_zero] at cx cy cn cb ca
              go_wp2_with fail
              refine (in14_any (o : Int) LN _ 3 _ _ LN_len (by decide) (cell_list _ _ 3 LN _ _ rfl LN_cells (by first | rfl | simp))).mono ?_
              rintro e q3 ⟨rfl, rfl⟩
              rw [show inB (o : Int) LN = false by have := KD.out.2.2.1; rw [HO.out, HP.out] at this; exact this]
              clear J2 cx cy cn cb ca
              generalize World.alloc _ _ = q3 at J3 ⊢
              simp only []
              have n49 : ((o : Int) == 49) = false := by have := KD.out.2.2.2.2.2.1; rw [HO.out, HP.out] at this; exact this
              have J4 := Lib.hid (J3.out.alloc (.cells #[.int .i64 5, .int .i64 6, .int .i64 8, .int .i64 9, .int .i64 22] 3))
              have cx := J3.out.fl.cell 1
              have cy := J3.out.fl.cell 2
              have cn := J3.out.fl.cell 3
              have cb := J3.out.fl.cell 4
              have ca := J3.out.fl.cell 5
              simp only [List.getElem?_toArray, List.getElem?_cons_succ, List.getElem?_cons_zero] at cx cy cn cb ca
              go_wp2_with fail
              refine (in14_any (o : Int) LNN _ 5 _ _ LNN_len (by decide) (cell_list _ _ 3 LNN _ _ rfl LNN_cells (by first | rfl | simp))).mono ?_
              rintro e q4 ⟨rfl, rfl⟩
              rw [show inB (o : Int) LNN = false by have := KD.out.2.2.2.1; rw [HO.out, HP.out] at this; exact this]
              clear J3 cx cy cn cb ca
              generalize World.alloc _ _ = q4 at J4 ⊢
              simp only []
              have J5 := Lib.hid (J4.out.alloc (.cells #[.int .i64 3, .int .i64 4, .int .i64 20, .int .i64 21] 3))
              have cx := J4.out.fl.cell 1
              have cy := J4.out.fl.cell 2
              have cn := J4.out.fl.cell 3
              have cb := J4.out.fl.cell 4
              have ca := J4.out.fl.cell 5
              simp only [List.getElem?_toArray, List.getElem?_cons_succ, List.getElem?_cons_zero] at cx cy cn cb ca
              go_wp2_with fail
              refine (in14_any (o : Int) LA _ 4 _ _ LA_len (by decide) (cell_list _ _ 3 LA _ _ rfl LA_cells (by first | rfl | simp))).mono ?_
              rintro e q5 ⟨rfl, rfl⟩
              rw [show inB (o : Int) LA = false by have := KD.out.2.2.2.2.1; rw [HO.out, HP.out] at this; exact this]
              clear J4 cx cy cn cb ca
              generalize World.alloc _ _ = q5 at J5 ⊢
              simp only []
              have n48 : ((o : Int) == 48) = false := by have := KD.out.2.2.2.2.2.2.1; rw [HO.out, HP.out] at this; exact this
              have Z := Lib.hid (J5.out)
              have cx := J5.out.fl.cell 1
              have cy := J5.out.fl.cell 2
              have cn := J5.out.fl.cell 3
              have cb := J5.out.fl.cell 4
              have ca := J5.out.fl.cell 5
              simp only [List.getElem?_toArray, List.getElem?_cons_succ, List.getElem?_cons_zero] at cx cy cn cb ca
              go_upto_region 21 with fail
              have Y := Lib.hid (show RB w g bx #[.int .i64 (hd : Int), .int .i64 (x : Int), .int .i64 (y : Int), .int .i64 (n : Int), .int .i64 (b1 : Int), .int .i64 (nnn : Int)] (icells ⟨(o : Int), (x : Int), 0, 0, 0, 0, 2⟩) q5 from Z.out)
              refine wp_region_lit ?_
              refine list_load_all (cs := icells ⟨(o : Int), (x : Int), 0, 0, 0, 0, 2⟩) aggInstr Y.out.var rfl rfl (.tmp 13) rfl rfl ?_
              simp only [Act.put, List.setIfInBounds_toArray, List.set_cons_zero, List.set_cons_succ]
              refine list_store_all aggInstr Y.out.res rfl rfl (by unfold Ones; kernel_rfl) rfl (.tmp 10) (.tmp 94) rfl rfl rfl ?_
              simp only [Act.put, List.setIfInBounds_toArray, List.set_cons_zero, List.set_cons_succ]
              have RR := Y.out.res.store (icells ⟨(o : Int), (x : Int), 0, 0, 0, 0, 2⟩)
              have BR := belowRow' Y.out.low (Nat.le_refl _) (icells ⟨(o : Int), (x : Int), 0, 0, 0, 0, 2⟩)
              iterate 4 go_step
              exact bodyPost_ret (results_cell_row rfl _ _ w.heap.size _ _ _ _ rfl RR Tryd.underlying38 rfl aggInstr.i) rfl ⟨by rw [FD.out]; rfl, BR⟩
          · exfalso
            have AP : ok b0 b1 l = true := by rw [OKE.out, alw_plain (by rw [HO.out]; exact hf) (by rw [HO.out]; exact hf2), decide_eq_true (by have := H1.out; have := HV.out; omega), decide_eq_true (by have := H4.out; omega)]; rfl
            have := HNO.out AP
            rw [HR.out, HO.out] at this
            omega
end Go.Proofs.YtgilkbmipgejeaaDoor
