/- The reference's Decode: the kinds None, X, N, XY, XYN. -/
import Derived.Test.YtgilkbmipgejeaaDoorPk4a
namespace Go.Proofs.YtgilkbmipgejeaaDoor
open Go.RowKit Num Dec
set_option linter.unusedVariables false
set_option linter.unusedSimpArgs false

set_option maxRecDepth 100000 in
set_option maxHeartbeats 20000000 in
theorem rdecode_k1 (b0 b1 b2 b3 : Nat) (l : Int) (w : World) (h0 : b0 < 256) (h1 : b1 < 256) (h2 : b2 < 256) (h3 : b3 < 256) (hok : ok b0 b1 l = true) (hno : ¬ ((top (b0 * 256 + b1)).op = 43 ∨ (top (b0 * 256 + b1)).op = 44)) (hk : (top (b0 * 256 + b1)).pk = .pNone ∨ (top (b0 * 256 + b1)).pk = .pX ∨ (top (b0 * 256 + b1)).pk = .pN ∨ (top (b0 * 256 + b1)).pk = .pXY ∨ (top (b0 * 256 + b1)).pk = .pXYN) :
    Calls Tryd.prog 37 #[.int .u8 (b0 : Int), .int .u8 (b1 : Int), .int .u8 (b2 : Int), .int .u8 (b3 : Int), .int .i64 l] w fun e w' => e = .returned (.agg (icells (dec b0 b1 b2 b3 l))) ∧ Below w.heap.size w w' := by
  have HNO := Lib.hid hno
  have HOK := Lib.hid hok
  have HKK := Lib.hid hk
  clear hno hok hk
  have SP := fun w => rsplit_nat b0 b1 h0 h1 w
  have OP := fun w => rop_any (b0 / 16) (b0 % 16) (b1 / 16) (b1 % 16) b1 (b0 % 16 * 256 + b1) w (by omega) (by omega)
  rw [show opR (b0 / 16) (b0 % 16) (b1 / 16) (b1 % 16) b1 (b0 % 16 * 256 + b1) = (top (b0 * 256 + b1)).op from op_same b0 b1 h0 h1] at OP
  unfold fcs at SP
  unfold fv at OP
  generalize e0 : b0 / 16 = hd at SP OP
  generalize e1 : b0 % 16 = x at SP OP
  generalize e2 : b1 / 16 = y at SP OP
  generalize e3 : b1 % 16 = n at SP OP
  generalize e4 : x * 256 + b1 = nnn at SP OP
  generalize hR : top (b0 * 256 + b1) = R at OP
  have HR := Lib.hid hR
  have KD := Lib.hid (show KindOk R by rw [← hR]; exact kind_top _)
  have SPH := Lib.hid SP
  have OPH := Lib.hid OP
  have HB := Lib.hid (And.intro h0 (And.intro h1 (And.intro h2 h3)))
  have E := Lib.hid (And.intro e0 (And.intro e1 (And.intro e2 (And.intro e3 e4))))
  clear SP OP e0 e1 e2 e3 e4 h0 h1 h2 h3 hR
  obtain ⟨o, ho⟩ : ∃ o, R.op = o := ⟨_, rfl⟩
  rw [ho] at OPH
  have HO := Lib.hid ho
  clear ho
  go_enter Tryd.func37, Tryd.ntmps37
  go_wp2_with fail
  refine (SPH.out _).mono ?_
  rintro e w1 ⟨rfl, b1'⟩
  have B1 := Lib.hid (((Below.refl w.heap.size w).alloc (Nat.le_refl _) (.cells zeroI 38)).trans (b1'.mono (by simp)))
  have R1 := Lib.hid ((Blk.new w 38 zeroI).step b1')
  have hw1 : w.heap.size < w1.heap.size := R1.out.lt
  clear b1' SPH
  go_wp2_with fail
  refine (OPH.out _).mono ?_
  rintro e w2 ⟨rfl, b2'⟩
  have R2 := Lib.hid ((R1.out.alloc (.cells #[.int .i64 (hd : Int), .int .i64 (x : Int), .int .i64 (y : Int), .int .i64 (n : Int), .int .i64 (b1 : Int), .int .i64 (nnn : Int)] 110)).step b2')
  have G2 := Lib.hid ((Blk.new w1 110 #[.int .i64 (hd : Int), .int .i64 (x : Int), .int .i64 (y : Int), .int .i64 (n : Int), .int .i64 (b1 : Int), .int .i64 (nnn : Int)]).step b2')
  have B2 := Lib.hid ((B1.out.alloc (Nat.le_of_lt hw1) (.cells #[.int .i64 (hd : Int), .int .i64 (x : Int), .int .i64 (y : Int), .int .i64 (n : Int), .int .i64 (b1 : Int), .int .i64 (nnn : Int)] 110)).trans (b2'.mono (by simp; omega)))
  have hg2 : w1.heap.size < w2.heap.size := G2.out.lt
  have hw2 : w.heap.size < w2.heap.size := R2.out.lt
  have cx := G2.out.cell 1
  simp only [List.getElem?_toArray, List.getElem?_cons_succ, List.getElem?_cons_zero] at cx
  clear b2' B1 R1 OPH
  simp only []
  have NF := Lib.hid (show ¬ o = 43 ∧ ¬ o = 44 ∧ ¬ o = 0 by have h := HNO.out; have h2 := HOK.out; rw [HR.out, HO.out] at h; refine ⟨fun e => h (.inl e), fun e => h (.inr e), fun e => ?_⟩; unfold ok at h2; rw [HR.out, HO.out, e] at h2; cases h2)
  have n0 : ((o : Int) == 0) = false := by have := NF.out; simp; omega
  have n43 : ((o : Int) == 43) = false := by have := NF.out; simp; omega
  have n44 : ((o : Int) == 44) = false := by have := NF.out; simp; omega
  have LV := Lib.hid (show lvR (o : Int) = (R.level : Int) ∧ 1 ≤ R.level ∧ R.level ≤ 3 by have := KD.out.2.2.2.2.2.2.2.1; rw [HO.out] at this; have := NF.out; omega)
  have LC := Lib.hid (fun w => rlevel_any (o : Int) w)
  rw [LV.out.1] at LC
  obtain ⟨v, hv⟩ : ∃ v, R.level = v := ⟨_, rfl⟩
  rw [hv] at LC
  have HV := Lib.hid hv
  have AW := Lib.hid (show (v : Int) ≤ l ∧ l ≤ 3 by
    have h2 := HOK.out
    unfold ok at h2
    rw [HR.out, alw_plain (by rw [HO.out]; have := NF.out; omega) (by rw [HO.out]; have := NF.out; omega), Bool.and_eq_true, Bool.and_eq_true] at h2
    have h3 := of_decide_eq_true h2.2.1
    have h4 := of_decide_eq_true h2.2.2
    omega)
  clear hv
  have d1 : decide (l < (v : Int)) = false := by have := AW.out; simp; omega
  have d4 : decide ((3 : Int) < l) = false := by have := AW.out; simp; omega
  go_wp2_with fail
  refine (LC.out _).mono ?_
  rintro e w3 ⟨rfl, rfl⟩
  simp only []
  have hk := HKK.out
  rw [HR.out] at hk
  rcases hk with hp | hp | hp | hp | hp
  · have HP := Lib.hid hp
    clear hp
    have OKY := Lib.hid (show ok b0 b1 l = true from HOK.out)
    have FD := Lib.hid (show dec b0 b1 b2 b3 l = ⟨(o : Int), pX .pNone (x : Int), pY .pNone (y : Int), pN .pNone (x : Int) (n : Int), pNN .pNone (b1 : Int), pA .pNone (nnn : Int) (b2 * 256 + b3 : Nat), 2⟩ by rw [dec_yes OKY.out HR.out, skl_ok HB.out.1 HB.out.2.1 OKY.out, HR.out, HO.out, HP.out]; unfold dx; rw [E.out.2.1, E.out.2.2.1, E.out.2.2.2.1, E.out.2.2.2.2, if_neg (by have := KD.out.2.2.2.2.2.2.1; rw [HO.out, HP.out] at this; simp [hL] at this; omega)])
    have J0 := Lib.hid (show RB w w1.heap.size w2.heap.size #[.int .i64 (hd : Int), .int .i64 (x : Int), .int .i64 (y : Int), .int .i64 (n : Int), .int .i64 (b1 : Int), .int .i64 (nnn : Int)] #[.int .i64 (o : Int), .int .i64 0, .int .i64 0, .int .i64 0, .int .i64 0, .int .i64 0, .int .i64 2] (w2.alloc (.cells #[.int .i64 (o : Int), .int .i64 0, .int .i64 0, .int .i64 0, .int .i64 0, .int .i64 0, .int .i64 2] 38)) from ⟨R2.out.alloc _, G2.out.alloc _, Blk.new _ _ _, B2.out.alloc (Nat.le_of_lt R2.out.lt) _, hw1, G2.out.lt⟩)
    have J1 := Lib.hid (J0.out.alloc (.cells #[.int .i64 5, .int .i64 6, .int .i64 7, .int .i64 8, .int .i64 9, .int .i64 10, .int .i64 11, .int .i64 12, .int .i64 13, .int .i64 14, .int .i64 15, .int .i64 16, .int .i64 17, .int .i64 18, .int .i64 19, .int .i64 21, .int .i64 22, .int .i64 23, .int .i64 24, .int .i64 25, .int .i64 26, .int .i64 27, .int .i64 28, .int .i64 29, .int .i64 30, .int .i64 31, .int .i64 32, .int .i64 33, .int .i64 34, .int .i64 41, .int .i64 42, .int .i64 43, .int .i64 44, .int .i64 46, .int .i64 47, .int .i64 51] 3))
    go_wp2_with fail
    refine (in14_any (o : Int) LX _ 36 _ _ LX_len (by decide) (cell_list _ _ 3 LX _ _ rfl LX_cells (by first | rfl | simp))).mono ?_
    rintro e q1 ⟨rfl, rfl⟩
    rw [show inB (o : Int) LX = false by have := KD.out.1; rw [HO.out, HP.out] at this; exact this]
    clear J0
    generalize World.alloc _ _ = q1 at J1 ⊢
    obtain ⟨g, hg⟩ : ∃ g, w1.heap.size = g := ⟨_, rfl⟩
    obtain ⟨bx, hbx⟩ : ∃ bx, w2.heap.size = bx := ⟨_, rfl⟩
    rw [hg, hbx] at J1
    try rw [hg]
    try rw [hbx]
    have HGX := Lib.hid (And.intro hg hbx)
    clear hg hbx
    simp only []
    have J2 := Lib.hid (J1.out.alloc (.cells #[.int .i64 7, .int .i64 10, .int .i64 11, .int .i64 12, .int .i64 13, .int .i64 14, .int .i64 15, .int .i64 16, .int .i64 17, .int .i64 18, .int .i64 19, .int .i64 23, .int .i64 41, .int .i64 46, .int .i64 47] 3))
    have cx := J1.out.fl.cell 1
    have cy := J1.out.fl.cell 2
    have cn := J1.out.fl.cell 3
    have cb := J1.out.fl.cell 4
    have ca := J1.out.fl.cell 5
    simp only [List.getElem?_toArray, List.getElem?_cons_succ, List.getElem?_cons_zero] at cx cy cn cb ca
    go_wp2_with fail
    refine (in14_any (o : Int) LY _ 15 _ _ LY_len (by decide) (cell_list _ _ 3 LY _ _ rfl LY_cells (by first | rfl | simp))).mono ?_
    rintro e q2 ⟨rfl, rfl⟩
    rw [show inB (o : Int) LY = false by have := KD.out.2.1; rw [HO.out, HP.out] at this; exact this]
    clear J1 cx cy cn cb ca
    generalize World.alloc _ _ = q2 at J2 ⊢
    simp only []
    have J3 := Lib.hid (J2.out.alloc (.cells #[.int .i64 23, .int .i64 35, .int .i64 45] 3))
    have cx := J2.out.fl.cell 1
    have cy := J2.out.fl.cell 2
    have cn := J2.out.fl.cell 3
    have cb := J2.out.fl.cell 4
    have ca := J2.out.fl.cell 5
    simp only [List.getElem?_toArray, List.getElem?_cons_succ, List.getElem?_cons_zero] at cx cy cn cb ca
    go_wp2_with fail
    refine (in14_any (o : Int) LN _ 3 _ _ LN_len (by decide) (cell_list _ _ 3 LN _ _ rfl LN_cells (by first | rfl | simp))).mono ?_
    rintro e q3 ⟨rfl, rfl⟩
    rw [show inB (o : Int) LN = false by have := KD.out.2.2.1; rw [HO.out, HP.out] at this; exact this]
    clear J2 cx cy cn cb ca
    generalize World.alloc _ _ = q3 at J3 ⊢
    simp only []
    have n49 : ((o : Int) == 49) = false := by have := KD.out.2.2.2.2.2.1; rw [HO.out, HP.out] at this; exact this
    have J4 := Lib.hid (J3.out.alloc (.cells #[.int .i64 5, .int .i64 6, .int .i64 8, .int .i64 9, .int .i64 22] 3))
    have cx := J3.out.fl.cell 1
    have cy := J3.out.fl.cell 2
    have cn := J3.out.fl.cell 3
    have cb := J3.out.fl.cell 4
    have ca := J3.out.fl.cell 5
    simp only [List.getElem?_toArray, List.getElem?_cons_succ, List.getElem?_cons_zero] at cx cy cn cb ca
    go_wp2_with fail
    refine (in14_any (o : Int) LNN _ 5 _ _ LNN_len (by decide) (cell_list _ _ 3 LNN _ _ rfl LNN_cells (by first | rfl | simp))).mono ?_
    rintro e q4 ⟨rfl, rfl⟩
    rw [show inB (o : Int) LNN = false by have := KD.out.2.2.2.1; rw [HO.out, HP.out] at this; exact this]
    clear J3 cx cy cn cb ca
    generalize World.alloc _ _ = q4 at J4 ⊢
    simp only []
    have J5 := Lib.hid (J4.out.alloc (.cells #[.int .i64 3, .int .i64 4, .int .i64 20, .int .i64 21] 3))
    have cx := J4.out.fl.cell 1
    have cy := J4.out.fl.cell 2
    have cn := J4.out.fl.cell 3
    have cb := J4.out.fl.cell 4
    have ca := J4.out.fl.cell 5
    simp only [List.getElem?_toArray, List.getElem?_cons_succ, List.getElem?_cons_zero] at cx cy cn cb ca
    go_wp2_with fail
    refine (in14_any (o : Int) LA _ 4 _ _ LA_len (by decide) (cell_list _ _ 3 LA _ _ rfl LA_cells (by first | rfl | simp))).mono ?_
    rintro e q5 ⟨rfl, rfl⟩
    rw [show inB (o : Int) LA = false by have := KD.out.2.2.2.2.1; rw [HO.out, HP.out] at this; exact this]
    clear J4 cx cy cn cb ca
    generalize World.alloc _ _ = q5 at J5 ⊢
    simp only []
    have n48 : ((o : Int) == 48) = false := by have := KD.out.2.2.2.2.2.2.1; rw [HO.out, HP.out] at this; exact this
    have Z := Lib.hid (J5.out)
    have cx := J5.out.fl.cell 1
    have cy := J5.out.fl.cell 2
    have cn := J5.out.fl.cell 3
    have cb := J5.out.fl.cell 4
    have ca := J5.out.fl.cell 5
    simp only [List.getElem?_toArray, List.getElem?_cons_succ, List.getElem?_cons_zero] at cx cy cn cb ca
    go_upto_region 21 with fail
    have Y := Lib.hid (show RB w g bx #[.int .i64 (hd : Int), .int .i64 (x : Int), .int .i64 (y : Int), .int .i64 (n : Int), .int .i64 (b1 : Int), .int .i64 (nnn : Int)] (icells ⟨(o : Int), 0, 0, 0, 0, 0, 2⟩) q5 from Z.out)
    refine wp_region_lit ?_
    refine list_load_all (cs := icells ⟨(o : Int), 0, 0, 0, 0, 0, 2⟩) aggInstr Y.out.var rfl rfl (.tmp 13) rfl rfl ?_
    simp only [Act.put, List.setIfInBounds_toArray, List.set_cons_zero, List.set_cons_succ]
    refine list_store_all aggInstr Y.out.res rfl rfl (by unfold Ones; kernel_rfl) rfl (.tmp 10) (.tmp 94) rfl rfl rfl ?_
    simp only [Act.put, List.setIfInBounds_toArray, List.set_cons_zero, List.set_cons_succ]
    have RR := Y.out.res.store (icells ⟨(o : Int), 0, 0, 0, 0, 0, 2⟩)
    have BR := belowRow' Y.out.low (Nat.le_refl _) (icells ⟨(o : Int), 0, 0, 0, 0, 0, 2⟩)
    iterate 4 go_step
    exact bodyPost_ret (results_cell_row rfl _ _ w.heap.size _ _ _ _ rfl RR Tryd.underlying38 rfl aggInstr.i) rfl ⟨by rw [FD.out]; rfl, BR⟩
  · have HP := Lib.hid hp
    clear hp
    have OKY := Lib.hid (show ok b0 b1 l = true from HOK.out)
    have FD := Lib.hid (show dec b0 b1 b2 b3 l = ⟨(o : Int), pX .pX (x : Int), pY .pX (y : Int), pN .pX (x : Int) (n : Int), pNN .pX (b1 : Int), pA .pX (nnn : Int) (b2 * 256 + b3 : Nat), 2⟩ by rw [dec_yes OKY.out HR.out, skl_ok HB.out.1 HB.out.2.1 OKY.out, HR.out, HO.out, HP.out]; unfold dx; rw [E.out.2.1, E.out.2.2.1, E.out.2.2.2.1, E.out.2.2.2.2, if_neg (by have := KD.out.2.2.2.2.2.2.1; rw [HO.out, HP.out] at this; simp [hL] at this; omega)])
    have J0 := Lib.hid (show RB w w1.heap.size w2.heap.size #[.int .i64 (hd : Int), .int .i64 (x : Int), .int .i64 (y : Int), .int .i64 (n : Int), .int .i64 (b1 : Int), .int .i64 (nnn : Int)] #[.int .i64 (o : Int), .int .i64 0, .int .i64 0, .int .i64 0, .int .i64 0, .int .i64 0, .int .i64 2] (w2.alloc (.cells #[.int .i64 (o : Int), .int .i64 0, .int .i64 0, .int .i64 0, .int .i64 0, .int .i64 0, .int .i64 2] 38)) from ⟨R2.out.alloc _, G2.out.alloc _, Blk.new _ _ _, B2.out.alloc (Nat.le_of_lt R2.out.lt) _, hw1, G2.out.lt⟩)
    have J1 := Lib.hid (J0.out.alloc (.cells #[.int .i64 5, .int .i64 6, .int .i64 7, .int .i64 8, .int .i64 9, .int .i64 10, .int .i64 11, .int .i64 12, .int .i64 13, .int .i64 14, .int .i64 15, .int .i64 16, .int .i64 17, .int .i64 18, .int .i64 19, .int .i64 21, .int .i64 22, .int .i64 23, .int .i64 24, .int .i64 25, .int .i64 26, .int .i64 27, .int .i64 28, .int .i64 29, .int .i64 30, .int .i64 31, .int .i64 32, .int .i64 33, .int .i64 34, .int .i64 41, .int .i64 42, .int .i64 43, .int .i64 44, .int .i64 46, .int .i64 47, .int .i64 51] 3))
    go_wp2_with fail
    refine (in14_any (o : Int) LX _ 36 _ _ LX_len (by decide) (cell_list _ _ 3 LX _ _ rfl LX_cells (by first | rfl | simp))).mono ?_
    rintro e q1 ⟨rfl, rfl⟩
    rw [show inB (o : Int) LX = true by have := KD.out.1; rw [HO.out, HP.out] at this; exact this]
    clear J0
    generalize World.alloc _ _ = q1 at J1 ⊢
    obtain ⟨g, hg⟩ : ∃ g, w1.heap.size = g := ⟨_, rfl⟩
    obtain ⟨bx, hbx⟩ : ∃ bx, w2.heap.size = bx := ⟨_, rfl⟩
    rw [hg, hbx] at J1
    try rw [hg]
    try rw [hbx]
    have HGX := Lib.hid (And.intro hg hbx)
    clear hg hbx
    simp only []
    have J2 := Lib.hid ((J1.out.put 1 (.int .i64 (x : Int))).alloc (.cells #[.int .i64 7, .int .i64 10, .int .i64 11, .int .i64 12, .int .i64 13, .int .i64 14, .int .i64 15, .int .i64 16, .int .i64 17, .int .i64 18, .int .i64 19, .int .i64 23, .int .i64 41, .int .i64 46, .int .i64 47] 3))
    have cv1 := J1.out.var.cell 1
    have fv1 := J1.out.var.frozen 1
    simp only [icells, List.setIfInBounds_toArray, List.set_cons_zero, List.set_cons_succ, List.getElem?_toArray, List.getElem?_cons_succ, List.getElem?_cons_zero] at cv1
    have cx := J1.out.fl.cell 1
    have cy := J1.out.fl.cell 2
    have cn := J1.out.fl.cell 3
    have cb := J1.out.fl.cell 4
    have ca := J1.out.fl.cell 5
    simp only [List.getElem?_toArray, List.getElem?_cons_succ, List.getElem?_cons_zero] at cx cy cn cb ca
    go_wp2_with fail
    refine (in14_any (o : Int) LY _ 15 _ _ LY_len (by decide) (cell_list _ _ 3 LY _ _ rfl LY_cells (by first | rfl | simp))).mono ?_
    rintro e q2 ⟨rfl, rfl⟩
    rw [show inB (o : Int) LY = false by have := KD.out.2.1; rw [HO.out, HP.out] at this; exact this]
    clear J1 cv1 fv1 cx cy cn cb ca
    generalize World.alloc _ _ = q2 at J2 ⊢
    simp only []
    have J3 := Lib.hid (J2.out.alloc (.cells #[.int .i64 23, .int .i64 35, .int .i64 45] 3))
    have cx := J2.out.fl.cell 1
    have cy := J2.out.fl.cell 2
    have cn := J2.out.fl.cell 3
    have cb := J2.out.fl.cell 4
    have ca := J2.out.fl.cell 5
    simp only [List.getElem?_toArray, List.getElem?_cons_succ, List.getElem?_cons_zero] at cx cy cn cb ca
    go_wp2_with fail
    refine (in14_any (o : Int) LN _ 3 _ _ LN_len (by decide) (cell_list _ _ 3 LN _ _ rfl LN_cells (by first | rfl | simp))).mono ?_
    rintro e q3 ⟨rfl, rfl⟩
    rw [show inB (o : Int) LN = false by have := KD.out.2.2.1; rw [HO.out, HP.out] at this; exact this]
    clear J2 cx cy cn cb ca
    generalize World.alloc _ _ = q3 at J3 ⊢
    simp only []
    have n49 : ((o : Int) == 49) = false := by have := KD.out.2.2.2.2.2.1; rw [HO.out, HP.out] at this; exact this
    have J4 := Lib.hid (J3.out.alloc (.cells #[.int .i64 5, .int .i64 6, .int .i64 8, .int .i64 9, .int .i64 22] 3))
    have cx := J3.out.fl.cell 1
    have cy := J3.out.fl.cell 2
    have cn := J3.out.fl.cell 3
    have cb := J3.out.fl.cell 4
    have ca := J3.out.fl.cell 5
    simp only [List.getElem?_toArray, List.getElem?_cons_succ, List.getElem?_cons_zero] at cx cy cn cb ca
    go_wp2_with fail
    refine (in14_any (o : Int) LNN _ 5 _ _ LNN_len (by decide) (cell_list _ _ 3 LNN _ _ rfl LNN_cells (by first | rfl | simp))).mono ?_
    rintro e q4 ⟨rfl, rfl⟩
    rw [show inB (o : Int) LNN = false by have := KD.out.2.2.2.1; rw [HO.out, HP.out] at this; exact this]
    clear J3 cx cy cn cb ca
    generalize World.alloc _ _ = q4 at J4 ⊢
    simp only []
    have J5 := Lib.hid (J4.out.alloc (.cells #[.int .i64 3, .int .i64 4, .int .i64 20, .int .i64 21] 3))
    have cx := J4.out.fl.cell 1
    have cy := J4.out.fl.cell 2
    have cn := J4.out.fl.cell 3
    have cb := J4.out.fl.cell 4
    have ca := J4.out.fl.cell 5
    simp only [List.getElem?_toArray, List.getElem?_cons_succ, List.getElem?_cons_zero] at cx cy cn cb ca
    go_wp2_with fail
    refine (in14_any (o : Int) LA _ 4 _ _ LA_len (by decide) (cell_list _ _ 3 LA _ _ rfl LA_cells (by first | rfl | simp))).mono ?_
    rintro e q5 ⟨rfl, rfl⟩
    rw [show inB (o : Int) LA = false by have := KD.out.2.2.2.2.1; rw [HO.out, HP.out] at this; exact this]
    clear J4 cx cy cn cb ca
    generalize World.alloc _ _ = q5 at J5 ⊢
    simp only []
    have n48 : ((o : Int) == 48) = false := by have := KD.out.2.2.2.2.2.2.1; rw [HO.out, HP.out] at this; exact this
    have Z := Lib.hid (J5.out)
    have cx := J5.out.fl.cell 1
    have cy := J5.out.fl.cell 2
    have cn := J5.out.fl.cell 3
    have cb := J5.out.fl.cell 4
    have ca := J5.out.fl.cell 5
    simp only [List.getElem?_toArray, List.getElem?_cons_succ, List.getElem?_cons_zero] at cx cy cn cb ca
    go_upto_region 21 with fail
    have Y := Lib.hid (show RB w g bx #[.int .i64 (hd : Int), .int .i64 (x : Int), .int .i64 (y : Int), .int .i64 (n : Int), .int .i64 (b1 : Int), .int .i64 (nnn : Int)] (icells ⟨(o : Int), (x : Int), 0, 0, 0, 0, 2⟩) q5 from Z.out)
    refine wp_region_lit ?_
    refine list_load_all (cs := icells ⟨(o : Int), (x : Int), 0, 0, 0, 0, 2⟩) aggInstr Y.out.var rfl rfl (.tmp 13) rfl rfl ?_
    simp only [Act.put, List.setIfInBounds_toArray, List.set_cons_zero, List.set_cons_succ]
    refine list_store_all aggInstr Y.out.res rfl rfl (by unfold Ones; kernel_rfl) rfl (.tmp 10) (.tmp 94) rfl rfl rfl ?_
    simp only [Act.put, List.setIfInBounds_toArray, List.set_cons_zero, List.set_cons_succ]
    have RR := Y.out.res.store (icells ⟨(o : Int), (x : Int), 0, 0, 0, 0, 2⟩)
    have BR := belowRow' Y.out.low (Nat.le_refl _) (icells ⟨(o : Int), (x : Int), 0, 0, 0, 0, 2⟩)
    iterate 4 go_step
    exact bodyPost_ret (results_cell_row rfl _ _ w.heap.size _ _ _ _ rfl RR Tryd.underlying38 rfl aggInstr.i) rfl ⟨by rw [FD.out]; rfl, BR⟩
  · have HP := Lib.hid hp
    clear hp
    have OKY := Lib.hid (show ok b0 b1 l = true from HOK.out)
    have FD := Lib.hid (show dec b0 b1 b2 b3 l = ⟨(o : Int), pX .pN (x : Int), pY .pN (y : Int), pN .pN (x : Int) (n : Int), pNN .pN (b1 : Int), pA .pN (nnn : Int) (b2 * 256 + b3 : Nat), 2⟩ by rw [dec_yes OKY.out HR.out, skl_ok HB.out.1 HB.out.2.1 OKY.out, HR.out, HO.out, HP.out]; unfold dx; rw [E.out.2.1, E.out.2.2.1, E.out.2.2.2.1, E.out.2.2.2.2, if_neg (by have := KD.out.2.2.2.2.2.2.1; rw [HO.out, HP.out] at this; simp [hL] at this; omega)])
    have J0 := Lib.hid (show RB w w1.heap.size w2.heap.size #[.int .i64 (hd : Int), .int .i64 (x : Int), .int .i64 (y : Int), .int .i64 (n : Int), .int .i64 (b1 : Int), .int .i64 (nnn : Int)] #[.int .i64 (o : Int), .int .i64 0, .int .i64 0, .int .i64 0, .int .i64 0, .int .i64 0, .int .i64 2] (w2.alloc (.cells #[.int .i64 (o : Int), .int .i64 0, .int .i64 0, .int .i64 0, .int .i64 0, .int .i64 0, .int .i64 2] 38)) from ⟨R2.out.alloc _, G2.out.alloc _, Blk.new _ _ _, B2.out.alloc (Nat.le_of_lt R2.out.lt) _, hw1, G2.out.lt⟩)
    have J1 := Lib.hid (J0.out.alloc (.cells #[.int .i64 5, .int .i64 6, .int .i64 7, .int .i64 8, .int .i64 9, .int .i64 10, .int .i64 11, .int .i64 12, .int .i64 13, .int .i64 14, .int .i64 15, .int .i64 16, .int .i64 17, .int .i64 18, .int .i64 19, .int .i64 21, .int .i64 22, .int .i64 23, .int .i64 24, .int .i64 25, .int .i64 26, .int .i64 27, .int .i64 28, .int .i64 29, .int .i64 30, .int .i64 31, .int .i64 32, .int .i64 33, .int .i64 34, .int .i64 41, .int .i64 42, .int .i64 43, .int .i64 44, .int .i64 46, .int .i64 47, .int .i64 51] 3))
    go_wp2_with fail
    refine (in14_any (o : Int) LX _ 36 _ _ LX_len (by decide) (cell_list _ _ 3 LX _ _ rfl LX_cells (by first | rfl | simp))).mono ?_
    rintro e q1 ⟨rfl, rfl⟩
    rw [show inB (o : Int) LX = false by have := KD.out.1; rw [HO.out, HP.out] at this; exact this]
    clear J0
    generalize World.alloc _ _ = q1 at J1 ⊢
    obtain ⟨g, hg⟩ : ∃ g, w1.heap.size = g := ⟨_, rfl⟩
    obtain ⟨bx, hbx⟩ : ∃ bx, w2.heap.size = bx := ⟨_, rfl⟩
    rw [hg, hbx] at J1
    try rw [hg]
    try rw [hbx]
    have HGX := Lib.hid (And.intro hg hbx)
    clear hg hbx
    simp only []
    have J2 := Lib.hid (J1.out.alloc (.cells #[.int .i64 7, .int .i64 10, .int .i64 11, .int .i64 12, .int .i64 13, .int .i64 14, .int .i64 15, .int .i64 16, .int .i64 17, .int .i64 18, .int .i64 19, .int .i64 23, .int .i64 41, .int .i64 46, .int .i64 47] 3))
    have cx := J1.out.fl.cell 1
    have cy := J1.out.fl.cell 2
    have cn := J1.out.fl.cell 3
    have cb := J1.out.fl.cell 4
    have ca := J1.out.fl.cell 5
    simp only [List.getElem?_toArray, List.getElem?_cons_succ, List.getElem?_cons_zero] at cx cy cn cb ca
    go_wp2_with fail
    refine (in14_any (o : Int) LY _ 15 _ _ LY_len (by decide) (cell_list _ _ 3 LY _ _ rfl LY_cells (by first | rfl | simp))).mono ?_
    rintro e q2 ⟨rfl, rfl⟩
    rw [show inB (o : Int) LY = false by have := KD.out.2.1; rw [HO.out, HP.out] at this; exact this]
    clear J1 cx cy cn cb ca
    generalize World.alloc _ _ = q2 at J2 ⊢
    simp only []
    have J3 := Lib.hid (J2.out.alloc (.cells #[.int .i64 23, .int .i64 35, .int .i64 45] 3))
    have cx := J2.out.fl.cell 1
    have cy := J2.out.fl.cell 2
    have cn := J2.out.fl.cell 3
    have cb := J2.out.fl.cell 4
    have ca := J2.out.fl.cell 5
    simp only [List.getElem?_toArray, List.getElem?_cons_succ, List.getElem?_cons_zero] at cx cy cn cb ca
    go_wp2_with fail
    refine (in14_any (o : Int) LN _ 3 _ _ LN_len (by decide) (cell_list _ _ 3 LN _ _ rfl LN_cells (by first | rfl | simp))).mono ?_
    rintro e q3 ⟨rfl, rfl⟩
    rw [show inB (o : Int) LN = true by have := KD.out.2.2.1; rw [HO.out, HP.out] at this; exact this]
    clear J2 cx cy cn cb ca
    generalize World.alloc _ _ = q3 at J3 ⊢
    simp only []
    have n49 : ((o : Int) == 49) = false := by have := KD.out.2.2.2.2.2.1; rw [HO.out, HP.out] at this; exact this
    have J4 := Lib.hid ((J3.out.put 3 (.int .i64 (n : Int))).alloc (.cells #[.int .i64 5, .int .i64 6, .int .i64 8, .int .i64 9, .int .i64 22] 3))
    have cv3 := J3.out.var.cell 3
    have fv3 := J3.out.var.frozen 3
    simp only [icells, List.setIfInBounds_toArray, List.set_cons_zero, List.set_cons_succ, List.getElem?_toArray, List.getElem?_cons_succ, List.getElem?_cons_zero] at cv3
    have cx := J3.out.fl.cell 1
    have cy := J3.out.fl.cell 2
    have cn := J3.out.fl.cell 3
    have cb := J3.out.fl.cell 4
    have ca := J3.out.fl.cell 5
    simp only [List.getElem?_toArray, List.getElem?_cons_succ, List.getElem?_cons_zero] at cx cy cn cb ca
    go_wp2_with fail
    refine (in14_any (o : Int) LNN _ 5 _ _ LNN_len (by decide) (cell_list _ _ 3 LNN _ _ rfl LNN_cells (by first | rfl | simp))).mono ?_
    rintro e q4 ⟨rfl, rfl⟩
    rw [show inB (o : Int) LNN = false by have := KD.out.2.2.2.1; rw [HO.out, HP.out] at this; exact this]
    clear J3 cv3 fv3 cx cy cn cb ca
    generalize World.alloc _ _ = q4 at J4 ⊢
    simp only []
    have J5 := Lib.hid (J4.out.alloc (.cells #[.int .i64 3, .int .i64 4, .int .i64 20, .int .i64 21] 3))
    have cx := J4.out.fl.cell 1
    have cy := J4.out.fl.cell 2
    have cn := J4.out.fl.cell 3
    have cb := J4.out.fl.cell 4
    have ca := J4.out.fl.cell 5
    simp only [List.getElem?_toArray, List.getElem?_cons_succ, List.getElem?_cons_zero] at cx cy cn cb ca
    go_wp2_with fail
    refine (in14_any (o : Int) LA _ 4 _ _ LA_len (by decide) (cell_list _ _ 3 LA _ _ rfl LA_cells (by first | rfl | simp))).mono ?_
    rintro e q5 ⟨rfl, rfl⟩
    rw [show inB (o : Int) LA = false by have := KD.out.2.2.2.2.1; rw [HO.out, HP.out] at this; exact this]
    clear J4 cx cy cn cb ca
    generalize World.alloc _ _ = q5 at J5 ⊢
    simp only []
    have n48 : ((o : Int) == 48) = false := by have := KD.out.2.2.2.2.2.2.1; rw [HO.out, HP.out] at this; exact this
    have Z := Lib.hid (J5.out)
    have cx := J5.out.fl.cell 1
    have cy := J5.out.fl.cell 2
    have cn := J5.out.fl.cell 3
    have cb := J5.out.fl.cell 4
    have ca := J5.out.fl.cell 5
    simp only [List.getElem?_toArray, List.getElem?_cons_succ, List.getElem?_cons_zero] at cx cy cn cb ca
    go_upto_region 21 with fail
    have Y := Lib.hid (show RB w g bx #[.int .i64 (hd : Int), .int .i64 (x : Int), .int .i64 (y : Int), .int .i64 (n : Int), .int .i64 (b1 : Int), .int .i64 (nnn : Int)] (icells ⟨(o : Int), 0, 0, (n : Int), 0, 0, 2⟩) q5 from Z.out)
    refine wp_region_lit ?_
    refine list_load_all (cs := icells ⟨(o : Int), 0, 0, (n : Int), 0, 0, 2⟩) aggInstr Y.out.var rfl rfl (.tmp 13) rfl rfl ?_
    simp only [Act.put, List.setIfInBounds_toArray, List.set_cons_zero, List.set_cons_succ]
    refine list_store_all aggInstr Y.out.res rfl rfl (by unfold Ones; kernel_rfl) rfl (.tmp 10) (.tmp 94) rfl rfl rfl ?_
    simp only [Act.put, List.setIfInBounds_toArray, List.set_cons_zero, List.set_cons_succ]
    have RR := Y.out.res.store (icells ⟨(o : Int), 0, 0, (n : Int), 0, 0, 2⟩)
    have BR := belowRow' Y.out.low (Nat.le_refl _) (icells ⟨(o : Int), 0, 0, (n : Int), 0, 0, 2⟩)
    iterate 4 go_step
    exact bodyPost_ret (results_cell_row rfl _ _ w.heap.size _ _ _ _ rfl RR Tryd.underlying38 rfl aggInstr.i) rfl ⟨by rw [FD.out]; rfl, BR⟩
  · have HP := Lib.hid hp
    clear hp
    have OKY := Lib.hid (show ok b0 b1 l = true from HOK.out)
    have FD := Lib.hid (show dec b0 b1 b2 b3 l = ⟨(o : Int), pX .pXY (x : Int), pY .pXY (y : Int), pN .pXY (x : Int) (n : Int), pNN .pXY (b1 : Int), pA .pXY (nnn : Int) (b2 * 256 + b3 : Nat), 2⟩ by rw [dec_yes OKY.out HR.out, skl_ok HB.out.1 HB.out.2.1 OKY.out, HR.out, HO.out, HP.out]; unfold dx; rw [E.out.2.1, E.out.2.2.1, E.out.2.2.2.1, E.out.2.2.2.2, if_neg (by have := KD.out.2.2.2.2.2.2.1; rw [HO.out, HP.out] at this; simp [hL] at this; omega)])
    have J0 := Lib.hid (show RB w w1.heap.size w2.heap.size #[.int .i64 (hd : Int), .int .i64 (x : Int), .int .i64 (y : Int), .int .i64 (n : Int), .int .i64 (b1 : Int), .int .i64 (nnn : Int)] #[.int .i64 (o : Int), .int .i64 0, .int .i64 0, .int .i64 0, .int .i64 0, .int .i64 0, .int .i64 2] (w2.alloc (.cells #[.int .i64 (o : Int), .int .i64 0, .int .i64 0, .int .i64 0, .int .i64 0, .int .i64 0, .int .i64 2] 38)) from ⟨R2.out.alloc _, G2.out.alloc _, Blk.new _ _ _, B2.out.alloc (Nat.le_of_lt R2.out.lt) _, hw1, G2.out.lt⟩)
    have J1 := Lib.hid (J0.out.alloc (.cells #[.int .i64 5, .int .i64 6, .int .i64 7, .int .i64 8, .int .i64 9, .int .i64 10, .int .i64 11, .int .i64 12, .int .i64 13, .int .i64 14, .int .i64 15, .int .i64 16, .int .i64 17, .int .i64 18, .int .i64 19, .int .i64 21, .int .i64 22, .int .i64 23, .int .i64 24, .int .i64 25, .int .i64 26, .int .i64 27, .int .i64 28, .int .i64 29, .int .i64 30, .int .i64 31, .int .i64 32, .int .i64 33, .int .i64 34, .int .i64 41, .int .i64 42, .int .i64 43, .int .i64 44, .int .i64 46, .int .i64 47, .int .i64 51] 3))
    go_wp2_with fail
    refine (in14_any (o : Int) LX _ 36 _ _ LX_len (by decide) (cell_list _ _ 3 LX _ _ rfl LX_cells (by first | rfl | simp))).mono ?_
    rintro e q1 ⟨rfl, rfl⟩
    rw [show inB (o : Int) LX = true by have := KD.out.1; rw [HO.out, HP.out] at this; exact this]
    clear J0
    generalize World.alloc _ _ = q1 at J1 ⊢
    obtain ⟨g, hg⟩ : ∃ g, w1.heap.size = g := ⟨_, rfl⟩
    obtain ⟨bx, hbx⟩ : ∃ bx, w2.heap.size = bx := ⟨_, rfl⟩
    rw [hg, hbx] at J1
    try rw [hg]
    try rw [hbx]
    have HGX := Lib.hid (And.intro hg hbx)
    clear hg hbx
    simp only []
    have J2 := Lib.hid ((J1.out.put 1 (.int .i64 (x : Int))).alloc (.cells #[.int .i64 7, .int .i64 10, .int .i64 11, .int .i64 12, .int .i64 13, .int .i64 14, .int .i64 15, .int .i64 16, .int .i64 17, .int .i64 18, .int .i64 19, .int .i64 23, .int .i64 41, .int .i64 46, .int .i64 47] 3))
    have cv1 := J1.out.var.cell 1
    have fv1 := J1.out.var.frozen 1
    simp only [icells, List.setIfInBounds_toArray, List.set_cons_zero, List.set_cons_succ, List.getElem?_toArray, List.getElem?_cons_succ, List.getElem?_cons_zero] at cv1
    have cx := J1.out.fl.cell 1
    have cy := J1.out.fl.cell 2
    have cn := J1.out.fl.cell 3
    have cb := J1.out.fl.cell 4
    have ca := J1.out.fl.cell 5
    simp only [List.getElem?_toArray, List.getElem?_cons_succ, List.getElem?_cons_zero] at cx cy cn cb ca
    go_wp2_with fail
    refine (in14_any (o : Int) LY _ 15 _ _ LY_len (by decide) (cell_list _ _ 3 LY _ _ rfl LY_cells (by first | rfl | simp))).mono ?_
    rintro e q2 ⟨rfl, rfl⟩
    rw [show inB (o : Int) LY = true by have := KD.out.2.1; rw [HO.out, HP.out] at this; exact this]
    clear J1 cv1 fv1 cx cy cn cb ca
    generalize World.alloc _ _ = q2 at J2 ⊢
    simp only []
    have J3 := Lib.hid ((J2.out.put 2 (.int .i64 (y : Int))).alloc (.cells #[.int .i64 23, .int .i64 35, .int .i64 45] 3))
    have cv2 := J2.out.var.cell 2
    have fv2 := J2.out.var.frozen 2
    simp only [icells, List.setIfInBounds_toArray, List.set_cons_zero, List.set_cons_succ, List.getElem?_toArray, List.getElem?_cons_succ, List.getElem?_cons_zero] at cv2
    have cx := J2.out.fl.cell 1
    have cy := J2.out.fl.cell 2
    have cn := J2.out.fl.cell 3
    have cb := J2.out.fl.cell 4
    have ca := J2.out.fl.cell 5
    simp only [List.getElem?_toArray, List.getElem?_cons_succ, List.getElem?_cons_zero] at cx cy cn cb ca
    go_wp2_with fail
    refine (in14_any (o : Int) LN _ 3 _ _ LN_len (by decide) (cell_list _ _ 3 LN _ _ rfl LN_cells (by first | rfl | simp))).mono ?_
    rintro e q3 ⟨rfl, rfl⟩
    rw [show inB (o : Int) LN = false by have := KD.out.2.2.1; rw [HO.out, HP.out] at this; exact this]
    clear J2 cv2 fv2 cx cy cn cb ca
    generalize World.alloc _ _ = q3 at J3 ⊢
    simp only []
    have n49 : ((o : Int) == 49) = false := by have := KD.out.2.2.2.2.2.1; rw [HO.out, HP.out] at this; exact this
    have J4 := Lib.hid (J3.out.alloc (.cells #[.int .i64 5, .int .i64 6, .int .i64 8, .int .i64 9, .int .i64 22] 3))
    have cx := J3.out.fl.cell 1
    have cy := J3.out.fl.cell 2
    have cn := J3.out.fl.cell 3
    have cb := J3.out.fl.cell 4
    have ca := J3.out.fl.cell 5
    simp only [List.getElem?_toArray, List.getElem?_cons_succ, List.getElem?_cons_zero] at cx cy cn cb ca
    go_wp2_with fail
    refine (in14_any (o : Int) LNN _ 5 _ _ LNN_len (by decide) (cell_list _ _ 3 LNN _ _ rfl LNN_cells (by first | rfl | simp))).mono ?_
    rintro e q4 ⟨rfl, rfl⟩
    rw [show inB (o : Int) LNN = false by have := KD.out.2.2.2.1; rw [HO.out, HP.out] at this; exact this]
    clear J3 cx cy cn cb ca
    generalize World.alloc _ _ = q4 at J4 ⊢
    simp only []
    have J5 := Lib.hid (J4.out.alloc (.cells #[.int .i64 3, .int .i64 4, .int .i64 20, .int .i64 21] 3))
    have cx := J4.out.fl.cell 1
    have cy := J4.out.fl.cell 2
    have cn := J4.out.fl.cell 3
    have cb := J4.out.fl.cell 4
    have ca := J4.out.fl.cell 5
    simp only [List.getElem?_toArray, List.getElem?_cons_succ, List.getElem?_cons_zero] at cx cy cn cb ca
    go_wp2_with fail
    refine (in14_any (o : Int) LA _ 4 _ _ LA_len (by decide) (cell_list _ _ 3 LA _ _ rfl LA_cells (by first | rfl | simp))).mono ?_
    rintro e q5 ⟨rfl, rfl⟩
    rw [show inB (o : Int) LA = false by have := KD.out.2.2.2.2.1; rw [HO.out, HP.out] at this; exact this]
    clear J4 cx cy cn cb ca
    generalize World.alloc _ _ = q5 at J5 ⊢
    simp only []
    have n48 : ((o : Int) == 48) = false := by have := KD.out.2.2.2.2.2.2.1; rw [HO.out, HP.out] at this; exact this
    have Z := Lib.hid (J5.out)
    have cx := J5.out.fl.cell 1
    have cy := J5.out.fl.cell 2
    have cn := J5.out.fl.cell 3
    have cb := J5.out.fl.cell 4
    have ca := J5.out.fl.cell 5
    simp only [List.getElem?_toArray, List.getElem?_cons_succ, List.getElem?_cons_zero] at cx cy cn cb ca
    go_upto_region 21 with fail
    have Y := Lib.hid (show RB w g bx #[.int .i64 (hd : Int), .int .i64 (x : Int), .int .i64 (y : Int), .int .i64 (n : Int), .int .i64 (b1 : Int), .int .i64 (nnn : Int)] (icells ⟨(o : Int), (x : Int), (y : Int), 0, 0, 0, 2⟩) q5 from Z.out)
    refine wp_region_lit ?_
    refine list_load_all (cs := icells ⟨(o : Int), (x : Int), (y : Int), 0, 0, 0, 2⟩) aggInstr Y.out.var rfl rfl (.tmp 13) rfl rfl ?_
    simp only [Act.put, List.setIfInBounds_toArray, List.set_cons_zero, List.set_cons_succ]
    refine list_store_all aggInstr Y.out.res rfl rfl (by unfold Ones; kernel_rfl) rfl (.tmp 10) (.tmp 94) rfl rfl rfl ?_
    simp only [Act.put, List.setIfInBounds_toArray, List.set_cons_zero, List.set_cons_succ]
    have RR := Y.out.res.store (icells ⟨(o : Int), (x : Int), (y : Int), 0, 0, 0, 2⟩)
    have BR := belowRow' Y.out.low (Nat.le_refl _) (icells ⟨(o : Int), (x : Int), (y : Int), 0, 0, 0, 2⟩)
    iterate 4 go_step
    exact bodyPost_ret (results_cell_row rfl _ _ w.heap.size _ _ _ _ rfl RR Tryd.underlying38 rfl aggInstr.i) rfl ⟨by rw [FD.out]; rfl, BR⟩
  · have HP := Lib.hid hp
    clear hp
    have OKY := Lib.hid (show ok b0 b1 l = true from HOK.out)
    have FD := Lib.hid (show dec b0 b1 b2 b3 l = ⟨(o : Int), pX .pXYN (x : Int), pY .pXYN (y : Int), pN .pXYN (x : Int) (n : Int), pNN .pXYN (b1 : Int), pA .pXYN (nnn : Int) (b2 * 256 + b3 : Nat), 2⟩ by rw [dec_yes OKY.out HR.out, skl_ok HB.out.1 HB.out.2.1 OKY.out, HR.out, HO.out, HP.out]; unfold dx; rw [E.out.2.1, E.out.2.2.1, E.out.2.2.2.1, E.out.2.2.2.2, if_neg (by have := KD.out.2.2.2.2.2.2.1; rw [HO.out, HP.out] at this; simp [hL] at this; omega)])
    have J0 := Lib.hid (show RB w w1.heap.size w2.heap.size #[.int .i64 (hd : Int), .int .i64 (x : Int), .int .i64 (y : Int), .int .i64 (n : Int), .int .i64 (b1 : Int), .int .i64 (nnn : Int)] #[.int .i64 (o : Int), .int .i64 0, .int .i64 0, .int .i64 0, .int .i64 0, .int .i64 0, .int .i64 2] (w2.alloc (.cells #[.int .i64 (o : Int), .int .i64 0, .int .i64 0, .int .i64 0, .int .i64 0, .int .i64 0, .int .i64 2] 38)) from ⟨R2.out.alloc _, G2.out.alloc _, Blk.new _ _ _, B2.out.alloc (Nat.le_of_lt R2.out.lt) _, hw1, G2.out.lt⟩)
    have J1 := Lib.hid (J0.out.alloc (.cells #[.int .i64 5, .int .i64 6, .int .i64 7, .int .i64 8, .int .i64 9, .int .i64 10, .int .i64 11, .int .i64 12, .int .i64 13, .int .i64 14, .int .i64 15, .int .i64 16, .int .i64 17, .int .i64 18, .int .i64 19, .int .i64 21, .int .i64 22, .int .i64 23, .int .i64 24, .int .i64 25, .int .i64 26, .int .i64 27, .int .i64 28, .int .i64 29, .int .i64 30, .int .i64 31, .int .i64 32, .int .i64 33, .int .i64 34, .int .i64 41, .int .i64 42, .int .i64 43, .int .i64 44, .int .i64 46, .int .i64 47, .int .i64 51] 3))
    go_wp2_with fail
    refine (in14_any (o : Int) LX _ 36 _ _ LX_len (by decide) (cell_list _ _ 3 LX _ _ rfl LX_cells (by first | rfl | simp))).mono ?_
    rintro e q1 ⟨rfl, rfl⟩
    rw [show inB (o : Int) LX = true by have := KD.out.1; rw [HO.out, HP.out] at this; exact this]
    clear J0
    generalize World.alloc _ _ = q1 at J1 ⊢
    obtain ⟨g, hg⟩ : ∃ g, w1.heap.size = g := ⟨_, rfl⟩
    obtain ⟨bx, hbx⟩ : ∃ bx, w2.heap.size = bx := ⟨_, rfl⟩
    rw [hg, hbx] at J1
    try rw [hg]
    try rw [hbx]
    have HGX := Lib.hid (And.intro hg hbx)
    clear hg hbx
    simp only []
    have J2 := Lib.hid ((J1.out.put 1 (.int .i64 (x : Int))).alloc (.cells #[.int .i64 7, .int .i64 10, .int .i64 11, .int .i64 12, .int .i64 13, .int .i64 14, .int .i64 15, .int .i64 16, .int .i64 17, .int .i64 18, .int .i64 19, .int .i64 23, .int .i64 41, .int .i64 46, .int .i64 47] 3))
    have cv1 := J1.out.var.cell 1
    have fv1 := J1.out.var.frozen 1
    simp only [icells, List.setIfInBounds_toArray, List.set_cons_zero, List.set_cons_succ, List.getElem?_toArray, List.getElem?_cons_succ, List.getElem?_cons_zero] at cv1
    have cx := J1.out.fl.cell 1
    have cy := J1.out.fl.cell 2
    have cn := J1.out.fl.cell 3
    have cb := J1.out.fl.cell 4
    have ca := J1.out.fl.cell 5
    simp only [List.getElem?_toArray, List.getElem?_cons_succ, List.getElem?_cons_zero] at cx cy cn cb ca
    go_wp2_with fail
    refine (in14_any (o : Int) LY _ 15 _ _ LY_len (by decide) (cell_list _ _ 3 LY _ _ rfl LY_cells (by first | rfl | simp))).mono ?_
    rintro e q2 ⟨rfl, rfl⟩
    rw [show inB (o : Int) LY = true by have := KD.out.2.1; rw [HO.out, HP.out] at this; exact this]
    clear J1 cv1 fv1 cx cy cn cb ca
    generalize World.alloc _ _ = q2 at J2 ⊢
    simp only []
    have J3 := Lib.hid ((J2.out.put 2 (.int .i64 (y : Int))).alloc (.cells #[.int .i64 23, .int .i64 35, .int .i64 45] 3))
    have cv2 := J2.out.var.cell 2
    have fv2 := J2.out.var.frozen 2
    simp only [icells, List.setIfInBounds_toArray, List.set_cons_zero, List.set_cons_succ, List.getElem?_toArray, List.getElem?_cons_succ, List.getElem?_cons_zero] at cv2
    have cx := J2.out.fl.cell 1
    have cy := J2.out.fl.cell 2
    have cn := J2.out.fl.cell 3
    have cb := J2.out.fl.cell 4
    have ca := J2.out.fl.cell 5
    simp only [List.getElem?_toArray, List.getElem?_cons_succ, List.getElem?_cons_zero] at cx cy cn cb ca
    go_wp2_with fail
    refine (in14_any (o : Int) LN _ 3 _ _ LN_len (by decide) (cell_list _ _ 3 LN _ _ rfl LN_cells (by first | rfl | simp))).mono ?_
    rintro e q3 ⟨rfl, rfl⟩
    rw [show inB (o : Int) LN = true by have := KD.out.2.2.1; rw [HO.out, HP.out] at this; exact this]
    clear J2 cv2 fv2 cx cy cn cb ca
    generalize World.alloc _ _ = q3 at J3 ⊢
    simp only []
    have n49 : ((o : Int) == 49) = false := by have := KD.out.2.2.2.2.2.1; rw [HO.out, HP.out] at this; exact this
    have J4 := Lib.hid ((J3.out.put 3 (.int .i64 (n : Int))).alloc (.cells #[.int .i64 5, .int .i64 6, .int .i64 8, .int .i64 9, .int .i64 22] 3))
    have cv3 := J3.out.var.cell 3
    have fv3 := J3.out.var.frozen 3
    simp only [icells, List.setIfInBounds_toArray, List.set_cons_zero, List.set_cons_succ, List.getElem?_toArray, List.getElem?_cons_succ, List.getElem?_cons_zero] at cv3
    have cx := J3.out.fl.cell 1
    have cy := J3.out.fl.cell 2
    have cn := J3.out.fl.cell 3
    have cb := J3.out.fl.cell 4
    have ca := J3.out.fl.cell 5
    simp only [List.getElem?_toArray, List.getElem?_cons_succ, List.getElem?_cons_zero] at cx cy cn cb ca
    go_wp2_with fail
    refine (in14_any (o : Int) LNN _ 5 _ _ LNN_len (by decide) (cell_list _ _ 3 LNN _ _ rfl LNN_cells (by first | rfl | simp))).mono ?_
    rintro e q4 ⟨rfl, rfl⟩
    rw [show inB (o : Int) LNN = false by have := KD.out.2.2.2.1; rw [HO.out, HP.out] at this; exact this]
    clear J3 cv3 fv3 cx cy cn cb ca
    generalize World.alloc _ _ = q4 at J4 ⊢
    simp only []
    have J5 := Lib.hid (J4.out.alloc (.cells #[.int .i64 3, .int .i64 4, .int .i64 20, .int .i64 21] 3))
    have cx := J4.out.fl.cell 1
    have cy := J4.out.fl.cell 2
    have cn := J4.out.fl.cell 3
    have cb := J4.out.fl.cell 4
    have ca := J4.out.fl.cell 5
    simp only [List.getElem?_toArray, List.getElem?_cons_succ, List.getElem?_cons_zero] at cx cy cn cb ca
    go_wp2_with fail
    refine (in14_any (o : Int) LA _ 4 _ _ LA_len (by decide) (cell_list _ _ 3 LA _ _ rfl LA_cells (by first | rfl | simp))).mono ?_
    rintro e q5 ⟨rfl, rfl⟩
    rw [show inB (o : Int) LA = false by have := KD.out.2.2.2.2.1; rw [HO.out, HP.out] at this; exact this]
    clear J4 cx cy cn cb ca
    generalize World.alloc _ _ = q5 at J5 ⊢
    simp only []
    have n48 : ((o : Int) == 48) = false := by have := KD.out.2.2.2.2.2.2.1; rw [HO.out, HP.out] at this; exact this
    have Z := Lib.hid (J5.out)
    have cx := J5.out.fl.cell 1
    have cy := J5.out.fl.cell 2
    have cn := J5.out.fl.cell 3
    have cb := J5.out.fl.cell 4
    have ca := J5.out.fl.cell 5
    simp only [List.getElem?_toArray, List.getElem?_cons_succ, List.getElem?_cons_zero] at cx cy cn cb ca
    go_upto_region 21 with fail
    have Y := Lib.hid (show RB w g bx #[.int .i64 (hd : Int), .int .i64 (x : Int), .int .i64 (y : Int), .int .i64 (n : Int), .int .i64 (b1 : Int), .int .i64 (nnn : Int)] (icells ⟨(o : Int), (x : Int), (y : Int), (n : Int), 0, 0, 2⟩) q5 from Z.out)
    refine wp_region_lit ?_
    refine list_load_all (cs := icells ⟨(o : Int), (x : Int), (y : Int), (n : Int), 0, 0, 2⟩) aggInstr Y.out.var rfl rfl (.tmp 13) rfl rfl ?_
    simp only [Act.put, List.setIfInBounds_toArray, List.set_cons_zero, List.set_cons_succ]
    refine list_store_all aggInstr Y.out.res rfl rfl (by unfold Ones; kernel_rfl) rfl (.tmp 10) (.tmp 94) rfl rfl rfl ?_
    simp only [Act.put, List.setIfInBounds_toArray, List.set_cons_zero, List.set_cons_succ]
    have RR := Y.out.res.store (icells ⟨(o : Int), (x : Int), (y : Int), (n : Int), 0, 0, 2⟩)
    have BR := belowRow' Y.out.low (Nat.le_refl _) (icells ⟨(o : Int), (x : Int), (y : Int), (n : Int), 0, 0, 2⟩)
    iterate 4 go_step
    exact bodyPost_ret (results_cell_row rfl _ _ w.heap.size _ _ _ _ rfl RR Tryd.underlying38 rfl aggInstr.i) rfl ⟨by rw [FD.out]; rfl, BR⟩
end Go.Proofs.YtgilkbmipgejeaaDoor
