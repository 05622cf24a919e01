/- The reference's Text: the kinds XNN, Addr, XAddr, Planes, Next. -/
import Derived.Test.YthfiaemdpfffcaaGreatDoorAsmRef
namespace Go.Proofs.YthfiaemdpfffcaaGreatDoor
open Go.RowKit Num Dec
set_option linter.unusedVariables false
set_option linter.unusedSimpArgs false

set_option maxRecDepth 100000 in
set_option maxHeartbeats 8000000 in
theorem rtextXNN (r : Rl) (x y n nn a : Nat) (ht : TextOk r) (hp : r.pk = .pXNN) (h1 : 1 ≤ r.op) (h2 : r.op ≤ 51) (hx : x < 16) (hy : y < 16) (hn : n < 16) (hnn : nn < 256) (ha : a < 65536) (w : World) :
    Calls Tryz.prog 17 #[.agg #[.int .i64 (r.op : Int), .int .i64 (x : Int), .int .i64 0, .int .i64 0, .int .i64 (nn : Int), .int .i64 0, .int .i64 2]] w fun e w' => e = .returned (.string ⟨(wdL r.op ++ opsL .pXNN x y n nn (x * 256 + nn)).toArray⟩) ∧ Below w.heap.size w w' := by
  obtain ⟨o, ho⟩ : ∃ o, r.op = o := ⟨_, rfl⟩
  have KD := Lib.hid ht
  have HO := Lib.hid ho
  have HP := Lib.hid hp
  have RW := Lib.hid (fun w => rword_any r.op h1 h2 w)
  have hws := wdL_size ⟨r.op, by omega⟩
  simp only at hws
  rw [ho] at RW hws ⊢
  have HX0 := fun w => rhex_yes x 1 w (by omega) (by omega) (by omega)
  have hs0 := hexS_size x 1
  obtain ⟨H0, e0⟩ : ∃ H, hexS x 1 = H := ⟨_, rfl⟩
  rw [e0] at HX0 hs0
  have HX0 := Lib.hid HX0
  have E0 := Lib.hid e0
  have HX1 := fun w => rhex_yes nn 2 w (by omega) (by omega) (by omega)
  have hs1 := hexS_size nn 2
  obtain ⟨H1, e1⟩ : ∃ H, hexS nn 2 = H := ⟨_, rfl⟩
  rw [e1] at HX1 hs1
  have HX1 := Lib.hid HX1
  have E1 := Lib.hid e1
  obtain ⟨W, hW⟩ : ∃ W : ByteArray, (⟨(wdL o).toArray⟩ : ByteArray) = W := ⟨_, rfl⟩
  have hw : W.size ≤ 10 := by rw [← hW]; simpa [ByteArray.size] using hws
  unfold strV at RW
  rw [hW] at RW
  have EW := Lib.hid hW
  clear ht hp h1 h2 hx hy hn hnn ha hW hws ho e0 e1
  have FIN := Lib.hid (show W ++ ⟨#[32, 86]⟩ ++ H0 ++ ⟨#[32]⟩ ++ H1 = (⟨(wdL o ++ opsL .pXNN x y n nn (x * 256 + nn)).toArray⟩ : ByteArray) by
    rw [← EW.out, ← E0.out, ← E1.out]
    unfold hexS opsL
    try unfold vL
    try unfold dL
    simp only [strV_append, List.append_assoc, List.append_nil, List.cons_append, List.nil_append])
  have BX := Lib.hid (Blk.new w 33 #[.int .i64 (o : Int), .int .i64 (x : Int), .int .i64 0, .int .i64 0, .int .i64 (nn : Int), .int .i64 0, .int .i64 2])
  have BV := Lib.hid (below_new' w (.cells #[.int .i64 (o : Int), .int .i64 (x : Int), .int .i64 0, .int .i64 0, .int .i64 (nn : Int), .int .i64 0, .int .i64 2] 33))
  go_enter Tryz.func17, Tryz.ntmps17
  go_wp2_with fail
  refine (RW.out _).mono ?_
  rintro e w1 ⟨rfl, b1⟩
  have BX := Lib.hid (BX.out.step b1)
  have BV := Lib.hid (BV.out.trans (b1.mono (by simp)))
  have hwz : w.heap.size < w1.heap.size := BX.out.lt
  clear b1 RW
  have c0 := BX.out.cell 0
  simp only [List.getElem?_toArray, List.getElem?_cons_succ, List.getElem?_cons_zero] at c0
  have BX2 := Lib.hid (BX.out.alloc (.cells #[.int .i64 5, .int .i64 6, .int .i64 7, .int .i64 8, .int .i64 9, .int .i64 10, .int .i64 11, .int .i64 12, .int .i64 13, .int .i64 14, .int .i64 15, .int .i64 16, .int .i64 17, .int .i64 18, .int .i64 19, .int .i64 22, .int .i64 23, .int .i64 24, .int .i64 25, .int .i64 26, .int .i64 27, .int .i64 28, .int .i64 29, .int .i64 30, .int .i64 31, .int .i64 32, .int .i64 33, .int .i64 34, .int .i64 41, .int .i64 42, .int .i64 43, .int .i64 44, .int .i64 46, .int .i64 47, .int .i64 51] 3))
  have BV2 := Lib.hid (BV.out.alloc BV.out.size (.cells #[.int .i64 5, .int .i64 6, .int .i64 7, .int .i64 8, .int .i64 9, .int .i64 10, .int .i64 11, .int .i64 12, .int .i64 13, .int .i64 14, .int .i64 15, .int .i64 16, .int .i64 17, .int .i64 18, .int .i64 19, .int .i64 22, .int .i64 23, .int .i64 24, .int .i64 25, .int .i64 26, .int .i64 27, .int .i64 28, .int .i64 29, .int .i64 30, .int .i64 31, .int .i64 32, .int .i64 33, .int .i64 34, .int .i64 41, .int .i64 42, .int .i64 43, .int .i64 44, .int .i64 46, .int .i64 47, .int .i64 51] 3))
  go_wp2_with fail
  refine (in15_any (o : Int) TX _ 35 _ _ TX_len (by decide) (cell_list _ _ 3 TX _ _ rfl TX_cells (by first | rfl | simp))).mono ?_
  rintro e vw1 ⟨rfl, rfl⟩
  rw [show inB (o : Int) TX = true by have := KD.out.1; rw [HO.out, HP.out] at this; exact this]
  clear BX BV
  try clear hwz
  try clear c0
  generalize World.alloc _ _ = uTX at BX2 BV2 ⊢
  have BX := BX2
  have BV := BV2
  clear BX2 BV2
  simp only []
  have cf := BX.out.cell 1
  simp only [List.getElem?_toArray, List.getElem?_cons_succ, List.getElem?_cons_zero] at cf
  go_wp2_with fail
  refine (HX0.out _).mono ?_
  rintro e xTX ⟨rfl, b1⟩
  have BX := Lib.hid (BX.out.step b1)
  have BV := Lib.hid (BV.out.trans (b1.mono BV.out.size))
  clear b1 HX0 cf
  have BX2 := Lib.hid (BX.out.alloc (.cells #[.int .i64 7, .int .i64 10, .int .i64 11, .int .i64 12, .int .i64 13, .int .i64 14, .int .i64 15, .int .i64 16, .int .i64 17, .int .i64 18, .int .i64 19, .int .i64 23, .int .i64 41, .int .i64 46, .int .i64 47] 3))
  have BV2 := Lib.hid (BV.out.alloc BV.out.size (.cells #[.int .i64 7, .int .i64 10, .int .i64 11, .int .i64 12, .int .i64 13, .int .i64 14, .int .i64 15, .int .i64 16, .int .i64 17, .int .i64 18, .int .i64 19, .int .i64 23, .int .i64 41, .int .i64 46, .int .i64 47] 3))
  go_wp2_with fail
  refine (in15_any (o : Int) TY _ 15 _ _ TY_len (by decide) (cell_list _ _ 3 TY _ _ rfl TY_cells (by first | rfl | simp))).mono ?_
  rintro e vxTX ⟨rfl, rfl⟩
  rw [show inB (o : Int) TY = false by have := KD.out.2.1; rw [HO.out, HP.out] at this; exact this]
  clear BX BV
  try clear hwz
  try clear c0
  generalize World.alloc _ _ = uTY at BX2 BV2 ⊢
  have BX := BX2
  have BV := BV2
  clear BX2 BV2
  simp only []
  have BX2 := Lib.hid (BX.out.alloc (.cells #[.int .i64 23, .int .i64 35, .int .i64 45, .int .i64 49] 3))
  have BV2 := Lib.hid (BV.out.alloc BV.out.size (.cells #[.int .i64 23, .int .i64 35, .int .i64 45, .int .i64 49] 3))
  go_wp2_with fail
  refine (in15_any (o : Int) TN _ 4 _ _ TN_len (by decide) (cell_list _ _ 3 TN _ _ rfl TN_cells (by first | rfl | simp))).mono ?_
  rintro e vuTY ⟨rfl, rfl⟩
  rw [show inB (o : Int) TN = false by have := KD.out.2.2.1; rw [HO.out, HP.out] at this; exact this]
  clear BX BV
  try clear hwz
  try clear c0
  generalize World.alloc _ _ = uTN at BX2 BV2 ⊢
  have BX := BX2
  have BV := BV2
  clear BX2 BV2
  simp only []
  have BX2 := Lib.hid (BX.out.alloc (.cells #[.int .i64 5, .int .i64 6, .int .i64 8, .int .i64 9, .int .i64 22] 3))
  have BV2 := Lib.hid (BV.out.alloc BV.out.size (.cells #[.int .i64 5, .int .i64 6, .int .i64 8, .int .i64 9, .int .i64 22] 3))
  go_wp2_with fail
  refine (in15_any (o : Int) TNN _ 5 _ _ TNN_len (by decide) (cell_list _ _ 3 TNN _ _ rfl TNN_cells (by first | rfl | simp))).mono ?_
  rintro e vuTN ⟨rfl, rfl⟩
  rw [show inB (o : Int) TNN = true by have := KD.out.2.2.2.1; rw [HO.out, HP.out] at this; exact this]
  clear BX BV
  try clear hwz
  try clear c0
  generalize World.alloc _ _ = uTNN at BX2 BV2 ⊢
  have BX := BX2
  have BV := BV2
  clear BX2 BV2
  simp only []
  have cf := BX.out.cell 4
  simp only [List.getElem?_toArray, List.getElem?_cons_succ, List.getElem?_cons_zero] at cf
  go_wp2_with fail
  refine (HX1.out _).mono ?_
  rintro e xTNN ⟨rfl, b1⟩
  have BX := Lib.hid (BX.out.step b1)
  have BV := Lib.hid (BV.out.trans (b1.mono BV.out.size))
  clear b1 HX1 cf
  have BX2 := Lib.hid (BX.out.alloc (.cells #[.int .i64 3, .int .i64 4, .int .i64 20, .int .i64 21] 3))
  have BV2 := Lib.hid (BV.out.alloc BV.out.size (.cells #[.int .i64 3, .int .i64 4, .int .i64 20, .int .i64 21] 3))
  go_wp2_with fail
  refine (in15_any (o : Int) TA _ 4 _ _ TA_len (by decide) (cell_list _ _ 3 TA _ _ rfl TA_cells (by first | rfl | simp))).mono ?_
  rintro e vxTNN ⟨rfl, rfl⟩
  rw [show inB (o : Int) TA = false by have := KD.out.2.2.2.2.1; rw [HO.out, HP.out] at this; exact this]
  clear BX BV
  try clear hwz
  try clear c0
  generalize World.alloc _ _ = uTA at BX2 BV2 ⊢
  have BX := BX2
  have BV := BV2
  clear BX2 BV2
  simp only []
  have n48 : ((o : Int) == 48) = false := by have := KD.out.2.2.2.2.2; rw [HO.out, HP.out] at this; exact this
  go_wp2_with fail
  go_ret
  exact ⟨by rw [← FIN.out]; rfl, BV.out⟩

set_option maxRecDepth 100000 in
set_option maxHeartbeats 8000000 in
theorem rtextAddr (r : Rl) (x y n nn a : Nat) (ht : TextOk r) (hp : r.pk = .pAddr) (h1 : 1 ≤ r.op) (h2 : r.op ≤ 51) (hx : x < 16) (hy : y < 16) (hn : n < 16) (hnn : nn < 256) (ha : a < 65536) (w : World) :
    Calls Tryz.prog 17 #[.agg #[.int .i64 (r.op : Int), .int .i64 0, .int .i64 0, .int .i64 0, .int .i64 0, .int .i64 ((x * 256 + nn : Nat) : Int), .int .i64 2]] w fun e w' => e = .returned (.string ⟨(wdL r.op ++ opsL .pAddr x y n nn (x * 256 + nn)).toArray⟩) ∧ Below w.heap.size w w' := by
  obtain ⟨o, ho⟩ : ∃ o, r.op = o := ⟨_, rfl⟩
  have KD := Lib.hid ht
  have HO := Lib.hid ho
  have HP := Lib.hid hp
  have RW := Lib.hid (fun w => rword_any r.op h1 h2 w)
  have hws := wdL_size ⟨r.op, by omega⟩
  simp only at hws
  rw [ho] at RW hws ⊢
  obtain ⟨A, hA⟩ : ∃ A, x * 256 + nn = A := ⟨_, rfl⟩
  rw [hA]
  have ha : A < 65536 := by omega
  have HX0 := fun w => rhex_yes A 3 w (by omega) (by omega) (by omega)
  have hs0 := hexS_size A 3
  obtain ⟨H0, e0⟩ : ∃ H, hexS A 3 = H := ⟨_, rfl⟩
  rw [e0] at HX0 hs0
  have HX0 := Lib.hid HX0
  have E0 := Lib.hid e0
  obtain ⟨W, hW⟩ : ∃ W : ByteArray, (⟨(wdL o).toArray⟩ : ByteArray) = W := ⟨_, rfl⟩
  have hw : W.size ≤ 10 := by rw [← hW]; simpa [ByteArray.size] using hws
  unfold strV at RW
  rw [hW] at RW
  have EW := Lib.hid hW
  have HA := Lib.hid hA
  clear hA
  clear ht hp h1 h2 hx hy hn hnn ha hW hws ho e0
  have FIN := Lib.hid (show W ++ ⟨#[32]⟩ ++ H0 = (⟨(wdL o ++ opsL .pAddr x y n nn A).toArray⟩ : ByteArray) by
    rw [← EW.out, ← E0.out]
    unfold hexS opsL
    try unfold vL
    try unfold dL
    simp only [strV_append, List.append_assoc, List.append_nil, List.cons_append, List.nil_append])
  have BX := Lib.hid (Blk.new w 33 #[.int .i64 (o : Int), .int .i64 0, .int .i64 0, .int .i64 0, .int .i64 0, .int .i64 (A : Int), .int .i64 2])
  have BV := Lib.hid (below_new' w (.cells #[.int .i64 (o : Int), .int .i64 0, .int .i64 0, .int .i64 0, .int .i64 0, .int .i64 (A : Int), .int .i64 2] 33))
  go_enter Tryz.func17, Tryz.ntmps17
  go_wp2_with fail
  refine (RW.out _).mono ?_
  rintro e w1 ⟨rfl, b1⟩
  have BX := Lib.hid (BX.out.step b1)
  have BV := Lib.hid (BV.out.trans (b1.mono (by simp)))
  have hwz : w.heap.size < w1.heap.size := BX.out.lt
  clear b1 RW
  have c0 := BX.out.cell 0
  simp only [List.getElem?_toArray, List.getElem?_cons_succ, List.getElem?_cons_zero] at c0
  have BX2 := Lib.hid (BX.out.alloc (.cells #[.int .i64 5, .int .i64 6, .int .i64 7, .int .i64 8, .int .i64 9, .int .i64 10, .int .i64 11, .int .i64 12, .int .i64 13, .int .i64 14, .int .i64 15, .int .i64 16, .int .i64 17, .int .i64 18, .int .i64 19, .int .i64 22, .int .i64 23, .int .i64 24, .int .i64 25, .int .i64 26, .int .i64 27, .int .i64 28, .int .i64 29, .int .i64 30, .int .i64 31, .int .i64 32, .int .i64 33, .int .i64 34, .int .i64 41, .int .i64 42, .int .i64 43, .int .i64 44, .int .i64 46, .int .i64 47, .int .i64 51] 3))
  have BV2 := Lib.hid (BV.out.alloc BV.out.size (.cells #[.int .i64 5, .int .i64 6, .int .i64 7, .int .i64 8, .int .i64 9, .int .i64 10, .int .i64 11, .int .i64 12, .int .i64 13, .int .i64 14, .int .i64 15, .int .i64 16, .int .i64 17, .int .i64 18, .int .i64 19, .int .i64 22, .int .i64 23, .int .i64 24, .int .i64 25, .int .i64 26, .int .i64 27, .int .i64 28, .int .i64 29, .int .i64 30, .int .i64 31, .int .i64 32, .int .i64 33, .int .i64 34, .int .i64 41, .int .i64 42, .int .i64 43, .int .i64 44, .int .i64 46, .int .i64 47, .int .i64 51] 3))
  go_wp2_with fail
  refine (in15_any (o : Int) TX _ 35 _ _ TX_len (by decide) (cell_list _ _ 3 TX _ _ rfl TX_cells (by first | rfl | simp))).mono ?_
  rintro e vw1 ⟨rfl, rfl⟩
  rw [show inB (o : Int) TX = false by have := KD.out.1; rw [HO.out, HP.out] at this; exact this]
  clear BX BV
  try clear hwz
  try clear c0
  generalize World.alloc _ _ = uTX at BX2 BV2 ⊢
  have BX := BX2
  have BV := BV2
  clear BX2 BV2
  simp only []
  have BX2 := Lib.hid (BX.out.alloc (.cells #[.int .i64 7, .int .i64 10, .int .i64 11, .int .i64 12, .int .i64 13, .int .i64 14, .int .i64 15, .int .i64 16, .int .i64 17, .int .i64 18, .int .i64 19, .int .i64 23, .int .i64 41, .int .i64 46, .int .i64 47] 3))
  have BV2 := Lib.hid (BV.out.alloc BV.out.size (.cells #[.int .i64 7, .int .i64 10, .int .i64 11, .int .i64 12, .int .i64 13, .int .i64 14, .int .i64 15, .int .i64 16, .int .i64 17, .int .i64 18, .int .i64 19, .int .i64 23, .int .i64 41, .int .i64 46, .int .i64 47] 3))
  go_wp2_with fail
  refine (in15_any (o : Int) TY _ 15 _ _ TY_len (by decide) (cell_list _ _ 3 TY _ _ rfl TY_cells (by first | rfl | simp))).mono ?_
  rintro e vuTX ⟨rfl, rfl⟩
  rw [show inB (o : Int) TY = false by have := KD.out.2.1; rw [HO.out, HP.out] at this; exact this]
  clear BX BV
  try clear hwz
  try clear c0
  generalize World.alloc _ _ = uTY at BX2 BV2 ⊢
  have BX := BX2
  have BV := BV2
  clear BX2 BV2
  simp only []
  have BX2 := Lib.hid (BX.out.alloc (.cells #[.int .i64 23, .int .i64 35, .int .i64 45, .int .i64 49] 3))
  have BV2 := Lib.hid (BV.out.alloc BV.out.size (.cells #[.int .i64 23, .int .i64 35, .int .i64 45, .int .i64 49] 3))
  go_wp2_with fail
  refine (in15_any (o : Int) TN _ 4 _ _ TN_len (by decide) (cell_list _ _ 3 TN _ _ rfl TN_cells (by first | rfl | simp))).mono ?_
  rintro e vuTY ⟨rfl, rfl⟩
  rw [show inB (o : Int) TN = false by have := KD.out.2.2.1; rw [HO.out, HP.out] at this; exact this]
  clear BX BV
  try clear hwz
  try clear c0
  generalize World.alloc _ _ = uTN at BX2 BV2 ⊢
  have BX := BX2
  have BV := BV2
  clear BX2 BV2
  simp only []
  have BX2 := Lib.hid (BX.out.alloc (.cells #[.int .i64 5, .int .i64 6, .int .i64 8, .int .i64 9, .int .i64 22] 3))
  have BV2 := Lib.hid (BV.out.alloc BV.out.size (.cells #[.int .i64 5, .int .i64 6, .int .i64 8, .int .i64 9, .int .i64 22] 3))
  go_wp2_with fail
  refine (in15_any (o : Int) TNN _ 5 _ _ TNN_len (by decide) (cell_list _ _ 3 TNN _ _ rfl TNN_cells (by first | rfl | simp))).mono ?_
  rintro e vuTN ⟨rfl, rfl⟩
  rw [show inB (o : Int) TNN = false by have := KD.out.2.2.2.1; rw [HO.out, HP.out] at this; exact this]
  clear BX BV
  try clear hwz
  try clear c0
  generalize World.alloc _ _ = uTNN at BX2 BV2 ⊢
  have BX := BX2
  have BV := BV2
  clear BX2 BV2
  simp only []
  have BX2 := Lib.hid (BX.out.alloc (.cells #[.int .i64 3, .int .i64 4, .int .i64 20, .int .i64 21] 3))
  have BV2 := Lib.hid (BV.out.alloc BV.out.size (.cells #[.int .i64 3, .int .i64 4, .int .i64 20, .int .i64 21] 3))
  go_wp2_with fail
  refine (in15_any (o : Int) TA _ 4 _ _ TA_len (by decide) (cell_list _ _ 3 TA _ _ rfl TA_cells (by first | rfl | simp))).mono ?_
  rintro e vuTNN ⟨rfl, rfl⟩
  rw [show inB (o : Int) TA = true by have := KD.out.2.2.2.2.1; rw [HO.out, HP.out] at this; exact this]
  clear BX BV
  try clear hwz
  try clear c0
  generalize World.alloc _ _ = uTA at BX2 BV2 ⊢
  have BX := BX2
  have BV := BV2
  clear BX2 BV2
  simp only []
  have cf := BX.out.cell 5
  simp only [List.getElem?_toArray, List.getElem?_cons_succ, List.getElem?_cons_zero] at cf
  go_wp2_with fail
  refine (HX0.out _).mono ?_
  rintro e xTA ⟨rfl, b1⟩
  have BX := Lib.hid (BX.out.step b1)
  have BV := Lib.hid (BV.out.trans (b1.mono BV.out.size))
  clear b1 HX0 cf
  have n48 : ((o : Int) == 48) = false := by have := KD.out.2.2.2.2.2; rw [HO.out, HP.out] at this; exact this
  go_wp2_with fail
  go_ret
  exact ⟨by rw [← FIN.out]; rfl, BV.out⟩

set_option maxRecDepth 100000 in
set_option maxHeartbeats 8000000 in
theorem rtextXAddr (r : Rl) (x y n nn a : Nat) (ht : TextOk r) (hp : r.pk = .pXAddr) (h1 : 1 ≤ r.op) (h2 : r.op ≤ 51) (hx : x < 16) (hy : y < 16) (hn : n < 16) (hnn : nn < 256) (ha : a < 65536) (w : World) :
    Calls Tryz.prog 17 #[.agg #[.int .i64 (r.op : Int), .int .i64 (x : Int), .int .i64 0, .int .i64 0, .int .i64 0, .int .i64 ((x * 256 + nn : Nat) : Int), .int .i64 2]] w fun e w' => e = .returned (.string ⟨(wdL r.op ++ opsL .pXAddr x y n nn (x * 256 + nn)).toArray⟩) ∧ Below w.heap.size w w' := by
  obtain ⟨o, ho⟩ : ∃ o, r.op = o := ⟨_, rfl⟩
  have KD := Lib.hid ht
  have HO := Lib.hid ho
  have HP := Lib.hid hp
  have RW := Lib.hid (fun w => rword_any r.op h1 h2 w)
  have hws := wdL_size ⟨r.op, by omega⟩
  simp only at hws
  rw [ho] at RW hws ⊢
  obtain ⟨A, hA⟩ : ∃ A, x * 256 + nn = A := ⟨_, rfl⟩
  rw [hA]
  have ha : A < 65536 := by omega
  have HX0 := fun w => rhex_yes A 3 w (by omega) (by omega) (by omega)
  have hs0 := hexS_size A 3
  obtain ⟨H0, e0⟩ : ∃ H, hexS A 3 = H := ⟨_, rfl⟩
  rw [e0] at HX0 hs0
  have HX0 := Lib.hid HX0
  have E0 := Lib.hid e0
  obtain ⟨W, hW⟩ : ∃ W : ByteArray, (⟨(wdL o).toArray⟩ : ByteArray) = W := ⟨_, rfl⟩
  have hw : W.size ≤ 10 := by rw [← hW]; simpa [ByteArray.size] using hws
  unfold strV at RW
  rw [hW] at RW
  have EW := Lib.hid hW
  have HA := Lib.hid hA
  clear hA
  clear ht hp h1 h2 hx hy hn hnn ha hW hws ho e0
  have FIN := Lib.hid (show W ++ ⟨#[32]⟩ ++ H0 = (⟨(wdL o ++ opsL .pXAddr x y n nn A).toArray⟩ : ByteArray) by
    rw [← EW.out, ← E0.out]
    unfold hexS opsL
    try unfold vL
    try unfold dL
    simp only [strV_append, List.append_assoc, List.append_nil, List.cons_append, List.nil_append])
  have BX := Lib.hid (Blk.new w 33 #[.int .i64 (o : Int), .int .i64 (x : Int), .int .i64 0, .int .i64 0, .int .i64 0, .int .i64 (A : Int), .int .i64 2])
  have BV := Lib.hid (below_new' w (.cells #[.int .i64 (o : Int), .int .i64 (x : Int), .int .i64 0, .int .i64 0, .int .i64 0, .int .i64 (A : Int), .int .i64 2] 33))
  go_enter Tryz.func17, Tryz.ntmps17
  go_wp2_with fail
  refine (RW.out _).mono ?_
  rintro e w1 ⟨rfl, b1⟩
  have BX := Lib.hid (BX.out.step b1)
  have BV := Lib.hid (BV.out.trans (b1.mono (by simp)))
  have hwz : w.heap.size < w1.heap.size := BX.out.lt
  clear b1 RW
  have c0 := BX.out.cell 0
  simp only [List.getElem?_toArray, List.getElem?_cons_succ, List.getElem?_cons_zero] at c0
  have BX2 := Lib.hid (BX.out.alloc (.cells #[.int .i64 5, .int .i64 6, .int .i64 7, .int .i64 8, .int .i64 9, .int .i64 10, .int .i64 11, .int .i64 12, .int .i64 13, .int .i64 14, .int .i64 15, .int .i64 16, .int .i64 17, .int .i64 18, .int .i64 19, .int .i64 22, .int .i64 23, .int .i64 24, .int .i64 25, .int .i64 26, .int .i64 27, .int .i64 28, .int .i64 29, .int .i64 30, .int .i64 31, .int .i64 32, .int .i64 33, .int .i64 34, .int .i64 41, .int .i64 42, .int .i64 43, .int .i64 44, .int .i64 46, .int .i64 47, .int .i64 51] 3))
  have BV2 := Lib.hid (BV.out.alloc BV.out.size (.cells #[.int .i64 5, .int .i64 6, .int .i64 7, .int .i64 8, .int .i64 9, .int .i64 10, .int .i64 11, .int .i64 12, .int .i64 13, .int .i64 14, .int .i64 15, .int .i64 16, .int .i64 17, .int .i64 18, .int .i64 19, .int .i64 22, .int .i64 23, .int .i64 24, .int .i64 25, .int .i64 26, .int .i64 27, .int .i64 28, .int .i64 29, .int .i64 30, .int .i64 31, .int .i64 32, .int .i64 33, .int .i64 34, .int .i64 41, .int .i64 42, .int .i64 43, .int .i64 44, .int .i64 46, .int .i64 47, .int .i64 51] 3))
  go_wp2_with fail
  refine (in15_any (o : Int) TX _ 35 _ _ TX_len (by decide) (cell_list _ _ 3 TX _ _ rfl TX_cells (by first | rfl | simp))).mono ?_
  rintro e vw1 ⟨rfl, rfl⟩
  rw [show inB (o : Int) TX = false by have := KD.out.1; rw [HO.out, HP.out] at this; exact this]
  clear BX BV
  try clear hwz
  try clear c0
  generalize World.alloc _ _ = uTX at BX2 BV2 ⊢
  have BX := BX2
  have BV := BV2
  clear BX2 BV2
  simp only []
  have BX2 := Lib.hid (BX.out.alloc (.cells #[.int .i64 7, .int .i64 10, .int .i64 11, .int .i64 12, .int .i64 13, .int .i64 14, .int .i64 15, .int .i64 16, .int .i64 17, .int .i64 18, .int .i64 19, .int .i64 23, .int .i64 41, .int .i64 46, .int .i64 47] 3))
  have BV2 := Lib.hid (BV.out.alloc BV.out.size (.cells #[.int .i64 7, .int .i64 10, .int .i64 11, .int .i64 12, .int .i64 13, .int .i64 14, .int .i64 15, .int .i64 16, .int .i64 17, .int .i64 18, .int .i64 19, .int .i64 23, .int .i64 41, .int .i64 46, .int .i64 47] 3))
  go_wp2_with fail
  refine (in15_any (o : Int) TY _ 15 _ _ TY_len (by decide) (cell_list _ _ 3 TY _ _ rfl TY_cells (by first | rfl | simp))).mono ?_
  rintro e vuTX ⟨rfl, rfl⟩
  rw [show inB (o : Int) TY = false by have := KD.out.2.1; rw [HO.out, HP.out] at this; exact this]
  clear BX BV
  try clear hwz
  try clear c0
  generalize World.alloc _ _ = uTY at BX2 BV2 ⊢
  have BX := BX2
  have BV := BV2
  clear BX2 BV2
  simp only []
  have BX2 := Lib.hid (BX.out.alloc (.cells #[.int .i64 23, .int .i64 35, .int .i64 45, .int .i64 49] 3))
  have BV2 := Lib.hid (BV.out.alloc BV.out.size (.cells #[.int .i64 23, .int .i64 35, .int .i64 45, .int .i64 49] 3))
  go_wp2_with fail
  refine (in15_any (o : Int) TN _ 4 _ _ TN_len (by decide) (cell_list _ _ 3 TN _ _ rfl TN_cells (by first | rfl | simp))).mono ?_
  rintro e vuTY ⟨rfl, rfl⟩
  rw [show inB (o : Int) TN = false by have := KD.out.2.2.1; rw [HO.out, HP.out] at this; exact this]
  clear BX BV
  try clear hwz
  try clear c0
  generalize World.alloc _ _ = uTN at BX2 BV2 ⊢
  have BX := BX2
  have BV := BV2
  clear BX2 BV2
  simp only []
  have BX2 := Lib.hid (BX.out.alloc (.cells #[.int .i64 5, .int .i64 6, .int .i64 8, .int .i64 9, .int .i64 22] 3))
  have BV2 := Lib.hid (BV.out.alloc BV.out.size (.cells #[.int .i64 5, .int .i64 6, .int .i64 8, .int .i64 9, .int .i64 22] 3))
  go_wp2_with fail
  refine (in15_any (o : Int) TNN _ 5 _ _ TNN_len (by decide) (cell_list _ _ 3 TNN _ _ rfl TNN_cells (by first | rfl | simp))).mono ?_
  rintro e vuTN ⟨rfl, rfl⟩
  rw [show inB (o : Int) TNN = false by have := KD.out.2.2.2.1; rw [HO.out, HP.out] at this; exact this]
  clear BX BV
  try clear hwz
  try clear c0
  generalize World.alloc _ _ = uTNN at BX2 BV2 ⊢
  have BX := BX2
  have BV := BV2
  clear BX2 BV2
  simp only []
  have BX2 := Lib.hid (BX.out.alloc (.cells #[.int .i64 3, .int .i64 4, .int .i64 20, .int .i64 21] 3))
  have BV2 := Lib.hid (BV.out.alloc BV.out.size (.cells #[.int .i64 3, .int .i64 4, .int .i64 20, .int .i64 21] 3))
  go_wp2_with fail
  refine (in15_any (o : Int) TA _ 4 _ _ TA_len (by decide) (cell_list _ _ 3 TA _ _ rfl TA_cells (by first | rfl | simp))).mono ?_
  rintro e vuTNN ⟨rfl, rfl⟩
  rw [show inB (o : Int) TA = true by have := KD.out.2.2.2.2.1; rw [HO.out, HP.out] at this; exact this]
  clear BX BV
  try clear hwz
  try clear c0
  generalize World.alloc _ _ = uTA at BX2 BV2 ⊢
  have BX := BX2
  have BV := BV2
  clear BX2 BV2
  simp only []
  have cf := BX.out.cell 5
  simp only [List.getElem?_toArray, List.getElem?_cons_succ, List.getElem?_cons_zero] at cf
  go_wp2_with fail
  refine (HX0.out _).mono ?_
  rintro e xTA ⟨rfl, b1⟩
  have BX := Lib.hid (BX.out.step b1)
  have BV := Lib.hid (BV.out.trans (b1.mono BV.out.size))
  clear b1 HX0 cf
  have n48 : ((o : Int) == 48) = false := by have := KD.out.2.2.2.2.2; rw [HO.out, HP.out] at this; exact this
  go_wp2_with fail
  go_ret
  exact ⟨by rw [← FIN.out]; rfl, BV.out⟩

set_option maxRecDepth 100000 in
set_option maxHeartbeats 8000000 in
theorem rtextPlanes (r : Rl) (x y n nn a : Nat) (ht : TextOk r) (hp : r.pk = .pPlanes) (h1 : 1 ≤ r.op) (h2 : r.op ≤ 51) (hx : x < 16) (hy : y < 16) (hn : n < 16) (hnn : nn < 256) (ha : a < 65536) (w : World) :
    Calls Tryz.prog 17 #[.agg #[.int .i64 (r.op : Int), .int .i64 0, .int .i64 0, .int .i64 (x : Int), .int .i64 0, .int .i64 0, .int .i64 2]] w fun e w' => e = .returned (.string ⟨(wdL r.op ++ opsL .pPlanes x y x nn (x * 256 + nn)).toArray⟩) ∧ Below w.heap.size w w' := by
  obtain ⟨o, ho⟩ : ∃ o, r.op = o := ⟨_, rfl⟩
  have KD := Lib.hid ht
  have HO := Lib.hid ho
  have HP := Lib.hid hp
  have RW := Lib.hid (fun w => rword_any r.op h1 h2 w)
  have hws := wdL_size ⟨r.op, by omega⟩
  simp only at hws
  rw [ho] at RW hws ⊢
  have HX0 := fun w => rhex_yes x 1 w (by omega) (by omega) (by omega)
  have hs0 := hexS_size x 1
  obtain ⟨H0, e0⟩ : ∃ H, hexS x 1 = H := ⟨_, rfl⟩
  rw [e0] at HX0 hs0
  have HX0 := Lib.hid HX0
  have E0 := Lib.hid e0
  obtain ⟨W, hW⟩ : ∃ W : ByteArray, (⟨(wdL o).toArray⟩ : ByteArray) = W := ⟨_, rfl⟩
  have hw : W.size ≤ 10 := by rw [← hW]; simpa [ByteArray.size] using hws
  unfold strV at RW
  rw [hW] at RW
  have EW := Lib.hid hW
  clear ht hp h1 h2 hx hy hn hnn ha hW hws ho e0
  have FIN := Lib.hid (show W ++ ⟨#[32]⟩ ++ H0 = (⟨(wdL o ++ opsL .pPlanes x y x nn (x * 256 + nn)).toArray⟩ : ByteArray) by
    rw [← EW.out, ← E0.out]
    unfold hexS opsL
    try unfold vL
    try unfold dL
    simp only [strV_append, List.append_assoc, List.append_nil, List.cons_append, List.nil_append])
  have BX := Lib.hid (Blk.new w 33 #[.int .i64 (o : Int), .int .i64 0, .int .i64 0, .int .i64 (x : Int), .int .i64 0, .int .i64 0, .int .i64 2])
  have BV := Lib.hid (below_new' w (.cells #[.int .i64 (o : Int), .int .i64 0, .int .i64 0, .int .i64 (x : Int), .int .i64 0, .int .i64 0, .int .i64 2] 33))
  go_enter Tryz.func17, Tryz.ntmps17
  go_wp2_with fail
  refine (RW.out _).mono ?_
  rintro e w1 ⟨rfl, b1⟩
  have BX := Lib.hid (BX.out.step b1)
  have BV := Lib.hid (BV.out.trans (b1.mono (by simp)))
  have hwz : w.heap.size < w1.heap.size := BX.out.lt
  clear b1 RW
  have c0 := BX.out.cell 0
  simp only [List.getElem?_toArray, List.getElem?_cons_succ, List.getElem?_cons_zero] at c0
  have BX2 := Lib.hid (BX.out.alloc (.cells #[.int .i64 5, .int .i64 6, .int .i64 7, .int .i64 8, .int .i64 9, .int .i64 10, .int .i64 11, .int .i64 12, .int .i64 13, .int .i64 14, .int .i64 15, .int .i64 16, .int .i64 17, .int .i64 18, .int .i64 19, .int .i64 22, .int .i64 23, .int .i64 24, .int .i64 25, .int .i64 26, .int .i64 27, .int .i64 28, .int .i64 29, .int .i64 30, .int .i64 31, .int .i64 32, .int .i64 33, .int .i64 34, .int .i64 41, .int .i64 42, .int .i64 43, .int .i64 44, .int .i64 46, .int .i64 47, .int .i64 51] 3))
  have BV2 := Lib.hid (BV.out.alloc BV.out.size (.cells #[.int .i64 5, .int .i64 6, .int .i64 7, .int .i64 8, .int .i64 9, .int .i64 10, .int .i64 11, .int .i64 12, .int .i64 13, .int .i64 14, .int .i64 15, .int .i64 16, .int .i64 17, .int .i64 18, .int .i64 19, .int .i64 22, .int .i64 23, .int .i64 24, .int .i64 25, .int .i64 26, .int .i64 27, .int .i64 28, .int .i64 29, .int .i64 30, .int .i64 31, .int .i64 32, .int .i64 33, .int .i64 34, .int .i64 41, .int .i64 42, .int .i64 43, .int .i64 44, .int .i64 46, .int .i64 47, .int .i64 51] 3))
  go_wp2_with fail
  refine (in15_any (o : Int) TX _ 35 _ _ TX_len (by decide) (cell_list _ _ 3 TX _ _ rfl TX_cells (by first | rfl | simp))).mono ?_
  rintro e vw1 ⟨rfl, rfl⟩
  rw [show inB (o : Int) TX = false by have := KD.out.1; rw [HO.out, HP.out] at this; exact this]
  clear BX BV
  try clear hwz
  try clear c0
  generalize World.alloc _ _ = uTX at BX2 BV2 ⊢
  have BX := BX2
  have BV := BV2
  clear BX2 BV2
  simp only []
  have BX2 := Lib.hid (BX.out.alloc (.cells #[.int .i64 7, .int .i64 10, .int .i64 11, .int .i64 12, .int .i64 13, .int .i64 14, .int .i64 15, .int .i64 16, .int .i64 17, .int .i64 18, .int .i64 19, .int .i64 23, .int .i64 41, .int .i64 46, .int .i64 47] 3))
  have BV2 := Lib.hid (BV.out.alloc BV.out.size (.cells #[.int .i64 7, .int .i64 10, .int .i64 11, .int .i64 12, .int .i64 13, .int .i64 14, .int .i64 15, .int .i64 16, .int .i64 17, .int .i64 18, .int .i64 19, .int .i64 23, .int .i64 41, .int .i64 46, .int .i64 47] 3))
  go_wp2_with fail
  refine (in15_any (o : Int) TY _ 15 _ _ TY_len (by decide) (cell_list _ _ 3 TY _ _ rfl TY_cells (by first | rfl | simp))).mono ?_
  rintro e vuTX ⟨rfl, rfl⟩
  rw [show inB (o : Int) TY = false by have := KD.out.2.1; rw [HO.out, HP.out] at this; exact this]
  clear BX BV
  try clear hwz
  try clear c0
  generalize World.alloc _ _ = uTY at BX2 BV2 ⊢
  have BX := BX2
  have BV := BV2
  clear BX2 BV2
  simp only []
  have BX2 := Lib.hid (BX.out.alloc (.cells #[.int .i64 23, .int .i64 35, .int .i64 45, .int .i64 49] 3))
  have BV2 := Lib.hid (BV.out.alloc BV.out.size (.cells #[.int .i64 23, .int .i64 35, .int .i64 45, .int .i64 49] 3))
  go_wp2_with fail
  refine (in15_any (o : Int) TN _ 4 _ _ TN_len (by decide) (cell_list _ _ 3 TN _ _ rfl TN_cells (by first | rfl | simp))).mono ?_
  rintro e vuTY ⟨rfl, rfl⟩
  rw [show inB (o : Int) TN = true by have := KD.out.2.2.1; rw [HO.out, HP.out] at this; exact this]
  clear BX BV
  try clear hwz
  try clear c0
  generalize World.alloc _ _ = uTN at BX2 BV2 ⊢
  have BX := BX2
  have BV := BV2
  clear BX2 BV2
  simp only []
  have cf := BX.out.cell 3
  simp only [List.getElem?_toArray, List.getElem?_cons_succ, List.getElem?_cons_zero] at cf
  go_wp2_with fail
  refine (HX0.out _).mono ?_
  rintro e xTN ⟨rfl, b1⟩
  have BX := Lib.hid (BX.out.step b1)
  have BV := Lib.hid (BV.out.trans (b1.mono BV.out.size))
  clear b1 HX0 cf
  have BX2 := Lib.hid (BX.out.alloc (.cells #[.int .i64 5, .int .i64 6, .int .i64 8, .int .i64 9, .int .i64 22] 3))
  have BV2 := Lib.hid (BV.out.alloc BV.out.size (.cells #[.int .i64 5, .int .i64 6, .int .i64 8, .int .i64 9, .int .i64 22] 3))
  go_wp2_with fail
  refine (in15_any (o : Int) TNN _ 5 _ _ TNN_len (by decide) (cell_list _ _ 3 TNN _ _ rfl TNN_cells (by first | rfl | simp))).mono ?_
  rintro e vxTN ⟨rfl, rfl⟩
  rw [show inB (o : Int) TNN = false by have := KD.out.2.2.2.1; rw [HO.out, HP.out] at this; exact this]
  clear BX BV
  try clear hwz
  try clear c0
  generalize World.alloc _ _ = uTNN at BX2 BV2 ⊢
  have BX := BX2
  have BV := BV2
  clear BX2 BV2
  simp only []
  have BX2 := Lib.hid (BX.out.alloc (.cells #[.int .i64 3, .int .i64 4, .int .i64 20, .int .i64 21] 3))
  have BV2 := Lib.hid (BV.out.alloc BV.out.size (.cells #[.int .i64 3, .int .i64 4, .int .i64 20, .int .i64 21] 3))
  go_wp2_with fail
  refine (in15_any (o : Int) TA _ 4 _ _ TA_len (by decide) (cell_list _ _ 3 TA _ _ rfl TA_cells (by first | rfl | simp))).mono ?_
  rintro e vuTNN ⟨rfl, rfl⟩
  rw [show inB (o : Int) TA = false by have := KD.out.2.2.2.2.1; rw [HO.out, HP.out] at this; exact this]
  clear BX BV
  try clear hwz
  try clear c0
  generalize World.alloc _ _ = uTA at BX2 BV2 ⊢
  have BX := BX2
  have BV := BV2
  clear BX2 BV2
  simp only []
  have n48 : ((o : Int) == 48) = false := by have := KD.out.2.2.2.2.2; rw [HO.out, HP.out] at this; exact this
  go_wp2_with fail
  go_ret
  exact ⟨by rw [← FIN.out]; rfl, BV.out⟩

set_option maxRecDepth 100000 in
set_option maxHeartbeats 8000000 in
theorem rtextNext (r : Rl) (x y n nn a : Nat) (ht : TextOk r) (hp : r.pk = .pNext) (h1 : 1 ≤ r.op) (h2 : r.op ≤ 51) (hx : x < 16) (hy : y < 16) (hn : n < 16) (hnn : nn < 256) (ha : a < 65536) (w : World) :
    Calls Tryz.prog 17 #[.agg #[.int .i64 (r.op : Int), .int .i64 0, .int .i64 0, .int .i64 0, .int .i64 0, .int .i64 (a : Int), .int .i64 4]] w fun e w' => e = .returned (.string ⟨(wdL r.op ++ opsL .pNext x y n nn a).toArray⟩) ∧ Below w.heap.size w w' := by
  obtain ⟨o, ho⟩ : ∃ o, r.op = o := ⟨_, rfl⟩
  have KD := Lib.hid ht
  have HO := Lib.hid ho
  have HP := Lib.hid hp
  have RW := Lib.hid (fun w => rword_any r.op h1 h2 w)
  have hws := wdL_size ⟨r.op, by omega⟩
  simp only at hws
  rw [ho] at RW hws ⊢
  have HX0 := fun w => rhex_yes a 4 w (by omega) (by omega) (by omega)
  have hs0 := hexS_size a 4
  obtain ⟨H0, e0⟩ : ∃ H, hexS a 4 = H := ⟨_, rfl⟩
  rw [e0] at HX0 hs0
  have HX0 := Lib.hid HX0
  have E0 := Lib.hid e0
  obtain ⟨W, hW⟩ : ∃ W : ByteArray, (⟨(wdL o).toArray⟩ : ByteArray) = W := ⟨_, rfl⟩
  have hw : W.size ≤ 10 := by rw [← hW]; simpa [ByteArray.size] using hws
  unfold strV at RW
  rw [hW] at RW
  have EW := Lib.hid hW
  clear ht hp h1 h2 hx hy hn hnn ha hW hws ho e0
  have FIN := Lib.hid (show W ++ ⟨#[32]⟩ ++ H0 = (⟨(wdL o ++ opsL .pNext x y n nn a).toArray⟩ : ByteArray) by
    rw [← EW.out, ← E0.out]
    unfold hexS opsL
    try unfold vL
    try unfold dL
    simp only [strV_append, List.append_assoc, List.append_nil, List.cons_append, List.nil_append])
  have BX := Lib.hid (Blk.new w 33 #[.int .i64 (o : Int), .int .i64 0, .int .i64 0, .int .i64 0, .int .i64 0, .int .i64 (a : Int), .int .i64 4])
  have BV := Lib.hid (below_new' w (.cells #[.int .i64 (o : Int), .int .i64 0, .int .i64 0, .int .i64 0, .int .i64 0, .int .i64 (a : Int), .int .i64 4] 33))
  go_enter Tryz.func17, Tryz.ntmps17
  go_wp2_with fail
  refine (RW.out _).mono ?_
  rintro e w1 ⟨rfl, b1⟩
  have BX := Lib.hid (BX.out.step b1)
  have BV := Lib.hid (BV.out.trans (b1.mono (by simp)))
  have hwz : w.heap.size < w1.heap.size := BX.out.lt
  clear b1 RW
  have c0 := BX.out.cell 0
  simp only [List.getElem?_toArray, List.getElem?_cons_succ, List.getElem?_cons_zero] at c0
  have BX2 := Lib.hid (BX.out.alloc (.cells #[.int .i64 5, .int .i64 6, .int .i64 7, .int .i64 8, .int .i64 9, .int .i64 10, .int .i64 11, .int .i64 12, .int .i64 13, .int .i64 14, .int .i64 15, .int .i64 16, .int .i64 17, .int .i64 18, .int .i64 19, .int .i64 22, .int .i64 23, .int .i64 24, .int .i64 25, .int .i64 26, .int .i64 27, .int .i64 28, .int .i64 29, .int .i64 30, .int .i64 31, .int .i64 32, .int .i64 33, .int .i64 34, .int .i64 41, .int .i64 42, .int .i64 43, .int .i64 44, .int .i64 46, .int .i64 47, .int .i64 51] 3))
  have BV2 := Lib.hid (BV.out.alloc BV.out.size (.cells #[.int .i64 5, .int .i64 6, .int .i64 7, .int .i64 8, .int .i64 9, .int .i64 10, .int .i64 11, .int .i64 12, .int .i64 13, .int .i64 14, .int .i64 15, .int .i64 16, .int .i64 17, .int .i64 18, .int .i64 19, .int .i64 22, .int .i64 23, .int .i64 24, .int .i64 25, .int .i64 26, .int .i64 27, .int .i64 28, .int .i64 29, .int .i64 30, .int .i64 31, .int .i64 32, .int .i64 33, .int .i64 34, .int .i64 41, .int .i64 42, .int .i64 43, .int .i64 44, .int .i64 46, .int .i64 47, .int .i64 51] 3))
  go_wp2_with fail
  refine (in15_any (o : Int) TX _ 35 _ _ TX_len (by decide) (cell_list _ _ 3 TX _ _ rfl TX_cells (by first | rfl | simp))).mono ?_
  rintro e vw1 ⟨rfl, rfl⟩
  rw [show inB (o : Int) TX = false by have := KD.out.1; rw [HO.out, HP.out] at this; exact this]
  clear BX BV
  try clear hwz
  try clear c0
  generalize World.alloc _ _ = uTX at BX2 BV2 ⊢
  have BX := BX2
  have BV := BV2
  clear BX2 BV2
  simp only []
  have BX2 := Lib.hid (BX.out.alloc (.cells #[.int .i64 7, .int .i64 10, .int .i64 11, .int .i64 12, .int .i64 13, .int .i64 14, .int .i64 15, .int .i64 16, .int .i64 17, .int .i64 18, .int .i64 19, .int .i64 23, .int .i64 41, .int .i64 46, .int .i64 47] 3))
  have BV2 := Lib.hid (BV.out.alloc BV.out.size (.cells #[.int .i64 7, .int .i64 10, .int .i64 11, .int .i64 12, .int .i64 13, .int .i64 14, .int .i64 15, .int .i64 16, .int .i64 17, .int .i64 18, .int .i64 19, .int .i64 23, .int .i64 41, .int .i64 46, .int .i64 47] 3))
  go_wp2_with fail
  refine (in15_any (o : Int) TY _ 15 _ _ TY_len (by decide) (cell_list _ _ 3 TY _ _ rfl TY_cells (by first | rfl | simp))).mono ?_
  rintro e vuTX ⟨rfl, rfl⟩
  rw [show inB (o : Int) TY = false by have := KD.out.2.1; rw [HO.out, HP.out] at this; exact this]
  clear BX BV
  try clear hwz
  try clear c0
  generalize World.alloc _ _ = uTY at BX2 BV2 ⊢
  have BX := BX2
  have BV := BV2
  clear BX2 BV2
  simp only []
  have BX2 := Lib.hid (BX.out.alloc (.cells #[.int .i64 23, .int .i64 35, .int .i64 45, .int .i64 49] 3))
  have BV2 := Lib.hid (BV.out.alloc BV.out.size (.cells #[.int .i64 23, .int .i64 35, .int .i64 45, .int .i64 49] 3))
  go_wp2_with fail
  refine (in15_any (o : Int) TN _ 4 _ _ TN_len (by decide) (cell_list _ _ 3 TN _ _ rfl TN_cells (by first | rfl | simp))).mono ?_
  rintro e vuTY ⟨rfl, rfl⟩
  rw [show inB (o : Int) TN = false by have := KD.out.2.2.1; rw [HO.out, HP.out] at this; exact this]
  clear BX BV
  try clear hwz
  try clear c0
  generalize World.alloc _ _ = uTN at BX2 BV2 ⊢
  have BX := BX2
  have BV := BV2
  clear BX2 BV2
  simp only []
  have BX2 := Lib.hid (BX.out.alloc (.cells #[.int .i64 5, .int .i64 6, .int .i64 8, .int .i64 9, .int .i64 22] 3))
  have BV2 := Lib.hid (BV.out.alloc BV.out.size (.cells #[.int .i64 5, .int .i64 6, .int .i64 8, .int .i64 9, .int .i64 22] 3))
  go_wp2_with fail
  refine (in15_any (o : Int) TNN _ 5 _ _ TNN_len (by decide) (cell_list _ _ 3 TNN _ _ rfl TNN_cells (by first | rfl | simp))).mono ?_
  rintro e vuTN ⟨rfl, rfl⟩
  rw [show inB (o : Int) TNN = false by have := KD.out.2.2.2.1; rw [HO.out, HP.out] at this; exact this]
  clear BX BV
  try clear hwz
  try clear c0
  generalize World.alloc _ _ = uTNN at BX2 BV2 ⊢
  have BX := BX2
  have BV := BV2
  clear BX2 BV2
  simp only []
  have BX2 := Lib.hid (BX.out.alloc (.cells #[.int .i64 3, .int .i64 4, .int .i64 20, .int .i64 21] 3))
  have BV2 := Lib.hid (BV.out.alloc BV.out.size (.cells #[.int .i64 3, .int .i64 4, .int .i64 20, .int .i64 21] 3))
  go_wp2_with fail
  refine (in15_any (o : Int) TA _ 4 _ _ TA_len (by decide) (cell_list _ _ 3 TA _ _ rfl TA_cells (by first | rfl | simp))).mono ?_
  rintro e vuTNN ⟨rfl, rfl⟩
  rw [show inB (o : Int) TA = false by have := KD.out.2.2.2.2.1; rw [HO.out, HP.out] at this; exact this]
  clear BX BV
  try clear hwz
  try clear c0
  generalize World.alloc _ _ = uTA at BX2 BV2 ⊢
  have BX := BX2
  have BV := BV2
  clear BX2 BV2
  simp only []
  have n48 : ((o : Int) == 48) = true := by have := KD.out.2.2.2.2.2; rw [HO.out, HP.out] at this; exact this
  have cf := BX.out.cell 5
  simp only [List.getElem?_toArray, List.getElem?_cons_succ, List.getElem?_cons_zero] at cf
  go_wp2_with fail
  refine (HX0.out _).mono ?_
  rintro e x48 ⟨rfl, b1⟩
  have BV := Lib.hid (BV.out.trans (b1.mono BV.out.size))
  clear b1 HX0 cf
  go_wp2_with fail
  go_ret
  exact ⟨by rw [← FIN.out]; rfl, BV.out⟩

end Go.Proofs.YthfiaemdpfffcaaGreatDoor
