/- 'awake' of the law package of layer 8 returns true. -/
import Derived.Test.YtplmmfgmbfcjpaaScrDo
import Derived.Test.YtplmmfgmbfcjpaaScrColor
namespace Go.Proofs.Ytplmmfgmbfcjpaa
open Go.RowKit Go.Shelf Num
set_option linter.unusedVariables false
set_option linter.unusedSimpArgs false

def aw1 (j : Nat) : Nat := if j = 0 then 128 else if j = 1 then 64 else 0
def aw2 (j : Nat) : Nat := if j = 0 then 128 else 0
theorem aw1_le (j : Nat) : aw1 j ≤ 255 := by unfold aw1; split <;> (try split) <;> omega
theorem aw2_le (j : Nat) : aw2 j ≤ 255 := by unfold aw2; split <;> omega
def awT : Sc := blankS false 3
def awD1 (g : Nat) : DrD := mkD aw1 awT 3 1 false true 65 33 g 0
def awA8 : Sc := drS (awD1 0) 3
def awD2 (g : Nat) : DrD := mkD aw2 awA8 3 1 false true 1 1 g 0
def awB8 : Sc := drS (awD2 0) 3
def awC8 : Sc := onPl (fun _ p => scroll p 4 0 64 32) 3 awA8
theorem aw8_need : need 3 5 false 4 = 10 ∧ need 3 0 true 4 = 64 := by decide +kernel
theorem aw8_coll : coS (awD1 0) 3 = false ∧ coS (awD2 0) 3 = true := by decide +kernel
theorem aw8_col : colTo (fun i => pget (awA8.P i) 1 1) 4 = 1 ∧ colTo (fun i => pget (awA8.P i) 2 1) 4 = 2 ∧ colTo (fun i => pget (awB8.P i) 1 1) 4 = 0 ∧ colTo (fun i => pget (awC8.P i) 5 1) 4 = 1 := by decide +kernel
theorem aw8_same : sameSc (blankS false 1) (blankS false 1) = true ∧ sameSc (onPl (fun _ _ _ => 0#128) 3 awA8) awT = true ∧ sameSc (blankS true 3) (blankS true 3) = true := by decide +kernel
theorem slice8 (w : World) (a b : Nat) (F : Nat → Nat) (h0 : F 0 = a) (h1 : F 1 = b) : DatA w.heap.size 0 F 2 (some ⟨w.heap.size, 0, none⟩) (w.alloc (.cells #[.int .u8 (a : Int), .int .u8 (b : Int)] 5)) := fun _ =>
  ⟨rfl, by simp, fun j hj => by
    rw [World.cell?_alloc_at _ _ _ _ rfl]
    rcases (show j = 0 ∨ j = 1 by omega) with rfl | rfl
    · rw [h0]; rfl
    · rw [h1]; rfl⟩
set_option maxRecDepth 100000 in
set_option maxHeartbeats 8000000 in
theorem awake8 (w : World) : Calls Try.prog 8 #[] w fun e w' => e = .returned (.bool true) ∧ Below w.heap.size w w' := by
  obtain ⟨n1, n2⟩ := aw8_need
  obtain ⟨c1, c2⟩ := aw8_coll
  obtain ⟨k1, k2, k3, k4⟩ := aw8_col
  obtain ⟨s1, s2, s3⟩ := aw8_same
  have NW := Lib.hid fun w => new8_any w
  have SL := Lib.hid fun w => select8_any (blankS false 1) 3 w
  have D1 := Lib.hid fun (g : Nat) (w' : World) (hd : DatA g 0 aw1 2 (some ⟨g, 0, none⟩) w') => draw8_any (awD1 g) (mkD_ok _ aw1_le awT 3 1 (by omega) false true 65 33 g 0 (by omega) (by omega)) 3 1 false rfl (by omega) rfl rfl rfl (some ⟨g, 0, none⟩) 2 2 (show (selTo 3 4).length * (1 * 1) = 2 by decide +kernel) (by omega) (by omega) w' hd
  have D2 := Lib.hid fun (g : Nat) (w' : World) (hd : DatA g 0 aw2 2 (some ⟨g, 0, none⟩) w') => draw8_any (awD2 g) (mkD_ok _ aw2_le awA8 3 1 (by omega) false true 1 1 g 0 (by omega) (by omega)) 3 1 false rfl (by omega) rfl rfl rfl (some ⟨g, 0, none⟩) 2 2 (show (selTo 3 4).length * (1 * 1) = 2 by decide +kernel) (by omega) (by omega) w' hd
  have E1 := Lib.hid fun g => show drS (awD1 g) 3 = awA8 from rfl
  have E2 := Lib.hid fun g => show drS (awD2 g) 3 = awB8 from rfl
  have F1 := Lib.hid fun g => show coS (awD1 g) 3 = false from (coS_any _ _ _ _ _ _ _ _ _ _ _ _).trans c1
  have F2 := Lib.hid fun g => show coS (awD2 g) 3 = true from (coS_any _ _ _ _ _ _ _ _ _ _ _ _).trans c2
  have N1 := Lib.hid fun w => n1 ▸ need8_any awT 3 5 false rfl (by omega) (by omega) w
  have N2 := Lib.hid fun w => n2 ▸ need8_any awT 3 0 true rfl (by omega) (by omega) w
  have K1 := Lib.hid fun w => k1 ▸ color8_any awA8 1 1 (by omega) (by omega) (by omega) (by omega) w
  have K2 := Lib.hid fun w => k2 ▸ color8_any awA8 2 1 (by omega) (by omega) (by omega) (by omega) w
  have K3 := Lib.hid fun w => k3 ▸ color8_any awB8 1 1 (by omega) (by omega) (by omega) (by omega) w
  have K4 := Lib.hid fun w => k4 ▸ color8_any awC8 5 1 (by omega) (by omega) (by omega) (by omega) w
  have CL := Lib.hid fun w => clear8_any awA8 3 rfl (by omega) w
  have RS := Lib.hid fun w => (show (awA8.M : Int) = 3 from rfl) ▸ res8_any awA8 true w
  have SR := Lib.hid fun w => show Calls Try.prog 27 #[.agg (scells awA8), .int .i64 4, .int .i64 0] w fun e w' => e = .returned (.agg (scells awC8)) ∧ Below w.heap.size w w' from scroll8_any awA8 3 rfl (by omega) 4 0 64 32 (.inr ⟨rfl, rfl, rfl⟩) (by omega) (by omega) (by omega) (by omega) w
  clear n1 n2 c1 c2 k1 k2 k3 k4
  have HT : (blankS false 1).mask 3 = awT := rfl
  have P1 := Lib.hid fun g => show (awD1 g).S = awT from rfl
  have P2 := Lib.hid fun g => show (awD2 g).S = awA8 from rfl
  go_enter Try.func8, Try.ntmps8
  go_wp2_with fail
  refine (NW.out _).mono ?_
  rintro e v1 ⟨rfl, b1⟩
  have BB := Lib.hid b1
  clear b1
  simp only []
  go_at_K
  iterate 1 go_step
  refine list_var_all (ds := scells (blankS false 1)) aggScr zeroScr (scells_size _) (scells_size _) (scells_one _) rfl rfl rfl (.tmp 1) (.tmp 7) rfl (by simp [Act.eval, Act.put]) (by simp [Act.eval, Act.put]) ?_
  simp only [Act.put, List.setIfInBounds_toArray, List.set_cons_zero, List.set_cons_succ]
  have V1 := Lib.hid (SB.new v1 (blankS false 1))
  have BB := Lib.hid (BB.out.alloc BB.out.size (.cells (scells (blankS false 1)) 32))
  obtain ⟨q2, hq⟩ : ∃ q, v1.heap.size = q := ⟨_, rfl⟩
  generalize v1.alloc (.cells (scells (blankS false 1)) 32) = v2 at *
  rw [hq] at V1 ⊢
  clear hq
  go_upto_region 2 with fail
  refine wp_region_lit ?_
  refine list_load_all aggScr V1.out (scells_size _) rfl (.tmp 1) rfl (by simp [Act.eval, Act.put]) ?_
  simp only [Act.put, List.setIfInBounds_toArray, List.set_cons_zero, List.set_cons_succ]
  go_wp2_with fail
  refine (SL.out _).mono ?_
  rintro e v3 ⟨rfl, b1⟩
  rw [HT]
  have V1 := Lib.hid (V1.out.step b1)
  have BB := Lib.hid (BB.out.trans (b1.mono BB.out.size))
  clear b1
  simp only []
  go_at_K
  iterate 1 go_step
  refine list_var_all (ds := scells awT) aggScr zeroScr (scells_size _) (scells_size _) (scells_one _) rfl rfl rfl (.tmp 2) (.tmp 9) rfl (by simp [Act.eval, Act.put]) (by simp [Act.eval, Act.put]) ?_
  simp only [Act.put, List.setIfInBounds_toArray, List.set_cons_zero, List.set_cons_succ]
  have V2 := Lib.hid (SB.new v3 awT)
  have V1 := Lib.hid (V1.out.alloc (.cells (scells awT) 32))
  have BB := Lib.hid (BB.out.alloc BB.out.size (.cells (scells awT) 32))
  obtain ⟨q4, hq⟩ : ∃ q, v3.heap.size = q := ⟨_, rfl⟩
  generalize v3.alloc (.cells (scells awT) 32) = v4 at *
  rw [hq] at V2 ⊢
  clear hq
  go_upto_region 3 with fail
  refine wp_region_lit ?_
  refine list_load_all aggScr V2.out (scells_size _) rfl (.tmp 2) rfl (by simp [Act.eval, Act.put]) ?_
  simp only [Act.put, List.setIfInBounds_toArray, List.set_cons_zero, List.set_cons_succ]
  go_wp2_with fail
  have DD := Lib.hid (slice8 v4 128 64 aw1 rfl rfl)
  have V1 := Lib.hid (V1.out.alloc (.cells #[.int .u8 128, .int .u8 64] 5))
  have V2 := Lib.hid (V2.out.alloc (.cells #[.int .u8 128, .int .u8 64] 5))
  have BB := Lib.hid (BB.out.alloc BB.out.size (.cells #[.int .u8 128, .int .u8 64] 5))
  obtain ⟨gv5, hg⟩ : ∃ g, v4.heap.size = g := ⟨_, rfl⟩
  rw [hg] at DD ⊢
  have DW := D1.out gv5 _ DD.out
  have hE := E1.out gv5
  unfold drS at hE
  have hF := F1.out gv5
  unfold coS at hF
  rw [hE, hF, P1.out gv5] at DW
  refine (DW).mono ?_
  rintro e v6 ⟨rfl, b1⟩
  clear hE hF DD hg
  have V1 := Lib.hid (V1.out.step b1)
  have V2 := Lib.hid (V2.out.step b1)
  have BB := Lib.hid (BB.out.trans (b1.mono BB.out.size))
  clear b1
  simp only []
  go_at_K
  iterate 10 go_step
  refine list_var_all (ds := scells awA8) aggScr zeroScr (scells_size _) (scells_size _) (scells_one _) rfl rfl rfl (.tmp 3) (.tmp 14) rfl (by simp [Act.eval, Act.put]) (by simp [Act.eval, Act.put]) ?_
  simp only [Act.put, List.setIfInBounds_toArray, List.set_cons_zero, List.set_cons_succ]
  have V3 := Lib.hid (SB.new v6 awA8)
  have V1 := Lib.hid (V1.out.alloc (.cells (scells awA8) 32))
  have V2 := Lib.hid (V2.out.alloc (.cells (scells awA8) 32))
  have BB := Lib.hid (BB.out.alloc BB.out.size (.cells (scells awA8) 32))
  obtain ⟨q7, hq⟩ : ∃ q, v6.heap.size = q := ⟨_, rfl⟩
  generalize v6.alloc (.cells (scells awA8) 32) = v7 at *
  rw [hq] at V3 ⊢
  clear hq
  go_upto_region 4 with fail
  refine wp_region_lit ?_
  refine list_load_all aggScr V3.out (scells_size _) rfl (.tmp 3) rfl (by simp [Act.eval, Act.put]) ?_
  simp only [Act.put, List.setIfInBounds_toArray, List.set_cons_zero, List.set_cons_succ]
  go_wp2_with fail
  have DD := Lib.hid (slice8 v7 128 0 aw2 rfl rfl)
  have V1 := Lib.hid (V1.out.alloc (.cells #[.int .u8 128, .int .u8 0] 5))
  have V2 := Lib.hid (V2.out.alloc (.cells #[.int .u8 128, .int .u8 0] 5))
  have V3 := Lib.hid (V3.out.alloc (.cells #[.int .u8 128, .int .u8 0] 5))
  have BB := Lib.hid (BB.out.alloc BB.out.size (.cells #[.int .u8 128, .int .u8 0] 5))
  obtain ⟨gv8, hg⟩ : ∃ g, v7.heap.size = g := ⟨_, rfl⟩
  rw [hg] at DD ⊢
  have DW := D2.out gv8 _ DD.out
  have hE := E2.out gv8
  unfold drS at hE
  have hF := F2.out gv8
  unfold coS at hF
  rw [hE, hF, P2.out gv8] at DW
  refine (DW).mono ?_
  rintro e v9 ⟨rfl, b1⟩
  clear hE hF DD hg
  have V1 := Lib.hid (V1.out.step b1)
  have V2 := Lib.hid (V2.out.step b1)
  have V3 := Lib.hid (V3.out.step b1)
  have BB := Lib.hid (BB.out.trans (b1.mono BB.out.size))
  clear b1
  simp only []
  go_at_K
  iterate 10 go_step
  refine list_var_all (ds := scells awB8) aggScr zeroScr (scells_size _) (scells_size _) (scells_one _) rfl rfl rfl (.tmp 5) (.tmp 20) rfl (by simp [Act.eval, Act.put]) (by simp [Act.eval, Act.put]) ?_
  simp only [Act.put, List.setIfInBounds_toArray, List.set_cons_zero, List.set_cons_succ]
  have V4 := Lib.hid (SB.new v9 awB8)
  have V1 := Lib.hid (V1.out.alloc (.cells (scells awB8) 32))
  have V2 := Lib.hid (V2.out.alloc (.cells (scells awB8) 32))
  have V3 := Lib.hid (V3.out.alloc (.cells (scells awB8) 32))
  have BB := Lib.hid (BB.out.alloc BB.out.size (.cells (scells awB8) 32))
  obtain ⟨q10, hq⟩ : ∃ q, v9.heap.size = q := ⟨_, rfl⟩
  generalize v9.alloc (.cells (scells awB8) 32) = v10 at *
  rw [hq] at V4 ⊢
  clear hq
  go_upto_region 5 with fail
  clear D1 D2 E1 E2 F1 F2 P1 P2 NW SL HT
  have L1 := Lib.hid (fun (w' : World) (hw : ∃ u : Calm v10, w' = u.w) => show Blk q2 32 (scells (blankS false 1)) w' by obtain ⟨u, rfl⟩ := hw; exact V1.out.step u.below)
  have L2 := Lib.hid (fun (w' : World) (hw : ∃ u : Calm v10, w' = u.w) => show Blk q4 32 (scells awT) w' by obtain ⟨u, rfl⟩ := hw; exact V2.out.step u.below)
  have L3 := Lib.hid (fun (w' : World) (hw : ∃ u : Calm v10, w' = u.w) => show Blk q7 32 (scells awA8) w' by obtain ⟨u, rfl⟩ := hw; exact V3.out.step u.below)
  have L5 := Lib.hid (fun (w' : World) (hw : ∃ u : Calm v10, w' = u.w) => show Blk q10 32 (scells awB8) w' by obtain ⟨u, rfl⟩ := hw; exact V4.out.step u.below)
  have M1 := built_mask 1
  have M2 := built_both true 3
  have HC : awA8 = awA8 := rfl
  clear HC
  generalize hT : awT = T8 at *
  generalize hA : awA8 = A8 at *
  generalize hB : awB8 = B8 at *
  generalize hC : awC8 = C8 at *
  generalize hZ : onPl (fun _ _ _ => 0#128) 3 A8 = Z8 at *
  generalize hS : blankS false 1 = S8 at *
  generalize hR : blankS true 3 = R8 at *
  clear hT hA hB hC hZ hS hR
  refine calm_region (by kernel_rfl) (by kernel_rfl) ?_
  repeat (first
    | (refine quiet_load_all aggScr L1.out (scells_size _) ?_ (.tmp 1) ?_ ?_ ?_; (focus rfl); (focus rfl); (focus (simp [Act.eval]; done)); simp only [Act.put, List.setIfInBounds_toArray, List.set_cons_zero, List.set_cons_succ])
    | (refine quiet_load_all aggScr L2.out (scells_size _) ?_ (.tmp 2) ?_ ?_ ?_; (focus rfl); (focus rfl); (focus (simp [Act.eval]; done)); simp only [Act.put, List.setIfInBounds_toArray, List.set_cons_zero, List.set_cons_succ])
    | (refine quiet_load_all aggScr L3.out (scells_size _) ?_ (.tmp 3) ?_ ?_ ?_; (focus rfl); (focus rfl); (focus (simp [Act.eval]; done)); simp only [Act.put, List.setIfInBounds_toArray, List.set_cons_zero, List.set_cons_succ])
    | (refine quiet_load_all aggScr L5.out (scells_size _) ?_ (.tmp 5) ?_ ?_ ?_; (focus rfl); (focus rfl); (focus (simp [Act.eval]; done)); simp only [Act.put, List.setIfInBounds_toArray, List.set_cons_zero, List.set_cons_succ])
    | (refine quiet_eqS s1 ?_ (.tmp 22) (.tmp 23) 32 ?_ ?_ ?_ ?_; (focus rfl); (focus rfl); (focus (simp [Act.eval]; done)); (focus (simp [Act.eval]; done)); simp only [Act.put, List.setIfInBounds_toArray, List.set_cons_zero, List.set_cons_succ])
    | (refine quiet_eqS s2 ?_ (.tmp 59) (.tmp 60) 32 ?_ ?_ ?_ ?_; (focus rfl); (focus rfl); (focus (simp [Act.eval]; done)); (focus (simp [Act.eval]; done)); simp only [Act.put, List.setIfInBounds_toArray, List.set_cons_zero, List.set_cons_succ])
    | (refine quiet_eqS s3 ?_ (.tmp 65) (.tmp 66) 32 ?_ ?_ ?_ ?_; (focus rfl); (focus rfl); (focus (simp [Act.eval]; done)); (focus (simp [Act.eval]; done)); simp only [Act.put, List.setIfInBounds_toArray, List.set_cons_zero, List.set_cons_succ])
    | (refine quiet_build_all (ty := 32) (parts := #[(2, .const (.int .i64 1))]) (cs := scells S8) ?_ ?_ ?_ ?_; (focus rfl); (focus rfl); (focus (simp [Act.eval]; exact M1)); simp only [Act.put, List.setIfInBounds_toArray, List.set_cons_zero, List.set_cons_succ])
    | (refine quiet_build_all (ty := 32) (parts := #[(1, .const (.bool true)), (2, .const (.int .i64 3))]) (cs := scells R8) ?_ ?_ ?_ ?_; (focus rfl); (focus rfl); (focus (simp [Act.eval]; exact M2)); simp only [Act.put, List.setIfInBounds_toArray, List.set_cons_zero, List.set_cons_succ])
    | go_big_quiet_step ((first
      | rfl
      | (go_at_call 24; with_reducible exact calm_call (N1.out _))
      | (go_at_call 24; with_reducible exact calm_call (N2.out _))
      | (go_at_call_of 22 A8; with_reducible exact calm_call (K1.out _))
      | (go_at_call_of 22 A8; with_reducible exact calm_call (K2.out _))
      | (go_at_call_of 22 B8; exact calm_call (K3.out _))
      | (go_at_call_of 22 C8; exact calm_call (K4.out _))
      | (go_at_call 25; exact calm_call (CL.out _))
      | (go_at_call 26; exact calm_call (RS.out _))
      | (go_at_call 27; exact calm_call (SR.out _)))))
  refine wpQuiet_nil ?_
  intro _ hw'
  obtain ⟨u, rfl⟩ := hw'
  have BB := Lib.hid (BB.out.trans (u.below.mono BB.out.size))
  generalize u.w = v11 at *
  go_wp2
  go_ret
  exact ⟨by simp, BB.out⟩
end Go.Proofs.Ytplmmfgmbfcjpaa
