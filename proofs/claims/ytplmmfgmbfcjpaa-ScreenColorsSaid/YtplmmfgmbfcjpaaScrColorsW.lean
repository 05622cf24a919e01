/- The walk of ScreenColors. -/
import Derived.Test.YtplmmfgmbfcjpaaScrAwake
import Derived.Test.YtplmmfgmbfcjpaaScrOpen
namespace Go.Proofs.Ytplmmfgmbfcjpaa
open Go.RowKit Go.Shelf Num
set_option linter.unusedVariables false
set_option linter.unusedSimpArgs false

set_option maxRecDepth 100000 in
set_option maxHeartbeats 8000000 in
theorem screenColors_walk (A : Option Addr) (n c : Nat) (l : List (Stp × List Nat)) (x y : Int) (w : World) (H : Stps w A n l) (wx : (Lit.int .i64 x).wf = true) (wy : (Lit.int .i64 y).wf = true) :
    Calls Try.prog 6 #[.slice A n c, .int .i64 x, .int .i64 y] w fun e w' => e = .returned (.bool true) ∧ Below w.heap.size w w' := by
  have HX := Lib.hid (And.intro (Num.bd_i64 wx) (Num.bd_i64 wy))
  have GL := Lib.hid H
  have mx := H.max
  clear H wx wy
  obtain ⟨v0, hv0⟩ : ∃ v0, v0 = w := ⟨_, rfl⟩
  subst hv0
  go_enter Try.func6, Try.ntmps6
  go_wp2_with fail
  refine (awake8 _).mono ?_
  rintro e v1 ⟨rfl, b1⟩
  have BV := Lib.hid b1
  clear b1
  by_cases hlen : 8 < n
  · have k1 : (8 : Int) < (n : Int) := by omega
    go_wp2_with fail
    refine (awake8 _).mono ?_
    rintro e v2 ⟨rfl, b1⟩
    have BV := Lib.hid (BV.out.trans (b1.mono BV.out.size))
    clear b1
    go_wp2
    go_ret
    exact ⟨rfl, BV.out⟩
  · have k1 : ¬ (8 : Int) < (n : Int) := by omega
    go_wp2_with fail
    refine (new8_any _).mono ?_
    rintro e v2 ⟨rfl, b1⟩
    have BV := Lib.hid (BV.out.trans (b1.mono BV.out.size))
    clear b1
    simp only []
    go_at_K
    go_step
    refine list_var_all (ds := scells (blankS false 1)) aggScr zeroScr (scells_size _) (scells_size _) (scells_one _) rfl rfl rfl (.tmp 7) (.tmp 19) rfl (by simp [Act.eval, Act.put]) (by simp [Act.eval, Act.put]) ?_
    simp only [Act.put, List.setIfInBounds_toArray, List.set_cons_zero, List.set_cons_succ]
    have GS := Lib.hid (SB.new v2 (blankS false 1))
    have BQ := Lib.hid BV.out.size
    have BV := Lib.hid (BV.out.alloc BV.out.size (.cells (scells (blankS false 1)) 32))
    obtain ⟨p, hp⟩ : ∃ p, v2.heap.size = p := ⟨_, rfl⟩
    generalize v2.alloc (.cells (scells (blankS false 1)) 32) = v3 at *
    rw [hp] at GS BQ ⊢
    clear hp
    go_wp2
    go_loopw [8] (fun i wr => ∃ (k : Nat) (S : Sc) (M : Nat), k ≤ n ∧ i = .int .i64 (k : Int) ∧ SB p S wr ∧ S.M = (M : Int) ∧ M ≤ 15 ∧ Below v0.heap.size v0 wr) (fun i _ => n - (intOf i).toNat)
    case atStart => exact ⟨0, blankS false 1, 1, by omega, rfl, GS.out, rfl, by omega, BV.out⟩
    case round =>
      clear GS BV
      obtain ⟨k, S, M, hk, rfl, hs, hM, M1, bv⟩ := hrel
      have GS := Lib.hid hs
      have BV := Lib.hid bv
      have HM := Lib.hid (And.intro hM M1)
      clear hs hM M1 bv
      by_cases hlt : k < n
      · have k1 : (k : Int) < (n : Int) := by omega
        have k0 : 0 ≤ (k : Int) := by omega
        have hkl : k < l.length := by rw [GL.out.len]; exact hlt
        obtain ⟨b, o, hA, hb, hr, ok⟩ := GL.out.at_ k hkl
        subst hA
        obtain ⟨q, hq⟩ : ∃ q, q = l[k].1 := ⟨_, rfl⟩
        obtain ⟨L, hL⟩ : ∃ L, L = l[k].2 := ⟨_, rfl⟩
        rw [← hq] at hr ok
        rw [← hL] at ok
        clear hq hL
        have OK := Lib.hid ok
        have R0 := Lib.hid (show ∀ w', Below v0.heap.size v0 w' → w'.rangeAt b (o + k * 9) (stc q).toList from fun w' hw j v hv => (hw.cell (p := ⟨b, o + k * 9 + j, none⟩) hb).trans (hr j v hv))
        have ND := Lib.hid fun (w' : World) (hw : Below v0.heap.size v0 w') => needs_any S M HM.out.1 HM.out.2 q L w' (OK.out.step hw)
        have DO := Lib.hid fun (w' : World) (hw : Below v0.heap.size v0 w') => do_any S M HM.out.1 HM.out.2 q L w' (OK.out.step hw)
        obtain ⟨Z, hZ⟩ : ∃ Z, (doS S M q L).1 = Z := ⟨_, rfl⟩
        obtain ⟨cv, hcv⟩ : ∃ cv, (doS S M q L).2 = cv := ⟨_, rfl⟩
        rw [hZ, hcv] at DO
        have HZ := Lib.hid (show Z.M = (doM M q : Int) ∧ doM M q ≤ 15 by rw [← hZ]; exact ⟨doS_mask HM.out.1 q L, doM_le HM.out.2 q⟩)
        clear hZ hcv hr ok
        go_upto_region 7 with fail
        have CA := Lib.hid (show ∀ u : Calm wr, Below v0.heap.size v0 u.w from fun u => BV.out.trans (u.below.mono BV.out.size))
        have RG := Lib.hid (fun (w' : World) (hw : ∃ u : Calm wr, w' = u.w) => show w'.rangeAt b (o + k * 9) (stc q).toList by obtain ⟨u, rfl⟩ := hw; exact R0.out _ (CA.out u))
        have KS := Lib.hid (fun (w' : World) (hw : ∃ u : Calm wr, w' = u.w) => show Blk p 32 (scells S) w' by obtain ⟨u, rfl⟩ := hw; exact GS.out.step u.below)
        have NC := Lib.hid (fun u : Calm wr => ND.out u.w (CA.out u))
        refine calm_region (by kernel_rfl) (by kernel_rfl) ?_
        repeat (first
          | (refine quiet_load_all aggScr KS.out (scells_size _) ?_ (.tmp 7) ?_ ?_ ?_; (focus rfl); (focus rfl); (focus (simp [Act.eval]; done)); simp only [Act.put, List.setIfInBounds_toArray, List.set_cons_zero, List.set_cons_succ])
          | (refine quiet_load_at aggStp RG.out (stc_size _) ?_ (.tmp 29) ?_ ?_ ?_; (focus rfl); (focus rfl); (focus (simp [Act.eval, Addr.add_mid]; done)); simp only [Act.put, List.setIfInBounds_toArray, List.set_cons_zero, List.set_cons_succ])
          | go_big_quiet_step ((first
            | rfl
            | (go_at_call 11; exact calm_call (NC.out _)))))
        refine wpQuiet_nil ?_
        intro _ hw'
        obtain ⟨u, rfl⟩ := hw'
        have GS := Lib.hid (GS.out.step u.below)
        have BV := Lib.hid (CA.out u)
        clear KS RG NC CA
        generalize u.w = w3 at *
        go_upto_region 9 with fail
        have CA := Lib.hid (show ∀ u : Calm w3, Below v0.heap.size v0 u.w from fun u => BV.out.trans (u.below.mono BV.out.size))
        have RG := Lib.hid (fun (w' : World) (hw : ∃ u : Calm w3, w' = u.w) => show w'.rangeAt b (o + k * 9) (stc q).toList by obtain ⟨u, rfl⟩ := hw; exact R0.out _ (CA.out u))
        have KS := Lib.hid (fun (w' : World) (hw : ∃ u : Calm w3, w' = u.w) => show Blk p 32 (scells S) w' by obtain ⟨u, rfl⟩ := hw; exact GS.out.step u.below)
        refine wp_region_late (C := fun w' => ∃ u : Calm w3, w' = u.w) 9 [([0, 1, 2, 3, 4], 5, false)] [6, 7, 8] [] (by kernel_rfl) (by kernel_rfl) ?_ ?_ ⟨⟨w3.drew, (Below.refl _ _).drew⟩, rfl⟩ ?_
        · exact fun _ _ d _ _ h => by cases d <;> exact h
        · rintro _ w' ⟨u, rfl⟩ hg
          exact ⟨⟨w', u.below.trans (hg.mono u.below.size)⟩, rfl⟩
        intro wd hwd
        have bd := Lib.hid (show Below w3.heap.size w3 wd by rw [hwd]; exact (Below.refl _ _).drew)
        clear hwd
        refine late_real (by simp only [opsAt, List.getElem?_toArray, List.getElem?_cons_succ, List.getElem?_cons_zero]; rfl) (by simp only [List.getElem?_toArray, List.getElem?_cons_succ, List.getElem?_cons_zero]; rfl) ?_
        repeat (first
          | (refine quiet_load_all aggScr KS.out (scells_size _) ?_ (.tmp 7) ?_ ?_ ?_; (focus rfl); (focus rfl); (focus (simp [Act.eval]; done)); simp only [Act.put, List.setIfInBounds_toArray, List.set_cons_zero, List.set_cons_succ])
          | (refine quiet_load_at aggStp RG.out (stc_size _) ?_ (.tmp 37) ?_ ?_ ?_; (focus rfl); (focus rfl); (focus (simp [Act.eval, Addr.add_mid]; done)); simp only [Act.put, List.setIfInBounds_toArray, List.set_cons_zero, List.set_cons_succ])
          | go_big_quiet_step (rfl))
        refine wpQuiet_nil ?_
        refine real_next rfl ?_
        intro w5 g5 C5 K hK
        obtain ⟨u5, rfl⟩ := C5
        refine wp_call_fn (g := 12) (caps := #[]) (args := #[.agg (scells S), .agg (stc q)]) (.func 12) #[.tmp 34, .tmp 38] #[32, 41] rfl (enters_of Try.func12 (by kernel_rfl) rfl) rfl (by simp [Act.eval]) ?_
        refine (DO.out u5.w (CA.out u5)).mono ?_
        rintro e w6 ⟨rfl, b6⟩
        have bd := Lib.hid (u5.below.trans (b6.mono u5.below.size))
        clear b6 g5
        refine ⟨_, rfl, ?_⟩
        refine hK _ _ ⟨⟨w6, bd.out⟩, rfl⟩ ?_
        clear hK K
        simp only [Act.put, List.setIfInBounds_toArray, List.set_cons_zero, List.set_cons_succ]
        refine late_last (by simp only [opsAt, List.getElem?_toArray, List.getElem?_cons_succ, List.getElem?_cons_zero]; rfl) (by simp only [List.getElem?_toArray, List.getElem?_cons_succ, List.getElem?_cons_zero]; rfl) ?_
        repeat (go_big_quiet_step (rfl))
        refine wpQuiet_nil ?_
        refine last_next rfl ?_
        intro w7 g7 C7 K hK
        obtain ⟨u7, rfl⟩ := C7
        refine wp_store_all (ds := scells Z) aggScr (GS.out.step u7.below) (scells_size _) (scells_size _) (scells_one _) (.tmp 7) (.tmp 40) rfl (by simp [Act.eval, Act.put]) (by simp [Act.eval, Act.put]) ?_
        refine hK _ _ ?_
        clear hK K
        simp only [Act.put, List.setIfInBounds_toArray, List.set_cons_zero, List.set_cons_succ]
        simp only [opsAt, List.getElem?_toArray, List.getElem?_cons_succ, List.getElem?_cons_zero]
        repeat (go_big_quiet_step (rfl))
        refine wpQuiet_nil ?_
        intro w8 g8
        have GS := Lib.hid (((GS.out.step u7.below).store Z).step g8)
        have BV := Lib.hid ((belowRow (CA.out u7) BQ.out (scells Z)).trans (g8.mono (by have := (CA.out u7).size; simp [World.setRow]; omega)))
        clear KS RG CA bd g7 g8
        go_wp2
        go_roundw
        case rel => exact ⟨k + 1, Z, doM M q, by omega, by go_num, GS.out, HZ.out.1, HZ.out.2, BV.out⟩
        case measure => simp [intOf]; omega
      · have k1 : ¬ (k : Int) < (n : Int) := by omega
        have CL := Lib.hid fun w => color8_any S x y HX.out.1.1 HX.out.1.2 HX.out.2.1 HX.out.2.2 w
        obtain ⟨f, hf⟩ : ∃ f : Nat → Bool, (fun i => pget (S.P i) x y) = f := ⟨_, rfl⟩
        have PX := Lib.hid fun (i : Nat) (w : World) => pxW (show pget (S.P i) x y = f i by rw [← hf]) HX.out.1.1 HX.out.1.2 HX.out.2.1 HX.out.2.2 w
        rw [hf] at CL
        clear hf
        obtain ⟨N, hN⟩ : ∃ N, colTo f 4 = N := ⟨_, rfl⟩
        have ON := Lib.hid fun (i : Nat) (hi : i < 4) => hN ▸ col_on f i hi
        have N1 := hN ▸ col_le f 4 (by omega)
        rw [hN] at CL
        clear hN
        go_upto_region 10 with fail
        refine wp_region_lit ?_
        refine list_load_all aggScr GS.out (scells_size _) rfl (.tmp 7) rfl (by simp [Act.eval]) ?_
        simp only [Act.put, List.setIfInBounds_toArray, List.set_cons_zero, List.set_cons_succ]
        go_wp2_with fail
        refine (CL.out _).mono ?_
        rintro e v4 ⟨rfl, b1⟩
        have GS := Lib.hid (GS.out.step b1)
        have BV := Lib.hid (BV.out.trans (b1.mono BV.out.size))
        clear b1 CL
        go_wp2
        go_loopw [10] (fun i wr => ∃ j : Nat, j ≤ 4 ∧ i = .int .i64 (j : Int) ∧ SB p S wr ∧ Below v0.heap.size v0 wr) (fun i _ => 4 - (intOf i).toNat)
        case atStart => exact ⟨0, by omega, rfl, GS.out, BV.out⟩
        case round =>
          clear GS BV
          obtain ⟨j, hj, rfl, hs, bv⟩ := hrel
          have GS := Lib.hid hs
          have BV := Lib.hid bv
          clear hs bv
          by_cases hjt : j < 4
          · have j1 : (j : Int) < 4 := by omega
            have j0 : 0 ≤ (j : Int) := by omega
            have h1 := ON.out j hjt
            obtain ⟨fj, hfj⟩ : ∃ v, f j = v := ⟨_, rfl⟩
            have PJ := Lib.hid fun w => hfj ▸ PX.out j w
            have OJ := Lib.hid fun w => (show onB N j = fj by rw [h1, hfj]) ▸ on_any N j w (by omega) (by omega)
            clear h1 hfj
            go_upto_region 14 with fail
            have KS := Lib.hid (fun (w' : World) (hw : ∃ u : Calm wr, w' = u.w) => show Blk p 32 (scells S) w' by obtain ⟨u, rfl⟩ := hw; exact GS.out.step u.below)
            refine calm_region (by kernel_rfl) (by kernel_rfl) ?_
            repeat (first
              | (refine quiet_load_part (o := j * 128) (n := 128) aggPl KS.out (by rw [scells_size]; omega) ?_ (.tmp 55) ?_ ?_ ?_; (focus rfl); (focus rfl); (focus (simp [Act.eval]; done)); (rw [sc_plane _ _ hjt]); simp only [Act.put, List.setIfInBounds_toArray, List.set_cons_zero, List.set_cons_succ])
              | go_big_quiet_step ((first
                | rfl
                | (go_at_call 16; exact calm_same (OJ.out _))
                | (go_at_call 23; exact calm_call (PJ.out _)))))
            refine wpQuiet_nil ?_
            intro _ hw'
            obtain ⟨u, rfl⟩ := hw'
            have GS := Lib.hid (GS.out.step u.below)
            have BV := Lib.hid (BV.out.trans (u.below.mono BV.out.size))
            clear KS PJ OJ
            generalize u.w = w3 at *
            cases fj
            all_goals
              go_wp2
              go_roundw
              case rel => exact ⟨j + 1, by omega, by go_num, GS.out, BV.out⟩
              case measure => simp [intOf]; omega
          · have j1 : ¬ (j : Int) < 4 := by omega
            have n1 : (N : Int) ≤ 15 := by omega
            have n0 : 0 ≤ (N : Int) := by omega
            go_wp2
            go_ret
            exact ⟨by simp [n1], BV.out⟩
end Go.Proofs.Ytplmmfgmbfcjpaa
