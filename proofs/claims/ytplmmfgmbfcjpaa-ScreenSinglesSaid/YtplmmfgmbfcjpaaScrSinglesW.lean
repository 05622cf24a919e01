/- The walk of ScreenSingles. -/
import Derived.Test.YtplmmfgmbfcjpaaScrAwake
import Derived.Test.YtplmmfgmbfcjpaaScrOpen
import Derived.Test.YtplmmfgmbfcjpaaScrOne
namespace Go.Proofs.Ytplmmfgmbfcjpaa
open Go.RowKit Go.Shelf Num
set_option linter.unusedVariables false
set_option linter.unusedSimpArgs false

set_option maxRecDepth 100000 in
set_option maxHeartbeats 8000000 in
theorem screenSingles_walk (A : Option Addr) (n c : Nat) (l : List (Stp × List Nat)) (a : Int) (q0 : Stp) (L0 : List Nat) (w : World) (H : Stps w A n l) (wa : (Lit.int .u8 a).wf = true) (X : StpOk q0 L0 w) :
    Calls Try.prog 5 #[.slice A n c, .int .u8 a, .agg (stc q0)] w fun e w' => e = .returned (.bool true) ∧ Below w.heap.size w w' := by
  obtain ⟨a0, a1⟩ := Num.bd_u8 wa
  obtain ⟨mk, rfl⟩ := Int.eq_ofNat_of_zero_le a0
  clear wa
  obtain ⟨kv, hkv⟩ : ∃ v, q0.k = v := ⟨_, rfl⟩
  obtain ⟨xv, hxv⟩ : ∃ v, q0.x = v := ⟨_, rfl⟩
  obtain ⟨yv, hyv⟩ : ∃ v, q0.y = v := ⟨_, rfl⟩
  obtain ⟨nv, hnv⟩ : ∃ v, q0.n = v := ⟨_, rfl⟩
  obtain ⟨bg, hbg⟩ : ∃ v, q0.big = v := ⟨_, rfl⟩
  obtain ⟨cl, hcl⟩ : ∃ v, q0.clip = v := ⟨_, rfl⟩
  obtain ⟨nn, hnn⟩ : ∃ nn : Nat, nv % 16 = (nn : Int) := ⟨(nv % 16).toNat, by omega⟩
  have n1 : nn ≤ 15 := by omega
  have MN := Lib.hid fun w => hnn ▸ smod_any nv 16 w (hnv ▸ X.n.1) (hnv ▸ X.n.2) (by omega) (by omega)
  obtain ⟨xx, hxx⟩ : ∃ xx : Nat, xv % 256 = (xx : Int) := ⟨(xv % 256).toNat, by omega⟩
  obtain ⟨yy, hyy⟩ : ∃ yy : Nat, yv % 256 = (yy : Int) := ⟨(yv % 256).toNat, by omega⟩
  have x1 : xx ≤ 255 := by omega
  have y1 : yy ≤ 255 := by omega
  have MX := Lib.hid fun w => hxx ▸ smod_any xv 256 w (hxv ▸ X.x.1) (hxv ▸ X.x.2) (by omega) (by omega)
  have MY := Lib.hid fun w => hyy ▸ smod_any yv 256 w (hyv ▸ X.y.1) (hyv ▸ X.y.2) (by omega) (by omega)
  have KK := Lib.hid hkv
  have HX := Lib.hid hxv
  have HY := Lib.hid hyv
  have HN := Lib.hid hnv
  have HB := Lib.hid hbg
  have HC := Lib.hid hcl
  have T0 := Lib.hid (Blk.new w 41 (stc q0))
  have B0 := Lib.hid (below_new w (.cells (stc q0) 41))
  have GL := Lib.hid (H.step B0.out)
  have XO := Lib.hid (X.step B0.out)
  have mx := H.max
  clear H X hkv hxv hyv hnv hbg hcl hnn hxx hyy
  go_enter Try.func5, Try.ntmps5
  go_wp2_with fail
  generalize w.alloc (.cells (stc q0) 41) = v0 at *
  refine (awake8 _).mono ?_
  rintro e v1 ⟨rfl, b1⟩
  have BV := Lib.hid b1
  clear b1
  by_cases hlen : 8 < n
  · have k1 : (8 : Int) < (n : Int) := by omega
    go_wp2_with fail
    refine (awake8 _).mono ?_
    rintro e v2 ⟨rfl, b1⟩
    have BV := Lib.hid (B0.out.trans ((BV.out.trans (b1.mono BV.out.size)).mono B0.out.size))
    clear b1
    go_wp2
    go_ret
    exact ⟨rfl, BV.out⟩
  · have k1 : ¬ (8 : Int) < (n : Int) := by omega
    go_wp2_with fail
    refine (new8_any _).mono ?_
    rintro e v2 ⟨rfl, b1⟩
    have BV := Lib.hid (BV.out.trans (b1.mono BV.out.size))
    clear b1
    simp only []
    go_at_K
    go_step
    refine list_var_all (ds := scells (blankS false 1)) aggScr zeroScr (scells_size _) (scells_size _) (scells_one _) rfl rfl rfl (.tmp 7) (.tmp 30) rfl (by simp [Act.eval, Act.put]) (by simp [Act.eval, Act.put]) ?_
    simp only [Act.put, List.setIfInBounds_toArray, List.set_cons_zero, List.set_cons_succ]
    have GS := Lib.hid (SB.new v2 (blankS false 1))
    have BQ := Lib.hid BV.out.size
    have BV := Lib.hid (BV.out.alloc BV.out.size (.cells (scells (blankS false 1)) 32))
    obtain ⟨p, hp⟩ : ∃ p, v2.heap.size = p := ⟨_, rfl⟩
    generalize v2.alloc (.cells (scells (blankS false 1)) 32) = v3 at *
    rw [hp] at GS BQ ⊢
    clear hp
    go_wp2
    go_loopw [8] (fun i wr => ∃ (k : Nat) (S : Sc) (M : Nat), k ≤ n ∧ i = .int .i64 (k : Int) ∧ SB p S wr ∧ S.M = (M : Int) ∧ M ≤ 15 ∧ Below v0.heap.size v0 wr) (fun i _ => n - (intOf i).toNat)
    case atStart => exact ⟨0, blankS false 1, 1, by omega, rfl, GS.out, rfl, by omega, BV.out⟩
    case round =>
      clear GS BV
      obtain ⟨k, S, M, hk, rfl, hs, hM, M1, bv⟩ := hrel
      have GS := Lib.hid hs
      have BV := Lib.hid bv
      have HM := Lib.hid (And.intro hM M1)
      clear hs hM M1 bv
      by_cases hlt : k < n
      · have k1 : (k : Int) < (n : Int) := by omega
        have k0 : 0 ≤ (k : Int) := by omega
        have hkl : k < l.length := by rw [GL.out.len]; exact hlt
        obtain ⟨b, o, hA, hb, hr, ok⟩ := GL.out.at_ k hkl
        subst hA
        obtain ⟨q, hq⟩ : ∃ q, q = l[k].1 := ⟨_, rfl⟩
        obtain ⟨L, hL⟩ : ∃ L, L = l[k].2 := ⟨_, rfl⟩
        rw [← hq] at hr ok
        rw [← hL] at ok
        clear hq hL
        have OK := Lib.hid ok
        have R0 := Lib.hid (show ∀ w', Below v0.heap.size v0 w' → w'.rangeAt b (o + k * 9) (stc q).toList from fun w' hw j v hv => (hw.cell (p := ⟨b, o + k * 9 + j, none⟩) hb).trans (hr j v hv))
        have ND := Lib.hid fun (w' : World) (hw : Below v0.heap.size v0 w') => needs_any S M HM.out.1 HM.out.2 q L w' (OK.out.step hw)
        have DO := Lib.hid fun (w' : World) (hw : Below v0.heap.size v0 w') => do_any S M HM.out.1 HM.out.2 q L w' (OK.out.step hw)
        obtain ⟨Z, hZ⟩ : ∃ Z, (doS S M q L).1 = Z := ⟨_, rfl⟩
        obtain ⟨cv, hcv⟩ : ∃ cv, (doS S M q L).2 = cv := ⟨_, rfl⟩
        rw [hZ, hcv] at DO
        have HZ := Lib.hid (show Z.M = (doM M q : Int) ∧ doM M q ≤ 15 by rw [← hZ]; exact ⟨doS_mask HM.out.1 q L, doM_le HM.out.2 q⟩)
        clear hZ hcv hr ok
        go_upto_region 7 with fail
        have CA := Lib.hid (show ∀ u : Calm wr, Below v0.heap.size v0 u.w from fun u => BV.out.trans (u.below.mono BV.out.size))
        have RG := Lib.hid (fun (w' : World) (hw : ∃ u : Calm wr, w' = u.w) => show w'.rangeAt b (o + k * 9) (stc q).toList by obtain ⟨u, rfl⟩ := hw; exact R0.out _ (CA.out u))
        have KS := Lib.hid (fun (w' : World) (hw : ∃ u : Calm wr, w' = u.w) => show Blk p 32 (scells S) w' by obtain ⟨u, rfl⟩ := hw; exact GS.out.step u.below)
        have NC := Lib.hid (fun u : Calm wr => ND.out u.w (CA.out u))
        refine calm_region (by kernel_rfl) (by kernel_rfl) ?_
        repeat (first
          | (refine quiet_load_all aggScr KS.out (scells_size _) ?_ (.tmp 7) ?_ ?_ ?_; (focus rfl); (focus rfl); (focus (simp [Act.eval]; done)); simp only [Act.put, List.setIfInBounds_toArray, List.set_cons_zero, List.set_cons_succ])
          | (refine quiet_load_at aggStp RG.out (stc_size _) ?_ (.tmp 40) ?_ ?_ ?_; (focus rfl); (focus rfl); (focus (simp [Act.eval, Addr.add_mid]; done)); simp only [Act.put, List.setIfInBounds_toArray, List.set_cons_zero, List.set_cons_succ])
          | go_big_quiet_step ((first
            | rfl
            | (go_at_call 11; exact calm_call (NC.out _)))))
        refine wpQuiet_nil ?_
        intro _ hw'
        obtain ⟨u, rfl⟩ := hw'
        have GS := Lib.hid (GS.out.step u.below)
        have BV := Lib.hid (CA.out u)
        clear KS RG NC CA
        generalize u.w = w3 at *
        go_upto_region 9 with fail
        have CA := Lib.hid (show ∀ u : Calm w3, Below v0.heap.size v0 u.w from fun u => BV.out.trans (u.below.mono BV.out.size))
        have RG := Lib.hid (fun (w' : World) (hw : ∃ u : Calm w3, w' = u.w) => show w'.rangeAt b (o + k * 9) (stc q).toList by obtain ⟨u, rfl⟩ := hw; exact R0.out _ (CA.out u))
        have KS := Lib.hid (fun (w' : World) (hw : ∃ u : Calm w3, w' = u.w) => show Blk p 32 (scells S) w' by obtain ⟨u, rfl⟩ := hw; exact GS.out.step u.below)
        refine wp_region_late (C := fun w' => ∃ u : Calm w3, w' = u.w) 9 [([0, 1, 2, 3, 4], 5, false)] [6, 7, 8] [] (by kernel_rfl) (by kernel_rfl) ?_ ?_ ⟨⟨w3.drew, (Below.refl _ _).drew⟩, rfl⟩ ?_
        · exact fun _ _ d _ _ h => by cases d <;> exact h
        · rintro _ w' ⟨u, rfl⟩ hg
          exact ⟨⟨w', u.below.trans (hg.mono u.below.size)⟩, rfl⟩
        intro wd hwd
        have bd := Lib.hid (show Below w3.heap.size w3 wd by rw [hwd]; exact (Below.refl _ _).drew)
        clear hwd
        refine late_real (by simp only [opsAt, List.getElem?_toArray, List.getElem?_cons_succ, List.getElem?_cons_zero]; rfl) (by simp only [List.getElem?_toArray, List.getElem?_cons_succ, List.getElem?_cons_zero]; rfl) ?_
        repeat (first
          | (refine quiet_load_all aggScr KS.out (scells_size _) ?_ (.tmp 7) ?_ ?_ ?_; (focus rfl); (focus rfl); (focus (simp [Act.eval]; done)); simp only [Act.put, List.setIfInBounds_toArray, List.set_cons_zero, List.set_cons_succ])
          | (refine quiet_load_at aggStp RG.out (stc_size _) ?_ (.tmp 48) ?_ ?_ ?_; (focus rfl); (focus rfl); (focus (simp [Act.eval, Addr.add_mid]; done)); simp only [Act.put, List.setIfInBounds_toArray, List.set_cons_zero, List.set_cons_succ])
          | go_big_quiet_step (rfl))
        refine wpQuiet_nil ?_
        refine real_next rfl ?_
        intro w5 g5 C5 K hK
        obtain ⟨u5, rfl⟩ := C5
        refine wp_call_fn (g := 12) (caps := #[]) (args := #[.agg (scells S), .agg (stc q)]) (.func 12) #[.tmp 45, .tmp 49] #[32, 41] rfl (enters_of Try.func12 (by kernel_rfl) rfl) rfl (by simp [Act.eval]) ?_
        refine (DO.out u5.w (CA.out u5)).mono ?_
        rintro e w6 ⟨rfl, b6⟩
        have bd := Lib.hid (u5.below.trans (b6.mono u5.below.size))
        clear b6 g5
        refine ⟨_, rfl, ?_⟩
        refine hK _ _ ⟨⟨w6, bd.out⟩, rfl⟩ ?_
        clear hK K
        simp only [Act.put, List.setIfInBounds_toArray, List.set_cons_zero, List.set_cons_succ]
        refine late_last (by simp only [opsAt, List.getElem?_toArray, List.getElem?_cons_succ, List.getElem?_cons_zero]; rfl) (by simp only [List.getElem?_toArray, List.getElem?_cons_succ, List.getElem?_cons_zero]; rfl) ?_
        repeat (go_big_quiet_step (rfl))
        refine wpQuiet_nil ?_
        refine last_next rfl ?_
        intro w7 g7 C7 K hK
        obtain ⟨u7, rfl⟩ := C7
        refine wp_store_all (ds := scells Z) aggScr (GS.out.step u7.below) (scells_size _) (scells_size _) (scells_one _) (.tmp 7) (.tmp 51) rfl (by simp [Act.eval, Act.put]) (by simp [Act.eval, Act.put]) ?_
        refine hK _ _ ?_
        clear hK K
        simp only [Act.put, List.setIfInBounds_toArray, List.set_cons_zero, List.set_cons_succ]
        simp only [opsAt, List.getElem?_toArray, List.getElem?_cons_succ, List.getElem?_cons_zero]
        repeat (go_big_quiet_step (rfl))
        refine wpQuiet_nil ?_
        intro w8 g8
        have GS := Lib.hid (((GS.out.step u7.below).store Z).step g8)
        have BV := Lib.hid ((belowRow (CA.out u7) BQ.out (scells Z)).trans (g8.mono (by have := (CA.out u7).size; simp [World.setRow]; omega)))
        clear KS RG CA bd g7 g8
        go_wp2
        go_roundw
        case rel => exact ⟨k + 1, Z, doM M q, by omega, by go_num, GS.out, HZ.out.1, HZ.out.2, BV.out⟩
        case measure => simp [intOf]; omega
      · have k1 : ¬ (k : Int) < (n : Int) := by omega
        clear GL
        obtain ⟨m, hm⟩ : ∃ m : Nat, (mk : Int) % 16 = (m : Int) := ⟨mk % 16, by omega⟩
        have m1 : m ≤ 15 := by omega
        have k5 : wr.cell? ⟨w.heap.size, 5, none⟩ = some (.int .i64 nv) := by rw [(T0.out.below BV.out T0.out.lt).cell, ← HN.out]; rfl
        go_wp2_with fail
        refine (MN.out _).mono ?_
        rintro e w' ⟨rfl, rfl⟩
        clear k5
        go_upto_region 12 with fail
        try rw [hm]
        obtain ⟨nd, hnd⟩ : ∃ nd, need m nn bg 4 = nd := ⟨_, rfl⟩
        have nd1 : nd ≤ 128 := by rw [← hnd]; exact need_le4 m nn bg (by omega)
        have ND := Lib.hid hnd
        have NR := Lib.hid fun w => hnd ▸ need_any m nn bg w (by omega) (by omega)
        obtain ⟨S2, hS2⟩ : ∃ S2, S.mask (m : Int) = S2 := ⟨_, rfl⟩
        have SEL := Lib.hid fun w => hS2 ▸ select8_any S (m : Int) w
        have M2 := Lib.hid (show S2.M = (m : Int) by rw [← hS2]; rfl)
        have WA := Lib.hid (show p < wr.heap.size from GS.out.lt)
        clear hnd hS2 hm
        have CA := Lib.hid (show ∀ u : Calm wr, Below v0.heap.size v0 u.w from fun u => BV.out.trans (u.below.mono BV.out.size))
        have k6 : ∀ u : Calm wr, u.w.cell? ⟨w.heap.size, 6, none⟩ = some (.bool bg) := fun u => by rw [(T0.out.below (CA.out u) T0.out.lt).cell, ← HB.out]; rfl
        have k8 : ∀ u : Calm wr, u.w.cell? ⟨w.heap.size, 8, none⟩ = some (.slice q0.A q0.len q0.cap) := fun u => by rw [(T0.out.below (CA.out u) T0.out.lt).cell]; rfl
        refine wp_region_late (C := fun w' => ∃ u : Calm wr, w' = u.w) 7 [([0, 1, 2, 3, 4, 5], 6, true)] [] [8] (by kernel_rfl) (by kernel_rfl) ?_ ?_ ⟨⟨wr.drew, (Below.refl _ _).drew⟩, rfl⟩ ?_
        · exact fun _ _ d _ _ h => by cases d <;> exact h
        · rintro _ w' ⟨u, rfl⟩ hg
          exact ⟨⟨w', u.below.trans (hg.mono u.below.size)⟩, rfl⟩
        intro wd hwd
        have bd := Lib.hid (show Below wr.heap.size wr wd by rw [hwd]; exact (Below.refl _ _).drew)
        clear hwd
        clear bd
        refine late_calm (by simp only [opsAt, List.getElem?_toArray, List.getElem?_cons_succ, List.getElem?_cons_zero]; rfl) (by simp only [List.getElem?_toArray, List.getElem?_cons_succ, List.getElem?_cons_zero]; rfl) ?_
        repeat (go_big_quiet_step (rfl))
        refine wpQuiet_nil ?_
        refine calm_next (v := .int .i64 (nd : Int)) (calm_fn (g := 19) (caps := #[]) (args := #[.int .i64 (m : Int), .int .i64 (nn : Int), .bool bg]) (.func 19) #[.tmp 61, .tmp 62, .tmp 64] #[3, 3, 4] rfl rfl (enters_of Try.func19 (by kernel_rfl) rfl) (fun w' hw => (NR.out w').mono fun e w'' h => ⟨h.1, by rw [← h.2]; exact Gr.refl _⟩) rfl (by simp [Act.eval])) ?_
        simp only [Act.put, List.setIfInBounds_toArray, List.set_cons_zero, List.set_cons_succ]
        refine late_last (by simp only [opsAt, List.getElem?_toArray, List.getElem?_cons_succ, List.getElem?_cons_zero]; rfl) (by simp only [List.getElem?_toArray, List.getElem?_cons_succ, List.getElem?_cons_zero]; rfl) ?_
        repeat (go_big_quiet_step (rfl))
        refine wpQuiet_nil ?_
        refine last_next rfl ?_
        intro w5 g5 C5 K hK
        obtain ⟨u5, rfl⟩ := C5
        refine wp_call_fn (g := 18) (caps := #[]) (args := #[.slice q0.A q0.len q0.cap, .int .i64 (nd : Int)]) (.func 18) #[.tmp 60, .tmp 65] #[39, 3] rfl (enters_of Try.func18 (by kernel_rfl) rfl) rfl (by simp [Act.eval]) ?_
        refine (fill_any q0.A L0 q0.len q0.cap nd u5.w (XO.out.rd.step (CA.out u5)) XO.out.len XO.out.max (by omega)).mono ?_
        rintro e w6 ⟨gd, rfl, hg, hB, b6⟩
        refine ⟨_, rfl, ?_⟩
        refine hK _ _ ?_
        clear hK K
        simp only [Act.put, List.setIfInBounds_toArray, List.set_cons_zero, List.set_cons_succ]
        simp only [opsAt, List.getElem?_toArray, List.getElem?_cons_succ, List.getElem?_cons_zero]
        repeat (go_big_quiet_step (rfl))
        refine wpQuiet_nil ?_
        intro v4 g8
        have GB := Lib.hid (Dat.step (F := fillF L0) ⟨hB.lt, fun j hj => hB.at_ j hj⟩ g8)
        have LD := Lib.hid (Nat.le_trans u5.below.size hg)
        have B8 := Lib.hid ((u5.below.trans (b6.mono u5.below.size)).trans (g8.mono (Nat.le_trans u5.below.size b6.size)))
        have GS := Lib.hid (GS.out.step B8.out)
        have BV := Lib.hid (BV.out.trans (B8.out.mono BV.out.size))
        clear B8 hB b6 hg g8 g5 u5 CA k6 k8
        have PG := Lib.hid (show p ≠ gd by have := WA.out; have := LD.out; omega)
        clear LD WA
        go_upto_region 13 with fail
        refine wp_region_lit ?_
        refine list_load_all aggScr GS.out (scells_size _) rfl (.tmp 7) rfl (by simp [Act.eval, Act.put]) ?_
        simp only [Act.put, List.setIfInBounds_toArray, List.set_cons_zero, List.set_cons_succ]
        go_wp2_with fail
        refine (SEL.out _).mono ?_
        rintro e v5 ⟨rfl, b1⟩
        have GS := Lib.hid (GS.out.step b1)
        have GB := Lib.hid (GB.out.step b1)
        have BV := Lib.hid (BV.out.trans (b1.mono BV.out.size))
        clear b1
        simp only []
        go_at_K
        go_step
        refine list_store_all (ds := scells S2) aggScr GS.out (scells_size _) (scells_size _) (scells_one _) rfl (.tmp 7) (.tmp 69) rfl (by simp [Act.eval, Act.put]) (by simp [Act.eval, Act.put]) ?_
        simp only [Act.put, List.setIfInBounds_toArray, List.set_cons_zero, List.set_cons_succ]
        have GS := Lib.hid (GS.out.store S2)
        have GB := Lib.hid (GB.out.otherRow (fun h => PG.out h.symm) (scells S2))
        have BV := Lib.hid (belowRow BV.out BQ.out (scells S2))
        generalize v5.setRow p (scells S2) = v6 at *
        obtain ⟨FF, hFF⟩ : ∃ FF, fillF L0 = FF := ⟨_, rfl⟩
        have FL := Lib.hid (show ∀ j, FF j ≤ 255 by rw [← hFF]; exact fill_le XO.out.le)
        rw [hFF] at GB
        obtain ⟨Z, hZ⟩ : ∃ Z, drZ FF S2 m nn bg cl xx yy = Z := ⟨_, rfl⟩
        obtain ⟨cv, hcv⟩ : ∃ v, coZ FF S2 m nn bg cl xx yy = v := ⟨_, rfl⟩
        have HZ := Lib.hid (And.intro hZ hcv)
        have D1 := Lib.hid fun (w' : World) (hD : DatA gd 0 FF nd (some ⟨gd, 0, none⟩) w') => hcv ▸ hZ ▸ drawM S2 m nn M2.out m1 n1 bg cl xx yy x1 y1 FF FL.out gd 0 nd (some ⟨gd, 0, none⟩) nd ND.out (Nat.le_refl _) (by omega) w' hD
        clear hFF hZ hcv SEL
        have DW := Lib.hid fun (w' : World) (hw : ∃ u : Calm v6, w' = u.w) => D1.out w' (by obtain ⟨u, rfl⟩ := hw; exact (GB.out.step u.below).all)
        go_upto_region 14 with fail
        have BVO := Lib.hid BV.out.size
        have CA := Lib.hid (show ∀ u : Calm v6, Below v0.heap.size v0 u.w from fun u => BV.out.trans (u.below.mono BV.out.size))
        have k3 : ∀ u : Calm v6, u.w.cell? ⟨w.heap.size, 3, none⟩ = some (.int .i64 xv) := fun u => by rw [(T0.out.below (CA.out u) T0.out.lt).cell, ← HX.out]; rfl
        have k4 : ∀ u : Calm v6, u.w.cell? ⟨w.heap.size, 4, none⟩ = some (.int .i64 yv) := fun u => by rw [(T0.out.below (CA.out u) T0.out.lt).cell, ← HY.out]; rfl
        have k6 : ∀ u : Calm v6, u.w.cell? ⟨w.heap.size, 6, none⟩ = some (.bool bg) := fun u => by rw [(T0.out.below (CA.out u) T0.out.lt).cell, ← HB.out]; rfl
        have k7 : ∀ u : Calm v6, u.w.cell? ⟨w.heap.size, 7, none⟩ = some (.bool cl) := fun u => by rw [(T0.out.below (CA.out u) T0.out.lt).cell, ← HC.out]; rfl
        have KS := Lib.hid (fun (w' : World) (hw : ∃ u : Calm v6, w' = u.w) => show Blk p 32 (scells S2) w' by obtain ⟨u, rfl⟩ := hw; exact GS.out.step u.below)
        refine wp_region_late (C := fun w' => ∃ u : Calm v6, w' = u.w) 18 [([0, 1, 2, 4, 5, 7, 8, 9, 10, 11, 12], 3, true), ([], 6, true), ([], 13, true), ([14, 15, 16], 17, false)] [] [19] (by kernel_rfl) (by kernel_rfl) ?_ ?_ ⟨⟨v6.drew, (Below.refl _ _).drew⟩, rfl⟩ ?_
        · exact fun _ _ d _ _ h => by cases d <;> exact h
        · rintro _ w' ⟨u, rfl⟩ hg
          exact ⟨⟨w', u.below.trans (hg.mono u.below.size)⟩, rfl⟩
        intro wd hwd
        have bd := Lib.hid (show Below v6.heap.size v6 wd by rw [hwd]; exact (Below.refl _ _).drew)
        clear hwd
        clear bd
        refine late_calm (by simp only [opsAt, List.getElem?_toArray, List.getElem?_cons_succ, List.getElem?_cons_zero]; rfl) (by simp only [List.getElem?_toArray, List.getElem?_cons_succ, List.getElem?_cons_zero]; rfl) ?_
        repeat (first
          | (refine quiet_load_all aggScr KS.out (scells_size _) ?_ (.tmp 7) ?_ ?_ ?_; (focus rfl); (focus rfl); (focus (simp [Act.eval]; done)); simp only [Act.put, List.setIfInBounds_toArray, List.set_cons_zero, List.set_cons_succ])
          | go_big_quiet_step (rfl))
        refine wpQuiet_nil ?_
        refine calm_next (v := .int .i64 (xx : Int)) (calm_fn (g := 17) (caps := #[]) (args := #[.int .i64 xv, .int .i64 256]) (.func 17) #[.tmp 73, .const (.int .i64 256)] #[3, 3] rfl rfl (enters_of Try.func17 (by kernel_rfl) rfl) (fun w' hw => (MX.out w').mono fun e w'' h => ⟨h.1, by rw [← h.2]; exact Gr.refl _⟩) rfl (by simp [Act.eval])) ?_
        simp only [Act.put, List.setIfInBounds_toArray, List.set_cons_zero, List.set_cons_succ]
        refine late_calm (by simp only [opsAt, List.getElem?_toArray, List.getElem?_cons_succ, List.getElem?_cons_zero]; rfl) (by simp only [List.getElem?_toArray, List.getElem?_cons_succ, List.getElem?_cons_zero]; rfl) ?_
        repeat (go_big_quiet_step (rfl))
        refine wpQuiet_nil ?_
        refine calm_next (v := .int .i64 (yy : Int)) (calm_fn (g := 17) (caps := #[]) (args := #[.int .i64 yv, .int .i64 256]) (.func 17) #[.tmp 76, .const (.int .i64 256)] #[3, 3] rfl rfl (enters_of Try.func17 (by kernel_rfl) rfl) (fun w' hw => (MY.out w').mono fun e w'' h => ⟨h.1, by rw [← h.2]; exact Gr.refl _⟩) rfl (by simp [Act.eval])) ?_
        simp only [Act.put, List.setIfInBounds_toArray, List.set_cons_zero, List.set_cons_succ]
        refine late_calm (by simp only [opsAt, List.getElem?_toArray, List.getElem?_cons_succ, List.getElem?_cons_zero]; rfl) (by simp only [List.getElem?_toArray, List.getElem?_cons_succ, List.getElem?_cons_zero]; rfl) ?_
        repeat (go_big_quiet_step (rfl))
        refine wpQuiet_nil ?_
        refine calm_next (v := .tuple #[.agg (scells Z), .bool cv]) (calm_fn (g := 20) (caps := #[]) (args := #[.agg (scells S2), .int .i64 (xx : Int), .int .i64 (yy : Int), .int .i64 (nn : Int), .bool bg, .bool cl, .slice (some ⟨gd, 0, none⟩) nd nd]) (.func 20) #[.tmp 71, .tmp 74, .tmp 77, .tmp 78, .tmp 80, .tmp 82, .tmp 83] #[32, 3, 3, 3, 4, 4, 39] rfl rfl (enters_of Try.func20 (by kernel_rfl) rfl) (fun w' hw => DW.out w' hw) rfl (by simp [Act.eval])) ?_
        simp only [Act.put, List.setIfInBounds_toArray, List.set_cons_zero, List.set_cons_succ]
        clear KS k3 k4 k6 k7
        refine late_real (by simp only [opsAt, List.getElem?_toArray, List.getElem?_cons_succ, List.getElem?_cons_zero]; rfl) (by simp only [List.getElem?_toArray, List.getElem?_cons_succ, List.getElem?_cons_zero]; rfl) ?_
        repeat (go_big_quiet_step (rfl))
        refine wpQuiet_nil ?_
        refine real_next rfl ?_
        intro w5 g5 C5 K hK
        obtain ⟨u5, rfl⟩ := C5
        refine wp_alloc zeroScr rfl ?_
        refine hK _ _ ⟨⟨u5.w.alloc (.cells (scells (blankS false 0)) 32), u5.below.alloc u5.below.size _⟩, rfl⟩ ?_
        clear hK K g5
        simp only [Act.put, List.setIfInBounds_toArray, List.set_cons_zero, List.set_cons_succ]
        have G5 := Lib.hid (SB.new u5.w (blankS false 0))
        have Z5 := Lib.hid u5.below.size
        obtain ⟨gv7, hg⟩ : ∃ g, u5.w.heap.size = g := ⟨_, rfl⟩
        generalize u5.w.alloc (.cells (scells (blankS false 0)) 32) = w6 at *
        rw [hg] at G5 Z5 ⊢
        clear hg u5
        refine late_last (by simp only [opsAt, List.getElem?_toArray, List.getElem?_cons_succ, List.getElem?_cons_zero]; rfl) (by simp only [List.getElem?_toArray, List.getElem?_cons_succ, List.getElem?_cons_zero]; rfl) ?_
        repeat (go_big_quiet_step (rfl))
        refine wpQuiet_nil ?_
        refine last_next rfl ?_
        intro w7 g7 C7 K hK
        obtain ⟨u7, rfl⟩ := C7
        refine wp_store_all (ds := scells Z) aggScr (G5.out.step g7) (scells_size _) (scells_size _) (scells_one _) (.tmp 12) (.tmp 85) rfl (by simp [Act.eval, Act.put]) (by simp [Act.eval, Act.put]) ?_
        refine hK _ _ ?_
        clear hK K
        simp only [Act.put, List.setIfInBounds_toArray, List.set_cons_zero, List.set_cons_succ]
        simp only [opsAt, List.getElem?_toArray, List.getElem?_cons_succ, List.getElem?_cons_zero]
        repeat (go_big_quiet_step (rfl))
        refine wpQuiet_nil ?_
        intro v7 g8
        have GT := Lib.hid (((G5.out.step g7).store Z).step g8)
        have B8 := Lib.hid ((belowRow u7.below Z5.out (scells Z)).trans (g8.mono (by have := u7.below.size; simp [World.setRow]; omega)))
        have GS := Lib.hid (GS.out.step B8.out)
        have GB := Lib.hid (GB.out.step B8.out)
        have BV := Lib.hid (BV.out.trans (B8.out.mono BV.out.size))
        have Qgv7 := Lib.hid (show v0.heap.size ≤ gv7 from Nat.le_trans BVO.out Z5.out)
        clear B8 G5 Z5 g7 g8 CA u7
        clear DW D1
        go_upto_region 15 with fail
        refine wp_region_lit ?_
        refine list_load_all aggScr GS.out (scells_size _) rfl (.tmp 7) rfl (by simp [Act.eval, Act.put]) ?_
        simp only [Act.put, List.setIfInBounds_toArray, List.set_cons_zero, List.set_cons_succ]
        refine list_var_all (ds := scells S2) aggScr zeroScr (scells_size _) (scells_size _) (scells_one _) rfl rfl rfl (.tmp 14) (.tmp 87) rfl (by simp [Act.eval, Act.put]) (by simp [Act.eval, Act.put]) ?_
        simp only [Act.put, List.setIfInBounds_toArray, List.set_cons_zero, List.set_cons_succ]
        have GU := Lib.hid (SB.new v7 S2)
        have NU := Lib.hid (show gd < v7.heap.size ∧ gv7 < v7.heap.size ∧ v0.heap.size ≤ v7.heap.size from ⟨GB.out.lt, GT.out.lt, BV.out.size⟩)
        have GT := Lib.hid (GT.out.alloc (.cells (scells S2) 32))
        have GB := Lib.hid (GB.out.step ((Below.refl v7.heap.size v7).alloc (Nat.le_refl _) (.cells (scells S2) 32)))
        have BV := Lib.hid (BV.out.alloc BV.out.size (.cells (scells S2) 32))
        obtain ⟨gu, hgu⟩ : ∃ g, v7.heap.size = g := ⟨_, rfl⟩
        generalize v7.alloc (.cells (scells S2) 32) = v8 at *
        rw [hgu] at GU NU ⊢
        clear hgu GS
        go_wp2
        go_loopw [15, 16, 17, 18] (fun sm fr bt i wr => ∃ (j f b : Nat) (sv : Bool) (U : Sc), j ≤ 4 ∧ sm = .bool sv ∧ fr = .int .i64 (f : Int) ∧ bt = .int .i64 (b : Int) ∧ i = .int .i64 (j : Int) ∧ sv = anyT FF S2 m nn bg cl xx yy j ∧ f = need m nn bg j ∧ b = 2 ^ j ∧ (∀ i, i < 4 → U.P i = uTo FF S2 m nn bg cl xx yy j i) ∧ U.hi = S2.hi ∧ SB gv7 Z wr ∧ SB gu U wr ∧ Dat gd nd FF wr ∧ Below v0.heap.size v0 wr) (fun _ _ _ i _ => 4 - (intOf i).toNat)
        case atStart => exact ⟨0, 0, 1, false, S2, by omega, rfl, rfl, rfl, rfl, (one_first FF S2 m nn bg cl xx yy).2.symm, rfl, rfl, (one_first FF S2 m nn bg cl xx yy).1, rfl, GT.out, GU.out, GB.out, BV.out⟩
        case round =>
          clear GT GU GB BV
          obtain ⟨j, f, bt, sv, U, hj, rfl, rfl, rfl, rfl, hsv, hf, hbt, hU, hhi, gt, gu', gb, bv⟩ := hrel
          have GT := Lib.hid gt
          have GU := Lib.hid gu'
          have GB := Lib.hid gb
          have BV := Lib.hid bv
          have HS := Lib.hid hsv
          have HF := Lib.hid hf
          have HT := Lib.hid hbt
          have HU := Lib.hid (And.intro hU hhi)
          have f1 : f ≤ 128 := by rw [hf]; exact Nat.le_trans (need_mono m nn bg hj) (need_le4 m nn bg (by omega))
          clear gt gu' gb bv hsv hf hbt hU hhi
          by_cases hjt : j < 4
          · have j1 : (j : Int) < 4 := by omega
            have b8 : bt ≤ 8 := by rw [HT.out]; rcases (show j = 0 ∨ j = 1 ∨ j = 2 ∨ j = 3 by omega) with rfl | rfl | rfl | rfl <;> decide
            obtain ⟨bj, hbj⟩ : ∃ v, onB m j = v := ⟨_, rfl⟩
            have OJ := Lib.hid fun w => hbj ▸ on_any m j w (by omega) (by omega)
            have HJ := Lib.hid hbj
            clear hbj
            go_wp2_with fail
            refine (OJ.out _).mono ?_
            rintro e w' ⟨rfl, rfl⟩
            clear OJ
            cases bj
            · go_wp2
              go_roundw
              case rel =>
                refine ⟨j + 1, f, 2 * bt, sv, U, by omega, rfl, rfl, by go_num, by go_num, ?_, ?_, ?_, ?_, HU.out.2, GT.out, GU.out, GB.out, BV.out⟩
                · rw [HS.out, (one_skip FF S2 m nn bg cl xx yy j hjt HJ.out).2]
                · rw [HF.out, need_stay m nn bg j HJ.out]
                · rw [HT.out, Nat.pow_succ, Nat.mul_comm]
                · exact fun i hi => (HU.out.1 i hi).trans ((one_skip FF S2 m nn bg cl xx yy j hjt HJ.out).1 i hi).symm
              case measure => simp [intOf]; omega
            · obtain ⟨pr, hpr⟩ : ∃ pr, per nn bg = pr := ⟨_, rfl⟩
              have PR := Lib.hid fun w => hpr ▸ per_any nn bg w
              have HP := Lib.hid hpr
              have fp : f + pr ≤ nd := by
                rw [HF.out, ← hpr, ← need_next m nn bg j HJ.out, ← ND.out]
                exact need_mono m nn bg (by omega)
              have k6 : wr.cell? ⟨w.heap.size, 6, none⟩ = some (.bool bg) := by rw [(T0.out.below BV.out T0.out.lt).cell, ← HB.out]; rfl
              clear hpr
              go_wp2_with fail
              refine (PR.out _).mono ?_
              rintro e w' ⟨rfl, rfl⟩
              clear PR k6
              have i0 : 0 ≤ (f : Int) + (pr : Int) := by omega
              have i1 : (f : Int) + (pr : Int) ≤ 128 := by omega
              go_upto_region 24 with fail
              obtain ⟨tt, htt⟩ : ∃ tt : Nat, (f : Int) + (pr : Int) = (tt : Int) := ⟨f + pr, by omega⟩
              have TF := Lib.hid (show tt = f + pr by omega)
              rw [htt]
              clear i0 i1
              have ONE := one_step FF S2 m nn bg cl xx yy j hjt HJ.out U HU.out.1 HU.out.2
              rw [← HF.out, ← HT.out] at ONE
              obtain ⟨U1, hU1⟩ : ∃ Z, U.mask ((bt : Nat) : Int) = Z := ⟨_, rfl⟩
              rw [hU1] at ONE
              have SEL := Lib.hid fun w => hU1 ▸ select8_any U (bt : Int) w
              have MU := Lib.hid (show U1.M = (bt : Int) by rw [← hU1]; rfl)
              have HV := Lib.hid (show (drZ (fun k => FF (f + k)) U1 bt nn bg cl xx yy).hi = S2.hi by rw [drZ_hi, ← hU1]; exact HU.out.2)
              obtain ⟨V, hV⟩ : ∃ Z, drZ (fun k => FF (f + k)) U1 bt nn bg cl xx yy = Z := ⟨_, rfl⟩
              obtain ⟨hv, hhv⟩ : ∃ v, coZ (fun k => FF (f + k)) U1 bt nn bg cl xx yy = v := ⟨_, rfl⟩
              have D1 := Lib.hid fun (w' : World) (hD : DatA gd f (fun k => FF (f + k)) pr (cutA gd nd f) w') => hhv ▸ hV ▸ drawM U1 bt nn MU.out (by omega) n1 bg cl xx yy x1 y1 (fun k => FF (f + k)) (fun k => FL.out _) gd f pr (cutA gd nd f) (nd - f) (by rw [HT.out, need_pow j nn bg hjt]; exact HP.out) (by omega) (by omega) w' hD
              rw [hV, hhv] at ONE
              rw [hV] at HV
              have ON := Lib.hid ONE
              clear ONE hU1 hV hhv htt
              have DW := Lib.hid fun (w' : World) (hw : ∃ u : Calm wr, w' = u.w) => D1.out w' (by obtain ⟨u, rfl⟩ := hw; exact (GB.out.step u.below).cut fp)
              have NV := Lib.hid (show gd < wr.heap.size ∧ gv7 < wr.heap.size ∧ gu < wr.heap.size from ⟨GB.out.lt, GT.out.lt, GU.out.lt⟩)
              have BVO := Lib.hid BV.out.size
              have CA := Lib.hid (show ∀ u : Calm wr, Below v0.heap.size v0 u.w from fun u => BV.out.trans (u.below.mono BV.out.size))
              have k3 : ∀ u : Calm wr, u.w.cell? ⟨w.heap.size, 3, none⟩ = some (.int .i64 xv) := fun u => by rw [(T0.out.below (CA.out u) T0.out.lt).cell, ← HX.out]; rfl
              have k4 : ∀ u : Calm wr, u.w.cell? ⟨w.heap.size, 4, none⟩ = some (.int .i64 yv) := fun u => by rw [(T0.out.below (CA.out u) T0.out.lt).cell, ← HY.out]; rfl
              have k6 : ∀ u : Calm wr, u.w.cell? ⟨w.heap.size, 6, none⟩ = some (.bool bg) := fun u => by rw [(T0.out.below (CA.out u) T0.out.lt).cell, ← HB.out]; rfl
              have k7 : ∀ u : Calm wr, u.w.cell? ⟨w.heap.size, 7, none⟩ = some (.bool cl) := fun u => by rw [(T0.out.below (CA.out u) T0.out.lt).cell, ← HC.out]; rfl
              have KS := Lib.hid (fun (w' : World) (hw : ∃ u : Calm wr, w' = u.w) => show Blk gu 32 (scells U) w' by obtain ⟨u, rfl⟩ := hw; exact GU.out.step u.below)
              refine wp_region_late (C := fun w' => ∃ u : Calm wr, w' = u.w) 23 [([0, 1, 3, 4, 6, 7, 9, 10, 11, 12, 13, 14, 15, 16, 17], 2, true), ([], 5, true), ([], 8, true), ([], 18, true), ([19, 20, 21], 22, false)] [] [24] (by kernel_rfl) (by kernel_rfl) ?_ ?_ ⟨⟨wr.drew, (Below.refl _ _).drew⟩, rfl⟩ ?_
              · exact fun _ _ d _ _ h => by cases d <;> exact h
              · rintro _ w' ⟨u, rfl⟩ hg
                exact ⟨⟨w', u.below.trans (hg.mono u.below.size)⟩, rfl⟩
              intro wd hwd
              have bd := Lib.hid (show Below wr.heap.size wr wd by rw [hwd]; exact (Below.refl _ _).drew)
              clear hwd
              clear bd
              refine late_calm (by simp only [opsAt, List.getElem?_toArray, List.getElem?_cons_succ, List.getElem?_cons_zero]; rfl) (by simp only [List.getElem?_toArray, List.getElem?_cons_succ, List.getElem?_cons_zero]; rfl) ?_
              repeat (first
                | (refine quiet_load_all aggScr KS.out (scells_size _) ?_ (.tmp 14) ?_ ?_ ?_; (focus rfl); (focus rfl); (focus (simp [Act.eval]; done)); simp only [Act.put, List.setIfInBounds_toArray, List.set_cons_zero, List.set_cons_succ])
                | (refine quiet_run ?_ (.slice (cutA gd nd f) pr (nd - f)) (fun w' _ => exec_cut (fr := f) (tt := tt) (.tmp 116) (.tmp 117) (.tmp 118) rfl (by simp [Act.eval]) (by simp [Act.eval]) (by simp [Act.eval]) TF.out (by rw [TF.out]; exact fp) w') ?_; (focus rfl); simp only [Act.put, List.setIfInBounds_toArray, List.set_cons_zero, List.set_cons_succ])
                | go_big_quiet_step (rfl))
              refine wpQuiet_nil ?_
              refine calm_next (v := .agg (scells U1)) (calm_fn (g := 15) (caps := #[]) (args := #[.agg (scells U), .int .i64 (bt : Int)]) (.func 15) #[.tmp 102, .tmp 103] #[32, 3] rfl rfl (enters_of Try.func15 (by kernel_rfl) rfl) (fun w' hw => SEL.out w') rfl (by simp [Act.eval])) ?_
              simp only [Act.put, List.setIfInBounds_toArray, List.set_cons_zero, List.set_cons_succ]
              refine late_calm (by simp only [opsAt, List.getElem?_toArray, List.getElem?_cons_succ, List.getElem?_cons_zero]; rfl) (by simp only [List.getElem?_toArray, List.getElem?_cons_succ, List.getElem?_cons_zero]; rfl) ?_
              repeat (go_big_quiet_step (rfl))
              refine wpQuiet_nil ?_
              refine calm_next (v := .int .i64 (xx : Int)) (calm_fn (g := 17) (caps := #[]) (args := #[.int .i64 xv, .int .i64 256]) (.func 17) #[.tmp 106, .const (.int .i64 256)] #[3, 3] rfl rfl (enters_of Try.func17 (by kernel_rfl) rfl) (fun w' hw => (MX.out w').mono fun e w'' h => ⟨h.1, by rw [← h.2]; exact Gr.refl _⟩) rfl (by simp [Act.eval])) ?_
              simp only [Act.put, List.setIfInBounds_toArray, List.set_cons_zero, List.set_cons_succ]
              refine late_calm (by simp only [opsAt, List.getElem?_toArray, List.getElem?_cons_succ, List.getElem?_cons_zero]; rfl) (by simp only [List.getElem?_toArray, List.getElem?_cons_succ, List.getElem?_cons_zero]; rfl) ?_
              repeat (go_big_quiet_step (rfl))
              refine wpQuiet_nil ?_
              refine calm_next (v := .int .i64 (yy : Int)) (calm_fn (g := 17) (caps := #[]) (args := #[.int .i64 yv, .int .i64 256]) (.func 17) #[.tmp 109, .const (.int .i64 256)] #[3, 3] rfl rfl (enters_of Try.func17 (by kernel_rfl) rfl) (fun w' hw => (MY.out w').mono fun e w'' h => ⟨h.1, by rw [← h.2]; exact Gr.refl _⟩) rfl (by simp [Act.eval])) ?_
              simp only [Act.put, List.setIfInBounds_toArray, List.set_cons_zero, List.set_cons_succ]
              refine late_calm (by simp only [opsAt, List.getElem?_toArray, List.getElem?_cons_succ, List.getElem?_cons_zero]; rfl) (by simp only [List.getElem?_toArray, List.getElem?_cons_succ, List.getElem?_cons_zero]; rfl) ?_
              repeat (go_big_quiet_step (rfl))
              refine wpQuiet_nil ?_
              refine calm_next (v := .tuple #[.agg (scells V), .bool hv]) (calm_fn (g := 20) (caps := #[]) (args := #[.agg (scells U1), .int .i64 (xx : Int), .int .i64 (yy : Int), .int .i64 (nn : Int), .bool bg, .bool cl, .slice (cutA gd nd f) pr (nd - f)]) (.func 20) #[.tmp 104, .tmp 107, .tmp 110, .tmp 111, .tmp 113, .tmp 115, .tmp 119] #[32, 3, 3, 3, 4, 4, 39] rfl rfl (enters_of Try.func20 (by kernel_rfl) rfl) (fun w' hw => DW.out w' hw) rfl (by simp [Act.eval])) ?_
              simp only [Act.put, List.setIfInBounds_toArray, List.set_cons_zero, List.set_cons_succ]
              clear KS k3 k4 k6 k7
              refine late_real (by simp only [opsAt, List.getElem?_toArray, List.getElem?_cons_succ, List.getElem?_cons_zero]; rfl) (by simp only [List.getElem?_toArray, List.getElem?_cons_succ, List.getElem?_cons_zero]; rfl) ?_
              repeat (go_big_quiet_step (rfl))
              refine wpQuiet_nil ?_
              refine real_next rfl ?_
              intro w5 g5 C5 K hK
              obtain ⟨u5, rfl⟩ := C5
              refine wp_alloc zeroScr rfl ?_
              refine hK _ _ ⟨⟨u5.w.alloc (.cells (scells (blankS false 0)) 32), u5.below.alloc u5.below.size _⟩, rfl⟩ ?_
              clear hK K g5
              simp only [Act.put, List.setIfInBounds_toArray, List.set_cons_zero, List.set_cons_succ]
              have G5 := Lib.hid (SB.new u5.w (blankS false 0))
              have Z5 := Lib.hid u5.below.size
              obtain ⟨gv9, hg⟩ : ∃ g, u5.w.heap.size = g := ⟨_, rfl⟩
              generalize u5.w.alloc (.cells (scells (blankS false 0)) 32) = w6 at *
              rw [hg] at G5 Z5 ⊢
              clear hg u5
              refine late_last (by simp only [opsAt, List.getElem?_toArray, List.getElem?_cons_succ, List.getElem?_cons_zero]; rfl) (by simp only [List.getElem?_toArray, List.getElem?_cons_succ, List.getElem?_cons_zero]; rfl) ?_
              repeat (go_big_quiet_step (rfl))
              refine wpQuiet_nil ?_
              refine last_next rfl ?_
              intro w7 g7 C7 K hK
              obtain ⟨u7, rfl⟩ := C7
              refine wp_store_all (ds := scells V) aggScr (G5.out.step g7) (scells_size _) (scells_size _) (scells_one _) (.tmp 20) (.tmp 121) rfl (by simp [Act.eval, Act.put]) (by simp [Act.eval, Act.put]) ?_
              refine hK _ _ ?_
              clear hK K
              simp only [Act.put, List.setIfInBounds_toArray, List.set_cons_zero, List.set_cons_succ]
              simp only [opsAt, List.getElem?_toArray, List.getElem?_cons_succ, List.getElem?_cons_zero]
              repeat (go_big_quiet_step (rfl))
              refine wpQuiet_nil ?_
              intro v9 g8
              have GV := Lib.hid (((G5.out.step g7).store V).step g8)
              have B8 := Lib.hid ((belowRow u7.below Z5.out (scells V)).trans (g8.mono (by have := u7.below.size; simp [World.setRow]; omega)))
              have GT := Lib.hid (GT.out.step B8.out)
              have GU := Lib.hid (GU.out.step B8.out)
              have GB := Lib.hid (GB.out.step B8.out)
              have BV := Lib.hid (BV.out.trans (B8.out.mono BV.out.size))
              have Qgv9 := Lib.hid (show v0.heap.size ≤ gv9 from Nat.le_trans BVO.out Z5.out)
              clear B8 G5 Z5 g7 g8 CA u7
              clear DW D1 SEL
              go_upto_region 25 with fail
              refine wp_region_lit ?_
              refine list_load_all aggScr GV.out (scells_size _) rfl (.tmp 20) rfl (by simp [Act.eval, Act.put]) ?_
              simp only [Act.put, List.setIfInBounds_toArray, List.set_cons_zero, List.set_cons_succ]
              refine list_store_all (ds := scells V) aggScr GU.out (scells_size _) (scells_size _) (scells_one _) rfl (.tmp 14) (.tmp 123) rfl (by simp [Act.eval, Act.put]) (by simp [Act.eval, Act.put]) ?_
              simp only [Act.put, List.setIfInBounds_toArray, List.set_cons_zero, List.set_cons_succ]
              have GU := Lib.hid (GU.out.store V)
              have GT := Lib.hid (GT.out.otherRow (g := gu) (by have := NU.out; omega) (scells V))
              have GB := Lib.hid (GB.out.otherRow (b := gu) (by have := NU.out; omega) (scells V))
              have BV := Lib.hid (belowRow BV.out NU.out.2.2 (scells V))
              generalize v9.setRow gu (scells V) = v10 at *
              clear GV
              cases sv
              all_goals
                go_wp2
                go_roundw
                case rel =>
                  refine ⟨j + 1, tt, 2 * bt, _, V, by omega, rfl, rfl, by go_num, by go_num, ?_, ?_, ?_, ?_, HV.out, GT.out, GU.out, GB.out, BV.out⟩
                  · rw [← ON.out.2, ← HS.out]; rfl
                  · rw [TF.out, HF.out, need_next m nn bg j HJ.out, HP.out]
                  · rw [HT.out, Nat.pow_succ, Nat.mul_comm]
                  · exact ON.out.1
                case measure => simp [intOf]; omega
          · have j1 : ¬ (j : Int) < 4 := by omega
            have e4 : j = 4 := by omega
            have LA := one_last FF S2 m nn bg cl xx yy U (by have h := HU.out.1; rw [e4] at h; exact h) HU.out.2 M2.out
            obtain ⟨U4, hU4⟩ : ∃ Z, U.mask (m : Int) = Z := ⟨_, rfl⟩
            have SEL := Lib.hid fun w => hU4 ▸ select8_any U (m : Int) w
            rw [HZ.out.1, HZ.out.2, hU4] at LA
            have ES := LA.1
            obtain rfl : sv = cv := by rw [HS.out, e4]; exact LA.2
            clear LA hU4
            go_upto_region 29 with fail
            have KU := Lib.hid (fun (w' : World) (hw : ∃ u : Calm wr, w' = u.w) => show Blk gu 32 (scells U) w' by obtain ⟨u, rfl⟩ := hw; exact GU.out.step u.below)
            have KT := Lib.hid (fun (w' : World) (hw : ∃ u : Calm wr, w' = u.w) => show Blk gv7 32 (scells Z) w' by obtain ⟨u, rfl⟩ := hw; exact GT.out.step u.below)
            refine calm_region (by kernel_rfl) (by kernel_rfl) ?_
            repeat (first
              | (refine quiet_load_all aggScr KU.out (scells_size _) ?_ (.tmp 14) ?_ ?_ ?_; (focus rfl); (focus rfl); (focus (simp [Act.eval]; done)); simp only [Act.put, List.setIfInBounds_toArray, List.set_cons_zero, List.set_cons_succ])
              | (refine quiet_load_all aggScr KT.out (scells_size _) ?_ (.tmp 12) ?_ ?_ ?_; (focus rfl); (focus rfl); (focus (simp [Act.eval]; done)); simp only [Act.put, List.setIfInBounds_toArray, List.set_cons_zero, List.set_cons_succ])
              | (refine quiet_eqS ES ?_ (.tmp 133) (.tmp 134) 32 ?_ ?_ ?_ ?_; (focus rfl); (focus rfl); (focus (simp [Act.eval]; done)); (focus (simp [Act.eval]; done)); simp only [Act.put, List.setIfInBounds_toArray, List.set_cons_zero, List.set_cons_succ])
              | go_big_quiet_step ((first
                | rfl
                | (go_at_call 15; exact calm_call (SEL.out _)))))
            refine wpQuiet_nil ?_
            intro _ hw'
            obtain ⟨u, rfl⟩ := hw'
            have BV := Lib.hid (BV.out.trans (u.below.mono BV.out.size))
            have BF := Lib.hid (B0.out.trans (BV.out.mono B0.out.size))
            generalize u.w = v9 at *
            go_wp2
            go_ret
            exact ⟨by simp, BF.out⟩
end Go.Proofs.Ytplmmfgmbfcjpaa
