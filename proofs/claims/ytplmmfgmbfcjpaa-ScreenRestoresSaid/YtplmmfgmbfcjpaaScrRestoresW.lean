/- The walk of ScreenRestores. -/
import Derived.Test.YtplmmfgmbfcjpaaScrAwake
import Derived.Test.YtplmmfgmbfcjpaaScrOpen
import Derived.Test.YtplmmfgmbfcjpaaScrLawD
namespace Go.Proofs.Ytplmmfgmbfcjpaa
open Go.RowKit Go.Shelf Num
set_option linter.unusedVariables false
set_option linter.unusedSimpArgs false

theorem list_loadG {P : Program} {ops : Array Oper} {Q : Exit → Act → World → Prop} {ty T : TypeId} {n b : Nat} {cs : Array Value} {W : World} {o : Oper} {rest : List Oper} {a : Act} (A : AggT P ty n) (H : Blk b T cs W) (hn : cs.size = n) (hw : Region.wanted o (yielded ops a.tmps) = true) (x : Operand) (ho : o.op = .load ty x) (hx : a.eval x = .pointer (some ⟨b, 0, none⟩))
    (h : wpList P ops Q rest (a.put o.dst (.agg cs)) W) : wpList P ops Q (o :: rest) a W := by
  refine wpList_step fun K hK => ?_
  rw [if_pos hw]
  unfold Oper.wp
  rw [exec_load_all A H hn x ho hx]
  exact hK _ _ h
set_option maxRecDepth 100000 in
set_option maxHeartbeats 8000000 in
theorem screenRestores_walk (A : Option Addr) (n c : Nat) (l : List (Stp × List Nat)) (q0 : Stp) (L0 : List Nat) (w : World) (H : Stps w A n l) (X : StpOk q0 L0 w) :
    Calls Try.prog 7 #[.slice A n c, .agg (stc q0)] w fun e w' => e = .returned (.bool true) ∧ Below w.heap.size w w' := by
  obtain ⟨kv, hkv⟩ : ∃ v, q0.k = v := ⟨_, rfl⟩
  obtain ⟨xv, hxv⟩ : ∃ v, q0.x = v := ⟨_, rfl⟩
  obtain ⟨yv, hyv⟩ : ∃ v, q0.y = v := ⟨_, rfl⟩
  obtain ⟨nv, hnv⟩ : ∃ v, q0.n = v := ⟨_, rfl⟩
  obtain ⟨bg, hbg⟩ : ∃ v, q0.big = v := ⟨_, rfl⟩
  obtain ⟨cl, hcl⟩ : ∃ v, q0.clip = v := ⟨_, rfl⟩
  obtain ⟨nn, hnn⟩ : ∃ nn : Nat, nv % 16 = (nn : Int) := ⟨(nv % 16).toNat, by omega⟩
  have n1 : nn ≤ 15 := by omega
  have MN := Lib.hid fun w => hnn ▸ smod_any nv 16 w (hnv ▸ X.n.1) (hnv ▸ X.n.2) (by omega) (by omega)
  obtain ⟨xx, hxx⟩ : ∃ xx : Nat, xv % 256 = (xx : Int) := ⟨(xv % 256).toNat, by omega⟩
  obtain ⟨yy, hyy⟩ : ∃ yy : Nat, yv % 256 = (yy : Int) := ⟨(yv % 256).toNat, by omega⟩
  have x1 : xx ≤ 255 := by omega
  have y1 : yy ≤ 255 := by omega
  have MX := Lib.hid fun w => hxx ▸ smod_any xv 256 w (hxv ▸ X.x.1) (hxv ▸ X.x.2) (by omega) (by omega)
  have MY := Lib.hid fun w => hyy ▸ smod_any yv 256 w (hyv ▸ X.y.1) (hyv ▸ X.y.2) (by omega) (by omega)
  have KK := Lib.hid hkv
  have HX := Lib.hid hxv
  have HY := Lib.hid hyv
  have HN := Lib.hid hnv
  have HB := Lib.hid hbg
  have HC := Lib.hid hcl
  have T0 := Lib.hid (Blk.new w 41 (stc q0))
  have B0 := Lib.hid (below_new w (.cells (stc q0) 41))
  have GL := Lib.hid (H.step B0.out)
  have XO := Lib.hid (X.step B0.out)
  have mx := H.max
  clear H X hkv hxv hyv hnv hbg hcl hnn hxx hyy
  go_enter Try.func7, Try.ntmps7
  go_wp2_with fail
  generalize w.alloc (.cells (stc q0) 41) = v0 at *
  refine (awake8 _).mono ?_
  rintro e v1 ⟨rfl, b1⟩
  have BV := Lib.hid b1
  clear b1
  by_cases hlen : 8 < n
  · have k1 : (8 : Int) < (n : Int) := by omega
    go_wp2_with fail
    refine (awake8 _).mono ?_
    rintro e v2 ⟨rfl, b1⟩
    have BV := Lib.hid (B0.out.trans ((BV.out.trans (b1.mono BV.out.size)).mono B0.out.size))
    clear b1
    go_wp2
    go_ret
    exact ⟨rfl, BV.out⟩
  · have k1 : ¬ (8 : Int) < (n : Int) := by omega
    go_wp2_with fail
    refine (new8_any _).mono ?_
    rintro e v2 ⟨rfl, b1⟩
    have BV := Lib.hid (BV.out.trans (b1.mono BV.out.size))
    clear b1
    simp only []
    go_at_K
    go_step
    refine list_var_all (ds := scells (blankS false 1)) aggScr zeroScr (scells_size _) (scells_size _) (scells_one _) rfl rfl rfl (.tmp 5) (.tmp 23) rfl (by simp [Act.eval, Act.put]) (by simp [Act.eval, Act.put]) ?_
    simp only [Act.put, List.setIfInBounds_toArray, List.set_cons_zero, List.set_cons_succ]
    have GS := Lib.hid (SB.new v2 (blankS false 1))
    have BQ := Lib.hid BV.out.size
    have BV := Lib.hid (BV.out.alloc BV.out.size (.cells (scells (blankS false 1)) 32))
    obtain ⟨p, hp⟩ : ∃ p, v2.heap.size = p := ⟨_, rfl⟩
    generalize v2.alloc (.cells (scells (blankS false 1)) 32) = v3 at *
    rw [hp] at GS BQ ⊢
    clear hp
    go_wp2
    go_loopw [6] (fun i wr => ∃ (k : Nat) (S : Sc) (M : Nat), k ≤ n ∧ i = .int .i64 (k : Int) ∧ SB p S wr ∧ S.M = (M : Int) ∧ M ≤ 15 ∧ Below v0.heap.size v0 wr) (fun i _ => n - (intOf i).toNat)
    case atStart => exact ⟨0, blankS false 1, 1, by omega, rfl, GS.out, rfl, by omega, BV.out⟩
    case round =>
      clear GS BV
      obtain ⟨k, S, M, hk, rfl, hs, hM, M1, bv⟩ := hrel
      have GS := Lib.hid hs
      have BV := Lib.hid bv
      have HM := Lib.hid (And.intro hM M1)
      clear hs hM M1 bv
      by_cases hlt : k < n
      · have k1 : (k : Int) < (n : Int) := by omega
        have k0 : 0 ≤ (k : Int) := by omega
        have hkl : k < l.length := by rw [GL.out.len]; exact hlt
        obtain ⟨b, o, hA, hb, hr, ok⟩ := GL.out.at_ k hkl
        subst hA
        obtain ⟨q, hq⟩ : ∃ q, q = l[k].1 := ⟨_, rfl⟩
        obtain ⟨L, hL⟩ : ∃ L, L = l[k].2 := ⟨_, rfl⟩
        rw [← hq] at hr ok
        rw [← hL] at ok
        clear hq hL
        have OK := Lib.hid ok
        have R0 := Lib.hid (show ∀ w', Below v0.heap.size v0 w' → w'.rangeAt b (o + k * 9) (stc q).toList from fun w' hw j v hv => (hw.cell (p := ⟨b, o + k * 9 + j, none⟩) hb).trans (hr j v hv))
        have ND := Lib.hid fun (w' : World) (hw : Below v0.heap.size v0 w') => needs_any S M HM.out.1 HM.out.2 q L w' (OK.out.step hw)
        have DO := Lib.hid fun (w' : World) (hw : Below v0.heap.size v0 w') => do_any S M HM.out.1 HM.out.2 q L w' (OK.out.step hw)
        obtain ⟨Z, hZ⟩ : ∃ Z, (doS S M q L).1 = Z := ⟨_, rfl⟩
        obtain ⟨cv, hcv⟩ : ∃ cv, (doS S M q L).2 = cv := ⟨_, rfl⟩
        rw [hZ, hcv] at DO
        have HZ := Lib.hid (show Z.M = (doM M q : Int) ∧ doM M q ≤ 15 by rw [← hZ]; exact ⟨doS_mask HM.out.1 q L, doM_le HM.out.2 q⟩)
        clear hZ hcv hr ok
        go_upto_region 7 with fail
        have CA := Lib.hid (show ∀ u : Calm wr, Below v0.heap.size v0 u.w from fun u => BV.out.trans (u.below.mono BV.out.size))
        have RG := Lib.hid (fun (w' : World) (hw : ∃ u : Calm wr, w' = u.w) => show w'.rangeAt b (o + k * 9) (stc q).toList by obtain ⟨u, rfl⟩ := hw; exact R0.out _ (CA.out u))
        have KS := Lib.hid (fun (w' : World) (hw : ∃ u : Calm wr, w' = u.w) => show Blk p 32 (scells S) w' by obtain ⟨u, rfl⟩ := hw; exact GS.out.step u.below)
        have NC := Lib.hid (fun u : Calm wr => ND.out u.w (CA.out u))
        refine calm_region (by kernel_rfl) (by kernel_rfl) ?_
        repeat (first
          | (refine quiet_load_all aggScr KS.out (scells_size _) ?_ (.tmp 5) ?_ ?_ ?_; (focus rfl); (focus rfl); (focus (simp [Act.eval]; done)); simp only [Act.put, List.setIfInBounds_toArray, List.set_cons_zero, List.set_cons_succ])
          | (refine quiet_load_at aggStp RG.out (stc_size _) ?_ (.tmp 33) ?_ ?_ ?_; (focus rfl); (focus rfl); (focus (simp [Act.eval, Addr.add_mid]; done)); simp only [Act.put, List.setIfInBounds_toArray, List.set_cons_zero, List.set_cons_succ])
          | go_big_quiet_step ((first
            | rfl
            | (go_at_call 11; exact calm_call (NC.out _)))))
        refine wpQuiet_nil ?_
        intro _ hw'
        obtain ⟨u, rfl⟩ := hw'
        have GS := Lib.hid (GS.out.step u.below)
        have BV := Lib.hid (CA.out u)
        clear KS RG NC CA
        generalize u.w = w3 at *
        go_upto_region 9 with fail
        have CA := Lib.hid (show ∀ u : Calm w3, Below v0.heap.size v0 u.w from fun u => BV.out.trans (u.below.mono BV.out.size))
        have RG := Lib.hid (fun (w' : World) (hw : ∃ u : Calm w3, w' = u.w) => show w'.rangeAt b (o + k * 9) (stc q).toList by obtain ⟨u, rfl⟩ := hw; exact R0.out _ (CA.out u))
        have KS := Lib.hid (fun (w' : World) (hw : ∃ u : Calm w3, w' = u.w) => show Blk p 32 (scells S) w' by obtain ⟨u, rfl⟩ := hw; exact GS.out.step u.below)
        refine wp_region_late (C := fun w' => ∃ u : Calm w3, w' = u.w) 9 [([0, 1, 2, 3, 4], 5, false)] [6, 7, 8] [] (by kernel_rfl) (by kernel_rfl) ?_ ?_ ⟨⟨w3.drew, (Below.refl _ _).drew⟩, rfl⟩ ?_
        · exact fun _ _ d _ _ h => by cases d <;> exact h
        · rintro _ w' ⟨u, rfl⟩ hg
          exact ⟨⟨w', u.below.trans (hg.mono u.below.size)⟩, rfl⟩
        intro wd hwd
        have bd := Lib.hid (show Below w3.heap.size w3 wd by rw [hwd]; exact (Below.refl _ _).drew)
        clear hwd
        refine late_real (by simp only [opsAt, List.getElem?_toArray, List.getElem?_cons_succ, List.getElem?_cons_zero]; rfl) (by simp only [List.getElem?_toArray, List.getElem?_cons_succ, List.getElem?_cons_zero]; rfl) ?_
        repeat (first
          | (refine quiet_load_all aggScr KS.out (scells_size _) ?_ (.tmp 5) ?_ ?_ ?_; (focus rfl); (focus rfl); (focus (simp [Act.eval]; done)); simp only [Act.put, List.setIfInBounds_toArray, List.set_cons_zero, List.set_cons_succ])
          | (refine quiet_load_at aggStp RG.out (stc_size _) ?_ (.tmp 41) ?_ ?_ ?_; (focus rfl); (focus rfl); (focus (simp [Act.eval, Addr.add_mid]; done)); simp only [Act.put, List.setIfInBounds_toArray, List.set_cons_zero, List.set_cons_succ])
          | go_big_quiet_step (rfl))
        refine wpQuiet_nil ?_
        refine real_next rfl ?_
        intro w5 g5 C5 K hK
        obtain ⟨u5, rfl⟩ := C5
        refine wp_call_fn (g := 12) (caps := #[]) (args := #[.agg (scells S), .agg (stc q)]) (.func 12) #[.tmp 38, .tmp 42] #[32, 41] rfl (enters_of Try.func12 (by kernel_rfl) rfl) rfl (by simp [Act.eval]) ?_
        refine (DO.out u5.w (CA.out u5)).mono ?_
        rintro e w6 ⟨rfl, b6⟩
        have bd := Lib.hid (u5.below.trans (b6.mono u5.below.size))
        clear b6 g5
        refine ⟨_, rfl, ?_⟩
        refine hK _ _ ⟨⟨w6, bd.out⟩, rfl⟩ ?_
        clear hK K
        simp only [Act.put, List.setIfInBounds_toArray, List.set_cons_zero, List.set_cons_succ]
        refine late_last (by simp only [opsAt, List.getElem?_toArray, List.getElem?_cons_succ, List.getElem?_cons_zero]; rfl) (by simp only [List.getElem?_toArray, List.getElem?_cons_succ, List.getElem?_cons_zero]; rfl) ?_
        repeat (go_big_quiet_step (rfl))
        refine wpQuiet_nil ?_
        refine last_next rfl ?_
        intro w7 g7 C7 K hK
        obtain ⟨u7, rfl⟩ := C7
        refine wp_store_all (ds := scells Z) aggScr (GS.out.step u7.below) (scells_size _) (scells_size _) (scells_one _) (.tmp 5) (.tmp 44) rfl (by simp [Act.eval, Act.put]) (by simp [Act.eval, Act.put]) ?_
        refine hK _ _ ?_
        clear hK K
        simp only [Act.put, List.setIfInBounds_toArray, List.set_cons_zero, List.set_cons_succ]
        simp only [opsAt, List.getElem?_toArray, List.getElem?_cons_succ, List.getElem?_cons_zero]
        repeat (go_big_quiet_step (rfl))
        refine wpQuiet_nil ?_
        intro w8 g8
        have GS := Lib.hid (((GS.out.step u7.below).store Z).step g8)
        have BV := Lib.hid ((belowRow (CA.out u7) BQ.out (scells Z)).trans (g8.mono (by have := (CA.out u7).size; simp [World.setRow]; omega)))
        clear KS RG CA bd g7 g8
        go_wp2
        go_roundw
        case rel => exact ⟨k + 1, Z, doM M q, by omega, by go_num, GS.out, HZ.out.1, HZ.out.2, BV.out⟩
        case measure => simp [intOf]; omega
      · have k1 : ¬ (k : Int) < (n : Int) := by omega
        clear GL
        have MB := HM.out.2
        have m0 : decide ((M : Int) < 0) = false := decide_eq_false (by omega)
        have m15 : decide (15 < (M : Int)) = false := decide_eq_false (by omega)
        have c513 : wr.cell? ⟨p, 513, none⟩ = some (.int .i64 (M : Int)) := by rw [GS.out.maskc, HM.out.1]
        have ND := Lib.hid (needs_any S M HM.out.1 HM.out.2 q0 L0 _ (XO.out.step BV.out))
        go_upto_region 10 with fail
        refine wp_region_lit ?_
        iterate 24 go_step
        refine list_loadG aggScr GS.out (scells_size _) rfl (.tmp 5) rfl (by simp [Act.eval, Act.put]) ?_
        simp only [Act.put, List.setIfInBounds_toArray, List.set_cons_zero, List.set_cons_succ]
        refine list_loadG aggStp (T0.out.below BV.out T0.out.lt) (stc_size _) rfl (.tmp 3) rfl (by simp [Act.eval, Act.put]) ?_
        simp only [Act.put, List.setIfInBounds_toArray, List.set_cons_zero, List.set_cons_succ]
        clear c513 m0 m15
        go_wp2_with fail
        refine ND.out.mono ?_
        rintro e v4 ⟨rfl, b1⟩
        have GS := Lib.hid (GS.out.step b1)
        have BV := Lib.hid (BV.out.trans (b1.mono BV.out.size))
        clear b1 ND
        have k5 : v4.cell? ⟨w.heap.size, 5, none⟩ = some (.int .i64 nv) := by rw [(T0.out.below BV.out T0.out.lt).cell, ← HN.out]; rfl
        go_wp2_with fail
        refine (MN.out _).mono ?_
        rintro e w' ⟨rfl, rfl⟩
        clear k5
        obtain ⟨nd, hnd⟩ : ∃ nd, need M nn bg 4 = nd := ⟨_, rfl⟩
        have nd1 : nd ≤ 128 := by rw [← hnd]; exact need_le4 M nn bg (by omega)
        have ND := Lib.hid hnd
        have NR := Lib.hid fun w => hnd ▸ need_any M nn bg w (by omega) (by omega)
        clear hnd
        go_upto_region 13 with fail
        have CA := Lib.hid (show ∀ u : Calm v4, Below v0.heap.size v0 u.w from fun u => BV.out.trans (u.below.mono BV.out.size))
        have k6 : ∀ u : Calm v4, u.w.cell? ⟨w.heap.size, 6, none⟩ = some (.bool bg) := fun u => by rw [(T0.out.below (CA.out u) T0.out.lt).cell, ← HB.out]; rfl
        have k8 : ∀ u : Calm v4, u.w.cell? ⟨w.heap.size, 8, none⟩ = some (.slice q0.A q0.len q0.cap) := fun u => by rw [(T0.out.below (CA.out u) T0.out.lt).cell]; rfl
        have km : ∀ u : Calm v4, u.w.cell? ⟨p, 513, none⟩ = some (.int .i64 (M : Int)) := fun u => by rw [(GS.out.step u.below).maskc, HM.out.1]
        refine wp_region_late (C := fun w' => ∃ u : Calm v4, w' = u.w) 8 [([0, 1, 2, 3, 4, 5, 6], 7, true)] [] [9] (by kernel_rfl) (by kernel_rfl) ?_ ?_ ⟨⟨v4.drew, (Below.refl _ _).drew⟩, rfl⟩ ?_
        · exact fun _ _ d _ _ h => by cases d <;> exact h
        · rintro _ w' ⟨u, rfl⟩ hg
          exact ⟨⟨w', u.below.trans (hg.mono u.below.size)⟩, rfl⟩
        intro wd hwd
        have bd := Lib.hid (show Below v4.heap.size v4 wd by rw [hwd]; exact (Below.refl _ _).drew)
        clear hwd
        clear bd
        refine late_calm (by simp only [opsAt, List.getElem?_toArray, List.getElem?_cons_succ, List.getElem?_cons_zero]; rfl) (by simp only [List.getElem?_toArray, List.getElem?_cons_succ, List.getElem?_cons_zero]; rfl) ?_
        repeat (go_big_quiet_step (rfl))
        refine wpQuiet_nil ?_
        refine calm_next (v := .int .i64 (nd : Int)) (calm_fn (g := 19) (caps := #[]) (args := #[.int .i64 (M : Int), .int .i64 (nn : Int), .bool bg]) (.func 19) #[.tmp 66, .tmp 67, .tmp 69] #[3, 3, 4] rfl rfl (enters_of Try.func19 (by kernel_rfl) rfl) (fun w' hw => (NR.out w').mono fun e w'' h => ⟨h.1, by rw [← h.2]; exact Gr.refl _⟩) rfl (by simp [Act.eval])) ?_
        simp only [Act.put, List.setIfInBounds_toArray, List.set_cons_zero, List.set_cons_succ]
        refine late_last (by simp only [opsAt, List.getElem?_toArray, List.getElem?_cons_succ, List.getElem?_cons_zero]; rfl) (by simp only [List.getElem?_toArray, List.getElem?_cons_succ, List.getElem?_cons_zero]; rfl) ?_
        repeat (go_big_quiet_step (rfl))
        refine wpQuiet_nil ?_
        refine last_next rfl ?_
        intro w5 g5 C5 K hK
        obtain ⟨u5, rfl⟩ := C5
        refine wp_call_fn (g := 18) (caps := #[]) (args := #[.slice q0.A q0.len q0.cap, .int .i64 (nd : Int)]) (.func 18) #[.tmp 64, .tmp 70] #[39, 3] rfl (enters_of Try.func18 (by kernel_rfl) rfl) rfl (by simp [Act.eval]) ?_
        refine (fill_any q0.A L0 q0.len q0.cap nd u5.w (XO.out.rd.step (CA.out u5)) XO.out.len XO.out.max (by omega)).mono ?_
        rintro e w6 ⟨gd, rfl, hg, hB, b6⟩
        refine ⟨_, rfl, ?_⟩
        refine hK _ _ ?_
        clear hK K
        simp only [Act.put, List.setIfInBounds_toArray, List.set_cons_zero, List.set_cons_succ]
        simp only [opsAt, List.getElem?_toArray, List.getElem?_cons_succ, List.getElem?_cons_zero]
        repeat (go_big_quiet_step (rfl))
        refine wpQuiet_nil ?_
        intro v5 g8
        have GB := Lib.hid (show DatA gd 0 (fillF L0) nd (some ⟨gd, 0, none⟩) v5 from DatA.step (fun _ => ⟨rfl, hB.lt, fun j hj => by rw [Nat.zero_add]; exact hB.at_ j hj⟩) g8)
        have B8 := Lib.hid ((u5.below.trans (b6.mono u5.below.size)).trans (g8.mono (Nat.le_trans u5.below.size b6.size)))
        have GS := Lib.hid (GS.out.step B8.out)
        have BV := Lib.hid (BV.out.trans (B8.out.mono BV.out.size))
        clear B8 hB b6 hg g8 g5 u5 CA k6 k8 km
        obtain ⟨Z1, hZ1⟩ : ∃ Z, drZ (fillF L0) S M nn bg cl xx yy = Z := ⟨_, rfl⟩
        obtain ⟨c1, hc1⟩ : ∃ v, coZ (fillF L0) S M nn bg cl xx yy = v := ⟨_, rfl⟩
        obtain ⟨Z2, hZ2⟩ : ∃ Z, drZ (fillF L0) Z1 M nn bg cl xx yy = Z := ⟨_, rfl⟩
        obtain ⟨c2, hc2⟩ : ∃ v, coZ (fillF L0) Z1 M nn bg cl xx yy = v := ⟨_, rfl⟩
        obtain ⟨S0, hS0⟩ : ∃ Z, S.mask 0 = Z := ⟨_, rfl⟩
        obtain ⟨Z3, hZ3⟩ : ∃ Z, drZ (fun _ => 0) S0 0 nn bg cl xx yy = Z := ⟨_, rfl⟩
        have H1 := Lib.hid (show Z1.M = (M : Int) by rw [← hZ1]; exact HM.out.1)
        have H0 := Lib.hid (show S0.M = ((0 : Nat) : Int) by rw [← hS0]; rfl)
        have EB := Lib.hid (show sameSc Z2 S = true by rw [← hZ2, ← hZ1]; exact drZ_twice _ _ _ _ _ _ _ _)
        have E3 := Lib.hid (show sameSc Z3 S0 = true by rw [← hZ3]; exact (drZ_none _ _ _ _ _ _ _).1)
        have D1 := Lib.hid fun (w' : World) (hD : DatA gd 0 (fillF L0) nd (some ⟨gd, 0, none⟩) w') => hc1 ▸ hZ1 ▸ drawM S M nn HM.out.1 HM.out.2 n1 bg cl xx yy x1 y1 (fillF L0) (fill_le XO.out.le) gd 0 nd (some ⟨gd, 0, none⟩) nd ND.out (Nat.le_refl _) (by omega) w' hD
        have D2 := Lib.hid fun (w' : World) (hD : DatA gd 0 (fillF L0) nd (some ⟨gd, 0, none⟩) w') => hc2 ▸ hZ2 ▸ drawM Z1 M nn H1.out HM.out.2 n1 bg cl xx yy x1 y1 (fillF L0) (fill_le XO.out.le) gd 0 nd (some ⟨gd, 0, none⟩) nd ND.out (Nat.le_refl _) (by omega) w' hD
        have D3 := Lib.hid fun (w' : World) => (drZ_none (fun _ => 0) S0 nn bg cl xx yy).2 ▸ hZ3 ▸ drawM S0 0 nn H0.out (by omega) n1 bg cl xx yy x1 y1 (fun _ => 0) (fun _ => by omega) 0 0 0 none 0 (need_zero nn bg) (Nat.le_refl _) (by omega) w' (fun h => absurd h (by omega))
        have SEL := Lib.hid fun w => hS0 ▸ select8_any S 0 w
        clear hZ1 hc1 hZ2 hc2 hS0 hZ3
        have DW := Lib.hid fun (w' : World) (hw : ∃ u : Calm v5, w' = u.w) => D1.out w' (by obtain ⟨u, rfl⟩ := hw; exact GB.out.step u.below)
        clear D1
        go_upto_region 14 with fail
        have BVO := Lib.hid BV.out.size
        have CA := Lib.hid (show ∀ u : Calm v5, Below v0.heap.size v0 u.w from fun u => BV.out.trans (u.below.mono BV.out.size))
        have k3 : ∀ u : Calm v5, u.w.cell? ⟨w.heap.size, 3, none⟩ = some (.int .i64 xv) := fun u => by rw [(T0.out.below (CA.out u) T0.out.lt).cell, ← HX.out]; rfl
        have k4 : ∀ u : Calm v5, u.w.cell? ⟨w.heap.size, 4, none⟩ = some (.int .i64 yv) := fun u => by rw [(T0.out.below (CA.out u) T0.out.lt).cell, ← HY.out]; rfl
        have k6 : ∀ u : Calm v5, u.w.cell? ⟨w.heap.size, 6, none⟩ = some (.bool bg) := fun u => by rw [(T0.out.below (CA.out u) T0.out.lt).cell, ← HB.out]; rfl
        have k7 : ∀ u : Calm v5, u.w.cell? ⟨w.heap.size, 7, none⟩ = some (.bool cl) := fun u => by rw [(T0.out.below (CA.out u) T0.out.lt).cell, ← HC.out]; rfl
        have KS := Lib.hid (fun (w' : World) (hw : ∃ u : Calm v5, w' = u.w) => show Blk p 32 (scells S) w' by obtain ⟨u, rfl⟩ := hw; exact GS.out.step u.below)
        refine wp_region_late (C := fun w' => ∃ u : Calm v5, w' = u.w) 18 [([0, 1, 2, 4, 5, 7, 8, 9, 10, 11, 12], 3, true), ([], 6, true), ([], 13, true), ([14, 15, 16], 17, false)] [] [19] (by kernel_rfl) (by kernel_rfl) ?_ ?_ ⟨⟨v5.drew, (Below.refl _ _).drew⟩, rfl⟩ ?_
        · exact fun _ _ d _ _ h => by cases d <;> exact h
        · rintro _ w' ⟨u, rfl⟩ hg
          exact ⟨⟨w', u.below.trans (hg.mono u.below.size)⟩, rfl⟩
        intro wd hwd
        have bd := Lib.hid (show Below v5.heap.size v5 wd by rw [hwd]; exact (Below.refl _ _).drew)
        clear hwd
        clear bd
        refine late_calm (by simp only [opsAt, List.getElem?_toArray, List.getElem?_cons_succ, List.getElem?_cons_zero]; rfl) (by simp only [List.getElem?_toArray, List.getElem?_cons_succ, List.getElem?_cons_zero]; rfl) ?_
        repeat (first
          | (refine quiet_load_all aggScr KS.out (scells_size _) ?_ (.tmp 5) ?_ ?_ ?_; (focus rfl); (focus rfl); (focus (simp [Act.eval]; done)); simp only [Act.put, List.setIfInBounds_toArray, List.set_cons_zero, List.set_cons_succ])
          | go_big_quiet_step (rfl))
        refine wpQuiet_nil ?_
        refine calm_next (v := .int .i64 (xx : Int)) (calm_fn (g := 17) (caps := #[]) (args := #[.int .i64 xv, .int .i64 256]) (.func 17) #[.tmp 75, .const (.int .i64 256)] #[3, 3] rfl rfl (enters_of Try.func17 (by kernel_rfl) rfl) (fun w' hw => (MX.out w').mono fun e w'' h => ⟨h.1, by rw [← h.2]; exact Gr.refl _⟩) rfl (by simp [Act.eval])) ?_
        simp only [Act.put, List.setIfInBounds_toArray, List.set_cons_zero, List.set_cons_succ]
        refine late_calm (by simp only [opsAt, List.getElem?_toArray, List.getElem?_cons_succ, List.getElem?_cons_zero]; rfl) (by simp only [List.getElem?_toArray, List.getElem?_cons_succ, List.getElem?_cons_zero]; rfl) ?_
        repeat (go_big_quiet_step (rfl))
        refine wpQuiet_nil ?_
        refine calm_next (v := .int .i64 (yy : Int)) (calm_fn (g := 17) (caps := #[]) (args := #[.int .i64 yv, .int .i64 256]) (.func 17) #[.tmp 78, .const (.int .i64 256)] #[3, 3] rfl rfl (enters_of Try.func17 (by kernel_rfl) rfl) (fun w' hw => (MY.out w').mono fun e w'' h => ⟨h.1, by rw [← h.2]; exact Gr.refl _⟩) rfl (by simp [Act.eval])) ?_
        simp only [Act.put, List.setIfInBounds_toArray, List.set_cons_zero, List.set_cons_succ]
        refine late_calm (by simp only [opsAt, List.getElem?_toArray, List.getElem?_cons_succ, List.getElem?_cons_zero]; rfl) (by simp only [List.getElem?_toArray, List.getElem?_cons_succ, List.getElem?_cons_zero]; rfl) ?_
        repeat (go_big_quiet_step (rfl))
        refine wpQuiet_nil ?_
        refine calm_next (v := .tuple #[.agg (scells Z1), .bool c1]) (calm_fn (g := 20) (caps := #[]) (args := #[.agg (scells S), .int .i64 (xx : Int), .int .i64 (yy : Int), .int .i64 (nn : Int), .bool bg, .bool cl, .slice (some ⟨gd, 0, none⟩) nd nd]) (.func 20) #[.tmp 73, .tmp 76, .tmp 79, .tmp 80, .tmp 82, .tmp 84, .tmp 85] #[32, 3, 3, 3, 4, 4, 39] rfl rfl (enters_of Try.func20 (by kernel_rfl) rfl) (fun w' hw => DW.out w' hw) rfl (by simp [Act.eval])) ?_
        simp only [Act.put, List.setIfInBounds_toArray, List.set_cons_zero, List.set_cons_succ]
        clear KS k3 k4 k6 k7
        refine late_real (by simp only [opsAt, List.getElem?_toArray, List.getElem?_cons_succ, List.getElem?_cons_zero]; rfl) (by simp only [List.getElem?_toArray, List.getElem?_cons_succ, List.getElem?_cons_zero]; rfl) ?_
        repeat (go_big_quiet_step (rfl))
        refine wpQuiet_nil ?_
        refine real_next rfl ?_
        intro w5 g5 C5 K hK
        obtain ⟨u5, rfl⟩ := C5
        refine wp_alloc zeroScr rfl ?_
        refine hK _ _ ⟨⟨u5.w.alloc (.cells (scells (blankS false 0)) 32), u5.below.alloc u5.below.size _⟩, rfl⟩ ?_
        clear hK K g5
        simp only [Act.put, List.setIfInBounds_toArray, List.set_cons_zero, List.set_cons_succ]
        have G5 := Lib.hid (SB.new u5.w (blankS false 0))
        have Z5 := Lib.hid u5.below.size
        obtain ⟨gv6, hg⟩ : ∃ g, u5.w.heap.size = g := ⟨_, rfl⟩
        generalize u5.w.alloc (.cells (scells (blankS false 0)) 32) = w6 at *
        rw [hg] at G5 Z5 ⊢
        clear hg u5
        refine late_last (by simp only [opsAt, List.getElem?_toArray, List.getElem?_cons_succ, List.getElem?_cons_zero]; rfl) (by simp only [List.getElem?_toArray, List.getElem?_cons_succ, List.getElem?_cons_zero]; rfl) ?_
        repeat (go_big_quiet_step (rfl))
        refine wpQuiet_nil ?_
        refine last_next rfl ?_
        intro w7 g7 C7 K hK
        obtain ⟨u7, rfl⟩ := C7
        refine wp_store_all (ds := scells Z1) aggScr (G5.out.step g7) (scells_size _) (scells_size _) (scells_one _) (.tmp 9) (.tmp 87) rfl (by simp [Act.eval, Act.put]) (by simp [Act.eval, Act.put]) ?_
        refine hK _ _ ?_
        clear hK K
        simp only [Act.put, List.setIfInBounds_toArray, List.set_cons_zero, List.set_cons_succ]
        simp only [opsAt, List.getElem?_toArray, List.getElem?_cons_succ, List.getElem?_cons_zero]
        repeat (go_big_quiet_step (rfl))
        refine wpQuiet_nil ?_
        intro v6 g8
        have G1 := Lib.hid (((G5.out.step g7).store Z1).step g8)
        have B8 := Lib.hid ((belowRow u7.below Z5.out (scells Z1)).trans (g8.mono (by have := u7.below.size; simp [World.setRow]; omega)))
        have GS := Lib.hid (GS.out.step B8.out)
        have GB := Lib.hid (GB.out.step B8.out)
        have BV := Lib.hid (BV.out.trans (B8.out.mono BV.out.size))
        have Qgv6 := Lib.hid (show v0.heap.size ≤ gv6 from Nat.le_trans BVO.out Z5.out)
        clear B8 G5 Z5 g7 g8 CA u7
        clear DW
        have DW := Lib.hid fun (w' : World) (hw : ∃ u : Calm v6, w' = u.w) => D2.out w' (by obtain ⟨u, rfl⟩ := hw; exact GB.out.step u.below)
        clear D2
        go_upto_region 15 with fail
        have BVO := Lib.hid BV.out.size
        have CA := Lib.hid (show ∀ u : Calm v6, Below v0.heap.size v0 u.w from fun u => BV.out.trans (u.below.mono BV.out.size))
        have k3 : ∀ u : Calm v6, u.w.cell? ⟨w.heap.size, 3, none⟩ = some (.int .i64 xv) := fun u => by rw [(T0.out.below (CA.out u) T0.out.lt).cell, ← HX.out]; rfl
        have k4 : ∀ u : Calm v6, u.w.cell? ⟨w.heap.size, 4, none⟩ = some (.int .i64 yv) := fun u => by rw [(T0.out.below (CA.out u) T0.out.lt).cell, ← HY.out]; rfl
        have k6 : ∀ u : Calm v6, u.w.cell? ⟨w.heap.size, 6, none⟩ = some (.bool bg) := fun u => by rw [(T0.out.below (CA.out u) T0.out.lt).cell, ← HB.out]; rfl
        have k7 : ∀ u : Calm v6, u.w.cell? ⟨w.heap.size, 7, none⟩ = some (.bool cl) := fun u => by rw [(T0.out.below (CA.out u) T0.out.lt).cell, ← HC.out]; rfl
        have KS := Lib.hid (fun (w' : World) (hw : ∃ u : Calm v6, w' = u.w) => show Blk gv6 32 (scells Z1) w' by obtain ⟨u, rfl⟩ := hw; exact G1.out.step u.below)
        refine wp_region_late (C := fun w' => ∃ u : Calm v6, w' = u.w) 18 [([0, 1, 2, 4, 5, 7, 8, 9, 10, 11, 12], 3, true), ([], 6, true), ([], 13, true), ([14, 15, 16], 17, false)] [] [19] (by kernel_rfl) (by kernel_rfl) ?_ ?_ ⟨⟨v6.drew, (Below.refl _ _).drew⟩, rfl⟩ ?_
        · exact fun _ _ d _ _ h => by cases d <;> exact h
        · rintro _ w' ⟨u, rfl⟩ hg
          exact ⟨⟨w', u.below.trans (hg.mono u.below.size)⟩, rfl⟩
        intro wd hwd
        have bd := Lib.hid (show Below v6.heap.size v6 wd by rw [hwd]; exact (Below.refl _ _).drew)
        clear hwd
        clear bd
        refine late_calm (by simp only [opsAt, List.getElem?_toArray, List.getElem?_cons_succ, List.getElem?_cons_zero]; rfl) (by simp only [List.getElem?_toArray, List.getElem?_cons_succ, List.getElem?_cons_zero]; rfl) ?_
        repeat (first
          | (refine quiet_load_all aggScr KS.out (scells_size _) ?_ (.tmp 9) ?_ ?_ ?_; (focus rfl); (focus rfl); (focus (simp [Act.eval]; done)); simp only [Act.put, List.setIfInBounds_toArray, List.set_cons_zero, List.set_cons_succ])
          | go_big_quiet_step (rfl))
        refine wpQuiet_nil ?_
        refine calm_next (v := .int .i64 (xx : Int)) (calm_fn (g := 17) (caps := #[]) (args := #[.int .i64 xv, .int .i64 256]) (.func 17) #[.tmp 92, .const (.int .i64 256)] #[3, 3] rfl rfl (enters_of Try.func17 (by kernel_rfl) rfl) (fun w' hw => (MX.out w').mono fun e w'' h => ⟨h.1, by rw [← h.2]; exact Gr.refl _⟩) rfl (by simp [Act.eval])) ?_
        simp only [Act.put, List.setIfInBounds_toArray, List.set_cons_zero, List.set_cons_succ]
        refine late_calm (by simp only [opsAt, List.getElem?_toArray, List.getElem?_cons_succ, List.getElem?_cons_zero]; rfl) (by simp only [List.getElem?_toArray, List.getElem?_cons_succ, List.getElem?_cons_zero]; rfl) ?_
        repeat (go_big_quiet_step (rfl))
        refine wpQuiet_nil ?_
        refine calm_next (v := .int .i64 (yy : Int)) (calm_fn (g := 17) (caps := #[]) (args := #[.int .i64 yv, .int .i64 256]) (.func 17) #[.tmp 95, .const (.int .i64 256)] #[3, 3] rfl rfl (enters_of Try.func17 (by kernel_rfl) rfl) (fun w' hw => (MY.out w').mono fun e w'' h => ⟨h.1, by rw [← h.2]; exact Gr.refl _⟩) rfl (by simp [Act.eval])) ?_
        simp only [Act.put, List.setIfInBounds_toArray, List.set_cons_zero, List.set_cons_succ]
        refine late_calm (by simp only [opsAt, List.getElem?_toArray, List.getElem?_cons_succ, List.getElem?_cons_zero]; rfl) (by simp only [List.getElem?_toArray, List.getElem?_cons_succ, List.getElem?_cons_zero]; rfl) ?_
        repeat (go_big_quiet_step (rfl))
        refine wpQuiet_nil ?_
        refine calm_next (v := .tuple #[.agg (scells Z2), .bool c2]) (calm_fn (g := 20) (caps := #[]) (args := #[.agg (scells Z1), .int .i64 (xx : Int), .int .i64 (yy : Int), .int .i64 (nn : Int), .bool bg, .bool cl, .slice (some ⟨gd, 0, none⟩) nd nd]) (.func 20) #[.tmp 90, .tmp 93, .tmp 96, .tmp 97, .tmp 99, .tmp 101, .tmp 102] #[32, 3, 3, 3, 4, 4, 39] rfl rfl (enters_of Try.func20 (by kernel_rfl) rfl) (fun w' hw => DW.out w' hw) rfl (by simp [Act.eval])) ?_
        simp only [Act.put, List.setIfInBounds_toArray, List.set_cons_zero, List.set_cons_succ]
        clear KS k3 k4 k6 k7
        refine late_real (by simp only [opsAt, List.getElem?_toArray, List.getElem?_cons_succ, List.getElem?_cons_zero]; rfl) (by simp only [List.getElem?_toArray, List.getElem?_cons_succ, List.getElem?_cons_zero]; rfl) ?_
        repeat (go_big_quiet_step (rfl))
        refine wpQuiet_nil ?_
        refine real_next rfl ?_
        intro w5 g5 C5 K hK
        obtain ⟨u5, rfl⟩ := C5
        refine wp_alloc zeroScr rfl ?_
        refine hK _ _ ⟨⟨u5.w.alloc (.cells (scells (blankS false 0)) 32), u5.below.alloc u5.below.size _⟩, rfl⟩ ?_
        clear hK K g5
        simp only [Act.put, List.setIfInBounds_toArray, List.set_cons_zero, List.set_cons_succ]
        have G5 := Lib.hid (SB.new u5.w (blankS false 0))
        have Z5 := Lib.hid u5.below.size
        obtain ⟨gv7, hg⟩ : ∃ g, u5.w.heap.size = g := ⟨_, rfl⟩
        generalize u5.w.alloc (.cells (scells (blankS false 0)) 32) = w6 at *
        rw [hg] at G5 Z5 ⊢
        clear hg u5
        refine late_last (by simp only [opsAt, List.getElem?_toArray, List.getElem?_cons_succ, List.getElem?_cons_zero]; rfl) (by simp only [List.getElem?_toArray, List.getElem?_cons_succ, List.getElem?_cons_zero]; rfl) ?_
        repeat (go_big_quiet_step (rfl))
        refine wpQuiet_nil ?_
        refine last_next rfl ?_
        intro w7 g7 C7 K hK
        obtain ⟨u7, rfl⟩ := C7
        refine wp_store_all (ds := scells Z2) aggScr (G5.out.step g7) (scells_size _) (scells_size _) (scells_one _) (.tmp 11) (.tmp 104) rfl (by simp [Act.eval, Act.put]) (by simp [Act.eval, Act.put]) ?_
        refine hK _ _ ?_
        clear hK K
        simp only [Act.put, List.setIfInBounds_toArray, List.set_cons_zero, List.set_cons_succ]
        simp only [opsAt, List.getElem?_toArray, List.getElem?_cons_succ, List.getElem?_cons_zero]
        repeat (go_big_quiet_step (rfl))
        refine wpQuiet_nil ?_
        intro v7 g8
        have G2 := Lib.hid (((G5.out.step g7).store Z2).step g8)
        have B8 := Lib.hid ((belowRow u7.below Z5.out (scells Z2)).trans (g8.mono (by have := u7.below.size; simp [World.setRow]; omega)))
        have GS := Lib.hid (GS.out.step B8.out)
        have BV := Lib.hid (BV.out.trans (B8.out.mono BV.out.size))
        have Qgv7 := Lib.hid (show v0.heap.size ≤ gv7 from Nat.le_trans BVO.out Z5.out)
        clear B8 G5 Z5 g7 g8 CA u7
        clear DW GB G1
        go_upto_region 16 with fail
        have BVO := Lib.hid BV.out.size
        have CA := Lib.hid (show ∀ u : Calm v7, Below v0.heap.size v0 u.w from fun u => BV.out.trans (u.below.mono BV.out.size))
        have k3 : ∀ u : Calm v7, u.w.cell? ⟨w.heap.size, 3, none⟩ = some (.int .i64 xv) := fun u => by rw [(T0.out.below (CA.out u) T0.out.lt).cell, ← HX.out]; rfl
        have k4 : ∀ u : Calm v7, u.w.cell? ⟨w.heap.size, 4, none⟩ = some (.int .i64 yv) := fun u => by rw [(T0.out.below (CA.out u) T0.out.lt).cell, ← HY.out]; rfl
        have k6 : ∀ u : Calm v7, u.w.cell? ⟨w.heap.size, 6, none⟩ = some (.bool bg) := fun u => by rw [(T0.out.below (CA.out u) T0.out.lt).cell, ← HB.out]; rfl
        have k7 : ∀ u : Calm v7, u.w.cell? ⟨w.heap.size, 7, none⟩ = some (.bool cl) := fun u => by rw [(T0.out.below (CA.out u) T0.out.lt).cell, ← HC.out]; rfl
        have KS := Lib.hid (fun (w' : World) (hw : ∃ u : Calm v7, w' = u.w) => show Blk p 32 (scells S) w' by obtain ⟨u, rfl⟩ := hw; exact GS.out.step u.below)
        refine wp_region_late (C := fun w' => ∃ u : Calm v7, w' = u.w) 18 [([0, 2, 3, 5, 6, 8, 9, 10, 11, 12], 1, true), ([], 4, true), ([], 7, true), ([], 13, true), ([14, 15, 16], 17, false)] [] [19] (by kernel_rfl) (by kernel_rfl) ?_ ?_ ⟨⟨v7.drew, (Below.refl _ _).drew⟩, rfl⟩ ?_
        · exact fun _ _ d _ _ h => by cases d <;> exact h
        · rintro _ w' ⟨u, rfl⟩ hg
          exact ⟨⟨w', u.below.trans (hg.mono u.below.size)⟩, rfl⟩
        intro wd hwd
        have bd := Lib.hid (show Below v7.heap.size v7 wd by rw [hwd]; exact (Below.refl _ _).drew)
        clear hwd
        clear bd
        refine late_calm (by simp only [opsAt, List.getElem?_toArray, List.getElem?_cons_succ, List.getElem?_cons_zero]; rfl) (by simp only [List.getElem?_toArray, List.getElem?_cons_succ, List.getElem?_cons_zero]; rfl) ?_
        repeat (first
          | (refine quiet_load_all aggScr KS.out (scells_size _) ?_ (.tmp 5) ?_ ?_ ?_; (focus rfl); (focus rfl); (focus (simp [Act.eval]; done)); simp only [Act.put, List.setIfInBounds_toArray, List.set_cons_zero, List.set_cons_succ])
          | go_big_quiet_step (rfl))
        refine wpQuiet_nil ?_
        refine calm_next (v := .agg (scells S0)) (calm_fn (g := 15) (caps := #[]) (args := #[.agg (scells S), .int .i64 0]) (.func 15) #[.tmp 107, .const (.int .i64 0)] #[32, 3] rfl rfl (enters_of Try.func15 (by kernel_rfl) rfl) (fun w' hw => SEL.out w') rfl (by simp [Act.eval])) ?_
        simp only [Act.put, List.setIfInBounds_toArray, List.set_cons_zero, List.set_cons_succ]
        refine late_calm (by simp only [opsAt, List.getElem?_toArray, List.getElem?_cons_succ, List.getElem?_cons_zero]; rfl) (by simp only [List.getElem?_toArray, List.getElem?_cons_succ, List.getElem?_cons_zero]; rfl) ?_
        repeat (go_big_quiet_step (rfl))
        refine wpQuiet_nil ?_
        refine calm_next (v := .int .i64 (xx : Int)) (calm_fn (g := 17) (caps := #[]) (args := #[.int .i64 xv, .int .i64 256]) (.func 17) #[.tmp 110, .const (.int .i64 256)] #[3, 3] rfl rfl (enters_of Try.func17 (by kernel_rfl) rfl) (fun w' hw => (MX.out w').mono fun e w'' h => ⟨h.1, by rw [← h.2]; exact Gr.refl _⟩) rfl (by simp [Act.eval])) ?_
        simp only [Act.put, List.setIfInBounds_toArray, List.set_cons_zero, List.set_cons_succ]
        refine late_calm (by simp only [opsAt, List.getElem?_toArray, List.getElem?_cons_succ, List.getElem?_cons_zero]; rfl) (by simp only [List.getElem?_toArray, List.getElem?_cons_succ, List.getElem?_cons_zero]; rfl) ?_
        repeat (go_big_quiet_step (rfl))
        refine wpQuiet_nil ?_
        refine calm_next (v := .int .i64 (yy : Int)) (calm_fn (g := 17) (caps := #[]) (args := #[.int .i64 yv, .int .i64 256]) (.func 17) #[.tmp 113, .const (.int .i64 256)] #[3, 3] rfl rfl (enters_of Try.func17 (by kernel_rfl) rfl) (fun w' hw => (MY.out w').mono fun e w'' h => ⟨h.1, by rw [← h.2]; exact Gr.refl _⟩) rfl (by simp [Act.eval])) ?_
        simp only [Act.put, List.setIfInBounds_toArray, List.set_cons_zero, List.set_cons_succ]
        refine late_calm (by simp only [opsAt, List.getElem?_toArray, List.getElem?_cons_succ, List.getElem?_cons_zero]; rfl) (by simp only [List.getElem?_toArray, List.getElem?_cons_succ, List.getElem?_cons_zero]; rfl) ?_
        repeat (go_big_quiet_step (rfl))
        refine wpQuiet_nil ?_
        refine calm_next (v := .tuple #[.agg (scells Z3), .bool false]) (calm_fn (g := 20) (caps := #[]) (args := #[.agg (scells S0), .int .i64 (xx : Int), .int .i64 (yy : Int), .int .i64 (nn : Int), .bool bg, .bool cl, .slice none 0 0]) (.func 20) #[.tmp 108, .tmp 111, .tmp 114, .tmp 115, .tmp 117, .tmp 119, .const (.slice none 0 0)] #[32, 3, 3, 3, 4, 4, 39] rfl rfl (enters_of Try.func20 (by kernel_rfl) rfl) (fun w' hw => D3.out w') rfl (by simp [Act.eval])) ?_
        simp only [Act.put, List.setIfInBounds_toArray, List.set_cons_zero, List.set_cons_succ]
        clear KS k3 k4 k6 k7
        refine late_real (by simp only [opsAt, List.getElem?_toArray, List.getElem?_cons_succ, List.getElem?_cons_zero]; rfl) (by simp only [List.getElem?_toArray, List.getElem?_cons_succ, List.getElem?_cons_zero]; rfl) ?_
        repeat (go_big_quiet_step (rfl))
        refine wpQuiet_nil ?_
        refine real_next rfl ?_
        intro w5 g5 C5 K hK
        obtain ⟨u5, rfl⟩ := C5
        refine wp_alloc zeroScr rfl ?_
        refine hK _ _ ⟨⟨u5.w.alloc (.cells (scells (blankS false 0)) 32), u5.below.alloc u5.below.size _⟩, rfl⟩ ?_
        clear hK K g5
        simp only [Act.put, List.setIfInBounds_toArray, List.set_cons_zero, List.set_cons_succ]
        have G5 := Lib.hid (SB.new u5.w (blankS false 0))
        have Z5 := Lib.hid u5.below.size
        obtain ⟨gv8, hg⟩ : ∃ g, u5.w.heap.size = g := ⟨_, rfl⟩
        generalize u5.w.alloc (.cells (scells (blankS false 0)) 32) = w6 at *
        rw [hg] at G5 Z5 ⊢
        clear hg u5
        refine late_last (by simp only [opsAt, List.getElem?_toArray, List.getElem?_cons_succ, List.getElem?_cons_zero]; rfl) (by simp only [List.getElem?_toArray, List.getElem?_cons_succ, List.getElem?_cons_zero]; rfl) ?_
        repeat (go_big_quiet_step (rfl))
        refine wpQuiet_nil ?_
        refine last_next rfl ?_
        intro w7 g7 C7 K hK
        obtain ⟨u7, rfl⟩ := C7
        refine wp_store_all (ds := scells Z3) aggScr (G5.out.step g7) (scells_size _) (scells_size _) (scells_one _) (.tmp 13) (.tmp 121) rfl (by simp [Act.eval, Act.put]) (by simp [Act.eval, Act.put]) ?_
        refine hK _ _ ?_
        clear hK K
        simp only [Act.put, List.setIfInBounds_toArray, List.set_cons_zero, List.set_cons_succ]
        simp only [opsAt, List.getElem?_toArray, List.getElem?_cons_succ, List.getElem?_cons_zero]
        repeat (go_big_quiet_step (rfl))
        refine wpQuiet_nil ?_
        intro v8 g8
        have G3 := Lib.hid (((G5.out.step g7).store Z3).step g8)
        have B8 := Lib.hid ((belowRow u7.below Z5.out (scells Z3)).trans (g8.mono (by have := u7.below.size; simp [World.setRow]; omega)))
        have GS := Lib.hid (GS.out.step B8.out)
        have G2 := Lib.hid (G2.out.step B8.out)
        have BV := Lib.hid (BV.out.trans (B8.out.mono BV.out.size))
        have Qgv8 := Lib.hid (show v0.heap.size ≤ gv8 from Nat.le_trans BVO.out Z5.out)
        clear B8 G5 Z5 g7 g8 CA u7
        clear D3
        go_upto_region 17 with fail
        have E2 := EB.out
        have E4 := E3.out
        have K5 := Lib.hid (fun (w' : World) (hw : ∃ u : Calm v8, w' = u.w) => show Blk p 32 (scells S) w' by obtain ⟨u, rfl⟩ := hw; exact GS.out.step u.below)
        have K11 := Lib.hid (fun (w' : World) (hw : ∃ u : Calm v8, w' = u.w) => show Blk gv7 32 (scells Z2) w' by obtain ⟨u, rfl⟩ := hw; exact G2.out.step u.below)
        have K13 := Lib.hid (fun (w' : World) (hw : ∃ u : Calm v8, w' = u.w) => show Blk gv8 32 (scells Z3) w' by obtain ⟨u, rfl⟩ := hw; exact G3.out.step u.below)
        refine calm_region (by kernel_rfl) (by kernel_rfl) ?_
        repeat (first
          | (refine quiet_load_all aggScr K5.out (scells_size _) ?_ (.tmp 5) ?_ ?_ ?_; (focus rfl); (focus rfl); (focus (simp [Act.eval]; done)); simp only [Act.put, List.setIfInBounds_toArray, List.set_cons_zero, List.set_cons_succ])
          | (refine quiet_load_all aggScr K11.out (scells_size _) ?_ (.tmp 11) ?_ ?_ ?_; (focus rfl); (focus rfl); (focus (simp [Act.eval]; done)); simp only [Act.put, List.setIfInBounds_toArray, List.set_cons_zero, List.set_cons_succ])
          | (refine quiet_load_all aggScr K13.out (scells_size _) ?_ (.tmp 13) ?_ ?_ ?_; (focus rfl); (focus rfl); (focus (simp [Act.eval]; done)); simp only [Act.put, List.setIfInBounds_toArray, List.set_cons_zero, List.set_cons_succ])
          | (refine quiet_eqS E2 ?_ (.tmp 123) (.tmp 124) 32 ?_ ?_ ?_ ?_; (focus rfl); (focus rfl); (focus (simp [Act.eval]; done)); (focus (simp [Act.eval]; done)); simp only [Act.put, List.setIfInBounds_toArray, List.set_cons_zero, List.set_cons_succ])
          | (refine quiet_eqS E4 ?_ (.tmp 127) (.tmp 129) 32 ?_ ?_ ?_ ?_; (focus rfl); (focus rfl); (focus (simp [Act.eval]; done)); (focus (simp [Act.eval]; done)); simp only [Act.put, List.setIfInBounds_toArray, List.set_cons_zero, List.set_cons_succ])
          | go_big_quiet_step ((first
            | rfl
            | (go_at_call 15; exact calm_call (SEL.out _)))))
        refine wpQuiet_nil ?_
        intro _ hw'
        obtain ⟨u, rfl⟩ := hw'
        have BV := Lib.hid (BV.out.trans (u.below.mono BV.out.size))
        have BF := Lib.hid (B0.out.trans (BV.out.mono B0.out.size))
        generalize u.w = v9 at *
        go_wp2
        go_ret
        exact ⟨by simp, BF.out⟩
end Go.Proofs.Ytplmmfgmbfcjpaa
