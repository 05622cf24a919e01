/- The walk of ScreenPlanes. -/
import Derived.Test.YtplmmfgmbfcjpaaScrAwake
import Derived.Test.YtplmmfgmbfcjpaaScrOpen
import Derived.Test.YtplmmfgmbfcjpaaPlaneDraw
namespace Go.Proofs.Ytplmmfgmbfcjpaa
open Go.RowKit Go.Shelf Num
set_option linter.unusedVariables false
set_option linter.unusedSimpArgs false

theorem doS_keeps (S : Sc) (M : Nat) (q : Stp) (L : List Nat) (h0 : q.k ≠ 0) (h2 : q.k ≠ 2) : (doS S M q L).1.hi = S.hi ∧ (doS S M q L).1.M = S.M ∧ ∀ i, onB M i = false → (doS S M q L).1.P i = S.P i := by
  unfold doS
  rw [if_neg h0, if_neg h2]
  split
  · exact ⟨rfl, rfl, fun i h => by simp [onPl, h]⟩
  · split
    · exact ⟨rfl, rfl, fun i h => by simp [onPl, h]⟩
    · exact ⟨rfl, rfl, fun i h => by simp [drS, onPl, h]; rfl⟩
theorem samePl_self (A : Pl) : samePl A A = true := (samePl_iff A A).2 fun _ _ => rfl
section
variable {ops : Array Oper} {C : World → Prop}
theorem quiet_neqP {Q : Act → Prop} {o : Oper} {rest : List Oper} {a : Act} {A B : Pl} (hs : samePl A B = true) (hw : Region.wanted o (yielded ops a.tmps) = true) (x y : Operand) (z : TypeId) (ho : o.op = .binOp .neq 29 x y z) (hx : a.eval x = .agg (pcells A)) (hy : a.eval y = .agg (pcells B))
    (h : wpQuiet Try.prog ops C Q rest (a.put o.dst (.bool false))) : wpQuiet Try.prog ops C Q (o :: rest) a :=
  quiet_run hw (.bool false) (fun w' _ => by rw [exec_neq x y z ho A B hx hy, hs]; rfl) h
end
set_option maxRecDepth 100000 in
set_option maxHeartbeats 8000000 in
theorem screenPlanes_walk (A : Option Addr) (n c : Nat) (l : List (Stp × List Nat)) (a : Int) (q0 : Stp) (L0 : List Nat) (w : World) (H : Stps w A n l) (wa : (Lit.int .u8 a).wf = true) (X : StpOk q0 L0 w) :
    Calls Try.prog 4 #[.slice A n c, .int .u8 a, .agg (stc q0)] w fun e w' => e = .returned (.bool true) ∧ Below w.heap.size w w' := by
  obtain ⟨a0, a1⟩ := Num.bd_u8 wa
  obtain ⟨mk, rfl⟩ := Int.eq_ofNat_of_zero_le a0
  obtain ⟨kk, hkk⟩ : ∃ kk, q0.k = kk := ⟨_, rfl⟩
  have T0 := Lib.hid (Blk.new w 41 (stc q0))
  have B0 := Lib.hid (below_new w (.cells (stc q0) 41))
  have GL := Lib.hid (H.step B0.out)
  have XO := Lib.hid (X.step B0.out)
  have KK := Lib.hid hkk
  have mx := H.max
  clear H wa X hkk
  go_enter Try.func4, Try.ntmps4
  go_wp2_with fail
  generalize w.alloc (.cells (stc q0) 41) = v0 at *
  refine (awake8 _).mono ?_
  rintro e v1 ⟨rfl, b1⟩
  have BV := Lib.hid b1
  clear b1
  have c0 : v1.cell? ⟨w.heap.size, 0, none⟩ = some (.int .i64 kk) := by rw [(T0.out.below BV.out T0.out.lt).cell, ← KK.out]; rfl
  by_cases hbad : 8 < n ∨ kk = 0 ∨ kk = 2
  · have bad : ∀ v2, Below v1.heap.size v1 v2 → Below w.heap.size w v2 := fun v2 b => B0.out.trans ((BV.out.trans (b.mono BV.out.size)).mono B0.out.size)
    have BAD := Lib.hid bad
    clear bad
    by_cases hlen : 8 < n
    · have k1 : (8 : Int) < (n : Int) := by omega
      clear hbad
      go_wp2_with fail
      refine (awake8 _).mono ?_
      rintro e v2 ⟨rfl, b1⟩
      have BV := Lib.hid (BAD.out v2 b1)
      clear b1
      go_wp2
      go_ret
      exact ⟨rfl, BV.out⟩
    · have k1 : ¬ (8 : Int) < (n : Int) := by omega
      by_cases hk0 : kk = 0
      · subst hk0
        clear hbad
        go_wp2_with fail
        refine (awake8 _).mono ?_
        rintro e v2 ⟨rfl, b1⟩
        have BV := Lib.hid (BAD.out v2 b1)
        clear b1
        go_wp2
        go_ret
        exact ⟨rfl, BV.out⟩
      · obtain rfl : kk = 2 := by omega
        clear hbad hk0
        go_wp2_with fail
        refine (awake8 _).mono ?_
        rintro e v2 ⟨rfl, b1⟩
        have BV := Lib.hid (BAD.out v2 b1)
        clear b1
        go_wp2
        go_ret
        exact ⟨rfl, BV.out⟩
  · have k1 : ¬ (8 : Int) < (n : Int) := by omega
    have e0 : (kk == 0) = false := by simpa using (show kk ≠ 0 by omega)
    have e2 : (kk == 2) = false := by simpa using (show kk ≠ 2 by omega)
    have NK := Lib.hid (show q0.k ≠ 0 ∧ q0.k ≠ 2 by rw [KK.out]; omega)
    clear hbad
    go_wp2_with fail
    refine (new8_any _).mono ?_
    rintro e v2 ⟨rfl, b1⟩
    have BV := Lib.hid (BV.out.trans (b1.mono BV.out.size))
    clear b1
    simp only []
    go_at_K
    go_step
    refine list_var_all (ds := scells (blankS false 1)) aggScr zeroScr (scells_size _) (scells_size _) (scells_one _) rfl rfl rfl (.tmp 7) (.tmp 31) rfl (by simp [Act.eval, Act.put]) (by simp [Act.eval, Act.put]) ?_
    simp only [Act.put, List.setIfInBounds_toArray, List.set_cons_zero, List.set_cons_succ]
    have GS := Lib.hid (SB.new v2 (blankS false 1))
    have BQ := Lib.hid BV.out.size
    have BV := Lib.hid (BV.out.alloc BV.out.size (.cells (scells (blankS false 1)) 32))
    obtain ⟨p, hp⟩ : ∃ p, v2.heap.size = p := ⟨_, rfl⟩
    generalize v2.alloc (.cells (scells (blankS false 1)) 32) = v3 at *
    rw [hp] at GS BQ ⊢
    clear hp
    go_wp2
    go_loopw [8] (fun i wr => ∃ (k : Nat) (S : Sc) (M : Nat), k ≤ n ∧ i = .int .i64 (k : Int) ∧ SB p S wr ∧ S.M = (M : Int) ∧ M ≤ 15 ∧ Below v0.heap.size v0 wr) (fun i _ => n - (intOf i).toNat)
    case atStart => exact ⟨0, blankS false 1, 1, by omega, rfl, GS.out, rfl, by omega, BV.out⟩
    case round =>
      clear GS BV
      obtain ⟨k, S, M, hk, rfl, hs, hM, M1, bv⟩ := hrel
      have GS := Lib.hid hs
      have BV := Lib.hid bv
      have HM := Lib.hid (And.intro hM M1)
      clear hs hM M1 bv
      by_cases hlt : k < n
      · have k1 : (k : Int) < (n : Int) := by omega
        have k0 : 0 ≤ (k : Int) := by omega
        have hkl : k < l.length := by rw [GL.out.len]; exact hlt
        obtain ⟨b, o, hA, hb, hr, ok⟩ := GL.out.at_ k hkl
        subst hA
        obtain ⟨q, hq⟩ : ∃ q, q = l[k].1 := ⟨_, rfl⟩
        obtain ⟨L, hL⟩ : ∃ L, L = l[k].2 := ⟨_, rfl⟩
        rw [← hq] at hr ok
        rw [← hL] at ok
        clear hq hL
        have OK := Lib.hid ok
        have R0 := Lib.hid (show ∀ w', Below v0.heap.size v0 w' → w'.rangeAt b (o + k * 9) (stc q).toList from fun w' hw j v hv => (hw.cell (p := ⟨b, o + k * 9 + j, none⟩) hb).trans (hr j v hv))
        have ND := Lib.hid fun (w' : World) (hw : Below v0.heap.size v0 w') => needs_any S M HM.out.1 HM.out.2 q L w' (OK.out.step hw)
        have DO := Lib.hid fun (w' : World) (hw : Below v0.heap.size v0 w') => do_any S M HM.out.1 HM.out.2 q L w' (OK.out.step hw)
        obtain ⟨Z, hZ⟩ : ∃ Z, (doS S M q L).1 = Z := ⟨_, rfl⟩
        obtain ⟨cv, hcv⟩ : ∃ cv, (doS S M q L).2 = cv := ⟨_, rfl⟩
        rw [hZ, hcv] at DO
        have HZ := Lib.hid (show Z.M = (doM M q : Int) ∧ doM M q ≤ 15 by rw [← hZ]; exact ⟨doS_mask HM.out.1 q L, doM_le HM.out.2 q⟩)
        clear hZ hcv hr ok
        go_upto_region 7 with fail
        have CA := Lib.hid (show ∀ u : Calm wr, Below v0.heap.size v0 u.w from fun u => BV.out.trans (u.below.mono BV.out.size))
        have RG := Lib.hid (fun (w' : World) (hw : ∃ u : Calm wr, w' = u.w) => show w'.rangeAt b (o + k * 9) (stc q).toList by obtain ⟨u, rfl⟩ := hw; exact R0.out _ (CA.out u))
        have KS := Lib.hid (fun (w' : World) (hw : ∃ u : Calm wr, w' = u.w) => show Blk p 32 (scells S) w' by obtain ⟨u, rfl⟩ := hw; exact GS.out.step u.below)
        have NC := Lib.hid (fun u : Calm wr => ND.out u.w (CA.out u))
        refine calm_region (by kernel_rfl) (by kernel_rfl) ?_
        repeat (first
          | (refine quiet_load_all aggScr KS.out (scells_size _) ?_ (.tmp 7) ?_ ?_ ?_; (focus rfl); (focus rfl); (focus (simp [Act.eval]; done)); simp only [Act.put, List.setIfInBounds_toArray, List.set_cons_zero, List.set_cons_succ])
          | (refine quiet_load_at aggStp RG.out (stc_size _) ?_ (.tmp 41) ?_ ?_ ?_; (focus rfl); (focus rfl); (focus (simp [Act.eval, Addr.add_mid]; done)); simp only [Act.put, List.setIfInBounds_toArray, List.set_cons_zero, List.set_cons_succ])
          | go_big_quiet_step ((first
            | rfl
            | (go_at_call 11; exact calm_call (NC.out _)))))
        refine wpQuiet_nil ?_
        intro _ hw'
        obtain ⟨u, rfl⟩ := hw'
        have GS := Lib.hid (GS.out.step u.below)
        have BV := Lib.hid (CA.out u)
        clear KS RG NC CA
        generalize u.w = w3 at *
        go_upto_region 9 with fail
        have CA := Lib.hid (show ∀ u : Calm w3, Below v0.heap.size v0 u.w from fun u => BV.out.trans (u.below.mono BV.out.size))
        have RG := Lib.hid (fun (w' : World) (hw : ∃ u : Calm w3, w' = u.w) => show w'.rangeAt b (o + k * 9) (stc q).toList by obtain ⟨u, rfl⟩ := hw; exact R0.out _ (CA.out u))
        have KS := Lib.hid (fun (w' : World) (hw : ∃ u : Calm w3, w' = u.w) => show Blk p 32 (scells S) w' by obtain ⟨u, rfl⟩ := hw; exact GS.out.step u.below)
        refine wp_region_late (C := fun w' => ∃ u : Calm w3, w' = u.w) 9 [([0, 1, 2, 3, 4], 5, false)] [6, 7, 8] [] (by kernel_rfl) (by kernel_rfl) ?_ ?_ ⟨⟨w3.drew, (Below.refl _ _).drew⟩, rfl⟩ ?_
        · exact fun _ _ d _ _ h => by cases d <;> exact h
        · rintro _ w' ⟨u, rfl⟩ hg
          exact ⟨⟨w', u.below.trans (hg.mono u.below.size)⟩, rfl⟩
        intro wd hwd
        have bd := Lib.hid (show Below w3.heap.size w3 wd by rw [hwd]; exact (Below.refl _ _).drew)
        clear hwd
        refine late_real (by simp only [opsAt, List.getElem?_toArray, List.getElem?_cons_succ, List.getElem?_cons_zero]; rfl) (by simp only [List.getElem?_toArray, List.getElem?_cons_succ, List.getElem?_cons_zero]; rfl) ?_
        repeat (first
          | (refine quiet_load_all aggScr KS.out (scells_size _) ?_ (.tmp 7) ?_ ?_ ?_; (focus rfl); (focus rfl); (focus (simp [Act.eval]; done)); simp only [Act.put, List.setIfInBounds_toArray, List.set_cons_zero, List.set_cons_succ])
          | (refine quiet_load_at aggStp RG.out (stc_size _) ?_ (.tmp 49) ?_ ?_ ?_; (focus rfl); (focus rfl); (focus (simp [Act.eval, Addr.add_mid]; done)); simp only [Act.put, List.setIfInBounds_toArray, List.set_cons_zero, List.set_cons_succ])
          | go_big_quiet_step (rfl))
        refine wpQuiet_nil ?_
        refine real_next rfl ?_
        intro w5 g5 C5 K hK
        obtain ⟨u5, rfl⟩ := C5
        refine wp_call_fn (g := 12) (caps := #[]) (args := #[.agg (scells S), .agg (stc q)]) (.func 12) #[.tmp 46, .tmp 50] #[32, 41] rfl (enters_of Try.func12 (by kernel_rfl) rfl) rfl (by simp [Act.eval]) ?_
        refine (DO.out u5.w (CA.out u5)).mono ?_
        rintro e w6 ⟨rfl, b6⟩
        have bd := Lib.hid (u5.below.trans (b6.mono u5.below.size))
        clear b6 g5
        refine ⟨_, rfl, ?_⟩
        refine hK _ _ ⟨⟨w6, bd.out⟩, rfl⟩ ?_
        clear hK K
        simp only [Act.put, List.setIfInBounds_toArray, List.set_cons_zero, List.set_cons_succ]
        refine late_last (by simp only [opsAt, List.getElem?_toArray, List.getElem?_cons_succ, List.getElem?_cons_zero]; rfl) (by simp only [List.getElem?_toArray, List.getElem?_cons_succ, List.getElem?_cons_zero]; rfl) ?_
        repeat (go_big_quiet_step (rfl))
        refine wpQuiet_nil ?_
        refine last_next rfl ?_
        intro w7 g7 C7 K hK
        obtain ⟨u7, rfl⟩ := C7
        refine wp_store_all (ds := scells Z) aggScr (GS.out.step u7.below) (scells_size _) (scells_size _) (scells_one _) (.tmp 7) (.tmp 52) rfl (by simp [Act.eval, Act.put]) (by simp [Act.eval, Act.put]) ?_
        refine hK _ _ ?_
        clear hK K
        simp only [Act.put, List.setIfInBounds_toArray, List.set_cons_zero, List.set_cons_succ]
        simp only [opsAt, List.getElem?_toArray, List.getElem?_cons_succ, List.getElem?_cons_zero]
        repeat (go_big_quiet_step (rfl))
        refine wpQuiet_nil ?_
        intro w8 g8
        have GS := Lib.hid (((GS.out.step u7.below).store Z).step g8)
        have BV := Lib.hid ((belowRow (CA.out u7) BQ.out (scells Z)).trans (g8.mono (by have := (CA.out u7).size; simp [World.setRow]; omega)))
        clear KS RG CA bd g7 g8
        go_wp2
        go_roundw
        case rel => exact ⟨k + 1, Z, doM M q, by omega, by go_num, GS.out, HZ.out.1, HZ.out.2, BV.out⟩
        case measure => simp [intOf]; omega
      · have k1 : ¬ (k : Int) < (n : Int) := by omega
        go_upto_region 11 with fail
        obtain ⟨m, hm⟩ : ∃ m : Nat, (mk : Int) % 16 = (m : Int) := ⟨mk % 16, by omega⟩
        have m1 : m ≤ 15 := by omega
        rw [hm]
        obtain ⟨S2, hS2⟩ : ∃ S2, S.mask (m : Int) = S2 := ⟨_, rfl⟩
        have SEL := Lib.hid fun w => hS2 ▸ select8_any S (m : Int) w
        have M2 := Lib.hid (show S2.M = (m : Int) by rw [← hS2]; rfl)
        clear hS2 hm
        refine wp_region_lit ?_
        refine list_load_all aggScr GS.out (scells_size _) rfl (.tmp 7) rfl (by simp [Act.eval, Act.put]) ?_
        simp only [Act.put, List.setIfInBounds_toArray, List.set_cons_zero, List.set_cons_succ]
        go_wp2_with fail
        refine (SEL.out _).mono ?_
        rintro e v4 ⟨rfl, b1⟩
        have GS := Lib.hid (GS.out.step b1)
        have BV := Lib.hid (BV.out.trans (b1.mono BV.out.size))
        clear b1
        simp only []
        go_at_K
        go_step
        refine list_store_all (ds := scells S2) aggScr GS.out (scells_size _) (scells_size _) (scells_one _) rfl (.tmp 7) (.tmp 59) rfl (by simp [Act.eval, Act.put]) (by simp [Act.eval, Act.put]) ?_
        simp only [Act.put, List.setIfInBounds_toArray, List.set_cons_zero, List.set_cons_succ]
        have GS := Lib.hid (GS.out.store S2)
        have BV := Lib.hid (belowRow BV.out BQ.out (scells S2))
        generalize v4.setRow p (scells S2) = v5 at *
        go_upto_region 12 with fail
        refine wp_region_lit ?_
        refine list_load_all aggScr GS.out (scells_size _) rfl (.tmp 7) rfl (by simp [Act.eval, Act.put]) ?_
        simp only [Act.put, List.setIfInBounds_toArray, List.set_cons_zero, List.set_cons_succ]
        refine list_load_all aggStp (T0.out.below BV.out T0.out.lt) (stc_size _) rfl (.tmp 5) rfl (by simp [Act.eval, Act.put]) ?_
        simp only [Act.put, List.setIfInBounds_toArray, List.set_cons_zero, List.set_cons_succ]
        go_wp2_with fail
        refine (needs_any S2 m M2.out m1 q0 L0 _ (XO.out.step BV.out)).mono ?_
        rintro e v6 ⟨rfl, b1⟩
        have GS := Lib.hid (GS.out.step b1)
        have BV := Lib.hid (BV.out.trans (b1.mono BV.out.size))
        clear b1
        obtain ⟨Z, hZ⟩ : ∃ Z, (doS S2 m q0 L0).1 = Z := ⟨_, rfl⟩
        obtain ⟨cv, hcv⟩ : ∃ cv, (doS S2 m q0 L0).2 = cv := ⟨_, rfl⟩
        have KZ := Lib.hid (show Z.hi = S2.hi ∧ Z.M = S2.M ∧ ∀ i, onB m i = false → Z.P i = S2.P i by rw [← hZ]; exact doS_keeps S2 m q0 L0 NK.out.1 NK.out.2)
        go_upto_region 14 with fail
        refine wp_region_lit ?_
        refine list_load_all aggScr GS.out (scells_size _) rfl (.tmp 7) rfl (by simp [Act.eval, Act.put]) ?_
        simp only [Act.put, List.setIfInBounds_toArray, List.set_cons_zero, List.set_cons_succ]
        refine list_load_all aggStp (T0.out.below BV.out T0.out.lt) (stc_size _) rfl (.tmp 5) rfl (by simp [Act.eval, Act.put]) ?_
        simp only [Act.put, List.setIfInBounds_toArray, List.set_cons_zero, List.set_cons_succ]
        go_wp2_with fail
        have DO := do_any S2 m M2.out m1 q0 L0 _ (XO.out.step BV.out)
        rw [hZ, hcv] at DO
        refine DO.mono ?_
        rintro e v7 ⟨rfl, b1⟩
        have GS := Lib.hid (GS.out.step b1)
        have BV := Lib.hid (BV.out.trans (b1.mono BV.out.size))
        clear b1 DO hZ hcv
        simp only []
        go_at_K
        iterate 10 go_step
        refine list_var_all (ds := scells Z) aggScr zeroScr (scells_size _) (scells_size _) (scells_one _) rfl rfl rfl (.tmp 10) (.tmp 68) rfl (by simp [Act.eval, Act.put]) (by simp [Act.eval, Act.put]) ?_
        simp only [Act.put, List.setIfInBounds_toArray, List.set_cons_zero, List.set_cons_succ]
        have GZ := Lib.hid (SB.new v7 Z)
        have GS := Lib.hid (GS.out.alloc (.cells (scells Z) 32))
        have BV := Lib.hid (BV.out.alloc BV.out.size (.cells (scells Z) 32))
        obtain ⟨g, hg⟩ : ∃ g, v7.heap.size = g := ⟨_, rfl⟩
        generalize v7.alloc (.cells (scells Z) 32) = v8 at *
        rw [hg] at GZ ⊢
        clear hg
        go_wp2
        go_loopw [12] (fun i wr => ∃ j : Nat, j ≤ 4 ∧ i = .int .i64 (j : Int) ∧ SB p S2 wr ∧ SB g Z wr ∧ Below v0.heap.size v0 wr) (fun i _ => 4 - (intOf i).toNat)
        case atStart => exact ⟨0, by omega, rfl, GS.out, GZ.out, BV.out⟩
        case round =>
          clear GS GZ BV
          obtain ⟨j, hj, rfl, hs, hz, bv⟩ := hrel
          have GS := Lib.hid hs
          have GZ := Lib.hid hz
          have BV := Lib.hid bv
          clear hs hz bv
          by_cases hjt : j < 4
          · have j1 : (j : Int) < 4 := by omega
            have j0 : 0 ≤ (j : Int) := by omega
            obtain ⟨bj, hbj⟩ : ∃ v, onB m j = v := ⟨_, rfl⟩
            have OJ := Lib.hid fun w => hbj ▸ on_any m j w (by omega) (by omega)
            have EJ := Lib.hid (show bj = false → samePl (Z.P j) (S2.P j) = true from fun h => by rw [KZ.out.2.2 j (by rw [hbj, h])]; exact samePl_self _)
            clear hbj
            cases bj
            · have EJ := EJ.out rfl
              go_upto_region 18 with fail
              have KS := Lib.hid (fun (w' : World) (hw : ∃ u : Calm wr, w' = u.w) => show Blk p 32 (scells S2) w' by obtain ⟨u, rfl⟩ := hw; exact GS.out.step u.below)
              have KT := Lib.hid (fun (w' : World) (hw : ∃ u : Calm wr, w' = u.w) => show Blk g 32 (scells Z) w' by obtain ⟨u, rfl⟩ := hw; exact GZ.out.step u.below)
              refine calm_region (by kernel_rfl) (by kernel_rfl) ?_
              repeat (first
                | (refine quiet_load_part (o := j * 128) (n := 128) aggPl KT.out (by rw [scells_size]; omega) ?_ (.tmp 81) ?_ ?_ ?_; (focus rfl); (focus rfl); (focus (simp [Act.eval]; done)); (rw [sc_plane _ _ hjt]); simp only [Act.put, List.setIfInBounds_toArray, List.set_cons_zero, List.set_cons_succ])
                | (refine quiet_load_part (o := j * 128) (n := 128) aggPl KS.out (by rw [scells_size]; omega) ?_ (.tmp 85) ?_ ?_ ?_; (focus rfl); (focus rfl); (focus (simp [Act.eval]; done)); (rw [sc_plane _ _ hjt]); simp only [Act.put, List.setIfInBounds_toArray, List.set_cons_zero, List.set_cons_succ])
                | (refine quiet_neqP EJ ?_ (.tmp 82) (.tmp 86) 29 ?_ ?_ ?_ ?_; (focus rfl); (focus rfl); (focus (simp [Act.eval]; done)); (focus (simp [Act.eval]; done)); simp only [Act.put, List.setIfInBounds_toArray, List.set_cons_zero, List.set_cons_succ])
                | go_big_quiet_step ((first
                  | rfl
                  | (go_at_call 16; exact calm_same (OJ.out _)))))
              refine wpQuiet_nil ?_
              intro _ hw'
              obtain ⟨u, rfl⟩ := hw'
              have GS := Lib.hid (GS.out.step u.below)
              have GZ := Lib.hid (GZ.out.step u.below)
              have BV := Lib.hid (BV.out.trans (u.below.mono BV.out.size))
              clear KS KT OJ EJ
              generalize u.w = w3 at *
              go_wp2
              go_roundw
              case rel => exact ⟨j + 1, by omega, by go_num, GS.out, GZ.out, BV.out⟩
              case measure => simp [intOf]; omega
            · go_upto_region 18 with fail
              refine calm_region (by kernel_rfl) (by kernel_rfl) ?_
              repeat (go_big_quiet_step ((first
                  | rfl
                  | (go_at_call 16; exact calm_same (OJ.out _)))))
              refine wpQuiet_nil ?_
              intro _ hw'
              obtain ⟨u, rfl⟩ := hw'
              have GS := Lib.hid (GS.out.step u.below)
              have GZ := Lib.hid (GZ.out.step u.below)
              have BV := Lib.hid (BV.out.trans (u.below.mono BV.out.size))
              clear OJ EJ
              generalize u.w = w3 at *
              go_wp2
              go_roundw
              case rel => exact ⟨j + 1, by omega, by go_num, GS.out, GZ.out, BV.out⟩
              case measure => simp [intOf]; omega
          · have j1 : ¬ (j : Int) < 4 := by omega
            obtain ⟨hh, hhi⟩ : ∃ v, S2.hi = v := ⟨_, rfl⟩
            have z3 : wr.cell? ⟨g, 513, none⟩ = some (.int .i64 (m : Int)) := by rw [GZ.out.maskc, KZ.out.2.1, M2.out]
            have z2 : wr.cell? ⟨g, 512, none⟩ = some (.bool hh) := by rw [GZ.out.hires, KZ.out.1, hhi]
            have s2 : wr.cell? ⟨p, 512, none⟩ = some (.bool hh) := by rw [GS.out.hires, hhi]
            have BF := Lib.hid (B0.out.trans (BV.out.mono B0.out.size))
            clear hhi
            go_wp2
            go_ret
            exact ⟨by simp, BF.out⟩
end Go.Proofs.Ytplmmfgmbfcjpaa
