/- The walk of ScreenMatchesReference. -/
import Derived.Test.YtplmmfgmbfcjpaaScrAwake
import Derived.Test.YtplmmfgmbfcjpaaScrOpen
import Derived.Test.YtplmmfgmbfcjpaaScrMod
import Derived.Test.YtplmmfgmbfcjpaaFork
import Derived.Test.YtplmmfgmbfcjpaaPlaneStep
namespace Go.Proofs.Ytplmmfgmbfcjpaa
open Go.RowKit Go.Shelf Num
set_option linter.unusedVariables false
set_option linter.unusedSimpArgs false

theorem zeroRS : ZeroT Try.prog 36 #[.slice none 0 0, .bool false, .int .i64 0] := by unfold ZeroT; kernel_rfl
theorem SOut.otherRow {q : Nat} {v : Value} {hi : Bool} {M : Int} {w : World} (H : SOut q v hi M w) {g : Nat} (hg : q ≠ g) (cs : Array Value) : SOut q v hi M (w.setRow g cs) := (setRow_other w g q cs hg).trans H
theorem RefB.scrRow {N : Nat} {A : Option Addr} {gs : List Nat} {F : Nat → Nat → Bool} {w : World} (H : RefB N A gs F w) {p : Nat} {S : Sc} (hS : SB p S w) (cs : Array Value) : RefB N A gs F (w.setRow p cs) := by
  have no : ∀ j v, w.cell? ⟨p, j, none⟩ = some v → (∃ k n, v = .int k n) ∨ (512 ≤ j) ∧ ∃ b, v = .bool b := fun j v h => by
    rw [Blk.cell hS] at h
    by_cases hj : j < 514
    · rw [scells_get _ _ hj] at h
      unfold cellOf at h
      split at h
      · cases h; exact .inl ⟨_, _, rfl⟩
      · split at h
        · cases h; exact .inr ⟨by omega, _, rfl⟩
        · cases h; exact .inl ⟨_, _, rfl⟩
    · rw [Array.getElem?_eq_none (by rw [scells_size]; omega)] at h
      cases h
  refine ⟨H.len, fun hne => ?_, fun i hi => (H.px i hi).otherRow (fun e => ?_) _⟩
  · obtain ⟨b, oo, hA, hlt, hc⟩ := H.row hne
    have hbp : b ≠ p := fun e => by
      subst e
      rcases no _ _ (hc 0 (by rw [H.len]; decide)) with ⟨k, n, h⟩ | ⟨_, x, h⟩ <;> simp [encP] at h
    exact ⟨b, oo, hA, by simpa [World.setRow] using hlt, fun j hj => by rw [cell_setRow hbp]; exact hc j hj⟩
  · have h0 := (H.px i hi).at_ 0 (by decide)
    rw [← e] at h0
    rcases no _ _ h0 with ⟨k, n, h⟩ | ⟨h, _⟩
    · simp at h
    · omega
set_option maxRecDepth 100000 in
set_option maxHeartbeats 8000000 in
theorem screenMatchesReference_walk (AL : Option Addr) (n c : Nat) (l : List (Stp × List Nat)) (w : World) (H : Stps w AL n l) :
    Calls Try.prog 3 #[.slice AL n c] w fun e w' => e = .returned (.bool true) ∧ Below w.heap.size w w' := by
  obtain ⟨N, hN⟩ : ∃ N, N = 8192 := ⟨_, rfl⟩
  have NN := Lib.hid hN
  have GL := Lib.hid H
  have mx := H.max
  clear H hN
  obtain ⟨v0, hv0⟩ : ∃ v0, v0 = w := ⟨_, rfl⟩
  subst hv0
  go_enter Try.func3, Try.ntmps3
  go_wp2_with fail
  refine (awake8 _).mono ?_
  rintro e v1 ⟨rfl, b1⟩
  have BV := Lib.hid b1
  clear b1
  by_cases hlen : 12 < n
  · have k1 : (12 : Int) < (n : Int) := by omega
    go_wp2_with fail
    refine (awake8 _).mono ?_
    rintro e v2 ⟨rfl, b1⟩
    have BV := Lib.hid (BV.out.trans (b1.mono BV.out.size))
    clear b1
    go_wp2
    go_ret
    exact ⟨rfl, BV.out⟩
  · have k1 : ¬ (12 : Int) < (n : Int) := by omega
    go_wp2_with fail
    refine (new8_any _).mono ?_
    rintro e v2 ⟨rfl, b1⟩
    have BV := Lib.hid (BV.out.trans (b1.mono BV.out.size))
    clear b1
    simp only []
    go_at_K
    go_step
    refine list_var_all (ds := scells (blankS false 1)) aggScr zeroScr (scells_size _) (scells_size _) (scells_one _) rfl rfl rfl (.tmp 3) (.tmp 18) rfl (by simp [Act.eval, Act.put]) (by simp [Act.eval, Act.put]) ?_
    simp only [Act.put, List.setIfInBounds_toArray, List.set_cons_zero, List.set_cons_succ]
    have GS := Lib.hid (SB.new v2 (blankS false 1))
    have BQ := Lib.hid BV.out.size
    have BV := Lib.hid (BV.out.alloc BV.out.size (.cells (scells (blankS false 1)) 32))
    obtain ⟨p, hp⟩ : ∃ p, v2.heap.size = p := ⟨_, rfl⟩
    generalize v2.alloc (.cells (scells (blankS false 1)) 32) = v3 at *
    rw [hp] at GS BQ ⊢
    clear hp
    go_wp2_with fail
    refine (rnew8_any N NN.out _).mono ?_
    rintro e v4 ⟨A2, cap2, gs2, rfl, l2, r2, p2, b1⟩
    have GS := Lib.hid (GS.out.step b1)
    have GR := Lib.hid (show RefB N A2 gs2 (fun _ _ => false) v4 from ⟨l2, r2, p2⟩)
    have BV := Lib.hid (BV.out.trans (b1.mono BV.out.size))
    clear b1 l2 r2 p2
    simp only []
    go_at_K
    go_step
    refine list_var_all (ds := #[.slice A2 4 cap2, .bool false, .int .i64 1]) aggRS zeroRS rfl rfl (oneRS _ _ _ _ _) rfl rfl rfl (.tmp 4) (.tmp 19) rfl (by simp [Act.eval, Act.put]) (by simp [Act.eval, Act.put]) ?_
    simp only [Act.put, List.setIfInBounds_toArray, List.set_cons_zero, List.set_cons_succ]
    have GT := Lib.hid (SOut.new v4 (.slice A2 4 cap2) false 1)
    have BT := Lib.hid (show v0.heap.size ≤ v4.heap.size ∧ p < v4.heap.size from ⟨BV.out.size, GS.out.lt⟩)
    have GS := Lib.hid (GS.out.alloc (.cells #[.slice A2 4 cap2, .bool false, .int .i64 1] 36))
    have GR := Lib.hid (GR.out.step ((Below.refl v4.heap.size v4).alloc (Nat.le_refl _) (.cells #[.slice A2 4 cap2, .bool false, .int .i64 1] 36)))
    have BV := Lib.hid (BV.out.alloc BV.out.size (.cells #[.slice A2 4 cap2, .bool false, .int .i64 1] 36))
    obtain ⟨pt, hpt⟩ : ∃ p, v4.heap.size = p := ⟨_, rfl⟩
    generalize v4.alloc (.cells #[.slice A2 4 cap2, .bool false, .int .i64 1] 36) = v5 at *
    rw [hpt] at GT BT ⊢
    clear hpt
    go_wp2
    go_loopw [5] (fun i wr => ∃ (k : Nat) (S : Sc) (M : Nat) (A : Option Addr) (cap : Nat) (gs : List Nat) (F : Nat → Nat → Bool) (hi : Bool), k ≤ n ∧ i = .int .i64 (k : Int) ∧ SB p S wr ∧ SOut pt (.slice A 4 cap) hi (M : Int) wr ∧ RefB N A gs F wr ∧ Rel S F ∧ S.hi = hi ∧ S.M = (M : Int) ∧ M ≤ 15 ∧ Below v0.heap.size v0 wr) (fun i _ => n - (intOf i).toNat)
    case atStart => exact ⟨0, blankS false 1, 1, A2, cap2, gs2, _, false, by omega, rfl, GS.out, GT.out, GR.out, rel_blank _ _, rfl, rfl, by omega, BV.out⟩
    case round =>
      clear GS GT GR BV
      obtain ⟨k, S, M, A, cap, gs, F, hi, hk, rfl, hs, ht, hgr, hrl, hhi, hM, M1, bv⟩ := hrel
      have GS := Lib.hid hs
      have GT := Lib.hid ht
      have GR := Lib.hid hgr
      have RL := Lib.hid hrl
      have BV := Lib.hid bv
      have HM := Lib.hid (And.intro hM (And.intro M1 hhi))
      clear hs ht hgr hrl hhi hM M1 bv
      by_cases hlt : k < n
      · have k1 : (k : Int) < (n : Int) := by omega
        have k0 : 0 ≤ (k : Int) := by omega
        have hkl : k < l.length := by rw [GL.out.len]; exact hlt
        obtain ⟨b, o, hA, hb, hr, ok⟩ := GL.out.at_ k hkl
        subst hA
        obtain ⟨q, hq⟩ : ∃ q, q = l[k].1 := ⟨_, rfl⟩
        obtain ⟨L, hL⟩ : ∃ L, L = l[k].2 := ⟨_, rfl⟩
        rw [← hq] at hr ok
        rw [← hL] at ok
        clear hq hL
        have OK := Lib.hid ok
        have R0 := Lib.hid (show ∀ w', Below v0.heap.size v0 w' → w'.rangeAt b (o + k * 9) (stc q).toList from fun w' hw j v hv => (hw.cell (p := ⟨b, o + k * 9 + j, none⟩) hb).trans (hr j v hv))
        have ND := Lib.hid fun (w' : World) (hw : Below v0.heap.size v0 w') => needs_any S M HM.out.1 HM.out.2.1 q L w' (OK.out.step hw)
        have DO := Lib.hid fun (w' : World) (hw : Below v0.heap.size v0 w') => do_any S M HM.out.1 HM.out.2.1 q L w' (OK.out.step hw)
        have MO := Lib.hid fun (w' : World) (hw : Below v0.heap.size v0 w') (H' : RefB N A gs F w') => model_any N NN.out S F RL.out A cap gs hi HM.out.2.2 M HM.out.1 HM.out.2.1 q L w' (OK.out.step hw) H'
        obtain ⟨Z, hZ⟩ : ∃ Z, (doS S M q L).1 = Z := ⟨_, rfl⟩
        obtain ⟨cv, hcv⟩ : ∃ cv, (doS S M q L).2 = cv := ⟨_, rfl⟩
        obtain ⟨M2, hM2⟩ : ∃ m, doM M q = m := ⟨_, rfl⟩
        rw [hZ, hcv] at DO MO
        rw [hM2] at MO
        have HZ := Lib.hid (show Z.M = (M2 : Int) ∧ M2 ≤ 15 by rw [← hZ, ← hM2]; exact ⟨doS_mask HM.out.1 q L, doM_le HM.out.2.1 q⟩)
        obtain ⟨hz, hhz⟩ : ∃ v, Z.hi = v := ⟨_, rfl⟩
        have HZH := Lib.hid hhz
        clear hZ hcv hr ok hM2 hhz
        go_upto_region 8 with fail
        have CA := Lib.hid (show ∀ u : Calm wr, Below v0.heap.size v0 u.w from fun u => BV.out.trans (u.below.mono BV.out.size))
        have RG := Lib.hid (fun (w' : World) (hw : ∃ u : Calm wr, w' = u.w) => show w'.rangeAt b (o + k * 9) (stc q).toList by obtain ⟨u, rfl⟩ := hw; exact R0.out _ (CA.out u))
        have KS := Lib.hid (fun (w' : World) (hw : ∃ u : Calm wr, w' = u.w) => show Blk p 32 (scells S) w' by obtain ⟨u, rfl⟩ := hw; exact GS.out.step u.below)
        have NC := Lib.hid (fun u : Calm wr => ND.out u.w (CA.out u))
        have ks : ∀ u : Calm wr, u.w.cell? ⟨p, 513, none⟩ = some (.int .i64 (M : Int)) := fun u => by rw [(GS.out.step u.below).maskc, HM.out.1]
        have kt : ∀ u : Calm wr, u.w.cell? ⟨pt, 2, none⟩ = some (.int .i64 (M : Int)) := fun u => (GT.out.step u.below).c2
        refine calm_region (by kernel_rfl) (by kernel_rfl) ?_
        repeat (first
          | (refine quiet_load_all aggScr KS.out (scells_size _) ?_ (.tmp 3) ?_ ?_ ?_; (focus rfl); (focus rfl); (focus (simp [Act.eval]; done)); simp only [Act.put, List.setIfInBounds_toArray, List.set_cons_zero, List.set_cons_succ])
          | (refine quiet_load_at aggStp RG.out (stc_size _) ?_ (.tmp 35) ?_ ?_ ?_; (focus rfl); (focus rfl); (focus (simp [Act.eval, Addr.add_mid]; done)); simp only [Act.put, List.setIfInBounds_toArray, List.set_cons_zero, List.set_cons_succ])
          | go_big_quiet_step ((first
            | rfl
            | (go_at_call 11; exact calm_call (NC.out _)))))
        refine wpQuiet_nil ?_
        intro _ hw'
        obtain ⟨u, rfl⟩ := hw'
        have GS := Lib.hid (GS.out.step u.below)
        have GT := Lib.hid (GT.out.step u.below)
        have GR := Lib.hid (GR.out.step u.below)
        have BV := Lib.hid (CA.out u)
        clear KS RG NC CA ks kt ND
        generalize u.w = w3 at *
        go_upto_region 10 with fail
        have BVO := Lib.hid BV.out.size
        have CA := Lib.hid (show ∀ u : Calm w3, Below v0.heap.size v0 u.w from fun u => BV.out.trans (u.below.mono BV.out.size))
        have RG := Lib.hid (fun (w' : World) (hw : ∃ u : Calm w3, w' = u.w) => show w'.rangeAt b (o + k * 9) (stc q).toList by obtain ⟨u, rfl⟩ := hw; exact R0.out _ (CA.out u))
        have DC := Lib.hid (fun (w' : World) (hw : ∃ u : Calm w3, w' = u.w) => DO.out w' (by obtain ⟨u, rfl⟩ := hw; exact CA.out u))
        have KS := Lib.hid (fun (w' : World) (hw : ∃ u : Calm w3, w' = u.w) => show Blk p 32 (scells S) w' by obtain ⟨u, rfl⟩ := hw; exact GS.out.step u.below)
        refine wp_region_late (C := fun w' => ∃ u : Calm w3, w' = u.w) 10 [([0, 1, 2, 3, 4], 5, true), ([6, 7, 8], 9, false)] [] [11] (by kernel_rfl) (by kernel_rfl) ?_ ?_ ⟨⟨w3.drew, (Below.refl _ _).drew⟩, rfl⟩ ?_
        · exact fun _ _ d _ _ h => by cases d <;> exact h
        · rintro _ w' ⟨u, rfl⟩ hg
          exact ⟨⟨w', u.below.trans (hg.mono u.below.size)⟩, rfl⟩
        intro wd hwd
        have bd := Lib.hid (show Below w3.heap.size w3 wd by rw [hwd]; exact (Below.refl _ _).drew)
        clear hwd
        clear bd
        refine late_calm (by simp only [opsAt, List.getElem?_toArray, List.getElem?_cons_succ, List.getElem?_cons_zero]; rfl) (by simp only [List.getElem?_toArray, List.getElem?_cons_succ, List.getElem?_cons_zero]; rfl) ?_
        repeat (first
          | (refine quiet_load_all aggScr KS.out (scells_size _) ?_ (.tmp 3) ?_ ?_ ?_; (focus rfl); (focus rfl); (focus (simp [Act.eval]; done)); simp only [Act.put, List.setIfInBounds_toArray, List.set_cons_zero, List.set_cons_succ])
          | (refine quiet_load_at aggStp RG.out (stc_size _) ?_ (.tmp 44) ?_ ?_ ?_; (focus rfl); (focus rfl); (focus (simp [Act.eval, Addr.add_mid]; done)); simp only [Act.put, List.setIfInBounds_toArray, List.set_cons_zero, List.set_cons_succ])
          | go_big_quiet_step (rfl))
        refine wpQuiet_nil ?_
        refine calm_next (v := .tuple #[.agg (scells Z), .bool cv]) (calm_fn (g := 12) (caps := #[]) (args := #[.agg (scells S), .agg (stc q)]) (.func 12) #[.tmp 41, .tmp 45] #[32, 41] rfl rfl (enters_of Try.func12 (by kernel_rfl) rfl) (fun w' hw => DC.out w' hw) rfl (by simp [Act.eval])) ?_
        simp only [Act.put, List.setIfInBounds_toArray, List.set_cons_zero, List.set_cons_succ]
        clear KS RG DC
        refine late_real (by simp only [opsAt, List.getElem?_toArray, List.getElem?_cons_succ, List.getElem?_cons_zero]; rfl) (by simp only [List.getElem?_toArray, List.getElem?_cons_succ, List.getElem?_cons_zero]; rfl) ?_
        repeat (go_big_quiet_step (rfl))
        refine wpQuiet_nil ?_
        refine real_next rfl ?_
        intro w5 g5 C5 K hK
        obtain ⟨u5, rfl⟩ := C5
        refine wp_alloc zeroScr rfl ?_
        refine hK _ _ ⟨⟨u5.w.alloc (.cells (scells (blankS false 0)) 32), u5.below.alloc u5.below.size _⟩, rfl⟩ ?_
        clear hK K g5
        simp only [Act.put, List.setIfInBounds_toArray, List.set_cons_zero, List.set_cons_succ]
        have G5 := Lib.hid (SB.new u5.w (blankS false 0))
        have Z5 := Lib.hid u5.below.size
        obtain ⟨gv6, hg⟩ : ∃ g, u5.w.heap.size = g := ⟨_, rfl⟩
        generalize u5.w.alloc (.cells (scells (blankS false 0)) 32) = w6 at *
        rw [hg] at G5 Z5 ⊢
        clear hg u5
        refine late_last (by simp only [opsAt, List.getElem?_toArray, List.getElem?_cons_succ, List.getElem?_cons_zero]; rfl) (by simp only [List.getElem?_toArray, List.getElem?_cons_succ, List.getElem?_cons_zero]; rfl) ?_
        repeat (go_big_quiet_step (rfl))
        refine wpQuiet_nil ?_
        refine last_next rfl ?_
        intro w7 g7 C7 K hK
        obtain ⟨u7, rfl⟩ := C7
        refine wp_store_all (ds := scells Z) aggScr (G5.out.step g7) (scells_size _) (scells_size _) (scells_one _) (.tmp 6) (.tmp 47) rfl (by simp [Act.eval, Act.put]) (by simp [Act.eval, Act.put]) ?_
        refine hK _ _ ?_
        clear hK K
        simp only [Act.put, List.setIfInBounds_toArray, List.set_cons_zero, List.set_cons_succ]
        simp only [opsAt, List.getElem?_toArray, List.getElem?_cons_succ, List.getElem?_cons_zero]
        repeat (go_big_quiet_step (rfl))
        refine wpQuiet_nil ?_
        intro v6 g8
        have GA := Lib.hid (((G5.out.step g7).store Z).step g8)
        have B8 := Lib.hid ((belowRow u7.below Z5.out (scells Z)).trans (g8.mono (by have := u7.below.size; simp [World.setRow]; omega)))
        have GS := Lib.hid (GS.out.step B8.out)
        have GT := Lib.hid (GT.out.step B8.out)
        have GR := Lib.hid (GR.out.step B8.out)
        have BV := Lib.hid (BV.out.trans (B8.out.mono BV.out.size))
        have Qgv6 := Lib.hid (show v0.heap.size ≤ gv6 from Nat.le_trans BVO.out Z5.out)
        clear B8 G5 Z5 g7 g8 CA u7
        clear DO
        go_upto_region 11 with fail
        have CA := Lib.hid (show ∀ u : Calm v6, Below v0.heap.size v0 u.w from fun u => BV.out.trans (u.below.mono BV.out.size))
        have RG := Lib.hid (fun (w' : World) (hw : ∃ u : Calm v6, w' = u.w) => show w'.rangeAt b (o + k * 9) (stc q).toList by obtain ⟨u, rfl⟩ := hw; exact R0.out _ (CA.out u))
        have KT := Lib.hid (fun (w' : World) (hw : ∃ u : Calm v6, w' = u.w) => show Blk pt 36 #[.slice A 4 cap, .bool hi, .int .i64 (M : Int)] w' by obtain ⟨u, rfl⟩ := hw; exact GT.out.step u.below)
        refine wp_region_fork (C := fun w' => ∃ u : Calm v6, w' = u.w) (.fork [0, 1, 2, 3, 4] 5 (.call [6, 7, 8] 9 (.call [] 10 (.last [11]))) 9 (.call [] 5 (.call [6, 7, 8] 10 (.last [11])))) (by kernel_rfl) (by kernel_rfl) ?_ ⟨⟨v6.drew, (Below.refl _ _).drew⟩, rfl⟩ ?_
        · exact fun _ _ d _ _ h => by cases d <;> exact h
        intro wd hwd
        have bd := Lib.hid (show Below v6.heap.size v6 wd by rw [hwd]; exact (Below.refl _ _).drew)
        clear hwd
        refine forkT_fork (by simp only [opsAt, List.getElem?_toArray, List.getElem?_cons_succ, List.getElem?_cons_zero]; rfl) ?_
        repeat (first
          | (refine quiet_load_all aggRS KT.out rfl ?_ (.tmp 4) ?_ ?_ ?_; (focus rfl); (focus rfl); (focus (simp [Act.eval]; done)); simp only [Act.put, List.setIfInBounds_toArray, List.set_cons_zero, List.set_cons_succ])
          | (refine quiet_load_at aggStp RG.out (stc_size _) ?_ (.tmp 53) ?_ ?_ ?_; (focus rfl); (focus rfl); (focus (simp [Act.eval, Addr.add_mid]; done)); simp only [Act.put, List.setIfInBounds_toArray, List.set_cons_zero, List.set_cons_succ])
          | go_big_quiet_step (rfl))
        refine wpQuiet_nil ?_
        clear RG KT
        constructor
        · refine oneT_call (by simp only [List.getElem?_toArray, List.getElem?_cons_succ, List.getElem?_cons_zero]; rfl) rfl ?_
          intro K hK
          refine wp_call_fn (g := 13) (caps := #[]) (args := #[.agg #[.slice A 4 cap, .bool hi, .int .i64 (M : Int)], .agg (stc q)]) (.func 13) #[.tmp 50, .tmp 54] #[36, 41] rfl (enters_of Try.func13 (by kernel_rfl) rfl) rfl (by simp [Act.eval]) ?_
          refine (MO.out wd (BV.out.trans (bd.out.mono BV.out.size)) (GR.out.step bd.out)).mono ?_
          rintro e w7 ⟨F2, A2, cap2, gs2, rl2, rfl, r2, b2⟩
          have bd := Lib.hid (bd.out.trans (b2.mono bd.out.size))
          have RL := Lib.hid rl2
          have GR := Lib.hid r2
          clear b2 rl2 r2
          refine ⟨_, rfl, ?_⟩
          refine hK _ _ ⟨⟨w7, bd.out⟩, rfl⟩ ?_
          clear hK K
          simp only [Act.put, List.setIfInBounds_toArray, List.set_cons_zero, List.set_cons_succ]
          refine forkT_call (by simp only [opsAt, List.getElem?_toArray, List.getElem?_cons_succ, List.getElem?_cons_zero]; rfl) ?_
          repeat (go_big_quiet_step (rfl))
          refine wpQuiet_nil ?_
          refine oneT_call (by simp only [List.getElem?_toArray, List.getElem?_cons_succ, List.getElem?_cons_zero]; rfl) rfl ?_
          intro K hK
          refine wp_alloc zeroRS rfl ?_
          refine hK _ _ ⟨⟨w7.alloc (.cells #[.slice none 0 0, .bool false, .int .i64 0] 36), bd.out.alloc bd.out.size _⟩, rfl⟩ ?_
          clear hK K
          simp only [Act.put, List.setIfInBounds_toArray, List.set_cons_zero, List.set_cons_succ]
          have GZ := Lib.hid (SOut.new w7 (.slice none 0 0) false 0)
          have QY := Lib.hid bd.out.size
          have GR := Lib.hid (GR.out.step ((Below.refl w7.heap.size w7).alloc (Nat.le_refl _) (.cells #[.slice none 0 0, .bool false, .int .i64 0] 36)))
          have bd := Lib.hid (bd.out.alloc bd.out.size (.cells #[.slice none 0 0, .bool false, .int .i64 0] 36))
          obtain ⟨gy, hgy⟩ : ∃ g, w7.heap.size = g := ⟨_, rfl⟩
          generalize w7.alloc (.cells #[.slice none 0 0, .bool false, .int .i64 0] 36) = w8 at *
          rw [hgy] at GZ QY ⊢
          clear hgy
          refine forkT_call (by simp only [opsAt, List.getElem?_toArray, List.getElem?_cons_succ, List.getElem?_cons_zero]; rfl) ?_
          refine wpQuiet_nil ?_
          refine oneT_call (by simp only [List.getElem?_toArray, List.getElem?_cons_succ, List.getElem?_cons_zero]; rfl) rfl ?_
          intro K hK
          rw [HZH.out]
          refine wp_store_all (ds := #[.slice A2 4 cap2, .bool hz, .int .i64 (M2 : Int)]) aggRS (show Blk gy 36 _ w8 from GZ.out) rfl rfl (oneRS _ _ _ _ _) (.tmp 8) (.tmp 56) rfl (by simp [Act.eval, Act.put]) (by simp [Act.eval, Act.put]) ?_
          refine hK _ _ ⟨⟨w8.setRow gy (#[.slice A2 4 cap2, .bool hz, .int .i64 (M2 : Int)]), belowRow bd.out QY.out _⟩, rfl⟩ ?_
          clear hK K
          simp only [Act.put, List.setIfInBounds_toArray, List.set_cons_zero, List.set_cons_succ]
          refine forkT_last (by simp only [opsAt, List.getElem?_toArray, List.getElem?_cons_succ, List.getElem?_cons_zero]; rfl) ?_
          repeat (go_big_quiet_step (rfl))
          refine wpQuiet_nil ?_
          have B9 := Lib.hid (belowRow bd.out QY.out (#[.slice A2 4 cap2, .bool hz, .int .i64 (M2 : Int)]))
          have GY := Lib.hid (show SOut gy (.slice A2 4 cap2) hz (M2 : Int) (w8.setRow gy (#[.slice A2 4 cap2, .bool hz, .int .i64 (M2 : Int)])) from Blk.store (show Blk gy 36 _ w8 from GZ.out) _)
          have GR := Lib.hid (GR.out.setRow GZ.out (#[.slice A2 4 cap2, .bool hz, .int .i64 (M2 : Int)]))
          generalize w8.setRow gy (#[.slice A2 4 cap2, .bool hz, .int .i64 (M2 : Int)]) = w9 at *
          have PY := Lib.hid (show gy ≠ p ∧ gy ≠ pt from ⟨by have := GS.out.lt; have := QY.out; omega, by have := GT.out.lt; have := QY.out; omega⟩)
          have GS := Lib.hid (GS.out.step B9.out)
          have GT := Lib.hid (GT.out.step B9.out)
          have GA := Lib.hid (GA.out.step B9.out)
          have BV := Lib.hid (BV.out.trans (B9.out.mono BV.out.size))
          clear B9 GZ bd CA
          go_upto_region 12 with fail
          refine wp_region_lit ?_
          refine list_load_all aggScr GA.out (scells_size _) rfl (.tmp 6) rfl (by simp [Act.eval, Act.put]) ?_
          simp only [Act.put, List.setIfInBounds_toArray, List.set_cons_zero, List.set_cons_succ]
          refine list_store_all (ds := scells Z) aggScr GS.out (scells_size _) (scells_size _) (scells_one _) rfl (.tmp 3) (.tmp 58) rfl (by simp [Act.eval, Act.put]) (by simp [Act.eval, Act.put]) ?_
          simp only [Act.put, List.setIfInBounds_toArray, List.set_cons_zero, List.set_cons_succ]
          have GR := Lib.hid (GR.out.scrRow GS.out (scells Z))
          have GT := Lib.hid (SOut.otherRow GT.out (show pt ≠ p by have := BT.out; omega) (scells Z))
          have GY := Lib.hid (SOut.otherRow GY.out PY.out.1 (scells Z))
          have GS := Lib.hid (GS.out.store Z)
          have BV := Lib.hid (belowRow BV.out BQ.out (scells Z))
          generalize w9.setRow p (scells Z) = w10 at *
          go_upto_region 13 with fail
          refine wp_region_lit ?_
          refine list_load_all aggRS GY.out rfl rfl (.tmp 8) rfl (by simp [Act.eval, Act.put]) ?_
          simp only [Act.put, List.setIfInBounds_toArray, List.set_cons_zero, List.set_cons_succ]
          refine list_store_all (ds := #[.slice A2 4 cap2, .bool hz, .int .i64 (M2 : Int)]) aggRS GT.out rfl rfl (oneRS _ _ _ _ _) rfl (.tmp 4) (.tmp 59) rfl (by simp [Act.eval, Act.put]) (by simp [Act.eval, Act.put]) ?_
          simp only [Act.put, List.setIfInBounds_toArray, List.set_cons_zero, List.set_cons_succ]
          have GR := Lib.hid (GR.out.setRow GT.out (#[.slice A2 4 cap2, .bool hz, .int .i64 (M2 : Int)]))
          have GS := Lib.hid (GS.out.otherRow (g := pt) (by have := BT.out; omega) (#[.slice A2 4 cap2, .bool hz, .int .i64 (M2 : Int)]))
          have GT := Lib.hid (show SOut pt (.slice A2 4 cap2) hz (M2 : Int) (w10.setRow pt (#[.slice A2 4 cap2, .bool hz, .int .i64 (M2 : Int)])) from Blk.store (show Blk pt 36 _ w10 from GT.out) _)
          have BV := Lib.hid (belowRow BV.out BT.out.1 (#[.slice A2 4 cap2, .bool hz, .int .i64 (M2 : Int)]))
          generalize w10.setRow pt (#[.slice A2 4 cap2, .bool hz, .int .i64 (M2 : Int)]) = w11 at *
          have SMC := Lib.hid (fun u : Calm w11 => same8_any N NN.out Z A2 cap2 gs2 F2 hz M2 u.w.heap.size u.w HZH.out HZ.out.1 (fun i hi y _ => by rw [RL.out.pl i hi]) ((GR.out.step u.below).refS (Nat.le_refl _)))
          go_upto_region 14 with fail
          have KS := Lib.hid (fun (w' : World) (hw : ∃ u : Calm w11, w' = u.w) => show Blk p 32 (scells Z) w' by obtain ⟨u, rfl⟩ := hw; exact GS.out.step u.below)
          have KT := Lib.hid (fun (w' : World) (hw : ∃ u : Calm w11, w' = u.w) => show Blk pt 36 (#[.slice A2 4 cap2, .bool hz, .int .i64 (M2 : Int)]) w' by obtain ⟨u, rfl⟩ := hw; exact GT.out.step u.below)
          refine calm_plain ?_
          repeat (first
            | (refine quiet_load_all aggScr KS.out (scells_size _) ?_ (.tmp 3) ?_ ?_ ?_; (focus rfl); (focus rfl); (focus (simp [Act.eval]; done)); simp only [Act.put, List.setIfInBounds_toArray, List.set_cons_zero, List.set_cons_succ])
            | (refine quiet_load_all aggRS KT.out rfl ?_ (.tmp 4) ?_ ?_ ?_; (focus rfl); (focus rfl); (focus (simp [Act.eval]; done)); simp only [Act.put, List.setIfInBounds_toArray, List.set_cons_zero, List.set_cons_succ])
            | go_big_quiet_step ((first
              | rfl
              | (go_at_call 14; exact calm_call (SMC.out _)))))
          refine wpQuiet_nil ?_
          intro _ hw'
          obtain ⟨u, rfl⟩ := hw'
          have GS := Lib.hid (GS.out.step u.below)
          have GT := Lib.hid (GT.out.step u.below)
          have GR := Lib.hid (GR.out.step u.below)
          have BV := Lib.hid (BV.out.trans (u.below.mono BV.out.size))
          clear KS KT SMC
          generalize u.w = w12 at *
          go_wp2
          go_roundw
          case rel => exact ⟨k + 1, Z, M2, A2, cap2, gs2, F2, hz, by omega, by go_num, GS.out, GT.out, GR.out, RL.out, HZH.out, HZ.out.1, HZ.out.2, BV.out⟩
          case measure => simp [intOf]; omega
        · refine oneT_call (by simp only [List.getElem?_toArray, List.getElem?_cons_succ, List.getElem?_cons_zero]; rfl) rfl ?_
          intro K hK
          refine wp_alloc zeroRS rfl ?_
          refine hK _ _ ⟨⟨wd.alloc (.cells #[.slice none 0 0, .bool false, .int .i64 0] 36), bd.out.alloc bd.out.size _⟩, rfl⟩ ?_
          clear hK K
          simp only [Act.put, List.setIfInBounds_toArray, List.set_cons_zero, List.set_cons_succ]
          have GZ := Lib.hid (SOut.new wd (.slice none 0 0) false 0)
          have QY := Lib.hid bd.out.size
          have bd := Lib.hid (bd.out.alloc bd.out.size (.cells #[.slice none 0 0, .bool false, .int .i64 0] 36))
          obtain ⟨gy, hgy⟩ : ∃ g, wd.heap.size = g := ⟨_, rfl⟩
          generalize wd.alloc (.cells #[.slice none 0 0, .bool false, .int .i64 0] 36) = w7 at *
          rw [hgy] at GZ QY ⊢
          clear hgy
          refine forkT_call (by simp only [opsAt, List.getElem?_toArray, List.getElem?_cons_succ, List.getElem?_cons_zero]; rfl) ?_
          refine wpQuiet_nil ?_
          refine oneT_call (by simp only [List.getElem?_toArray, List.getElem?_cons_succ, List.getElem?_cons_zero]; rfl) rfl ?_
          intro K hK
          refine wp_call_fn (g := 13) (caps := #[]) (args := #[.agg #[.slice A 4 cap, .bool hi, .int .i64 (M : Int)], .agg (stc q)]) (.func 13) #[.tmp 50, .tmp 54] #[36, 41] rfl (enters_of Try.func13 (by kernel_rfl) rfl) rfl (by simp [Act.eval]) ?_
          refine (MO.out w7 (BV.out.trans (bd.out.mono BV.out.size)) (GR.out.step bd.out)).mono ?_
          rintro e w8 ⟨F2, A2, cap2, gs2, rl2, rfl, r2, b2⟩
          have bd := Lib.hid (bd.out.trans (b2.mono bd.out.size))
          have RL := Lib.hid rl2
          have GR := Lib.hid r2
          have GZ := Lib.hid (GZ.out.step b2)
          clear b2 rl2 r2
          refine ⟨_, rfl, ?_⟩
          refine hK _ _ ⟨⟨w8, bd.out⟩, rfl⟩ ?_
          clear hK K
          simp only [Act.put, List.setIfInBounds_toArray, List.set_cons_zero, List.set_cons_succ]
          refine forkT_call (by simp only [opsAt, List.getElem?_toArray, List.getElem?_cons_succ, List.getElem?_cons_zero]; rfl) ?_
          repeat (go_big_quiet_step (rfl))
          refine wpQuiet_nil ?_
          refine oneT_call (by simp only [List.getElem?_toArray, List.getElem?_cons_succ, List.getElem?_cons_zero]; rfl) rfl ?_
          intro K hK
          rw [HZH.out]
          refine wp_store_all (ds := #[.slice A2 4 cap2, .bool hz, .int .i64 (M2 : Int)]) aggRS (show Blk gy 36 _ w8 from GZ.out) rfl rfl (oneRS _ _ _ _ _) (.tmp 8) (.tmp 56) rfl (by simp [Act.eval, Act.put]) (by simp [Act.eval, Act.put]) ?_
          refine hK _ _ ⟨⟨w8.setRow gy (#[.slice A2 4 cap2, .bool hz, .int .i64 (M2 : Int)]), belowRow bd.out QY.out _⟩, rfl⟩ ?_
          clear hK K
          simp only [Act.put, List.setIfInBounds_toArray, List.set_cons_zero, List.set_cons_succ]
          refine forkT_last (by simp only [opsAt, List.getElem?_toArray, List.getElem?_cons_succ, List.getElem?_cons_zero]; rfl) ?_
          repeat (go_big_quiet_step (rfl))
          refine wpQuiet_nil ?_
          have B9 := Lib.hid (belowRow bd.out QY.out (#[.slice A2 4 cap2, .bool hz, .int .i64 (M2 : Int)]))
          have GY := Lib.hid (show SOut gy (.slice A2 4 cap2) hz (M2 : Int) (w8.setRow gy (#[.slice A2 4 cap2, .bool hz, .int .i64 (M2 : Int)])) from Blk.store (show Blk gy 36 _ w8 from GZ.out) _)
          have GR := Lib.hid (GR.out.setRow GZ.out (#[.slice A2 4 cap2, .bool hz, .int .i64 (M2 : Int)]))
          generalize w8.setRow gy (#[.slice A2 4 cap2, .bool hz, .int .i64 (M2 : Int)]) = w9 at *
          have PY := Lib.hid (show gy ≠ p ∧ gy ≠ pt from ⟨by have := GS.out.lt; have := QY.out; omega, by have := GT.out.lt; have := QY.out; omega⟩)
          have GS := Lib.hid (GS.out.step B9.out)
          have GT := Lib.hid (GT.out.step B9.out)
          have GA := Lib.hid (GA.out.step B9.out)
          have BV := Lib.hid (BV.out.trans (B9.out.mono BV.out.size))
          clear B9 GZ bd CA
          go_upto_region 12 with fail
          refine wp_region_lit ?_
          refine list_load_all aggScr GA.out (scells_size _) rfl (.tmp 6) rfl (by simp [Act.eval, Act.put]) ?_
          simp only [Act.put, List.setIfInBounds_toArray, List.set_cons_zero, List.set_cons_succ]
          refine list_store_all (ds := scells Z) aggScr GS.out (scells_size _) (scells_size _) (scells_one _) rfl (.tmp 3) (.tmp 58) rfl (by simp [Act.eval, Act.put]) (by simp [Act.eval, Act.put]) ?_
          simp only [Act.put, List.setIfInBounds_toArray, List.set_cons_zero, List.set_cons_succ]
          have GR := Lib.hid (GR.out.scrRow GS.out (scells Z))
          have GT := Lib.hid (SOut.otherRow GT.out (show pt ≠ p by have := BT.out; omega) (scells Z))
          have GY := Lib.hid (SOut.otherRow GY.out PY.out.1 (scells Z))
          have GS := Lib.hid (GS.out.store Z)
          have BV := Lib.hid (belowRow BV.out BQ.out (scells Z))
          generalize w9.setRow p (scells Z) = w10 at *
          go_upto_region 13 with fail
          refine wp_region_lit ?_
          refine list_load_all aggRS GY.out rfl rfl (.tmp 8) rfl (by simp [Act.eval, Act.put]) ?_
          simp only [Act.put, List.setIfInBounds_toArray, List.set_cons_zero, List.set_cons_succ]
          refine list_store_all (ds := #[.slice A2 4 cap2, .bool hz, .int .i64 (M2 : Int)]) aggRS GT.out rfl rfl (oneRS _ _ _ _ _) rfl (.tmp 4) (.tmp 59) rfl (by simp [Act.eval, Act.put]) (by simp [Act.eval, Act.put]) ?_
          simp only [Act.put, List.setIfInBounds_toArray, List.set_cons_zero, List.set_cons_succ]
          have GR := Lib.hid (GR.out.setRow GT.out (#[.slice A2 4 cap2, .bool hz, .int .i64 (M2 : Int)]))
          have GS := Lib.hid (GS.out.otherRow (g := pt) (by have := BT.out; omega) (#[.slice A2 4 cap2, .bool hz, .int .i64 (M2 : Int)]))
          have GT := Lib.hid (show SOut pt (.slice A2 4 cap2) hz (M2 : Int) (w10.setRow pt (#[.slice A2 4 cap2, .bool hz, .int .i64 (M2 : Int)])) from Blk.store (show Blk pt 36 _ w10 from GT.out) _)
          have BV := Lib.hid (belowRow BV.out BT.out.1 (#[.slice A2 4 cap2, .bool hz, .int .i64 (M2 : Int)]))
          generalize w10.setRow pt (#[.slice A2 4 cap2, .bool hz, .int .i64 (M2 : Int)]) = w11 at *
          have SMC := Lib.hid (fun u : Calm w11 => same8_any N NN.out Z A2 cap2 gs2 F2 hz M2 u.w.heap.size u.w HZH.out HZ.out.1 (fun i hi y _ => by rw [RL.out.pl i hi]) ((GR.out.step u.below).refS (Nat.le_refl _)))
          go_upto_region 14 with fail
          have KS := Lib.hid (fun (w' : World) (hw : ∃ u : Calm w11, w' = u.w) => show Blk p 32 (scells Z) w' by obtain ⟨u, rfl⟩ := hw; exact GS.out.step u.below)
          have KT := Lib.hid (fun (w' : World) (hw : ∃ u : Calm w11, w' = u.w) => show Blk pt 36 (#[.slice A2 4 cap2, .bool hz, .int .i64 (M2 : Int)]) w' by obtain ⟨u, rfl⟩ := hw; exact GT.out.step u.below)
          refine calm_plain ?_
          repeat (first
            | (refine quiet_load_all aggScr KS.out (scells_size _) ?_ (.tmp 3) ?_ ?_ ?_; (focus rfl); (focus rfl); (focus (simp [Act.eval]; done)); simp only [Act.put, List.setIfInBounds_toArray, List.set_cons_zero, List.set_cons_succ])
            | (refine quiet_load_all aggRS KT.out rfl ?_ (.tmp 4) ?_ ?_ ?_; (focus rfl); (focus rfl); (focus (simp [Act.eval]; done)); simp only [Act.put, List.setIfInBounds_toArray, List.set_cons_zero, List.set_cons_succ])
            | go_big_quiet_step ((first
              | rfl
              | (go_at_call 14; exact calm_call (SMC.out _)))))
          refine wpQuiet_nil ?_
          intro _ hw'
          obtain ⟨u, rfl⟩ := hw'
          have GS := Lib.hid (GS.out.step u.below)
          have GT := Lib.hid (GT.out.step u.below)
          have GR := Lib.hid (GR.out.step u.below)
          have BV := Lib.hid (BV.out.trans (u.below.mono BV.out.size))
          clear KS KT SMC
          generalize u.w = w12 at *
          go_wp2
          go_roundw
          case rel => exact ⟨k + 1, Z, M2, A2, cap2, gs2, F2, hz, by omega, by go_num, GS.out, GT.out, GR.out, RL.out, HZH.out, HZ.out.1, HZ.out.2, BV.out⟩
          case measure => simp [intOf]; omega
      · have k1 : ¬ (k : Int) < (n : Int) := by omega
        go_wp2
        go_ret
        exact ⟨rfl, BV.out⟩
end Go.Proofs.Ytplmmfgmbfcjpaa
