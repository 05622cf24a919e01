/- The walk of StackInverse. -/
import Derived.Test.YtbgdkhbembjjlaaStkList
import Derived.Test.YtbgdkhbembjjlaaLate
import Derived.Deep.Cut
import Derived.Shelf.Abstract
import Derived.Test.YtbgdkhbembjjlaaStkAwake
import Derived.Test.YtbgdkhbembjjlaaIntOpen
namespace Go.Proofs.Ytbgdkhbembjjlaa
open Go.RowKit Go.Shelf Num
set_option linter.unusedVariables false
set_option linter.unusedSimpArgs false
set_option maxRecDepth 100000

set_option maxHeartbeats 16000000 in
theorem stackInverse_walk (A : Option Addr) (n c : Nat) (l : List Int) (a : Int) (w : World) (H : ArgI w A n c l) (wa : (Lit.int .i64 a).wf = true) :
    Calls Try.prog 4 #[.slice A n c, .int .i64 a] w fun e w' => e = .returned (.bool true) ∧ Below w.heap.size w w' := by
  obtain ⟨a0, a1⟩ := Num.bd_i64 wa
  clear wa
  have GE := Lib.hid H
  have mx := H.max
  have nc := H.cap
  clear H
  obtain ⟨v0, hv0⟩ : ∃ v0, v0 = w := ⟨_, rfl⟩
  subst hv0
  go_enter Try.func4, Try.ntmps4
  go_wp2_with fail
  refine (awake17 _).mono ?_
  rintro e w1 ⟨rfl, b1⟩
  have BV := Lib.hid b1
  clear b1
  by_cases hlen : 16 < n
  · have k1 : (16 : Int) < (n : Int) := by omega
    go_wp2_with fail
    refine (awake17 _).mono ?_
    rintro e w2 ⟨rfl, b1⟩
    have BV := Lib.hid (BV.out.trans (b1.mono BV.out.size))
    clear b1
    go_wp2
    go_ret
    exact ⟨rfl, BV.out⟩
  have k1 : ¬ (16 : Int) < (n : Int) := by omega
  have HL := Lib.hid GE.out.len
  have hz := zeroStkV
  have n16 : n ≤ 16 := by omega
  go_upto_region 4 with fail
  have GP := Lib.hid (TB8.new w1 [])
  have BQ := Lib.hid BV.out.size
  have BV := Lib.hid (BV.out.alloc BV.out.size (.cells (stkL []) 26))
  obtain ⟨p, hp⟩ : ∃ p, w1.heap.size = p := ⟨_, rfl⟩
  generalize w1.alloc (.cells (stkL []) 26) = w3 at *
  rw [hp] at GP BQ ⊢
  clear hp hz
  go_wp2
  go_loopw [6] (fun i wr => ∃ (k : Nat), k ≤ n ∧ i = .int .i64 (k : Int) ∧ TB8 p (l.take k) wr ∧ Below v0.heap.size v0 wr) (fun i _ => n - (intOf i).toNat)
  case atStart => exact ⟨0, by omega, rfl, GP.out, BV.out⟩
  case round =>
    clear GP BV
    obtain ⟨k, hk, rfl, gp, bv⟩ := hrel
    have GP := Lib.hid gp
    have BV := Lib.hid bv
    clear gp bv
    by_cases hlt : k < n
    · have k1 : (k : Int) < (n : Int) := by omega
      have k0 : 0 ≤ (k : Int) := by omega
      have hkl : k < l.length := by rw [HL.out]; exact hlt
      obtain ⟨b, o, hA, hbl, cx⟩ := (GE.out.step BV.out).row.at_ hkl
      subst hA
      obtain ⟨x, hx⟩ : ∃ x, x = l[k] := ⟨_, rfl⟩
      rw [← hx] at cx
      have SK := Lib.hid (show l.take (k + 1) = l.take k ++ [x] by rw [hx]; exact List.take_succ_eq_append_getElem hkl)
      clear hx
      have PS := Lib.hid fun w' => push_yes (l.take k) x (by rw [List.length_take]; omega) w'
      rw [← SK.out] at PS
      obtain ⟨K0, hK0⟩ : ∃ K, K = l.take k := ⟨_, rfl⟩
      obtain ⟨K1, hK1⟩ : ∃ K, K = l.take (k + 1) := ⟨_, rfl⟩
      rw [← hK0] at PS GP
      rw [← hK1] at PS
      have H1 := Lib.hid hK1
      have k2 : (k : Int) ≤ (c : Int) := by omega
      have k3 : k ≤ c := by omega
      clear hK0 hK1 SK
      have KP := Lib.hid GP.out.calm
      have q1 : ∀ u : Calm wr, u.w.cell? ⟨b, o + k, none⟩ = some (.int .i64 x) := fun u => (u.below.cell (p := ⟨b, o + k, none⟩) hbl).trans cx
      go_upto_region 7 with fail
      clear cx
      refine wp_region_late (C := fun w' => ∃ u : Calm wr, w' = u.w) 10 [([0, 1, 2, 3, 4], 5, true), ([6, 7, 8], 9, false)] [] [11] (by kernel_rfl) (by kernel_rfl) ?_ ?_ ⟨⟨wr.drew, (Below.refl _ _).drew⟩, rfl⟩ ?_
      · exact fun _ _ d _ _ h => by cases d <;> exact h
      · rintro _ w' ⟨u, rfl⟩ hg
        exact ⟨⟨w', u.below.trans (hg.mono u.below.size)⟩, rfl⟩
      intro wd hwd
      have bd := Lib.hid (show Below wr.heap.size wr wd by rw [hwd]; exact (Below.refl _ _).drew)
      clear hwd
      clear bd
      refine late_calm (by simp only [opsAt, List.getElem?_toArray, List.getElem?_cons_succ, List.getElem?_cons_zero]; rfl) (by simp only [List.getElem?_toArray, List.getElem?_cons_succ, List.getElem?_cons_zero]; rfl) ?_
      repeat (first
        | (refine quiet_load_all aggStk KP.out (stkL_size _) ?_ (.tmp 5) ?_ ?_ ?_; (focus rfl); (focus rfl); (focus (simp [Act.eval]; done)); simp only [Act.put, List.setIfInBounds_toArray, List.set_cons_zero, List.set_cons_succ])
        | go_big_quiet_step (rfl))
      refine wpQuiet_nil ?_
      refine calm_next (v := .tuple #[.agg (stkL K1), .int .i64 0]) (calm_fn (g := 9) (caps := #[]) (args := #[.agg (stkL K0), .int .i64 x]) (.func 9) #[.tmp 29, .tmp 33] #[26, 3] rfl rfl (enters_of Try.func9 (by kernel_rfl) rfl) (fun w' hw => PS.out w') rfl (by simp [Act.eval])) ?_
      simp only [Act.put, List.setIfInBounds_toArray, List.set_cons_zero, List.set_cons_succ]
      clear KP q1
      refine late_real (by simp only [opsAt, List.getElem?_toArray, List.getElem?_cons_succ, List.getElem?_cons_zero]; rfl) (by simp only [List.getElem?_toArray, List.getElem?_cons_succ, List.getElem?_cons_zero]; rfl) ?_
      repeat (go_big_quiet_step (rfl))
      refine wpQuiet_nil ?_
      refine real_next rfl ?_
      intro w5 g5 C5 K8 hK
      obtain ⟨u5, rfl⟩ := C5
      refine wp_alloc zeroStk rfl ?_
      refine hK _ _ ⟨⟨u5.w.alloc (.cells (stkL []) 26), u5.below.alloc u5.below.size _⟩, rfl⟩ ?_
      clear hK K8 g5
      simp only [Act.put, List.setIfInBounds_toArray, List.set_cons_zero, List.set_cons_succ]
      have G5 := Lib.hid (TB8.new u5.w [])
      have Z5 := Lib.hid u5.below.size
      obtain ⟨q, hq⟩ : ∃ q, u5.w.heap.size = q := ⟨_, rfl⟩
      generalize u5.w.alloc (.cells (stkL []) 26) = w6 at *
      rw [hq] at G5 Z5 ⊢
      clear hq u5
      refine late_last (by simp only [opsAt, List.getElem?_toArray, List.getElem?_cons_succ, List.getElem?_cons_zero]; rfl) (by simp only [List.getElem?_toArray, List.getElem?_cons_succ, List.getElem?_cons_zero]; rfl) ?_
      repeat (go_big_quiet_step (rfl))
      refine wpQuiet_nil ?_
      refine last_next rfl ?_
      intro w7 g7 C7 K8 hK
      obtain ⟨u7, rfl⟩ := C7
      refine wp_store_all (ds := stkL K1) aggStk (G5.out.step g7) (stkL_size _) (stkL_size _) (stkL_one _) (.tmp 7) (.tmp 35) rfl (by simp [Act.eval, Act.put]) (by simp [Act.eval, Act.put]) ?_
      refine hK _ _ ?_
      clear hK K8
      simp only [Act.put, List.setIfInBounds_toArray, List.set_cons_zero, List.set_cons_succ]
      simp only [opsAt, List.getElem?_toArray, List.getElem?_cons_succ, List.getElem?_cons_zero]
      repeat (go_big_quiet_step (rfl))
      refine wpQuiet_nil ?_
      intro w8 g8
      have GQ := Lib.hid (((G5.out.step g7).store K1).step g8)
      have B8 := Lib.hid ((belowRowT u7.below Z5.out (stkL K1)).trans (g8.mono (by have := u7.below.size; simp [World.setRow]; omega)))
      have GP := Lib.hid (GP.out.step B8.out)
      have BV := Lib.hid (BV.out.trans (B8.out.mono BV.out.size))
      clear G5 Z5 g7 g8 u7
      go_upto_region 8 with fail
      refine wp_region_lit ?_
      refine list_load_all aggStk GQ.out (stkL_size _) rfl (.tmp 7) rfl (by simp [Act.eval, Act.put]) ?_
      simp only [Act.put, List.setIfInBounds_toArray, List.set_cons_zero, List.set_cons_succ]
      refine list_store_all (ds := stkL K1) aggStk GP.out (stkL_size _) (stkL_size _) (stkL_one _) rfl (.tmp 5) (.tmp 37) rfl (by simp [Act.eval, Act.put]) (by simp [Act.eval, Act.put]) ?_
      simp only [Act.put, List.setIfInBounds_toArray, List.set_cons_zero, List.set_cons_succ]
      have GP := Lib.hid (GP.out.store K1)
      have BV := Lib.hid (belowRowT BV.out BQ.out (stkL K1))
      generalize w8.setRow p (stkL K1) = w9 at *
      clear GQ
      clear B8
      go_wp2
      go_roundw
      case rel => exact ⟨k + 1, by omega, by go_num, by rw [← H1.out]; exact GP.out, BV.out⟩
      case measure => simp [intOf]; omega
    · have hkn : k = n := by omega
      have k1 : ¬ (k : Int) < (n : Int) := by omega
      rw [show l.take k = l by rw [hkn]; exact List.take_of_length_le (by rw [HL.out]; omega)] at GP
      clear hkn hk hlt
      go_upto_region 11 with fail
      clear k1
      by_cases h16 : n < 16
      · have PS := Lib.hid fun w' => push_yes l a (by rw [HL.out]; exact h16) w'
        have PP := Lib.hid fun w' => pop_yes l a (by rw [HL.out]; exact h16) w'
        obtain ⟨M, hM⟩ : ∃ M, M = l ++ [a] := ⟨_, rfl⟩
        rw [← hM] at PS PP
        clear hM
        have e1 : ¬ (n : Int) = 16 := by omega
        refine wp_region_lit ?_
        refine list_load_all aggStk GP.out (stkL_size _) rfl (.tmp 5) rfl (by simp [Act.eval, Act.put]) ?_
        simp only [Act.put, List.setIfInBounds_toArray, List.set_cons_zero, List.set_cons_succ]
        go_wp2_with fail
        refine (PS.out _).mono ?_
        rintro e w4 ⟨rfl, b1⟩
        have GP := Lib.hid (GP.out.step b1)
        have BV := Lib.hid (BV.out.trans (b1.mono BV.out.size))
        clear b1
        simp only []
        go_at_K
        iterate 10 go_step
        refine list_var_all (ds := stkL M) aggStk zeroStk (stkL_size _) (stkL_size _) (stkL_one _) rfl rfl rfl (.tmp 9) (.tmp 44) rfl (by simp [Act.eval, Act.put]) (by simp [Act.eval, Act.put]) ?_
        simp only [Act.put, List.setIfInBounds_toArray, List.set_cons_zero, List.set_cons_succ]
        have GM := Lib.hid (TB8.new w4 M)
        have BA := below_newT w4 (.cells (stkL M) 26)
        have GP := Lib.hid (GP.out.step BA)
        have BV := Lib.hid (BV.out.trans (BA.mono BV.out.size))
        clear BA
        obtain ⟨q, hq⟩ : ∃ q, w4.heap.size = q := ⟨_, rfl⟩
        generalize w4.alloc (.cells (stkL M) 26) = w5 at *
        rw [hq] at GM ⊢
        clear hq
        go_upto_region 14 with fail
        refine wp_region_lit ?_
        clear e1
        refine list_load_all aggStk GM.out (stkL_size _) rfl (.tmp 9) rfl (by simp [Act.eval, Act.put]) ?_
        simp only [Act.put, List.setIfInBounds_toArray, List.set_cons_zero, List.set_cons_succ]
        go_wp2_with fail
        refine (PP.out _).mono ?_
        rintro e w6 ⟨rfl, b1⟩
        have GP := Lib.hid (GP.out.step b1)
        have GM := Lib.hid (GM.out.step b1)
        have BV := Lib.hid (BV.out.trans (b1.mono BV.out.size))
        clear b1
        simp only []
        go_at_K
        iterate 13 go_step
        refine list_var_all (ds := stkL l) aggStk zeroStk (stkL_size _) (stkL_size _) (stkL_one _) rfl rfl rfl (.tmp 11) (.tmp 59) rfl (by simp [Act.eval, Act.put]) (by simp [Act.eval, Act.put]) ?_
        simp only [Act.put, List.setIfInBounds_toArray, List.set_cons_zero, List.set_cons_succ]
        have GN := Lib.hid (TB8.new w6 l)
        have BA := below_newT w6 (.cells (stkL l) 26)
        have GP := Lib.hid (GP.out.step BA)
        have GM := Lib.hid (GM.out.step BA)
        have BV := Lib.hid (BV.out.trans (BA.mono BV.out.size))
        clear BA
        obtain ⟨q2, hq⟩ : ∃ q, w6.heap.size = q := ⟨_, rfl⟩
        generalize w6.alloc (.cells (stkL l) 26) = w7 at *
        rw [hq] at GN ⊢
        clear hq
        go_upto_region 15 with fail
        have CP := Lib.hid GP.out.calm
        have CN := Lib.hid GN.out.calm
        clear PS PP GP GM GN
        have ea : (a == a) = true := by simp
        refine calm_plain ?_
        repeat (first
          | (refine quiet_load_all aggStk CN.out (stkL_size _) ?_ (.tmp 11) ?_ ?_ ?_; (focus rfl); (focus rfl); (focus (simp [Act.eval]; done)); simp only [Act.put, List.setIfInBounds_toArray, List.set_cons_zero, List.set_cons_succ])
          | (refine quiet_load_all aggStk CP.out (stkL_size _) ?_ (.tmp 5) ?_ ?_ ?_; (focus rfl); (focus rfl); (focus (simp [Act.eval]; done)); simp only [Act.put, List.setIfInBounds_toArray, List.set_cons_zero, List.set_cons_succ])
          | (refine quiet_eqT (L := l) ?_ (.tmp 74) (.tmp 75) 26 ?_ ?_ ?_ ?_; (focus rfl); (focus rfl); (focus (simp [Act.eval]; done)); (focus (simp [Act.eval]; done)); simp only [Act.put, List.setIfInBounds_toArray, List.set_cons_zero, List.set_cons_succ])
          | go_big_quiet_step (fail))
        refine wpQuiet_nil ?_
        intro _ hw'
        obtain ⟨u, rfl⟩ := hw'
        have b1 := u.below
        generalize u.w = w8 at *
        have BV := Lib.hid (BV.out.trans (b1.mono BV.out.size))
        clear b1
        go_wp2_with fail
        go_ret
        exact ⟨rfl, BV.out⟩
      · have PS := Lib.hid fun w' => push_no l a (by rw [HL.out]; omega) w'
        obtain rfl : n = 16 := by omega
        refine wp_region_lit ?_
        refine list_load_all aggStk GP.out (stkL_size _) rfl (.tmp 5) rfl (by simp [Act.eval, Act.put]) ?_
        simp only [Act.put, List.setIfInBounds_toArray, List.set_cons_zero, List.set_cons_succ]
        go_wp2_with fail
        refine (PS.out _).mono ?_
        rintro e w4 ⟨rfl, b1⟩
        have GP := Lib.hid (GP.out.step b1)
        have BV := Lib.hid (BV.out.trans (b1.mono BV.out.size))
        clear b1
        simp only []
        go_at_K
        iterate 10 go_step
        refine list_var_all (ds := stkL l) aggStk zeroStk (stkL_size _) (stkL_size _) (stkL_one _) rfl rfl rfl (.tmp 9) (.tmp 44) rfl (by simp [Act.eval, Act.put]) (by simp [Act.eval, Act.put]) ?_
        simp only [Act.put, List.setIfInBounds_toArray, List.set_cons_zero, List.set_cons_succ]
        have GM := Lib.hid (TB8.new w4 l)
        have BA := below_newT w4 (.cells (stkL l) 26)
        have GP := Lib.hid (GP.out.step BA)
        have BV := Lib.hid (BV.out.trans (BA.mono BV.out.size))
        clear BA
        obtain ⟨q, hq⟩ : ∃ q, w4.heap.size = q := ⟨_, rfl⟩
        generalize w4.alloc (.cells (stkL l) 26) = w5 at *
        rw [hq] at GM ⊢
        clear hq
        go_upto_region 13 with fail
        have CP := Lib.hid GP.out.calm
        have CN := Lib.hid GM.out.calm
        clear PS GP GM
        refine calm_plain ?_
        repeat (first
          | (refine quiet_load_all aggStk CN.out (stkL_size _) ?_ (.tmp 9) ?_ ?_ ?_; (focus rfl); (focus rfl); (focus (simp [Act.eval]; done)); simp only [Act.put, List.setIfInBounds_toArray, List.set_cons_zero, List.set_cons_succ])
          | (refine quiet_load_all aggStk CP.out (stkL_size _) ?_ (.tmp 5) ?_ ?_ ?_; (focus rfl); (focus rfl); (focus (simp [Act.eval]; done)); simp only [Act.put, List.setIfInBounds_toArray, List.set_cons_zero, List.set_cons_succ])
          | (refine quiet_eqT (L := l) ?_ (.tmp 52) (.tmp 53) 26 ?_ ?_ ?_ ?_; (focus rfl); (focus rfl); (focus (simp [Act.eval]; done)); (focus (simp [Act.eval]; done)); simp only [Act.put, List.setIfInBounds_toArray, List.set_cons_zero, List.set_cons_succ])
          | go_big_quiet_step (fail))
        refine wpQuiet_nil ?_
        intro _ hw'
        obtain ⟨u, rfl⟩ := hw'
        have b1 := u.below
        generalize u.w = w6 at *
        have BV := Lib.hid (BV.out.trans (b1.mono BV.out.size))
        clear b1
        go_wp2_with fail
        go_ret
        exact ⟨rfl, BV.out⟩
end Go.Proofs.Ytbgdkhbembjjlaa
