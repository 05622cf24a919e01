/- The walk of KeypadSplits. -/
import Derived.Test.YtdlomdkapepkbaaKeyAwake
import Derived.Test.YtdlomdkapepkbaaKeyOpen
import Derived.Test.YtdlomdkapepkbaaLate
import Derived.Shelf.Abstract
import Derived.Test.YtdlomdkapepkbaaKeyApp
import Derived.Test.YtdlomdkapepkbaaFork
namespace Go.Proofs.Ytdlomdkapepkbaa
open Go.RowKit Go.Shelf Num
set_option linter.unusedVariables false
set_option linter.unusedSimpArgs false

set_option maxRecDepth 100000 in
set_option maxHeartbeats 8000000 in
theorem keypadSplits_walk (A : Option Addr) (n c : Nat) (l : List Ev) (cut : Int) (w : World) (H : ArgE w A n c l) (wc : (Lit.int .u8 cut).wf = true) :
    Calls Try.prog 5 #[.slice A n c, .int .u8 cut] w fun e w' => e = .returned (.bool true) ∧ Below w.heap.size w w' := by
  obtain ⟨t0, t1⟩ := Num.bd_u8 wc
  clear wc
  have GE := Lib.hid H
  have mx := H.max
  have nc := H.cap
  clear H
  obtain ⟨v0, hv0⟩ : ∃ v0, v0 = w := ⟨_, rfl⟩
  subst hv0
  go_enter Try.func5, Try.ntmps5
  go_wp2_with fail
  refine (awake9 _).mono ?_
  rintro e v1 ⟨rfl, b1⟩
  have BV := Lib.hid b1
  clear b1
  by_cases hlen : 200 < n
  · have k1 : (200 : Int) < (n : Int) := by omega
    go_wp2_with fail
    refine (awake9 _).mono ?_
    rintro e v2 ⟨rfl, b1⟩
    have BV := Lib.hid (BV.out.trans (b1.mono BV.out.size))
    clear b1
    go_wp2
    go_ret
    exact ⟨rfl, BV.out⟩
  have k1 : ¬ (200 : Int) < (n : Int) := by omega
  obtain ⟨k, hk⟩ : ∃ k : Nat, cut % ((n : Int) + 1) = (k : Int) := ⟨(cut % ((n : Int) + 1)).toNat, by have := Int.emod_nonneg cut (show (n : Int) + 1 ≠ 0 by omega); omega⟩
  have kn : k ≤ n := by have := Int.emod_lt_of_pos cut (show (0 : Int) < (n : Int) + 1 by omega); omega
  have U1 := Lib.hid hk
  clear hk
  have hln : l.length = n := GE.out.ev.len
  have HL := Lib.hid hln
  clear hln
  obtain ⟨K, hK⟩ : ∃ K, K = aft up l := ⟨_, rfl⟩
  obtain ⟨K1, hK1⟩ : ∃ K1, K1 = aft up (l.take k) := ⟨_, rfl⟩
  obtain ⟨L, hL⟩ : ∃ L, L = rls up l := ⟨_, rfl⟩
  obtain ⟨L1, hL1⟩ : ∃ L1, L1 = rls up (l.take k) := ⟨_, rfl⟩
  obtain ⟨L2, hL2⟩ : ∃ L2, L2 = rls K1 (l.drop k) := ⟨_, rfl⟩
  have ES := Lib.hid (show L = L1 ++ L2 by rw [hL, hL1, hL2, hK1]; exact rls_split up l k)
  have EF := Lib.hid (show L2 = rfr l k by rw [hL2, hK1]; rfl)
  have EK := Lib.hid (show K = aft K1 (l.drop k) by rw [hK, hK1]; exact (aft_split up l k).symm)
  have Z1 := Lib.hid (show L1.length ≤ 200 by have := rls_le up (l.take k); rw [List.length_take] at this; rw [hL1]; omega)
  have Z2 := Lib.hid (show L2.length ≤ 200 by have := rls_le K1 (l.drop k); rw [List.length_drop, HL.out] at this; rw [hL2]; omega)
  have A1 := Lib.hid fun (w' : World) (hb : Below v0.heap.size v0 w') => all_any up K1 L1 A k c (l.take k) w' ((GE.out.ev.step hb).take k kn) (by omega) hK1 hL1
  have A2 := Lib.hid fun (w' : World) (hb : Below v0.heap.size v0 w') => all_any K1 K L2 (cutA A c k) (n - k) (c - k) (l.drop k) w' ((GE.out.ev.step hb).drop k kn (cutA_at A n c k nc)) (by omega) EK.out hL2
  have A3 := Lib.hid fun (w' : World) (hb : Below v0.heap.size v0 w') => all_any up K L A n c l w' (GE.out.ev.step hb) (by omega) hK hL
  have RL := Lib.hid fun (w' : World) (hb : Below v0.heap.size v0 w') => releases_any A n c k l L2 EF.out w' (GE.out.ev.step hb) (by omega) kn nc
  clear hK hK1 hL hL1 hL2
  have n0 : 0 < (n : Int) + 1 := by omega
  have n1 : (n : Int) + 1 ≤ 1000 := by omega
  have n2 : (n : Int) + 1 ≠ 0 := by omega
  go_upto_region 4 with fail
  rw [U1.out]
  clear U1 t0 t1 n0 n1 n2
  have k0 : 0 ≤ (k : Int) := by omega
  have k3 : (k : Int) ≤ (c : Int) := by omega
  have k5 : k ≤ c := by omega
  refine wp_region_lit ?_
  refine list_build_all (cs := kc up) rfl rfl (by simp [Act.eval]; exact built_pad) ?_
  simp only [Act.put, List.setIfInBounds_toArray, List.set_cons_zero, List.set_cons_succ]
  go_wp2_with fail
  refine (A1.out _ BV.out).mono ?_
  rintro e v2 ⟨⟨D1, c1, rfl, hrow⟩, b1⟩
  have R1 := Lib.hid hrow
  clear hrow
  have BV := Lib.hid (BV.out.trans (b1.mono BV.out.size))
  clear b1
  simp only []
  go_at_K
  iterate 10 go_step
  refine list_var_all (ds := kc K1) aggPad zeroPad (kc_size _) (kc_size _) (kc_one _) rfl rfl rfl (.tmp 6) (.tmp 32) rfl (by simp [Act.eval, Act.put]) (by simp [Act.eval, Act.put]) ?_
  simp only [Act.put, List.setIfInBounds_toArray, List.set_cons_zero, List.set_cons_succ]
  have P1 := Lib.hid (KB.new v2 K1)
  have BA := below_newK v2 (.cells (kc K1) 26)
  have R1 := Lib.hid (R1.out.below BA)
  have BV := Lib.hid (BV.out.trans (BA.mono BV.out.size))
  clear BA
  obtain ⟨p1, hq⟩ : ∃ q, v2.heap.size = q := ⟨_, rfl⟩
  generalize v2.alloc (.cells (kc K1) 26) = v3 at *
  rw [hq] at P1 ⊢
  clear hq
  go_upto_region 5 with fail
  have KP := Lib.hid (fun (w' : World) (hw : ∃ u : Calm v3, w' = u.w) => show KB p1 K1 w' by obtain ⟨u, rfl⟩ := hw; exact P1.out.step u.below)
  refine wp_region_fork (C := fun w' => ∃ u : Calm v3, w' = u.w) (.fork [0, 1, 2, 3] 4 (.call [5, 6, 7] 8 (.call [] 9 (.last [10]))) 8 (.call [] 4 (.call [5, 6, 7] 9 (.last [10])))) (by kernel_rfl) (by kernel_rfl) ?_ ⟨⟨v3.drew, (Below.refl _ _).drew⟩, rfl⟩ ?_
  · exact fun _ _ d _ _ h => by cases d <;> exact h
  intro wd hwd
  have bd := Lib.hid (show Below v3.heap.size v3 wd by rw [hwd]; exact (Below.refl _ _).drew)
  clear hwd
  refine forkT_fork (by simp only [opsAt, List.getElem?_toArray, List.getElem?_cons_succ, List.getElem?_cons_zero]; rfl) ?_
  repeat (first
    | (refine quiet_load_all aggPad KP.out (kc_size _) ?_ (.tmp 6) ?_ ?_ ?_; (focus rfl); (focus rfl); (focus (simp [Act.eval]; done)); simp only [Act.put, List.setIfInBounds_toArray, List.set_cons_zero, List.set_cons_succ])
    | (refine quiet_cut A n c k ?_ (.tmp 36) (.tmp 37) ?_ ?_ ?_ kn ?_; (focus rfl); (focus rfl); (focus (simp [Act.eval]; done)); (focus (simp [Act.eval]; done)); simp only [Act.put, List.setIfInBounds_toArray, List.set_cons_zero, List.set_cons_succ])
    | go_big_quiet_step (rfl))
  refine wpQuiet_nil ?_
  clear KP
  constructor
  · refine oneT_call (by simp only [List.getElem?_toArray, List.getElem?_cons_succ, List.getElem?_cons_zero]; rfl) rfl ?_
    intro K8 hK
    refine wp_call_fn (g := 10) (caps := #[]) (args := #[.agg (kc K1), .slice (cutA A c k) (n - k) (c - k)]) (.func 10) #[.tmp 35, .tmp 38] #[26, 22] rfl (enters_of Try.func10 (by kernel_rfl) rfl) rfl (by simp [Act.eval, Act.put]) ?_
    refine (A2.out wd (BV.out.trans (bd.out.mono BV.out.size))).mono ?_
    rintro e w7 ⟨⟨D2, c2, rfl, hrow⟩, b2⟩
    have bd := Lib.hid (bd.out.trans (b2.mono bd.out.size))
    have R2 := Lib.hid hrow
    clear b2 hrow
    refine ⟨_, rfl, ?_⟩
    refine hK _ _ ⟨⟨w7, bd.out⟩, rfl⟩ ?_
    clear hK K8
    simp only [Act.put, List.setIfInBounds_toArray, List.set_cons_zero, List.set_cons_succ]
    refine forkT_call (by simp only [opsAt, List.getElem?_toArray, List.getElem?_cons_succ, List.getElem?_cons_zero]; rfl) ?_
    repeat (go_big_quiet_step (rfl))
    refine wpQuiet_nil ?_
    refine oneT_call (by simp only [List.getElem?_toArray, List.getElem?_cons_succ, List.getElem?_cons_zero]; rfl) rfl ?_
    intro K8 hK
    refine wp_alloc zeroPad rfl ?_
    refine hK _ _ ⟨⟨w7.alloc (.cells (kc up) 26), bd.out.alloc bd.out.size _⟩, rfl⟩ ?_
    clear hK K8
    simp only [Act.put, List.setIfInBounds_toArray, List.set_cons_zero, List.set_cons_succ]
    have GZ := Lib.hid (KB.new w7 up)
    have QY := Lib.hid bd.out.size
    have bd := Lib.hid (bd.out.alloc bd.out.size (.cells (kc up) 26))
    have R2 := Lib.hid (R2.out.below (below_newK w7 (.cells (kc up) 26)))
    obtain ⟨p2, hq⟩ : ∃ q, w7.heap.size = q := ⟨_, rfl⟩
    generalize w7.alloc (.cells (kc up) 26) = w8 at *
    rw [hq] at GZ QY ⊢
    clear hq
    refine forkT_call (by simp only [opsAt, List.getElem?_toArray, List.getElem?_cons_succ, List.getElem?_cons_zero]; rfl) ?_
    refine wpQuiet_nil ?_
    refine oneT_call (by simp only [List.getElem?_toArray, List.getElem?_cons_succ, List.getElem?_cons_zero]; rfl) rfl ?_
    intro K8 hK
    refine wp_store_all (ds := kc K) aggPad GZ.out (kc_size _) (kc_size _) (kc_one _) (.tmp 8) (.tmp 40) rfl (by simp [Act.eval, Act.put]) (by simp [Act.eval, Act.put]) ?_
    refine hK _ _ ⟨⟨w8.setRow p2 (kc K), belowRowK bd.out QY.out _⟩, rfl⟩ ?_
    clear hK K8
    simp only [Act.put, List.setIfInBounds_toArray, List.set_cons_zero, List.set_cons_succ]
    refine forkT_last (by simp only [opsAt, List.getElem?_toArray, List.getElem?_cons_succ, List.getElem?_cons_zero]; rfl) ?_
    repeat (go_big_quiet_step (rfl))
    refine wpQuiet_nil ?_
    have P2 := Lib.hid (GZ.out.store K)
    have b9 := belowRowK bd.out QY.out (kc K)
    have R1 := Lib.hid (R1.out.below b9)
    have R2 := Lib.hid (show Row (Value.int .i64) (w8.setRow p2 (kc K)) D2 L2 from row_other R2.out GZ.out (kc K))
    have BV := Lib.hid (BV.out.trans (b9.mono BV.out.size))
    clear b9 GZ bd QY
    generalize w8.setRow p2 (kc K) = v4 at *
    go_upto_region 6 with fail
    refine wp_region_lit ?_
    refine list_build_all (cs := kc up) rfl rfl (by simp [Act.eval]; exact built_pad) ?_
    simp only [Act.put, List.setIfInBounds_toArray, List.set_cons_zero, List.set_cons_succ]
    go_wp2_with fail
    refine (A3.out _ BV.out).mono ?_
    rintro e v5 ⟨⟨D3, c3, rfl, hrow⟩, b1⟩
    have R3 := Lib.hid hrow
    clear hrow
    have R1 := Lib.hid (R1.out.below b1)
    have R2 := Lib.hid (R2.out.below b1)
    have P2 := Lib.hid (P2.out.step b1)
    have BV := Lib.hid (BV.out.trans (b1.mono BV.out.size))
    clear b1
    simp only []
    go_at_K
    iterate 10 go_step
    refine list_var_all (ds := kc K) aggPad zeroPad (kc_size _) (kc_size _) (kc_one _) rfl rfl rfl (.tmp 10) (.tmp 46) rfl (by simp [Act.eval, Act.put]) (by simp [Act.eval, Act.put]) ?_
    simp only [Act.put, List.setIfInBounds_toArray, List.set_cons_zero, List.set_cons_succ]
    have P3 := Lib.hid (KB.new v5 K)
    have BA := below_newK v5 (.cells (kc K) 26)
    have R1 := Lib.hid (R1.out.below BA)
    have R2 := Lib.hid (R2.out.below BA)
    have R3 := Lib.hid (R3.out.below BA)
    have P2 := Lib.hid (P2.out.step BA)
    have BV := Lib.hid (BV.out.trans (BA.mono BV.out.size))
    clear BA
    obtain ⟨p3, hq⟩ : ∃ q, v5.heap.size = q := ⟨_, rfl⟩
    generalize v5.alloc (.cells (kc K) 26) = v6 at *
    rw [hq] at P3 ⊢
    clear hq
    go_upto_region 7 with fail
    refine wp_region_lit ?_
    refine list_load_all aggPad P2.out (kc_size _) rfl (.tmp 8) rfl (by simp [Act.eval, Act.put]) ?_
    simp only [Act.put, List.setIfInBounds_toArray, List.set_cons_zero, List.set_cons_succ]
    refine list_load_all aggPad P3.out (kc_size _) rfl (.tmp 10) rfl (by simp [Act.eval, Act.put]) ?_
    simp only [Act.put, List.setIfInBounds_toArray, List.set_cons_zero, List.set_cons_succ]
    refine list_eqK (K := K) rfl (.tmp 48) (.tmp 49) _ rfl (by simp [Act.eval, Act.put]) (by simp [Act.eval, Act.put]) ?_
    simp only [Act.put, List.setIfInBounds_toArray, List.set_cons_zero, List.set_cons_succ]
    obtain ⟨z6, hz6⟩ : ∃ z, z = v6.heap.size := ⟨_, rfl⟩
    have HZ6 := Lib.hid hz6
    clear hz6
    have BN := Lib.hid (below_newK v6 (.cells #[] 3))
    go_wp2_with (first
      | (refine list_append_int rfl (.tmp 52) (.tmp 53) rfl v6.heap.size _ 0 [] rfl (own_empty v6) D1 L1.length c1 L1 rfl (R1.out.below BN.out) rfl (by have := Z1.out; omega) (by simp) ?_; intro va wa ha ga; have BA := Lib.hid (BN.out.trans (below_append (own_empty v6) (by simp) ga)); have HA := Lib.hid ha; clear ha ga)
      | (refine list_append_int rfl (.tmp 54) (.tmp 55) rfl v6.heap.size _ (0 + L1.length) ([] ++ L1) rfl HA.out D2 L2.length c2 L2 rfl (R2.out.below BA.out) rfl (by have := Z1.out; have := Z2.out; omega) (by have := BA.out.size; omega) ?_; intro vb wb hb gb; have BB := Lib.hid (BA.out.trans (below_append HA.out (by have := BA.out.size; omega) gb)); have HB := Lib.hid hb; clear hb gb; obtain ⟨AB, cB, rfl⟩ := own_form HB.out))
    refine (numbersK2 AB D3 cB c3 (L1.length + L2.length) L.length L wb (by rw [ES.out, List.length_append]) rfl (by rw [ES.out, List.length_append]; have := Z1.out; have := Z2.out; omega) (by have := Row.of_own HB.out; rw [ES.out]; simpa using this) (R3.out.below BB.out)).mono ?_
    rintro e w8 ⟨rfl, b1⟩
    have BW := Lib.hid (BB.out.trans (b1.mono BB.out.size))
    have R2 := Lib.hid (R2.out.below BW.out)
    have BV := Lib.hid (BV.out.trans (BW.out.mono BV.out.size))
    clear b1 BW BB HB BA HA BN
    go_wp2_with fail
    refine (RL.out _ BV.out).mono ?_
    rintro e w9 ⟨⟨D4, c4, rfl, hrow⟩, b1⟩
    have R4 := Lib.hid hrow
    have R2 := Lib.hid (R2.out.below b1)
    have BV := Lib.hid (BV.out.trans (b1.mono BV.out.size))
    clear b1 hrow
    go_wp2_with fail
    refine (numbersK2 D2 D4 c2 c4 L2.length L2.length L2 w9 rfl rfl (by have := Z2.out; omega) R2.out R4.out).mono ?_
    rintro e wz ⟨rfl, b1⟩
    have BV := Lib.hid (BV.out.trans (b1.mono BV.out.size))
    clear b1
    go_wp2
    go_ret
    exact ⟨rfl, BV.out⟩
  · refine oneT_call (by simp only [List.getElem?_toArray, List.getElem?_cons_succ, List.getElem?_cons_zero]; rfl) rfl ?_
    intro K8 hK
    refine wp_alloc zeroPad rfl ?_
    refine hK _ _ ⟨⟨wd.alloc (.cells (kc up) 26), bd.out.alloc bd.out.size _⟩, rfl⟩ ?_
    clear hK K8
    simp only [Act.put, List.setIfInBounds_toArray, List.set_cons_zero, List.set_cons_succ]
    have GZ := Lib.hid (KB.new wd up)
    have QY := Lib.hid bd.out.size
    have bd := Lib.hid (bd.out.alloc bd.out.size (.cells (kc up) 26))
    obtain ⟨p2, hq⟩ : ∃ q, wd.heap.size = q := ⟨_, rfl⟩
    generalize wd.alloc (.cells (kc up) 26) = wa at *
    rw [hq] at GZ QY ⊢
    clear hq
    refine forkT_call (by simp only [opsAt, List.getElem?_toArray, List.getElem?_cons_succ, List.getElem?_cons_zero]; rfl) ?_
    refine wpQuiet_nil ?_
    refine oneT_call (by simp only [List.getElem?_toArray, List.getElem?_cons_succ, List.getElem?_cons_zero]; rfl) rfl ?_
    intro K8 hK
    refine wp_call_fn (g := 10) (caps := #[]) (args := #[.agg (kc K1), .slice (cutA A c k) (n - k) (c - k)]) (.func 10) #[.tmp 35, .tmp 38] #[26, 22] rfl (enters_of Try.func10 (by kernel_rfl) rfl) rfl (by simp [Act.eval, Act.put]) ?_
    refine (A2.out wa (BV.out.trans (bd.out.mono BV.out.size))).mono ?_
    rintro e w7 ⟨⟨D2, c2, rfl, hrow⟩, b2⟩
    have bd := Lib.hid (bd.out.trans (b2.mono bd.out.size))
    have R2 := Lib.hid hrow
    have GZ := Lib.hid (GZ.out.step b2)
    clear b2 hrow
    refine ⟨_, rfl, ?_⟩
    refine hK _ _ ⟨⟨w7, bd.out⟩, rfl⟩ ?_
    clear hK K8
    obtain ⟨w8, h8⟩ : ∃ w8, w8 = w7 := ⟨_, rfl⟩
    subst h8
    simp only [Act.put, List.setIfInBounds_toArray, List.set_cons_zero, List.set_cons_succ]
    refine forkT_call (by simp only [opsAt, List.getElem?_toArray, List.getElem?_cons_succ, List.getElem?_cons_zero]; rfl) ?_
    repeat (go_big_quiet_step (rfl))
    refine wpQuiet_nil ?_
    refine oneT_call (by simp only [List.getElem?_toArray, List.getElem?_cons_succ, List.getElem?_cons_zero]; rfl) rfl ?_
    intro K8 hK
    refine wp_store_all (ds := kc K) aggPad GZ.out (kc_size _) (kc_size _) (kc_one _) (.tmp 8) (.tmp 40) rfl (by simp [Act.eval, Act.put]) (by simp [Act.eval, Act.put]) ?_
    refine hK _ _ ⟨⟨w8.setRow p2 (kc K), belowRowK bd.out QY.out _⟩, rfl⟩ ?_
    clear hK K8
    simp only [Act.put, List.setIfInBounds_toArray, List.set_cons_zero, List.set_cons_succ]
    refine forkT_last (by simp only [opsAt, List.getElem?_toArray, List.getElem?_cons_succ, List.getElem?_cons_zero]; rfl) ?_
    repeat (go_big_quiet_step (rfl))
    refine wpQuiet_nil ?_
    have P2 := Lib.hid (GZ.out.store K)
    have b9 := belowRowK bd.out QY.out (kc K)
    have R1 := Lib.hid (R1.out.below b9)
    have R2 := Lib.hid (show Row (Value.int .i64) (w8.setRow p2 (kc K)) D2 L2 from row_other R2.out GZ.out (kc K))
    have BV := Lib.hid (BV.out.trans (b9.mono BV.out.size))
    clear b9 GZ bd QY
    generalize w8.setRow p2 (kc K) = v4 at *
    go_upto_region 6 with fail
    refine wp_region_lit ?_
    refine list_build_all (cs := kc up) rfl rfl (by simp [Act.eval]; exact built_pad) ?_
    simp only [Act.put, List.setIfInBounds_toArray, List.set_cons_zero, List.set_cons_succ]
    go_wp2_with fail
    refine (A3.out _ BV.out).mono ?_
    rintro e v5 ⟨⟨D3, c3, rfl, hrow⟩, b1⟩
    have R3 := Lib.hid hrow
    clear hrow
    have R1 := Lib.hid (R1.out.below b1)
    have R2 := Lib.hid (R2.out.below b1)
    have P2 := Lib.hid (P2.out.step b1)
    have BV := Lib.hid (BV.out.trans (b1.mono BV.out.size))
    clear b1
    simp only []
    go_at_K
    iterate 10 go_step
    refine list_var_all (ds := kc K) aggPad zeroPad (kc_size _) (kc_size _) (kc_one _) rfl rfl rfl (.tmp 10) (.tmp 46) rfl (by simp [Act.eval, Act.put]) (by simp [Act.eval, Act.put]) ?_
    simp only [Act.put, List.setIfInBounds_toArray, List.set_cons_zero, List.set_cons_succ]
    have P3 := Lib.hid (KB.new v5 K)
    have BA := below_newK v5 (.cells (kc K) 26)
    have R1 := Lib.hid (R1.out.below BA)
    have R2 := Lib.hid (R2.out.below BA)
    have R3 := Lib.hid (R3.out.below BA)
    have P2 := Lib.hid (P2.out.step BA)
    have BV := Lib.hid (BV.out.trans (BA.mono BV.out.size))
    clear BA
    obtain ⟨p3, hq⟩ : ∃ q, v5.heap.size = q := ⟨_, rfl⟩
    generalize v5.alloc (.cells (kc K) 26) = v6 at *
    rw [hq] at P3 ⊢
    clear hq
    go_upto_region 7 with fail
    refine wp_region_lit ?_
    refine list_load_all aggPad P2.out (kc_size _) rfl (.tmp 8) rfl (by simp [Act.eval, Act.put]) ?_
    simp only [Act.put, List.setIfInBounds_toArray, List.set_cons_zero, List.set_cons_succ]
    refine list_load_all aggPad P3.out (kc_size _) rfl (.tmp 10) rfl (by simp [Act.eval, Act.put]) ?_
    simp only [Act.put, List.setIfInBounds_toArray, List.set_cons_zero, List.set_cons_succ]
    refine list_eqK (K := K) rfl (.tmp 48) (.tmp 49) _ rfl (by simp [Act.eval, Act.put]) (by simp [Act.eval, Act.put]) ?_
    simp only [Act.put, List.setIfInBounds_toArray, List.set_cons_zero, List.set_cons_succ]
    obtain ⟨z6, hz6⟩ : ∃ z, z = v6.heap.size := ⟨_, rfl⟩
    have HZ6 := Lib.hid hz6
    clear hz6
    have BN := Lib.hid (below_newK v6 (.cells #[] 3))
    go_wp2_with (first
      | (refine list_append_int rfl (.tmp 52) (.tmp 53) rfl v6.heap.size _ 0 [] rfl (own_empty v6) D1 L1.length c1 L1 rfl (R1.out.below BN.out) rfl (by have := Z1.out; omega) (by simp) ?_; intro va wa ha ga; have BA := Lib.hid (BN.out.trans (below_append (own_empty v6) (by simp) ga)); have HA := Lib.hid ha; clear ha ga)
      | (refine list_append_int rfl (.tmp 54) (.tmp 55) rfl v6.heap.size _ (0 + L1.length) ([] ++ L1) rfl HA.out D2 L2.length c2 L2 rfl (R2.out.below BA.out) rfl (by have := Z1.out; have := Z2.out; omega) (by have := BA.out.size; omega) ?_; intro vb wb hb gb; have BB := Lib.hid (BA.out.trans (below_append HA.out (by have := BA.out.size; omega) gb)); have HB := Lib.hid hb; clear hb gb; obtain ⟨AB, cB, rfl⟩ := own_form HB.out))
    refine (numbersK2 AB D3 cB c3 (L1.length + L2.length) L.length L wb (by rw [ES.out, List.length_append]) rfl (by rw [ES.out, List.length_append]; have := Z1.out; have := Z2.out; omega) (by have := Row.of_own HB.out; rw [ES.out]; simpa using this) (R3.out.below BB.out)).mono ?_
    rintro e w8 ⟨rfl, b1⟩
    have BW := Lib.hid (BB.out.trans (b1.mono BB.out.size))
    have R2 := Lib.hid (R2.out.below BW.out)
    have BV := Lib.hid (BV.out.trans (BW.out.mono BV.out.size))
    clear b1 BW BB HB BA HA BN
    go_wp2_with fail
    refine (RL.out _ BV.out).mono ?_
    rintro e w9 ⟨⟨D4, c4, rfl, hrow⟩, b1⟩
    have R4 := Lib.hid hrow
    have R2 := Lib.hid (R2.out.below b1)
    have BV := Lib.hid (BV.out.trans (b1.mono BV.out.size))
    clear b1 hrow
    go_wp2_with fail
    refine (numbersK2 D2 D4 c2 c4 L2.length L2.length L2 w9 rfl rfl (by have := Z2.out; omega) R2.out R4.out).mono ?_
    rintro e wz ⟨rfl, b1⟩
    have BV := Lib.hid (BV.out.trans (b1.mono BV.out.size))
    clear b1
    go_wp2
    go_ret
    exact ⟨rfl, BV.out⟩

end Go.Proofs.Ytdlomdkapepkbaa
