/- The walk of KeypadCounts. -/
import Derived.Test.YtdlomdkapepkbaaKeyAwake
import Derived.Test.YtdlomdkapepkbaaKeyOpen
import Derived.Test.YtdlomdkapepkbaaLate
import Derived.Shelf.Abstract
namespace Go.Proofs.Ytdlomdkapepkbaa
open Go.RowKit Go.Shelf Num
set_option linter.unusedVariables false
set_option linter.unusedSimpArgs false

/-- What an event does to one key. -/
theorem counts_same (K : Nat → Bool) (e : Ev) (j : Nat) (hj : j < 16) (h : e.k = (j : Int)) : rel K e = (K j && !(ap K e j)) := rel_same K e j hj h.symm
theorem counts_other (K : Nat → Bool) (e : Ev) (j : Nat) (h : e.k ≠ (j : Int)) : ap K e j = K j := ap_other K e j (fun q => h q.symm)
/-- How many presses more than releases. -/
def more (v : Bool) : Nat := if v then 1 else 0
set_option maxRecDepth 100000 in
set_option maxHeartbeats 16000000 in
theorem keypadCounts_walk (A : Option Addr) (n c : Nat) (l : List Ev) (key : Int) (w : World) (H : ArgE w A n c l) (wc : (Lit.int .u8 key).wf = true) :
    Calls Try.prog 6 #[.slice A n c, .int .u8 key] w fun e w' => e = .returned (.bool true) ∧ Below w.heap.size w w' := by
  obtain ⟨t0, t1⟩ := Num.bd_u8 wc
  clear wc
  have GE := Lib.hid H
  have mx := H.max
  have nc := H.cap
  clear H
  obtain ⟨v0, hv0⟩ : ∃ v0, v0 = w := ⟨_, rfl⟩
  subst hv0
  go_enter Try.func6, Try.ntmps6
  go_wp2_with fail
  refine (awake9 _).mono ?_
  rintro e v1 ⟨rfl, b1⟩
  have BV := Lib.hid b1
  clear b1
  by_cases hlen : 200 < n
  · have k1 : (200 : Int) < (n : Int) := by omega
    go_wp2_with fail
    refine (awake9 _).mono ?_
    rintro e v2 ⟨rfl, b1⟩
    have BV := Lib.hid (BV.out.trans (b1.mono BV.out.size))
    clear b1
    go_wp2
    go_ret
    exact ⟨rfl, BV.out⟩
  have k1 : ¬ (200 : Int) < (n : Int) := by omega
  obtain ⟨j, hj⟩ : ∃ j : Nat, key % 16 = (j : Int) := ⟨(key % 16).toNat, by omega⟩
  have j2 : j < 16 := by omega
  have U1 := Lib.hid hj
  clear hj
  have hln : l.length = n := GE.out.ev.len
  have HL := Lib.hid hln
  clear hln
  have hz := zeroKeys
  go_upto_region 4 with fail
  rw [U1.out]
  clear U1 t0 t1
  go_upto_region 5 with fail
  have GP := Lib.hid (KB.new v1 up)
  have BQ := Lib.hid BV.out.size
  have BV := Lib.hid (BV.out.alloc BV.out.size (.cells (kc up) 26))
  obtain ⟨p, hp⟩ : ∃ p, v1.heap.size = p := ⟨_, rfl⟩
  generalize v1.alloc (.cells (kc up) 26) = v3 at *
  rw [hp] at GP BQ ⊢
  clear hp hz
  go_wp2
  go_loopw [7, 8, 9] (fun x y i wr => ∃ (k pr re : Nat), k ≤ n ∧ i = .int .i64 (k : Int) ∧ x = .int .i64 (pr : Int) ∧ y = .int .i64 (re : Int) ∧ pr ≤ k ∧ re ≤ k ∧ pr = re + more (aft up (l.take k) j) ∧ KB p (aft up (l.take k)) wr ∧ Below v0.heap.size v0 wr) (fun _ _ i _ => n - (intOf i).toNat)
  case atStart => exact ⟨0, 0, 0, by omega, rfl, rfl, rfl, by omega, by omega, rfl, GP.out, BV.out⟩
  case round =>
    clear GP BV
    obtain ⟨k, pr, re, hk, rfl, rfl, rfl, p1, r1, hm, gp, bv⟩ := hrel
    have BV := Lib.hid bv
    have j0 : 0 ≤ (j : Int) := by omega
    have j1 : (j : Int) < 16 := by omega
    by_cases hlt : k < n
    · have k1 : (k : Int) < (n : Int) := by omega
      have k0 : 0 ≤ (k : Int) := by omega
      have hkl : k < l.length := by rw [HL.out]; exact hlt
      obtain ⟨b, o, hA, hbl, c1, c2, ok⟩ := (GE.out.ev.step BV.out).at_ k hkl
      subst hA
      obtain ⟨e, he⟩ : ∃ e, e = l[k] := ⟨_, rfl⟩
      rw [← he] at c1 c2
      have SA := Lib.hid (he ▸ aft_succ up l k hkl)
      obtain ⟨ek, ed⟩ := e
      simp only at c1 c2
      obtain ⟨K0, hK0⟩ : ∃ K0, K0 = aft up (l.take k) := ⟨_, rfl⟩
      obtain ⟨K1, hK1⟩ : ∃ K1, K1 = ap K0 ⟨ek, ed⟩ := ⟨_, rfl⟩
      obtain ⟨rl, hrl⟩ : ∃ rl, rl = rel K0 ⟨ek, ed⟩ := ⟨_, rfl⟩
      have AP0 := Lib.hid fun w' => (hK1 ▸ hrl ▸ apply_any K0 ⟨ek, ed⟩ w' : Calls Try.prog 8 #[.agg (kc K0), .agg #[.int .i64 ek, .bool ed]] w' fun x w'' => x = .returned (.tuple #[.agg (kc K1), .bool rl]) ∧ Below w'.heap.size w' w'')
      rw [← hK0] at SA gp hm
      rw [← hK1] at SA
      have GP := Lib.hid gp
      have HM := Lib.hid hm
      obtain ⟨pv, hpv⟩ : ∃ v, v = K0 j := ⟨_, rfl⟩
      obtain ⟨qv, hqv⟩ : ∃ v, v = K1 j := ⟨_, rfl⟩
      have HS := Lib.hid (fun h : ek = (j : Int) => (show rl = (pv && !qv) by rw [hrl, hpv, hqv, hK1]; exact counts_same K0 ⟨ek, ed⟩ j j2 h))
      have HO := Lib.hid (fun h : ek ≠ (j : Int) => (show qv = pv by rw [hpv, hqv, hK1]; exact counts_other K0 ⟨ek, ed⟩ j h))
      have HP := Lib.hid hpv
      have HQ := Lib.hid hqv
      have HPV := Lib.hid hpv.symm
      have HQV := Lib.hid hqv.symm
      clear hK0 hK1 hrl he ok hpv hqv gp hm
      have c10 := Lib.hid c1
      have KP := Lib.hid (fun (w' : World) (hw : ∃ u : Calm wr, w' = u.w) => show KB p K0 w' by obtain ⟨u, rfl⟩ := hw; exact GP.out.step u.below)
      have q1 : ∀ u : Calm wr, u.w.cell? ⟨b, o + k * 2, none⟩ = some (.int .i64 ek) := fun u => (u.below.cell (p := ⟨b, o + k * 2, none⟩) hbl).trans c1
      have q2 : ∀ u : Calm wr, u.w.cell? ⟨b, o + k * 2 + 1, none⟩ = some (.bool ed) := fun u => (u.below.cell (p := ⟨b, o + k * 2 + 1, none⟩) hbl).trans c2
      go_upto_region 10 with fail
      clear c1 c2
      refine wp_region_late (C := fun w' => ∃ u : Calm wr, w' = u.w) 10 [([0, 1, 2, 3, 4], 5, true), ([6, 7, 8], 9, false)] [] [11] (by kernel_rfl) (by kernel_rfl) ?_ ?_ ⟨⟨wr.drew, (Below.refl _ _).drew⟩, rfl⟩ ?_
      · exact fun _ _ d _ _ h => by cases d <;> exact h
      · rintro _ w' ⟨u, rfl⟩ hg
        exact ⟨⟨w', u.below.trans (hg.mono u.below.size)⟩, rfl⟩
      intro wd hwd
      have bd := Lib.hid (show Below wr.heap.size wr wd by rw [hwd]; exact (Below.refl _ _).drew)
      clear hwd
      clear bd
      refine late_calm (by simp only [opsAt, List.getElem?_toArray, List.getElem?_cons_succ, List.getElem?_cons_zero]; rfl) (by simp only [List.getElem?_toArray, List.getElem?_cons_succ, List.getElem?_cons_zero]; rfl) ?_
      repeat (first
        | (refine quiet_load_all aggPad KP.out (kc_size _) ?_ (.tmp 6) ?_ ?_ ?_; (focus rfl); (focus rfl); (focus (simp [Act.eval]; done)); simp only [Act.put, List.setIfInBounds_toArray, List.set_cons_zero, List.set_cons_succ])
        | go_big_quiet_step (rfl))
      refine wpQuiet_nil ?_
      refine calm_next (v := .tuple #[.agg (kc K1), .bool rl]) (calm_fn (g := 8) (caps := #[]) (args := #[.agg (kc K0), .agg #[.int .i64 ek, .bool ed]]) (.func 8) #[.tmp 30, .tmp 34] #[26, 30] rfl rfl (enters_of Try.func8 (by kernel_rfl) rfl) (fun w' hw => AP0.out w') rfl (by simp [Act.eval])) ?_
      simp only [Act.put, List.setIfInBounds_toArray, List.set_cons_zero, List.set_cons_succ]
      clear KP q1 q2
      refine late_real (by simp only [opsAt, List.getElem?_toArray, List.getElem?_cons_succ, List.getElem?_cons_zero]; rfl) (by simp only [List.getElem?_toArray, List.getElem?_cons_succ, List.getElem?_cons_zero]; rfl) ?_
      repeat (go_big_quiet_step (rfl))
      refine wpQuiet_nil ?_
      refine real_next rfl ?_
      intro w5 g5 C5 K8 hK
      obtain ⟨u5, rfl⟩ := C5
      refine wp_alloc zeroPad rfl ?_
      refine hK _ _ ⟨⟨u5.w.alloc (.cells (kc up) 26), u5.below.alloc u5.below.size _⟩, rfl⟩ ?_
      clear hK K8 g5
      simp only [Act.put, List.setIfInBounds_toArray, List.set_cons_zero, List.set_cons_succ]
      have G5 := Lib.hid (KB.new u5.w up)
      have Z5 := Lib.hid u5.below.size
      obtain ⟨q, hq⟩ : ∃ q, u5.w.heap.size = q := ⟨_, rfl⟩
      generalize u5.w.alloc (.cells (kc up) 26) = w6 at *
      rw [hq] at G5 Z5 ⊢
      clear hq u5
      refine late_last (by simp only [opsAt, List.getElem?_toArray, List.getElem?_cons_succ, List.getElem?_cons_zero]; rfl) (by simp only [List.getElem?_toArray, List.getElem?_cons_succ, List.getElem?_cons_zero]; rfl) ?_
      repeat (go_big_quiet_step (rfl))
      refine wpQuiet_nil ?_
      refine last_next rfl ?_
      intro w7 g7 C7 K8 hK
      obtain ⟨u7, rfl⟩ := C7
      refine wp_store_all (ds := kc K1) aggPad (G5.out.step g7) (kc_size _) (kc_size _) (kc_one _) (.tmp 10) (.tmp 36) rfl (by simp [Act.eval, Act.put]) (by simp [Act.eval, Act.put]) ?_
      refine hK _ _ ?_
      clear hK K8
      simp only [Act.put, List.setIfInBounds_toArray, List.set_cons_zero, List.set_cons_succ]
      simp only [opsAt, List.getElem?_toArray, List.getElem?_cons_succ, List.getElem?_cons_zero]
      repeat (go_big_quiet_step (rfl))
      refine wpQuiet_nil ?_
      intro w8 g8
      have GQ := Lib.hid (((G5.out.step g7).store K1).step g8)
      have B8 := Lib.hid ((belowRowK u7.below Z5.out (kc K1)).trans (g8.mono (by have := u7.below.size; simp [World.setRow]; omega)))
      have GP := Lib.hid (GP.out.step B8.out)
      have BV := Lib.hid (BV.out.trans (B8.out.mono BV.out.size))
      clear G5 Z5 g7 g8 u7
      have c1 := (B8.out.cell (p := ⟨b, o + k * 2, none⟩) hbl).trans c10.out
      have cp := GP.out.cell j2
      have cq := GQ.out.cell j2
      rw [← HP.out] at cp
      rw [← HQ.out] at cq
      clear B8 c10
      by_cases hf : ek = (j : Int)
      · have hf1 : (ek == (j : Int)) = true := by simpa using hf
        have H1 := Lib.hid (HS.out hf)
        clear hf HS HO HP HQ
        cases pv
        · cases qv
          · obtain rfl : rl = false := H1.out
            clear H1
            go_upto_region 15 with fail
            clear c1 cp cq
            refine wp_region_lit ?_
            refine list_load_all aggPad GQ.out (kc_size _) rfl (.tmp 10) rfl (by simp [Act.eval, Act.put]) ?_
            simp only [Act.put, List.setIfInBounds_toArray, List.set_cons_zero, List.set_cons_succ]
            refine list_store_all (ds := kc K1) aggPad GP.out (kc_size _) (kc_size _) (kc_one _) rfl (.tmp 6) (.tmp 63) rfl (by simp [Act.eval, Act.put]) (by simp [Act.eval, Act.put]) ?_
            have GP := Lib.hid (GP.out.store K1)
            have BV := Lib.hid (belowRowK BV.out BQ.out (kc K1))
            generalize w8.setRow p (kc K1) = w9 at *
            go_wp2
            go_roundw
            case rel => exact ⟨k + 1, pr, re, by omega, by go_num, by first | rfl | go_num, by first | rfl | go_num, by omega, by omega, by rw [SA.out, HQV.out]; have := HM.out; rw [HPV.out] at this; simp [more] at this ⊢; omega, by rw [SA.out]; exact GP.out, BV.out⟩
            case measure => simp [intOf]; omega
          · obtain rfl : rl = false := H1.out
            clear H1
            go_upto_region 15 with fail
            clear c1 cp cq
            refine wp_region_lit ?_
            refine list_load_all aggPad GQ.out (kc_size _) rfl (.tmp 10) rfl (by simp [Act.eval, Act.put]) ?_
            simp only [Act.put, List.setIfInBounds_toArray, List.set_cons_zero, List.set_cons_succ]
            refine list_store_all (ds := kc K1) aggPad GP.out (kc_size _) (kc_size _) (kc_one _) rfl (.tmp 6) (.tmp 63) rfl (by simp [Act.eval, Act.put]) (by simp [Act.eval, Act.put]) ?_
            have GP := Lib.hid (GP.out.store K1)
            have BV := Lib.hid (belowRowK BV.out BQ.out (kc K1))
            generalize w8.setRow p (kc K1) = w9 at *
            go_wp2
            go_roundw
            case rel => exact ⟨k + 1, (pr + 1), re, by omega, by go_num, by first | rfl | go_num, by first | rfl | go_num, by omega, by omega, by rw [SA.out, HQV.out]; have := HM.out; rw [HPV.out] at this; simp [more] at this ⊢; omega, by rw [SA.out]; exact GP.out, BV.out⟩
            case measure => simp [intOf]; omega
        · cases qv
          · obtain rfl : rl = true := H1.out
            clear H1
            go_upto_region 15 with fail
            clear c1 cp cq
            refine wp_region_lit ?_
            refine list_load_all aggPad GQ.out (kc_size _) rfl (.tmp 10) rfl (by simp [Act.eval, Act.put]) ?_
            simp only [Act.put, List.setIfInBounds_toArray, List.set_cons_zero, List.set_cons_succ]
            refine list_store_all (ds := kc K1) aggPad GP.out (kc_size _) (kc_size _) (kc_one _) rfl (.tmp 6) (.tmp 63) rfl (by simp [Act.eval, Act.put]) (by simp [Act.eval, Act.put]) ?_
            have GP := Lib.hid (GP.out.store K1)
            have BV := Lib.hid (belowRowK BV.out BQ.out (kc K1))
            generalize w8.setRow p (kc K1) = w9 at *
            go_wp2
            go_roundw
            case rel => exact ⟨k + 1, pr, (re + 1), by omega, by go_num, by first | rfl | go_num, by first | rfl | go_num, by omega, by omega, by rw [SA.out, HQV.out]; have := HM.out; rw [HPV.out] at this; simp [more] at this ⊢; omega, by rw [SA.out]; exact GP.out, BV.out⟩
            case measure => simp [intOf]; omega
          · obtain rfl : rl = false := H1.out
            clear H1
            go_upto_region 15 with fail
            clear c1 cp cq
            refine wp_region_lit ?_
            refine list_load_all aggPad GQ.out (kc_size _) rfl (.tmp 10) rfl (by simp [Act.eval, Act.put]) ?_
            simp only [Act.put, List.setIfInBounds_toArray, List.set_cons_zero, List.set_cons_succ]
            refine list_store_all (ds := kc K1) aggPad GP.out (kc_size _) (kc_size _) (kc_one _) rfl (.tmp 6) (.tmp 63) rfl (by simp [Act.eval, Act.put]) (by simp [Act.eval, Act.put]) ?_
            have GP := Lib.hid (GP.out.store K1)
            have BV := Lib.hid (belowRowK BV.out BQ.out (kc K1))
            generalize w8.setRow p (kc K1) = w9 at *
            go_wp2
            go_roundw
            case rel => exact ⟨k + 1, pr, re, by omega, by go_num, by first | rfl | go_num, by first | rfl | go_num, by omega, by omega, by rw [SA.out, HQV.out]; have := HM.out; rw [HPV.out] at this; simp [more] at this ⊢; omega, by rw [SA.out]; exact GP.out, BV.out⟩
            case measure => simp [intOf]; omega
      · have hf1 : (ek == (j : Int)) = false := by simpa using hf
        have H1 := Lib.hid (HO.out hf)
        clear hf HS HO HP HQ
        obtain rfl : qv = pv := H1.out
        cases qv
        · cases rl
          · skip
            clear H1
            go_upto_region 15 with fail
            clear c1 cp cq
            refine wp_region_lit ?_
            refine list_load_all aggPad GQ.out (kc_size _) rfl (.tmp 10) rfl (by simp [Act.eval, Act.put]) ?_
            simp only [Act.put, List.setIfInBounds_toArray, List.set_cons_zero, List.set_cons_succ]
            refine list_store_all (ds := kc K1) aggPad GP.out (kc_size _) (kc_size _) (kc_one _) rfl (.tmp 6) (.tmp 63) rfl (by simp [Act.eval, Act.put]) (by simp [Act.eval, Act.put]) ?_
            have GP := Lib.hid (GP.out.store K1)
            have BV := Lib.hid (belowRowK BV.out BQ.out (kc K1))
            generalize w8.setRow p (kc K1) = w9 at *
            go_wp2
            go_roundw
            case rel => exact ⟨k + 1, pr, re, by omega, by go_num, by first | rfl | go_num, by first | rfl | go_num, by omega, by omega, by rw [SA.out, HQV.out]; have := HM.out; rw [HPV.out] at this; simp [more] at this ⊢; omega, by rw [SA.out]; exact GP.out, BV.out⟩
            case measure => simp [intOf]; omega
          · skip
            clear H1
            go_upto_region 15 with fail
            clear c1 cp cq
            refine wp_region_lit ?_
            refine list_load_all aggPad GQ.out (kc_size _) rfl (.tmp 10) rfl (by simp [Act.eval, Act.put]) ?_
            simp only [Act.put, List.setIfInBounds_toArray, List.set_cons_zero, List.set_cons_succ]
            refine list_store_all (ds := kc K1) aggPad GP.out (kc_size _) (kc_size _) (kc_one _) rfl (.tmp 6) (.tmp 63) rfl (by simp [Act.eval, Act.put]) (by simp [Act.eval, Act.put]) ?_
            have GP := Lib.hid (GP.out.store K1)
            have BV := Lib.hid (belowRowK BV.out BQ.out (kc K1))
            generalize w8.setRow p (kc K1) = w9 at *
            go_wp2
            go_roundw
            case rel => exact ⟨k + 1, pr, re, by omega, by go_num, by first | rfl | go_num, by first | rfl | go_num, by omega, by omega, by rw [SA.out, HQV.out]; have := HM.out; rw [HPV.out] at this; simp [more] at this ⊢; omega, by rw [SA.out]; exact GP.out, BV.out⟩
            case measure => simp [intOf]; omega
        · cases rl
          · skip
            clear H1
            go_upto_region 15 with fail
            clear c1 cp cq
            refine wp_region_lit ?_
            refine list_load_all aggPad GQ.out (kc_size _) rfl (.tmp 10) rfl (by simp [Act.eval, Act.put]) ?_
            simp only [Act.put, List.setIfInBounds_toArray, List.set_cons_zero, List.set_cons_succ]
            refine list_store_all (ds := kc K1) aggPad GP.out (kc_size _) (kc_size _) (kc_one _) rfl (.tmp 6) (.tmp 63) rfl (by simp [Act.eval, Act.put]) (by simp [Act.eval, Act.put]) ?_
            have GP := Lib.hid (GP.out.store K1)
            have BV := Lib.hid (belowRowK BV.out BQ.out (kc K1))
            generalize w8.setRow p (kc K1) = w9 at *
            go_wp2
            go_roundw
            case rel => exact ⟨k + 1, pr, re, by omega, by go_num, by first | rfl | go_num, by first | rfl | go_num, by omega, by omega, by rw [SA.out, HQV.out]; have := HM.out; rw [HPV.out] at this; simp [more] at this ⊢; omega, by rw [SA.out]; exact GP.out, BV.out⟩
            case measure => simp [intOf]; omega
          · skip
            clear H1
            go_upto_region 15 with fail
            clear c1 cp cq
            refine wp_region_lit ?_
            refine list_load_all aggPad GQ.out (kc_size _) rfl (.tmp 10) rfl (by simp [Act.eval, Act.put]) ?_
            simp only [Act.put, List.setIfInBounds_toArray, List.set_cons_zero, List.set_cons_succ]
            refine list_store_all (ds := kc K1) aggPad GP.out (kc_size _) (kc_size _) (kc_one _) rfl (.tmp 6) (.tmp 63) rfl (by simp [Act.eval, Act.put]) (by simp [Act.eval, Act.put]) ?_
            have GP := Lib.hid (GP.out.store K1)
            have BV := Lib.hid (belowRowK BV.out BQ.out (kc K1))
            generalize w8.setRow p (kc K1) = w9 at *
            go_wp2
            go_roundw
            case rel => exact ⟨k + 1, pr, re, by omega, by go_num, by first | rfl | go_num, by first | rfl | go_num, by omega, by omega, by rw [SA.out, HQV.out]; have := HM.out; rw [HPV.out] at this; simp [more] at this ⊢; omega, by rw [SA.out]; exact GP.out, BV.out⟩
            case measure => simp [intOf]; omega

    · have hkn : k = n := by omega
      have k1 : ¬ (k : Int) < (n : Int) := by omega
      have GP := Lib.hid gp
      have HM := Lib.hid hm
      have cp := GP.out.cell j2
      cases hv : aft up (l.take k) j
      · have e1 : ((pr : Int) == (re : Int)) = true := by have := HM.out; rw [hv] at this; simp [more] at this; simp; omega
        rw [hv] at cp
        clear hv hm gp bv
        go_wp2
        go_ret
        exact ⟨by simp, BV.out⟩
      · have e1 : ((pr : Int) == (re : Int) + 1) = true := by have := HM.out; rw [hv] at this; simp [more] at this; simp; omega
        rw [hv] at cp
        clear hv hm gp bv
        go_wp2
        go_ret
        exact ⟨by simp, BV.out⟩

end Go.Proofs.Ytdlomdkapepkbaa
