/- The walk of StackLists. -/
import Derived.Test.YtbgdkhbembjjlaaStkList
import Derived.Test.YtbgdkhbembjjlaaLate
import Derived.Deep.Cut
import Derived.IntWalk
import Derived.Shelf.Abstract
import Derived.Test.YtbgdkhbembjjlaaStkAwake
import Derived.Test.YtbgdkhbembjjlaaIntOpen
namespace Go.Proofs.Ytbgdkhbembjjlaa
open Go.RowKit Go.Shelf Num
set_option linter.unusedVariables false
set_option linter.unusedSimpArgs false
set_option maxRecDepth 100000

set_option maxHeartbeats 16000000 in
theorem stackLists_walk (A : Option Addr) (n c : Nat) (l : List Int) (w : World) (H : ArgI w A n c l) :
    Calls Try.prog 5 #[.slice A n c] w fun e w' => e = .returned (.bool true) ∧ Below w.heap.size w w' := by
  have GE := Lib.hid H
  have mx := H.max
  have nc := H.cap
  clear H
  obtain ⟨v0, hv0⟩ : ∃ v0, v0 = w := ⟨_, rfl⟩
  subst hv0
  go_enter Try.func5, Try.ntmps5
  go_wp2_with fail
  refine (awake17 _).mono ?_
  rintro e w1 ⟨rfl, b1⟩
  have BV := Lib.hid b1
  clear b1
  by_cases hlen : 16 < n
  · have k1 : (16 : Int) < (n : Int) := by omega
    go_wp2_with fail
    refine (awake17 _).mono ?_
    rintro e w2 ⟨rfl, b1⟩
    have BV := Lib.hid (BV.out.trans (b1.mono BV.out.size))
    clear b1
    go_wp2
    go_ret
    exact ⟨rfl, BV.out⟩
  have k1 : ¬ (16 : Int) < (n : Int) := by omega
  have HL := Lib.hid GE.out.len
  have hz := zeroStkV
  have n16 : n ≤ 16 := by omega
  go_upto_region 4 with fail
  have GP := Lib.hid (TB8.new w1 [])
  have BQ := Lib.hid BV.out.size
  have BV := Lib.hid (BV.out.alloc BV.out.size (.cells (stkL []) 26))
  obtain ⟨p, hp⟩ : ∃ p, w1.heap.size = p := ⟨_, rfl⟩
  generalize w1.alloc (.cells (stkL []) 26) = w3 at *
  rw [hp] at GP BQ ⊢
  clear hp hz
  go_wp2
  go_loopw [4] (fun i wr => ∃ (k : Nat), k ≤ n ∧ i = .int .i64 (k : Int) ∧ TB8 p (l.take k) wr ∧ Below v0.heap.size v0 wr) (fun i _ => n - (intOf i).toNat)
  case atStart => exact ⟨0, by omega, rfl, GP.out, BV.out⟩
  case round =>
    clear GP BV
    obtain ⟨k, hk, rfl, gp, bv⟩ := hrel
    have GP := Lib.hid gp
    have BV := Lib.hid bv
    clear gp bv
    by_cases hlt : k < n
    · have k1 : (k : Int) < (n : Int) := by omega
      have k0 : 0 ≤ (k : Int) := by omega
      have hkl : k < l.length := by rw [HL.out]; exact hlt
      obtain ⟨b, o, hA, hbl, cx⟩ := (GE.out.step BV.out).row.at_ hkl
      subst hA
      obtain ⟨x, hx⟩ : ∃ x, x = l[k] := ⟨_, rfl⟩
      rw [← hx] at cx
      have SK := Lib.hid (show l.take (k + 1) = l.take k ++ [x] by rw [hx]; exact List.take_succ_eq_append_getElem hkl)
      clear hx
      have PS := Lib.hid fun w' => push_yes (l.take k) x (by rw [List.length_take]; omega) w'
      rw [← SK.out] at PS
      obtain ⟨K0, hK0⟩ : ∃ K, K = l.take k := ⟨_, rfl⟩
      obtain ⟨K1, hK1⟩ : ∃ K, K = l.take (k + 1) := ⟨_, rfl⟩
      rw [← hK0] at PS GP
      rw [← hK1] at PS
      have H1 := Lib.hid hK1
      have k2 : (k : Int) ≤ (c : Int) := by omega
      have k3 : k ≤ c := by omega
      clear hK0 hK1 SK
      have KP := Lib.hid GP.out.calm
      have q1 : ∀ u : Calm wr, u.w.cell? ⟨b, o + k, none⟩ = some (.int .i64 x) := fun u => (u.below.cell (p := ⟨b, o + k, none⟩) hbl).trans cx
      go_upto_region 7 with fail
      clear cx
      refine wp_region_late (C := fun w' => ∃ u : Calm wr, w' = u.w) 9 [([0, 1, 2, 3, 4], 5, true)] [6, 7, 8] [] (by kernel_rfl) (by kernel_rfl) ?_ ?_ ⟨⟨wr.drew, (Below.refl _ _).drew⟩, rfl⟩ ?_
      · exact fun _ _ d _ _ h => by cases d <;> exact h
      · rintro _ w' ⟨u, rfl⟩ hg
        exact ⟨⟨w', u.below.trans (hg.mono u.below.size)⟩, rfl⟩
      intro wd hwd
      have bd := Lib.hid (show Below wr.heap.size wr wd by rw [hwd]; exact (Below.refl _ _).drew)
      clear hwd
      clear bd
      refine late_calm (by simp only [opsAt, List.getElem?_toArray, List.getElem?_cons_succ, List.getElem?_cons_zero]; rfl) (by simp only [List.getElem?_toArray, List.getElem?_cons_succ, List.getElem?_cons_zero]; rfl) ?_
      repeat (first
        | (refine quiet_load_all aggStk KP.out (stkL_size _) ?_ (.tmp 3) ?_ ?_ ?_; (focus rfl); (focus rfl); (focus (simp [Act.eval]; done)); simp only [Act.put, List.setIfInBounds_toArray, List.set_cons_zero, List.set_cons_succ])
        | go_big_quiet_step (rfl))
      refine wpQuiet_nil ?_
      refine calm_next (v := .tuple #[.agg (stkL K1), .int .i64 0]) (calm_fn (g := 9) (caps := #[]) (args := #[.agg (stkL K0), .int .i64 x]) (.func 9) #[.tmp 24, .tmp 28] #[26, 3] rfl rfl (enters_of Try.func9 (by kernel_rfl) rfl) (fun w' hw => PS.out w') rfl (by simp [Act.eval])) ?_
      simp only [Act.put, List.setIfInBounds_toArray, List.set_cons_zero, List.set_cons_succ]
      clear KP q1
      refine late_last (by simp only [opsAt, List.getElem?_toArray, List.getElem?_cons_succ, List.getElem?_cons_zero]; rfl) (by simp only [List.getElem?_toArray, List.getElem?_cons_succ, List.getElem?_cons_zero]; rfl) ?_
      repeat (go_big_quiet_step (rfl))
      refine wpQuiet_nil ?_
      refine last_next rfl ?_
      intro w7 g7 C7 K8 hK
      obtain ⟨u7, rfl⟩ := C7
      refine wp_store_all (ds := stkL K1) aggStk (GP.out.step u7.below) (stkL_size _) (stkL_size _) (stkL_one _) (.tmp 3) (.tmp 30) rfl (by simp [Act.eval, Act.put]) (by simp [Act.eval, Act.put]) ?_
      refine hK _ _ ?_
      clear hK K8
      simp only [Act.put, List.setIfInBounds_toArray, List.set_cons_zero, List.set_cons_succ]
      simp only [opsAt]
      refine wpQuiet_nil ?_
      intro w8 g8
      have GP := Lib.hid (((GP.out.step u7.below).store K1).step g8)
      have BV := Lib.hid ((belowRowT (BV.out.trans (u7.below.mono BV.out.size)) BQ.out (stkL K1)).trans (g8.mono (by have := BV.out.size; have := u7.below.size; simp [World.setRow]; omega)))
      clear g7 g8 u7
      go_wp2
      go_roundw
      case rel => exact ⟨k + 1, by omega, by go_num, by rw [← H1.out]; exact GP.out, BV.out⟩
      case measure => simp [intOf]; omega
    · have hkn : k = n := by omega
      have k1 : ¬ (k : Int) < (n : Int) := by omega
      rw [show l.take k = l by rw [hkn]; exact List.take_of_length_le (by rw [HL.out]; omega)] at GP
      clear hkn hk hlt
      have LS := Lib.hid fun w' => list17_any l (by rw [HL.out]; exact n16) w'
      have NS := Lib.hid fun (A1 : Option Addr) (c1 : Nat) (w' : World) (h1 : Row (Value.int .i64) w' A1 l) (h2 : Below v0.heap.size v0 w') => numbers_same A1 A c1 c l.length l w' rfl (by rw [HL.out]; omega) h1 (GE.out.step h2).row
      rw [HL.out] at NS
      go_upto_region 8 with fail
      clear k1
      refine wp_region_lit ?_
      refine list_load_all aggStk GP.out (stkL_size _) rfl (.tmp 3) rfl (by simp [Act.eval, Act.put]) ?_
      simp only [Act.put, List.setIfInBounds_toArray, List.set_cons_zero, List.set_cons_succ]
      go_wp2_with fail
      refine (LS.out _).mono ?_
      rintro e w4 ⟨⟨A1, c1, rfl, hrow⟩, b1⟩
      have R1 := Lib.hid hrow
      clear hrow
      rw [HL.out]
      have GP := Lib.hid (GP.out.step b1)
      have BV := Lib.hid (BV.out.trans (b1.mono BV.out.size))
      clear b1
      go_wp2_with fail
      refine (NS.out _ _ _ R1.out BV.out).mono ?_
      rintro e w5 ⟨rfl, b1⟩
      have GP := Lib.hid (GP.out.step b1)
      have BV := Lib.hid (BV.out.trans (b1.mono BV.out.size))
      clear b1
      clear R1 NS LS
      have n0 : (0 : Int) ≤ (n : Int) := by omega
      have nI : (n : Int) ≤ 16 := by omega
      have wn := IntWalk.i64_in ((n : Int) - 1) (by omega)
      go_wp2
      clear wn
      go_loopw [5] (fun i wr => ∃ (k : Nat), k ≤ n ∧ i = .int .i64 ((k : Int) - 1) ∧ TB8 p (l.take k) wr ∧ Below v0.heap.size v0 wr) (fun i _ => (intOf i + 1).toNat)
      case atStart => exact ⟨n, Nat.le_refl _, rfl, by rw [List.take_of_length_le (by rw [HL.out]; exact Nat.le_refl _)]; exact GP.out, BV.out⟩
      case round =>
        clear GP BV
        obtain ⟨k, hk, rfl, gp, bv⟩ := hrel
        have GP := Lib.hid gp
        have BV := Lib.hid bv
        clear gp bv
        rcases k with _ | k
        · rw [List.take_zero] at GP
          have k1 : ¬ (0 : Int) ≤ ((0 : Nat) : Int) - 1 := by omega
          go_upto_region 17 with fail
          clear k1
          refine wp_region_lit ?_
          refine list_load_all aggStk GP.out (stkL_size _) rfl (.tmp 3) rfl (by simp [Act.eval, Act.put]) ?_
          simp only [Act.put, List.setIfInBounds_toArray, List.set_cons_zero, List.set_cons_succ]
          refine list_build_all (cs := stkL []) rfl rfl (by simp [Act.eval]; exact built_stk) ?_
          simp only [Act.put, List.setIfInBounds_toArray, List.set_cons_zero, List.set_cons_succ]
          refine list_eqT (L := []) rfl (.tmp 61) (.tmp 62) 26 rfl (by simp [Act.eval, Act.put]) (by simp [Act.eval, Act.put]) ?_
          simp only [Act.put, List.setIfInBounds_toArray, List.set_cons_zero, List.set_cons_succ]
          go_wp2_with fail
          go_ret
          exact ⟨rfl, BV.out⟩
        · have hlt : k < n := by omega
          have k1 : (k : Int) < (n : Int) := by omega
          have k0 : 0 ≤ (k : Int) := by omega
          have hkl : k < l.length := by rw [HL.out]; exact hlt
          obtain ⟨b, o, hA, hbl, cx⟩ := (GE.out.step BV.out).row.at_ hkl
          subst hA
          obtain ⟨x, hx⟩ : ∃ x, x = l[k] := ⟨_, rfl⟩
          rw [← hx] at cx
          have SK := Lib.hid (show l.take (k + 1) = l.take k ++ [x] by rw [hx]; exact List.take_succ_eq_append_getElem hkl)
          clear hx
          have PP := Lib.hid fun w' => pop_yes (l.take k) x (by rw [List.length_take]; omega) w'
          rw [SK.out] at GP
          obtain ⟨K0, hK0⟩ : ∃ K, K = l.take k := ⟨_, rfl⟩
          obtain ⟨K1, hK1⟩ : ∃ K, K = K0 ++ [x] := ⟨_, rfl⟩
          rw [← hK0] at PP GP
          rw [← hK1] at PP GP
          have H1 := Lib.hid hK0
          have CX := Lib.hid (And.intro hbl cx)
          clear hK0 hK1 SK cx
          have kk : ((k + 1 : Nat) : Int) - 1 = (k : Int) := by omega
          rw [kk]
          clear kk
          have k2 : (k : Int) ≤ (c : Int) := by omega
          have k3 : k ≤ c := by omega
          go_upto_region 13 with fail
          refine wp_region_lit ?_
          refine list_load_all aggStk GP.out (stkL_size _) rfl (.tmp 3) rfl (by simp [Act.eval, Act.put]) ?_
          simp only [Act.put, List.setIfInBounds_toArray, List.set_cons_zero, List.set_cons_succ]
          go_wp2_with fail
          refine (PP.out _).mono ?_
          rintro e w4 ⟨rfl, b1⟩
          have CX := Lib.hid (And.intro (Nat.lt_of_lt_of_le CX.out.1 b1.size) ((b1.cell (p := ⟨b, o + k, none⟩) CX.out.1).trans CX.out.2))
          have GP := Lib.hid (GP.out.step b1)
          have BV := Lib.hid (BV.out.trans (b1.mono BV.out.size))
          clear b1
          simp only []
          go_at_K
          iterate 13 go_step
          refine list_var_all (ds := stkL K0) aggStk zeroStk (stkL_size _) (stkL_size _) (stkL_one _) rfl rfl rfl (.tmp 6) (.tmp 47) rfl (by simp [Act.eval, Act.put]) (by simp [Act.eval, Act.put]) ?_
          simp only [Act.put, List.setIfInBounds_toArray, List.set_cons_zero, List.set_cons_succ]
          have GQ := Lib.hid (TB8.new w4 K0)
          have BA := below_newT w4 (.cells (stkL K0) 26)
          have CX := Lib.hid (And.intro (Nat.lt_of_lt_of_le CX.out.1 BA.size) ((BA.cell (p := ⟨b, o + k, none⟩) CX.out.1).trans CX.out.2))
          have GP := Lib.hid (GP.out.step BA)
          have BV := Lib.hid (BV.out.trans (BA.mono BV.out.size))
          clear BA
          obtain ⟨q, hq⟩ : ∃ q, w4.heap.size = q := ⟨_, rfl⟩
          generalize w4.alloc (.cells (stkL K0) 26) = w5 at *
          rw [hq] at GQ ⊢
          clear hq
          have xx : (x != x) = false := by simp
          have cx := CX.out.2
          go_upto_region 16 with fail
          clear cx CX xx
          refine wp_region_lit ?_
          refine list_load_all aggStk GQ.out (stkL_size _) rfl (.tmp 6) rfl (by simp [Act.eval, Act.put]) ?_
          simp only [Act.put, List.setIfInBounds_toArray, List.set_cons_zero, List.set_cons_succ]
          refine list_store_all (ds := stkL K0) aggStk GP.out (stkL_size _) (stkL_size _) (stkL_one _) rfl (.tmp 3) (.tmp 60) rfl (by simp [Act.eval, Act.put]) (by simp [Act.eval, Act.put]) ?_
          simp only [Act.put, List.setIfInBounds_toArray, List.set_cons_zero, List.set_cons_succ]
          have GP := Lib.hid (GP.out.store K0)
          have BV := Lib.hid (belowRowT BV.out BQ.out (stkL K0))
          generalize w5.setRow p (stkL K0) = w6 at *
          clear GQ
          have kw := IntWalk.i64_in ((k : Int) - 1) (by omega)
          go_wp2
          clear kw
          go_roundw
          case rel => exact ⟨k, by omega, rfl, by rw [← H1.out]; exact GP.out, BV.out⟩
          case measure => simp [intOf]
end Go.Proofs.Ytbgdkhbembjjlaa
