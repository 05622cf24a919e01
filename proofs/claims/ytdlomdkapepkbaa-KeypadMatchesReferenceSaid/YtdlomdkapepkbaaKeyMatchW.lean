/- The walk of KeypadMatchesReference. -/
import Derived.Test.YtdlomdkapepkbaaKeyAwake
import Derived.Test.YtdlomdkapepkbaaKeyOpen
import Derived.Test.YtdlomdkapepkbaaLate
import Derived.Shelf.Abstract
import Derived.Test.YtdlomdkapepkbaaPlain
import Derived.Test.YtdlomdkapepkbaaKeyApp
namespace Go.Proofs.Ytdlomdkapepkbaa
open Go.RowKit Go.Shelf Num
set_option linter.unusedVariables false
set_option linter.unusedSimpArgs false

section
variable {P : Program} {ops : Array Oper} {T ty : TypeId} {b n : Nat} {cs : Array Value} {w : World} {Q : Exit → Act → World → Prop} {rest : List Oper} {op : Oper} {a : Act}
theorem list_load_allG (A : AggT P ty n) (H : Blk b T cs w) (hn : cs.size = n) (hw : Region.wanted op (yielded ops a.tmps) = true) (x : Operand) (ho : op.op = .load ty x) (hx : a.eval x = .pointer (some ⟨b, 0, none⟩))
    (h : wpList P ops Q rest (a.put op.dst (.agg cs)) w) : wpList P ops Q (op :: rest) a w :=
  wpList_step fun K hK => by rw [if_pos hw]; unfold Oper.wp; rw [exec_load_all A H hn x ho hx]; exact hK _ _ h
end
set_option maxRecDepth 100000 in
set_option maxHeartbeats 16000000 in
theorem keypadMatchesReference_walk (A : Option Addr) (n c : Nat) (l : List Ev) (a1 : Int) (w : World) (H : ArgE w A n c l) (wc : (Lit.int .i64 a1).wf = true) :
    Calls Try.prog 3 #[.slice A n c, .int .i64 a1] w fun e w' => e = .returned (.bool true) ∧ Below w.heap.size w w' := by
  obtain ⟨t0, t1⟩ := Num.bd_i64 wc
  clear wc
  have GE := Lib.hid H
  have mx := H.max
  have nc := H.cap
  clear H
  obtain ⟨v0, hv0⟩ : ∃ v0, v0 = w := ⟨_, rfl⟩
  subst hv0
  go_enter Try.func3, Try.ntmps3
  go_wp2_with fail
  refine (awake9 _).mono ?_
  rintro e v1 ⟨rfl, b1⟩
  have BV := Lib.hid b1
  clear b1
  by_cases hlen : 200 < n
  · have k1 : (200 : Int) < (n : Int) := by omega
    go_wp2_with fail
    refine (awake9 _).mono ?_
    rintro e v2 ⟨rfl, b1⟩
    have BV := Lib.hid (BV.out.trans (b1.mono BV.out.size))
    clear b1
    go_wp2
    go_ret
    exact ⟨rfl, BV.out⟩
  have k1 : ¬ (200 : Int) < (n : Int) := by omega
  have hln : l.length = n := GE.out.ev.len
  have HL := Lib.hid hln
  clear hln
  have hz := zeroKeys
  go_upto_region 4 with fail
  have GP := Lib.hid (KB.new v1 up)
  have BQ := Lib.hid BV.out.size
  have BV := Lib.hid (BV.out.alloc BV.out.size (.cells (kc up) 26))
  obtain ⟨p, hp⟩ : ∃ p, v1.heap.size = p := ⟨_, rfl⟩
  generalize v1.alloc (.cells (kc up) 26) = v3 at *
  rw [hp] at GP BQ ⊢
  clear hp hz
  go_wp2
  go_loopw [6] (fun i wr => ∃ (k : Nat), k ≤ n ∧ i = .int .i64 (k : Int) ∧ KB p (aft up (l.take k)) wr ∧ Below v0.heap.size v0 wr) (fun i _ => n - (intOf i).toNat)
  case atStart => exact ⟨0, by omega, rfl, GP.out, BV.out⟩
  case round =>
    clear GP BV
    obtain ⟨k, hk, rfl, gp, bv⟩ := hrel
    have BV := Lib.hid bv
    by_cases hlt : k < n
    · have k1 : (k : Int) < (n : Int) := by omega
      have k0 : 0 ≤ (k : Int) := by omega
      have hkl : k < l.length := by rw [HL.out]; exact hlt
      obtain ⟨b, o, hA, hbl, c1, c2, ok⟩ := (GE.out.ev.step BV.out).at_ k hkl
      subst hA
      obtain ⟨e, he⟩ : ∃ e, e = l[k] := ⟨_, rfl⟩
      rw [← he] at c1 c2
      have SA := Lib.hid (he ▸ aft_succ up l k hkl)
      obtain ⟨ek, ed⟩ := e
      simp only at c1 c2
      obtain ⟨K0, hK0⟩ : ∃ K0, K0 = aft up (l.take k) := ⟨_, rfl⟩
      obtain ⟨K1, hK1⟩ : ∃ K1, K1 = ap K0 ⟨ek, ed⟩ := ⟨_, rfl⟩
      obtain ⟨rl, hrl⟩ : ∃ rl, rl = rel K0 ⟨ek, ed⟩ := ⟨_, rfl⟩
      have AP0 := Lib.hid fun w' => (hK1 ▸ hrl ▸ apply_any K0 ⟨ek, ed⟩ w' : Calls Try.prog 8 #[.agg (kc K0), .agg #[.int .i64 ek, .bool ed]] w' fun x w'' => x = .returned (.tuple #[.agg (kc K1), .bool rl]) ∧ Below w'.heap.size w' w'')
      have k2 : (k : Int) ≤ (c : Int) := by omega
      have k3 : k ≤ c := by omega
      have CE := Lib.hid fun w' (b' : Below v0.heap.size v0 w') => (GE.out.ev.step b').at_ k hkl
      have RL := Lib.hid fun w' (b' : Below v0.heap.size v0 w') => release_any (some ⟨b, o, none⟩) k c (l.take k) ek ed rl (by rw [hrl, hK0]) w' ((GE.out.ev.step b').take k hk) (by omega)
      rw [← hK0] at SA gp
      rw [← hK1] at SA
      have GP := Lib.hid gp
      have HE := Lib.hid he
      clear hK0 hK1 hrl he ok gp bv
      have KP := Lib.hid (fun (w' : World) (hw : ∃ u : Calm wr, w' = u.w) => show KB p K0 w' by obtain ⟨u, rfl⟩ := hw; exact GP.out.step u.below)
      have q1 : ∀ u : Calm wr, u.w.cell? ⟨b, o + k * 2, none⟩ = some (.int .i64 ek) := fun u => (u.below.cell (p := ⟨b, o + k * 2, none⟩) hbl).trans c1
      have q2 : ∀ u : Calm wr, u.w.cell? ⟨b, o + k * 2 + 1, none⟩ = some (.bool ed) := fun u => (u.below.cell (p := ⟨b, o + k * 2 + 1, none⟩) hbl).trans c2
      go_upto_region 7 with fail
      clear c1 c2
      refine wp_region_late (C := fun w' => ∃ u : Calm wr, w' = u.w) 10 [([0, 1, 2, 3, 4], 5, true), ([6, 7, 8], 9, false)] [] [11] (by kernel_rfl) (by kernel_rfl) ?_ ?_ ⟨⟨wr.drew, (Below.refl _ _).drew⟩, rfl⟩ ?_
      · exact fun _ _ d _ _ h => by cases d <;> exact h
      · rintro _ w' ⟨u, rfl⟩ hg
        exact ⟨⟨w', u.below.trans (hg.mono u.below.size)⟩, rfl⟩
      intro wd hwd
      have bd := Lib.hid (show Below wr.heap.size wr wd by rw [hwd]; exact (Below.refl _ _).drew)
      clear hwd
      clear bd
      refine late_calm (by simp only [opsAt, List.getElem?_toArray, List.getElem?_cons_succ, List.getElem?_cons_zero]; rfl) (by simp only [List.getElem?_toArray, List.getElem?_cons_succ, List.getElem?_cons_zero]; rfl) ?_
      repeat (first
        | (refine quiet_load_all aggPad KP.out (kc_size _) ?_ (.tmp 5) ?_ ?_ ?_; (focus rfl); (focus rfl); (focus (simp [Act.eval]; done)); simp only [Act.put, List.setIfInBounds_toArray, List.set_cons_zero, List.set_cons_succ])
        | go_big_quiet_step (rfl))
      refine wpQuiet_nil ?_
      refine calm_next (v := .tuple #[.agg (kc K1), .bool rl]) (calm_fn (g := 8) (caps := #[]) (args := #[.agg (kc K0), .agg #[.int .i64 ek, .bool ed]]) (.func 8) #[.tmp 28, .tmp 32] #[26, 30] rfl rfl (enters_of Try.func8 (by kernel_rfl) rfl) (fun w' hw => AP0.out w') rfl (by simp [Act.eval])) ?_
      simp only [Act.put, List.setIfInBounds_toArray, List.set_cons_zero, List.set_cons_succ]
      clear KP q1 q2
      refine late_real (by simp only [opsAt, List.getElem?_toArray, List.getElem?_cons_succ, List.getElem?_cons_zero]; rfl) (by simp only [List.getElem?_toArray, List.getElem?_cons_succ, List.getElem?_cons_zero]; rfl) ?_
      repeat (go_big_quiet_step (rfl))
      refine wpQuiet_nil ?_
      refine real_next rfl ?_
      intro w5 g5 C5 K8 hK
      obtain ⟨u5, rfl⟩ := C5
      refine wp_alloc zeroPad rfl ?_
      refine hK _ _ ⟨⟨u5.w.alloc (.cells (kc up) 26), u5.below.alloc u5.below.size _⟩, rfl⟩ ?_
      clear hK K8 g5
      simp only [Act.put, List.setIfInBounds_toArray, List.set_cons_zero, List.set_cons_succ]
      have G5 := Lib.hid (KB.new u5.w up)
      have Z5 := Lib.hid u5.below.size
      obtain ⟨q, hq⟩ : ∃ q, u5.w.heap.size = q := ⟨_, rfl⟩
      generalize u5.w.alloc (.cells (kc up) 26) = w6 at *
      rw [hq] at G5 Z5 ⊢
      clear hq u5
      refine late_last (by simp only [opsAt, List.getElem?_toArray, List.getElem?_cons_succ, List.getElem?_cons_zero]; rfl) (by simp only [List.getElem?_toArray, List.getElem?_cons_succ, List.getElem?_cons_zero]; rfl) ?_
      repeat (go_big_quiet_step (rfl))
      refine wpQuiet_nil ?_
      refine last_next rfl ?_
      intro w7 g7 C7 K8 hK
      obtain ⟨u7, rfl⟩ := C7
      refine wp_store_all (ds := kc K1) aggPad (G5.out.step g7) (kc_size _) (kc_size _) (kc_one _) (.tmp 7) (.tmp 34) rfl (by simp [Act.eval, Act.put]) (by simp [Act.eval, Act.put]) ?_
      refine hK _ _ ?_
      clear hK K8
      simp only [Act.put, List.setIfInBounds_toArray, List.set_cons_zero, List.set_cons_succ]
      simp only [opsAt, List.getElem?_toArray, List.getElem?_cons_succ, List.getElem?_cons_zero]
      repeat (go_big_quiet_step (rfl))
      refine wpQuiet_nil ?_
      intro w8 g8
      have GQ := Lib.hid (((G5.out.step g7).store K1).step g8)
      have B8 := Lib.hid ((belowRowK u7.below Z5.out (kc K1)).trans (g8.mono (by have := u7.below.size; simp [World.setRow]; omega)))
      have GP := Lib.hid (GP.out.step B8.out)
      have BV := Lib.hid (BV.out.trans (B8.out.mono BV.out.size))
      clear G5 Z5 g7 g8 u7
      go_upto_region 8 with fail
      refine wp_region_lit ?_
      refine list_load_all aggPad GQ.out (kc_size _) rfl (.tmp 7) rfl (by simp [Act.eval, Act.put]) ?_
      simp only [Act.put, List.setIfInBounds_toArray, List.set_cons_zero, List.set_cons_succ]
      refine list_store_all (ds := kc K1) aggPad GP.out (kc_size _) (kc_size _) (kc_one _) rfl (.tmp 5) (.tmp 36) rfl (by simp [Act.eval, Act.put]) (by simp [Act.eval, Act.put]) ?_
      simp only [Act.put, List.setIfInBounds_toArray, List.set_cons_zero, List.set_cons_succ]
      have GP := Lib.hid (GP.out.store K1)
      have BV := Lib.hid (belowRowK BV.out BQ.out (kc K1))
      generalize w8.setRow p (kc K1) = w9 at *
      clear GQ B8
      obtain ⟨b', o', hA', hbl', c1, c2, ok⟩ := CE.out w9 BV.out
      obtain ⟨rfl, rfl⟩ : b = b' ∧ o = o' := by simpa using hA'
      rw [← HE.out] at c1 c2
      simp only at c1 c2
      clear hA' ok CE HE hbl
      have q1 : ∀ u : Calm w9, u.w.cell? ⟨b, o + k * 2, none⟩ = some (.int .i64 ek) := fun u => (u.below.cell (p := ⟨b, o + k * 2, none⟩) hbl').trans c1
      have q2 : ∀ u : Calm w9, u.w.cell? ⟨b, o + k * 2 + 1, none⟩ = some (.bool ed) := fun u => (u.below.cell (p := ⟨b, o + k * 2 + 1, none⟩) hbl').trans c2
      have RQ := Lib.hid fun u : Calm w9 => RL.out u.w (BV.out.trans (u.below.mono BV.out.size))
      clear c1 c2 hbl' RL AP0
      have bb : (rl != rl) = false := by simp
      go_upto_region 9 with fail
      refine calm_region (by kernel_rfl) (by kernel_rfl) ?_
      repeat (go_big_quiet_step ((go_at_call 9; exact calm_call (RQ.out _))))
      refine wpQuiet_nil ?_
      intro _ hw'
      obtain ⟨u, rfl⟩ := hw'
      have GP := Lib.hid (GP.out.step u.below)
      have BV := Lib.hid (BV.out.trans (u.below.mono BV.out.size))
      clear q1 q2 RQ
      generalize u.w = w10 at *
      go_wp2
      go_roundw
      case rel => exact ⟨k + 1, by omega, by go_num, by rw [SA.out]; exact GP.out, BV.out⟩
      case measure => simp [intOf]; omega
    · have hkn : k = n := by omega
      have k1 : ¬ (k : Int) < (n : Int) := by omega
      rw [show l.take k = l by rw [hkn]; exact List.take_of_length_le (by rw [HL.out]; omega)] at gp
      obtain ⟨K, hK⟩ : ∃ K, K = aft up l := ⟨_, rfl⟩
      rw [← hK] at gp
      have P := Lib.hid gp
      have AL := Lib.hid fun (w' : World) (hb : Below v0.heap.size v0 w') => all_any up K (rls up l) A n c l w' (GE.out.ev.step hb) (by omega) hK rfl
      have RL := Lib.hid fun (w' : World) (hb : Below v0.heap.size v0 w') => (show Calls Try.prog 13 #[.slice A n c, .int .i64 0] w' (Nums (rls up l) w') from releases_any A n c 0 l (rls up l) (rfr_zero l).symm w' (GE.out.ev.step hb) (by omega) (by omega) nc)
      have DN := Lib.hid fun (m : Nat) (hm : m < 16) (v : Bool) (hv : K m = v) (w' : World) (hb : Below v0.heap.size v0 w') => (down_any A n c l (m : Int) v (by rw [dn_in l m hm, ← hK, hv]) w' (GE.out.ev.step hb) (by omega)).mono fun e w'' h => (show e = .returned (.bool v) ∧ Below w'.heap.size w' w'' from ⟨h.1, h.2 ▸ Below.refl _ _⟩)
      have Z1 := Lib.hid (show (rls up l).length ≤ 65536 by have := rls_le up l; have := HL.out; omega)
      obtain ⟨LL, hLL⟩ : ∃ L, L = rls up l := ⟨_, rfl⟩
      rw [← hLL] at AL RL Z1
      clear hK hLL gp bv hkn hlt hk
      go_upto_region 11 with fail
      clear k1
      refine wp_region_lit ?_
      refine list_build_all (cs := kc up) rfl rfl (by simp [Act.eval]; exact built_pad) ?_
      simp only [Act.put, List.setIfInBounds_toArray, List.set_cons_zero, List.set_cons_succ]
      go_wp2_with fail
      refine (AL.out _ BV.out).mono ?_
      rintro e v4 ⟨⟨D1, c1, rfl, hrow⟩, b1⟩
      have P := Lib.hid (P.out.step b1)
      have R1 := Lib.hid hrow
      clear hrow
      have BV := Lib.hid (BV.out.trans (b1.mono BV.out.size))
      clear b1
      simp only []
      go_at_K
      iterate 10 go_step
      refine list_var_all (ds := kc K) aggPad zeroPad (kc_size _) (kc_size _) (kc_one _) rfl rfl rfl (.tmp 9) (.tmp 51) rfl (by simp [Act.eval, Act.put]) (by simp [Act.eval, Act.put]) ?_
      simp only [Act.put, List.setIfInBounds_toArray, List.set_cons_zero, List.set_cons_succ]
      have GA := Lib.hid (KB.new v4 K)
      have BA := below_newK v4 (.cells (kc K) 26)
      have P := Lib.hid (P.out.step BA)
      have R1 := Lib.hid (R1.out.below BA)
      have BV := Lib.hid (BV.out.trans (BA.mono BV.out.size))
      clear BA
      obtain ⟨q, hq⟩ : ∃ q, v4.heap.size = q := ⟨_, rfl⟩
      generalize v4.alloc (.cells (kc K) 26) = v5 at *
      rw [hq] at GA ⊢
      clear hq
      clear AL BQ
      go_wp2
      go_loopw [11, 12] (fun x i wr => ∃ (j : Nat) (y z : Int), j ≤ 16 ∧ x = .int .i64 y ∧ i = .int .i64 z ∧ y = lowTo K j (16 - j) ∧ z + 1 = (j : Int) ∧ Below v5.heap.size v5 wr) (fun _ i _ => (intOf i + 1).toNat)
      case atStart => exact ⟨16, -1, 15, Nat.le_refl _, rfl, rfl, rfl, rfl, Below.refl _ _⟩
      case round =>
        obtain ⟨j, y, z, hj, rfl, rfl, hy, hz, hb⟩ := hrel
        have HB := Lib.hid hb
        have GA := Lib.hid (GA.out.step hb)
        have P := Lib.hid (P.out.step hb)
        have R1 := Lib.hid (R1.out.below hb)
        have BV := Lib.hid (BV.out.trans (hb.mono BV.out.size))
        have HY := Lib.hid hy
        clear hb hy
        rcases j with _ | m
        · obtain rfl : z = -1 := by omega
          have HN := Lib.hid (show y = low K from HY.out)
          clear hz hj HY
          by_cases h0 : 0 ≤ a1
          · have LW := Lib.hid fun w' => lowest_any K y HN.out w'
            have yy : (y == y) = true := by simp
            obtain ⟨j, hj⟩ : ∃ j : Nat, a1 % 16 = (j : Int) := ⟨(a1 % 16).toNat, by omega⟩
            have j2 : j < 16 := by omega
            obtain ⟨v, hv⟩ : ∃ v, K j = v := ⟨_, rfl⟩
            have IS := Lib.hid fun w' => ((show isDn K a1 = v by unfold isDn; rw [decide_eq_true h0, hj]; simpa using hv) ▸ isDown_any K a1 w' t1 : Calls Try.prog 15 #[.agg (kc K), .int .i64 a1] w' fun x w'' => x = .returned (.bool v) ∧ Below w'.heap.size w' w'')
            have DQ0 := Lib.hid fun (w' : World) (hb : Below v0.heap.size v0 w') => DN.out j j2 v hv w' hb
            have hm : a1.tmod 16 = (j : Int) := by rw [Num.tmod_pos a1 16 h0]; exact hj
            have h1 : decide (0 ≤ a1) = true := decide_eq_true h0
            have vv : (v == v) = true := by simp
            clear hj hv j2
            go_upto_region 20 with fail
            refine wp_region_lit ?_
            refine list_load_all aggPad GA.out (kc_size _) rfl (.tmp 9) rfl (by simp [Act.eval, Act.put]) ?_
            simp only [Act.put, List.setIfInBounds_toArray, List.set_cons_zero, List.set_cons_succ]
            refine list_load_all aggPad P.out (kc_size _) rfl (.tmp 5) rfl (by simp [Act.eval, Act.put]) ?_
            simp only [Act.put, List.setIfInBounds_toArray, List.set_cons_zero, List.set_cons_succ]
            refine list_eqK (K := K) rfl (.tmp 70) (.tmp 71) 26 rfl (by simp [Act.eval, Act.put]) (by simp [Act.eval, Act.put]) ?_
            simp only [Act.put, List.setIfInBounds_toArray, List.set_cons_zero, List.set_cons_succ]
            go_wp2_with fail
            refine (RL.out _ BV.out).mono ?_
            rintro e w4 ⟨⟨D4, c4, rfl, hrow⟩, b1⟩
            have R4 := Lib.hid hrow
            have R1 := Lib.hid (R1.out.below b1)
            have P := Lib.hid (P.out.step b1)
            have BV := Lib.hid (BV.out.trans (b1.mono BV.out.size))
            clear b1 hrow RL
            go_wp2_with fail
            refine (numbersK2 D1 D4 c1 c4 LL.length LL.length LL w4 rfl rfl Z1.out R1.out R4.out).mono ?_
            rintro e w5 ⟨rfl, b1⟩
            have P := Lib.hid (P.out.step b1)
            have BV := Lib.hid (BV.out.trans (b1.mono BV.out.size))
            clear b1 R1 R4
            simp only []
            go_at_K
            go_step
            have KP := Lib.hid (fun (w' : World) (hw : ∃ u : Calm w5, w' = u.w) => show KB p K w' by obtain ⟨u, rfl⟩ := hw; exact P.out.step u.below)
            have DQ := Lib.hid fun (u : Calm w5) => DQ0.out u.w (BV.out.trans (u.below.mono BV.out.size))
            refine list_of_quiet (C := fun w' => ∃ u : Calm w5, w' = u.w) _ _ _ ⟨⟨w5, Below.refl _ _⟩, rfl⟩ ?_
            iterate 2 (go_big_quiet_step (fail))
            refine quiet_load_all aggPad KP.out (kc_size _) ?_ (.tmp 5) rfl ?_ ?_
            (focus rfl)
            (focus (simp [Act.eval]; done))
            simp only [Act.put, List.setIfInBounds_toArray, List.set_cons_zero, List.set_cons_succ]
            iterate 5 (go_big_quiet_step ((go_at_call 14; exact calm_call (LW.out _))))
            refine quiet_load_all aggPad KP.out (kc_size _) ?_ (.tmp 5) rfl ?_ ?_
            (focus rfl)
            (focus (simp [Act.eval]; done))
            simp only [Act.put, List.setIfInBounds_toArray, List.set_cons_zero, List.set_cons_succ]
            repeat (go_big_quiet_step ((first | (go_at_call 15; exact calm_call (IS.out _)) | (go_at_call 11; exact calm_call (DQ.out _)))))
            refine wpQuiet_nil ?_
            intro _ hw'
            obtain ⟨u, rfl⟩ := hw'
            have BV := Lib.hid (BV.out.trans (u.below.mono BV.out.size))
            iterate 3 go_step
            go_ret
            exact ⟨rfl, BV.out⟩
          · have LW := Lib.hid fun w' => lowest_any K y HN.out w'
            have yy : (y == y) = true := by simp
            have IS := Lib.hid fun w' => ((show isDn K a1 = false by unfold isDn; rw [decide_eq_false h0]; rfl) ▸ isDown_any K a1 w' t1 : Calls Try.prog 15 #[.agg (kc K), .int .i64 a1] w' fun x w'' => x = .returned (.bool false) ∧ Below w'.heap.size w' w'')
            have h1 : decide (0 ≤ a1) = false := decide_eq_false h0
            go_upto_region 20 with fail
            refine wp_region_lit ?_
            refine list_load_all aggPad GA.out (kc_size _) rfl (.tmp 9) rfl (by simp [Act.eval, Act.put]) ?_
            simp only [Act.put, List.setIfInBounds_toArray, List.set_cons_zero, List.set_cons_succ]
            refine list_load_all aggPad P.out (kc_size _) rfl (.tmp 5) rfl (by simp [Act.eval, Act.put]) ?_
            simp only [Act.put, List.setIfInBounds_toArray, List.set_cons_zero, List.set_cons_succ]
            refine list_eqK (K := K) rfl (.tmp 70) (.tmp 71) 26 rfl (by simp [Act.eval, Act.put]) (by simp [Act.eval, Act.put]) ?_
            simp only [Act.put, List.setIfInBounds_toArray, List.set_cons_zero, List.set_cons_succ]
            go_wp2_with fail
            refine (RL.out _ BV.out).mono ?_
            rintro e w4 ⟨⟨D4, c4, rfl, hrow⟩, b1⟩
            have R4 := Lib.hid hrow
            have R1 := Lib.hid (R1.out.below b1)
            have P := Lib.hid (P.out.step b1)
            have BV := Lib.hid (BV.out.trans (b1.mono BV.out.size))
            clear b1 hrow RL
            go_wp2_with fail
            refine (numbersK2 D1 D4 c1 c4 LL.length LL.length LL w4 rfl rfl Z1.out R1.out R4.out).mono ?_
            rintro e w5 ⟨rfl, b1⟩
            have P := Lib.hid (P.out.step b1)
            have BV := Lib.hid (BV.out.trans (b1.mono BV.out.size))
            clear b1 R1 R4
            simp only []
            go_at_K
            go_step
            have KP := Lib.hid (fun (w' : World) (hw : ∃ u : Calm w5, w' = u.w) => show KB p K w' by obtain ⟨u, rfl⟩ := hw; exact P.out.step u.below)
            refine list_of_quiet (C := fun w' => ∃ u : Calm w5, w' = u.w) _ _ _ ⟨⟨w5, Below.refl _ _⟩, rfl⟩ ?_
            iterate 2 (go_big_quiet_step (fail))
            refine quiet_load_all aggPad KP.out (kc_size _) ?_ (.tmp 5) rfl ?_ ?_
            (focus rfl)
            (focus (simp [Act.eval]; done))
            simp only [Act.put, List.setIfInBounds_toArray, List.set_cons_zero, List.set_cons_succ]
            iterate 5 (go_big_quiet_step ((go_at_call 14; exact calm_call (LW.out _))))
            refine quiet_load_all aggPad KP.out (kc_size _) ?_ (.tmp 5) rfl ?_ ?_
            (focus rfl)
            (focus (simp [Act.eval]; done))
            simp only [Act.put, List.setIfInBounds_toArray, List.set_cons_zero, List.set_cons_succ]
            repeat (go_big_quiet_step ((go_at_call 15; exact calm_call (IS.out _))))
            refine wpQuiet_nil ?_
            intro _ hw'
            obtain ⟨u, rfl⟩ := hw'
            have BV := Lib.hid (BV.out.trans (u.below.mono BV.out.size))
            iterate 3 go_step
            go_ret
            exact ⟨rfl, BV.out⟩
        · obtain rfl : z = (m : Int) := by omega
          have m2 : m < 16 := by omega
          obtain ⟨v, hv⟩ : ∃ v, K m = v := ⟨_, rfl⟩
          have LT := Lib.hid (show lowTo K m (16 - m) = if v = true then (m : Int) else y by
            rw [show 16 - m = (16 - (m + 1)) + 1 by omega, HY.out]
            cases v
            · rw [lowTo_miss hv, if_neg (by decide)]
            · rw [lowTo_hit hv, if_pos rfl])
          have DQ := Lib.hid fun (u : Calm wr) => DN.out m m2 v hv u.w (BV.out.trans (u.below.mono BV.out.size))
          have m0 : 0 ≤ (m : Int) := by omega
          have m1 : (m : Int) < 16 := by omega
          have q1 : ∀ u : Calm wr, u.w.cell? ⟨p, m, none⟩ = some (.bool v) := fun u => by rw [(P.out.step u.below).cell m2, hv]
          have vv : (v != v) = false := by simp
          have hj' : m ≤ 16 := by omega
          clear hv HY DN RL hz hj
          go_upto_region 16 with fail
          refine calm_region (by kernel_rfl) (by kernel_rfl) ?_
          repeat (go_big_quiet_step ((go_at_call 11; exact calm_call (DQ.out _))))
          refine wpQuiet_nil ?_
          intro _ hw'
          obtain ⟨u, rfl⟩ := hw'
          have HB := Lib.hid (HB.out.trans (u.below.mono HB.out.size))
          have q2 := q1 u
          clear q1 DQ
          generalize u.w = w5 at *
          cases v
          all_goals
            go_wp2
            go_roundw
            case rel => exact ⟨m, _, (m : Int) - 1, hj', rfl, rfl, by rw [LT.out]; simp, by omega, HB.out⟩
            case measure => first | (simp [intOf]; done) | (simp [intOf]; omega)

end Go.Proofs.Ytdlomdkapepkbaa
