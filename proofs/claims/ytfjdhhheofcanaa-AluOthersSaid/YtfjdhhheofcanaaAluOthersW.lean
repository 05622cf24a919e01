/- Stage 18: The walk of AluOthers. -/
import Derived.Test.YtfjdhhheofcanaaAluMatchW
import Derived.Test.YtfjdhhheofcanaaAluOthersM
namespace Go.Proofs.Ytfjdhhheofcanaa
open Go.RowKit Num Dec Cpu
set_option linter.unusedVariables false
set_option linter.unusedSimpArgs false
set_option maxRecDepth 100000

set_option maxHeartbeats 16000000 in
theorem others18_yes (S : AluSpec) (v : Nat → Nat) (op : Int) (x y nn : Nat) (n addr len : Int) (q : Pr) (hv : OkV v) (hx : x < 16) (hy : y < 16) (hn : nn < 256) (hop : (Lit.int .i64 op).wf = true) (w : World) :
    Calls Try.prog 5 #[.agg (rg v), .agg (icells ⟨op, x, y, n, nn, addr, len⟩), .agg (prc q)] w fun e w' => e = .returned (.bool true) ∧ Below w.heap.size w w' := by
  have A0 := Lib.hid (awake18 S)
  have RT := Lib.hid (fun w => right18_yes ⟨op, x, y, n, nn, addr, len⟩ w ⟨⟨by simp, by simp; omega⟩, ⟨by simp, by simp; omega⟩, ⟨by simp, by simp; omega⟩⟩)
  have P1 := Lib.hid (fun w => S.do_ v op x y nn n addr len q w hv hx hy hn hop)
  clear S hop
  have hI : (icells ⟨op, x, y, n, nn, addr, len⟩).size = 7 := rfl
  have hP : (prc q).size = 8 := rfl
  have hi0 : (icells ⟨op, x, y, n, nn, addr, len⟩)[0]? = some (.int .i64 op) := rfl
  have hi1 : (icells ⟨op, x, y, n, nn, addr, len⟩)[1]? = some (.int .i64 (x : Int)) := rfl
  have hp4 : (prc q)[4]? = some (.bool q.lr) := rfl
  have hs : shX v ⟨op, x, y, n, nn, addr, len⟩ q < 256 := by unfold shX; split; exact hv _ hy; exact hv _ hx
  have HK := Lib.hid (fun k hk h => others_keep v ⟨op, x, y, n, nn, addr, len⟩ q k (by simpa using hk) h : ∀ k : Nat, k ≠ x → (k ≠ 15 ∨ hasB op q.lr = false) → aluV v ⟨op, x, y, n, nn, addr, len⟩ q k = v k)
  have HF := Lib.hid (fun hi h => others_flag v ⟨op, x, y, n, nn, addr, len⟩ q hs hi h : aluIs op = true → hasB op q.lr = true → aluV v ⟨op, x, y, n, nn, addr, len⟩ q 15 ≤ 1 ∧ ((op = 11 ∨ op = 12 ∨ op = 13) → aluV v ⟨op, x, y, n, nn, addr, len⟩ q 15 = 0))
  have HN := Lib.hid (fun hi => others_none v ⟨op, x, y, n, nn, addr, len⟩ q hi : aluIs op = false → aluV v ⟨op, x, y, n, nn, addr, len⟩ q = v)
  have HO := Lib.hid (fun hi => by unfold aluIs at hi; simp at hi; omega : aluIs op = true → op = 8 ∨ op = 9 ∨ op = 10 ∨ op = 11 ∨ op = 12 ∨ op = 13 ∨ op = 14 ∨ op = 15 ∨ op = 16 ∨ op = 17 ∨ op = 18)
  clear hs hv hx hy hn
  generalize aluV v ⟨op, x, y, n, nn, addr, len⟩ q = V at *
  generalize icells ⟨op, x, y, n, nn, addr, len⟩ = I at *
  generalize q.lr = lr at *
  generalize prc q = P at *
  obtain ⟨v0, hv0⟩ : ∃ v0, v0 = w := ⟨_, rfl⟩
  subst hv0
  have BV := Lib.hid (Below.refl v0.heap.size v0)
  obtain ⟨t, ht⟩ : ∃ t, aluIs op = t := ⟨_, rfl⟩
  rw [ht] at P1 HF HN HO
  clear ht
  go_enter Try.func5, Try.ntmps5
  go_upto_region 0 with fail
  refine wp_region_lit ?_
  refine list_box_all rfl _ (.tmp 0) rfl (rg v) rfl ?_
  simp only [Act.put, List.setIfInBounds_toArray, List.set_cons_zero, List.set_cons_succ]
  have KV := Lib.hid (Blk.new v0 22 (rg v))
  have BA := below_newP v0 (.cells (rg v) 22)
  have BV := Lib.hid (BV.out.trans (BA.mono BV.out.size))
  clear BA
  obtain ⟨bKV, hq⟩ : ∃ q, v0.heap.size = q := ⟨_, rfl⟩
  generalize v0.alloc (.cells (rg v) 22) = w2 at *
  rw [hq] at KV ⊢
  clear hq
  refine list_box_all rfl _ (.tmp 1) rfl (I) rfl ?_
  simp only [Act.put, List.setIfInBounds_toArray, List.set_cons_zero, List.set_cons_succ]
  have KI := Lib.hid (Blk.new w2 24 (I))
  have BA := below_newP w2 (.cells (I) 24)
  have KV := Lib.hid (KV.out.step BA)
  have BV := Lib.hid (BV.out.trans (BA.mono BV.out.size))
  clear BA
  obtain ⟨bKI, hq⟩ : ∃ q, w2.heap.size = q := ⟨_, rfl⟩
  generalize w2.alloc (.cells (I) 24) = w3 at *
  rw [hq] at KI ⊢
  clear hq
  refine list_box_all rfl _ (.tmp 2) rfl (P) rfl ?_
  simp only [Act.put, List.setIfInBounds_toArray, List.set_cons_zero, List.set_cons_succ]
  have KP := Lib.hid (Blk.new w3 26 (P))
  have BA := below_newP w3 (.cells (P) 26)
  have KV := Lib.hid (KV.out.step BA)
  have KI := Lib.hid (KI.out.step BA)
  have BV := Lib.hid (BV.out.trans (BA.mono BV.out.size))
  clear BA
  obtain ⟨bKP, hq⟩ : ∃ q, w3.heap.size = q := ⟨_, rfl⟩
  generalize w3.alloc (.cells (P) 26) = w4 at *
  rw [hq] at KP ⊢
  clear hq
  go_upto_region 1 with fail
  have CI := Lib.hid (calm_blk KI.out)
  refine calm_plain ?_
  repeat (first
    | (refine quiet_load_all aggInstr CI.out hI ?_ (.tmp 4) ?_ ?_ ?_; (focus rfl); (focus rfl); (focus (simp [Act.eval]; done)); simp only [Act.put, List.setIfInBounds_toArray, List.set_cons_zero, List.set_cons_succ])
    | go_big_quiet_step ((first | (go_at_call 8; exact calm_call (A0.out _)) | (go_at_call 9; exact calm_call (RT.out _)))))
  refine wpQuiet_nil ?_
  intro _ hw'
  obtain ⟨u, rfl⟩ := hw'
  have b1 := u.below
  generalize u.w = w5 at *
  have KV := Lib.hid (KV.out.step b1)
  have KI := Lib.hid (KI.out.step b1)
  have KP := Lib.hid (KP.out.step b1)
  have BV := Lib.hid (BV.out.trans (b1.mono BV.out.size))
  clear b1
  clear CI A0 RT
  go_upto_region 3 with fail
  refine wp_region_lit ?_
  refine list_load_all aggPat KV.out (rg_size _) rfl (.tmp 3) rfl (by simp [Act.eval, Act.put]) ?_
  simp only [Act.put, List.setIfInBounds_toArray, List.set_cons_zero, List.set_cons_succ]
  refine list_load_all aggInstr KI.out hI rfl (.tmp 4) rfl (by simp [Act.eval, Act.put]) ?_
  simp only [Act.put, List.setIfInBounds_toArray, List.set_cons_zero, List.set_cons_succ]
  refine list_load_all aggPro18 KP.out hP rfl (.tmp 5) rfl (by simp [Act.eval, Act.put]) ?_
  simp only [Act.put, List.setIfInBounds_toArray, List.set_cons_zero, List.set_cons_succ]
  go_wp2_with fail
  refine (P1.out _).mono ?_
  rintro e w6 ⟨rfl, b1⟩
  have KV := Lib.hid (KV.out.step b1)
  have KI := Lib.hid (KI.out.step b1)
  have KP := Lib.hid (KP.out.step b1)
  have BV := Lib.hid (BV.out.trans (b1.mono BV.out.size))
  clear b1
  simp only []
  go_at_K
  iterate 10 go_step
  refine list_var_all (ds := rg V) aggPat zeroRg (pc_size _) (rg_size _) (rg_one _) rfl rfl rfl (.tmp 7) (.tmp 25) rfl (by simp [Act.eval, Act.put]) (by simp [Act.eval, Act.put]) ?_
  simp only [Act.put, List.setIfInBounds_toArray, List.set_cons_zero, List.set_cons_succ]
  have K7 := Lib.hid (Blk.new w6 22 (rg V))
  have BA := below_newP w6 (.cells (rg V) 22)
  have KV := Lib.hid (KV.out.step BA)
  have KI := Lib.hid (KI.out.step BA)
  have KP := Lib.hid (KP.out.step BA)
  have BV := Lib.hid (BV.out.trans (BA.mono BV.out.size))
  clear BA
  obtain ⟨bK7, hq⟩ : ∃ q, w6.heap.size = q := ⟨_, rfl⟩
  generalize w6.alloc (.cells (rg V) 22) = w7 at *
  rw [hq] at K7 ⊢
  clear hq
  clear P1
  cases t
  · have hV := HN.out rfl
    subst hV
    clear HN HF HO HK
    go_upto_region 5 with fail
    have CV := Lib.hid (calm_blk KV.out)
    have C7 := Lib.hid (calm_blk K7.out)
    clear KV K7 KI KP
    refine calm_plain ?_
    repeat (first
      | (refine quiet_load_all aggPat C7.out (rg_size _) ?_ (.tmp 7) ?_ ?_ ?_; (focus rfl); (focus rfl); (focus (simp [Act.eval]; done)); simp only [Act.put, List.setIfInBounds_toArray, List.set_cons_zero, List.set_cons_succ])
      | (refine quiet_load_all aggPat CV.out (rg_size _) ?_ (.tmp 3) ?_ ?_ ?_; (focus rfl); (focus rfl); (focus (simp [Act.eval]; done)); simp only [Act.put, List.setIfInBounds_toArray, List.set_cons_zero, List.set_cons_succ])
      | (refine quiet_eqR (v := V) ?_ (.tmp 29) (.tmp 30) 22 ?_ ?_ ?_ ?_; (focus rfl); (focus rfl); (focus (simp [Act.eval]; done)); (focus (simp [Act.eval]; done)); simp only [Act.put, List.setIfInBounds_toArray, List.set_cons_zero, List.set_cons_succ])
      | go_big_quiet_step (fail))
    refine wpQuiet_nil ?_
    intro _ hw'
    obtain ⟨u, rfl⟩ := hw'
    have b1 := u.below
    generalize u.w = w8 at *
    have BV := Lib.hid (BV.out.trans (b1.mono BV.out.size))
    clear b1
    go_wp2_with fail
    go_ret
    exact ⟨rfl, BV.out⟩
  have HO := Lib.hid (HO.out rfl)
  have HS : hasB op lr = false ∨ (hasB op lr = true ∧ (¬ (op = 11 ∨ op = 12 ∨ op = 13)) ∧ V 15 ≤ 1) ∨ (hasB op lr = true ∧ (op = 11 ∨ op = 12 ∨ op = 13) ∧ V 15 = 0) := by
    cases hb : hasB op lr
    · exact .inl rfl
    · right
      by_cases hl : op = 11 ∨ op = 12 ∨ op = 13
      · exact .inr ⟨rfl, hl, (HF.out rfl hb).2 hl⟩
      · exact .inl ⟨rfl, hl, (HF.out rfl hb).1⟩
  clear HF
  clear HN
  have c0 := (KI.out.cell 0).trans hi0
  have cp := (KP.out.cell 4).trans hp4
  rcases HS with hb | ⟨hb, nl, f1⟩ | ⟨hb, lg, f0⟩
  · rcases HO.out with rfl | rfl | rfl | rfl | rfl | rfl | rfl | rfl | rfl | rfl | rfl
    all_goals clear HO
    all_goals cases lr
    all_goals try (exfalso; revert hb; decide)
    all_goals
      have HB := Lib.hid hb
      clear hb
      go_upto_region 8 with fail
      go_wp2
      go_loopw [11] (fun i wr => ∃ k : Nat, k ≤ 16 ∧ i = .int .i64 (k : Int) ∧ Below w7.heap.size w7 wr) (fun i _ => 16 - (intOf i).toNat)
      case atStart => exact ⟨0, by omega, rfl, Below.refl _ _⟩
      case round =>
        obtain ⟨k, hk, rfl, hB⟩ := hrel
        have WB := Lib.hid hB
        clear hB
        by_cases hlt : k < 16
        · have kI : (k : Int) < 16 := by omega
          have c7 := Calm.cell (((K7.out.step WB.out).cell k).trans (rg_get V hlt)) (K7.out.step WB.out).lt
          have cv := Calm.cell (((KV.out.step WB.out).cell k).trans (rg_get v hlt)) (KV.out.step WB.out).lt
          have cx := Calm.cell (((KI.out.step WB.out).cell 1).trans hi1) (KI.out.step WB.out).lt
          have KL := Lib.hid hlt
          clear hlt c0 cp
          by_cases hkx : k = x
          · have kx : ((k : Int) == (x : Int)) = true := (by simp; omega)
            have nkx : ((k : Int) != (x : Int)) = false := (by simp; omega)
            clear hkx
            go_upto_region 11 with fail
            refine calm_region (by kernel_rfl) (by kernel_rfl) ?_
            repeat (go_big_quiet_step (fail))
            refine wpQuiet_nil ?_
            intro _ hw'
            obtain ⟨u, rfl⟩ := hw'
            have WB := Lib.hid (WB.out.trans (u.below.mono WB.out.size))
            clear c7 cv cx
            go_wp2
            go_roundw
            case rel => exact ⟨k + 1, by have := KL.out; omega, by go_num, WB.out⟩
            case measure => simp [intOf]; have := KL.out; omega
          · have kx : ((k : Int) == (x : Int)) = false := (by simp; omega)
            have nkx : ((k : Int) != (x : Int)) = true := (by simp; omega)
            by_cases h15 : k = 15
            · have k15 : ((k : Int) == 15) = true := (by simp; omega)
              have nk15 : ((k : Int) != 15) = false := (by simp; omega)
              have e := HK.out k hkx (Or.inr HB.out)
              rw [e] at c7
              clear hkx h15
              go_upto_region 11 with fail
              refine calm_region (by kernel_rfl) (by kernel_rfl) ?_
              repeat (go_big_quiet_step (fail))
              refine wpQuiet_nil ?_
              intro _ hw'
              obtain ⟨u, rfl⟩ := hw'
              have WB := Lib.hid (WB.out.trans (u.below.mono WB.out.size))
              clear c7 cv cx
              go_wp2
              go_roundw
              case rel => exact ⟨k + 1, by have := KL.out; omega, by go_num, WB.out⟩
              case measure => simp [intOf]; have := KL.out; omega
            · have k15 : ((k : Int) == 15) = false := (by simp; omega)
              have nk15 : ((k : Int) != 15) = true := (by simp; omega)
              have e := HK.out k hkx (Or.inl h15)
              rw [e] at c7
              clear hkx h15 e
              go_upto_region 11 with fail
              refine calm_region (by kernel_rfl) (by kernel_rfl) ?_
              repeat (go_big_quiet_step (fail))
              refine wpQuiet_nil ?_
              intro _ hw'
              obtain ⟨u, rfl⟩ := hw'
              have WB := Lib.hid (WB.out.trans (u.below.mono WB.out.size))
              clear c7 cv cx
              go_wp2
              go_roundw
              case rel => exact ⟨k + 1, by have := KL.out; omega, by go_num, WB.out⟩
              case measure => simp [intOf]; have := KL.out; omega
        · obtain rfl : k = 16 := by omega
          have c15 : wr.cell? ⟨bK7, 15, none⟩ = some (.int .u8 (V 15 : Int)) := by rw [(K7.out.step WB.out).cell, rg_get _ (by decide)]
          clear c0 cp
          clear c15
          go_wp2
          go_ret
          exact ⟨by simp [*], BV.out.trans (WB.out.mono BV.out.size)⟩
  · have F1 := Lib.hid f1
    clear f1
    rcases HO.out with rfl | rfl | rfl | rfl | rfl | rfl | rfl | rfl | rfl | rfl | rfl
    all_goals clear HO
    all_goals cases lr
    all_goals try (exfalso; revert hb; decide)
    all_goals try (exfalso; exact nl (by decide))
    all_goals
      clear hb nl
      go_upto_region 8 with fail
      go_wp2
      go_loopw [11] (fun i wr => ∃ k : Nat, k ≤ 16 ∧ i = .int .i64 (k : Int) ∧ Below w7.heap.size w7 wr) (fun i _ => 16 - (intOf i).toNat)
      case atStart => exact ⟨0, by omega, rfl, Below.refl _ _⟩
      case round =>
        obtain ⟨k, hk, rfl, hB⟩ := hrel
        have WB := Lib.hid hB
        clear hB
        by_cases hlt : k < 16
        · have kI : (k : Int) < 16 := by omega
          have c7 := Calm.cell (((K7.out.step WB.out).cell k).trans (rg_get V hlt)) (K7.out.step WB.out).lt
          have cv := Calm.cell (((KV.out.step WB.out).cell k).trans (rg_get v hlt)) (KV.out.step WB.out).lt
          have cx := Calm.cell (((KI.out.step WB.out).cell 1).trans hi1) (KI.out.step WB.out).lt
          have KL := Lib.hid hlt
          clear hlt c0 cp
          by_cases hkx : k = x
          · have kx : ((k : Int) == (x : Int)) = true := (by simp; omega)
            have nkx : ((k : Int) != (x : Int)) = false := (by simp; omega)
            clear hkx
            go_upto_region 11 with fail
            refine calm_region (by kernel_rfl) (by kernel_rfl) ?_
            repeat (go_big_quiet_step (fail))
            refine wpQuiet_nil ?_
            intro _ hw'
            obtain ⟨u, rfl⟩ := hw'
            have WB := Lib.hid (WB.out.trans (u.below.mono WB.out.size))
            clear c7 cv cx
            go_wp2
            go_roundw
            case rel => exact ⟨k + 1, by have := KL.out; omega, by go_num, WB.out⟩
            case measure => simp [intOf]; have := KL.out; omega
          · have kx : ((k : Int) == (x : Int)) = false := (by simp; omega)
            have nkx : ((k : Int) != (x : Int)) = true := (by simp; omega)
            by_cases h15 : k = 15
            · have k15 : ((k : Int) == 15) = true := (by simp; omega)
              have nk15 : ((k : Int) != 15) = false := (by simp; omega)
              clear hkx h15
              go_upto_region 11 with fail
              refine calm_region (by kernel_rfl) (by kernel_rfl) ?_
              repeat (go_big_quiet_step (fail))
              refine wpQuiet_nil ?_
              intro _ hw'
              obtain ⟨u, rfl⟩ := hw'
              have WB := Lib.hid (WB.out.trans (u.below.mono WB.out.size))
              clear c7 cv cx
              go_wp2
              go_roundw
              case rel => exact ⟨k + 1, by have := KL.out; omega, by go_num, WB.out⟩
              case measure => simp [intOf]; have := KL.out; omega
            · have k15 : ((k : Int) == 15) = false := (by simp; omega)
              have nk15 : ((k : Int) != 15) = true := (by simp; omega)
              have e := HK.out k hkx (Or.inl h15)
              rw [e] at c7
              clear hkx h15 e
              go_upto_region 11 with fail
              refine calm_region (by kernel_rfl) (by kernel_rfl) ?_
              repeat (go_big_quiet_step (fail))
              refine wpQuiet_nil ?_
              intro _ hw'
              obtain ⟨u, rfl⟩ := hw'
              have WB := Lib.hid (WB.out.trans (u.below.mono WB.out.size))
              clear c7 cv cx
              go_wp2
              go_roundw
              case rel => exact ⟨k + 1, by have := KL.out; omega, by go_num, WB.out⟩
              case measure => simp [intOf]; have := KL.out; omega
        · obtain rfl : k = 16 := by omega
          have c15 : wr.cell? ⟨bK7, 15, none⟩ = some (.int .u8 (V 15 : Int)) := by rw [(K7.out.step WB.out).cell, rg_get _ (by decide)]
          clear c0 cp
          have f3 : ((V 15 : Nat) : Int) ≤ 1 := (by have := F1.out; omega)
          go_wp2
          go_ret
          exact ⟨by simp [*], BV.out.trans (WB.out.mono BV.out.size)⟩
  · have F0 := Lib.hid f0
    clear f0
    rcases HO.out with rfl | rfl | rfl | rfl | rfl | rfl | rfl | rfl | rfl | rfl | rfl
    all_goals clear HO
    all_goals cases lr
    all_goals try (exfalso; revert hb; decide)
    all_goals try (exfalso; revert lg; decide)
    all_goals
      clear hb lg
      go_upto_region 8 with fail
      go_wp2
      go_loopw [11] (fun i wr => ∃ k : Nat, k ≤ 16 ∧ i = .int .i64 (k : Int) ∧ Below w7.heap.size w7 wr) (fun i _ => 16 - (intOf i).toNat)
      case atStart => exact ⟨0, by omega, rfl, Below.refl _ _⟩
      case round =>
        obtain ⟨k, hk, rfl, hB⟩ := hrel
        have WB := Lib.hid hB
        clear hB
        by_cases hlt : k < 16
        · have kI : (k : Int) < 16 := by omega
          have c7 := Calm.cell (((K7.out.step WB.out).cell k).trans (rg_get V hlt)) (K7.out.step WB.out).lt
          have cv := Calm.cell (((KV.out.step WB.out).cell k).trans (rg_get v hlt)) (KV.out.step WB.out).lt
          have cx := Calm.cell (((KI.out.step WB.out).cell 1).trans hi1) (KI.out.step WB.out).lt
          have KL := Lib.hid hlt
          clear hlt c0 cp
          by_cases hkx : k = x
          · have kx : ((k : Int) == (x : Int)) = true := (by simp; omega)
            have nkx : ((k : Int) != (x : Int)) = false := (by simp; omega)
            clear hkx
            go_upto_region 11 with fail
            refine calm_region (by kernel_rfl) (by kernel_rfl) ?_
            repeat (go_big_quiet_step (fail))
            refine wpQuiet_nil ?_
            intro _ hw'
            obtain ⟨u, rfl⟩ := hw'
            have WB := Lib.hid (WB.out.trans (u.below.mono WB.out.size))
            clear c7 cv cx
            go_wp2
            go_roundw
            case rel => exact ⟨k + 1, by have := KL.out; omega, by go_num, WB.out⟩
            case measure => simp [intOf]; have := KL.out; omega
          · have kx : ((k : Int) == (x : Int)) = false := (by simp; omega)
            have nkx : ((k : Int) != (x : Int)) = true := (by simp; omega)
            by_cases h15 : k = 15
            · have k15 : ((k : Int) == 15) = true := (by simp; omega)
              have nk15 : ((k : Int) != 15) = false := (by simp; omega)
              clear hkx h15
              go_upto_region 11 with fail
              refine calm_region (by kernel_rfl) (by kernel_rfl) ?_
              repeat (go_big_quiet_step (fail))
              refine wpQuiet_nil ?_
              intro _ hw'
              obtain ⟨u, rfl⟩ := hw'
              have WB := Lib.hid (WB.out.trans (u.below.mono WB.out.size))
              clear c7 cv cx
              go_wp2
              go_roundw
              case rel => exact ⟨k + 1, by have := KL.out; omega, by go_num, WB.out⟩
              case measure => simp [intOf]; have := KL.out; omega
            · have k15 : ((k : Int) == 15) = false := (by simp; omega)
              have nk15 : ((k : Int) != 15) = true := (by simp; omega)
              have e := HK.out k hkx (Or.inl h15)
              rw [e] at c7
              clear hkx h15 e
              go_upto_region 11 with fail
              refine calm_region (by kernel_rfl) (by kernel_rfl) ?_
              repeat (go_big_quiet_step (fail))
              refine wpQuiet_nil ?_
              intro _ hw'
              obtain ⟨u, rfl⟩ := hw'
              have WB := Lib.hid (WB.out.trans (u.below.mono WB.out.size))
              clear c7 cv cx
              go_wp2
              go_roundw
              case rel => exact ⟨k + 1, by have := KL.out; omega, by go_num, WB.out⟩
              case measure => simp [intOf]; have := KL.out; omega
        · obtain rfl : k = 16 := by omega
          have c15 : wr.cell? ⟨bK7, 15, none⟩ = some (.int .u8 (V 15 : Int)) := by rw [(K7.out.step WB.out).cell, rg_get _ (by decide)]
          clear c0 cp
          rw [F0.out] at c15
          go_wp2
          go_ret
          exact ⟨by simp [*], BV.out.trans (WB.out.mono BV.out.size)⟩
end Go.Proofs.Ytfjdhhheofcanaa
