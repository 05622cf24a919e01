/- Stage 18: The walk of AluMatchesReference. -/
import Derived.Test.YtfjdhhheofcanaaAluAwake
namespace Go.Proofs.Ytfjdhhheofcanaa
open Go.RowKit Num Dec Cpu
set_option linter.unusedVariables false
set_option linter.unusedSimpArgs false
set_option maxRecDepth 100000

def Right18 (i : Ins) : Prop := (0 ≤ i.x ∧ i.x ≤ 15) ∧ (0 ≤ i.y ∧ i.y ≤ 15) ∧ (0 ≤ i.nn ∧ i.nn ≤ 255)
set_option maxHeartbeats 8000000 in
theorem match18_yes (S : AluSpec) (v : Nat → Nat) (op : Int) (x y nn : Nat) (n addr len : Int) (q : Pr) (b : Nat) (hv : OkV v) (hx : x < 16) (hy : y < 16) (hn : nn < 256) (hop : (Lit.int .i64 op).wf = true) (hb : b < 256) (w : World) :
    Calls Try.prog 3 #[.agg (rg v), .agg (icells ⟨op, x, y, n, nn, addr, len⟩), .agg (prc q), .int .u8 (b : Int)] w fun e w' => e = .returned (.bool true) ∧ Below w.heap.size w w' := by
  have A0 := Lib.hid (awake18 S)
  have RT := Lib.hid (fun w => right18_yes ⟨op, x, y, n, nn, addr, len⟩ w ⟨⟨by simp, by simp; omega⟩, ⟨by simp, by simp; omega⟩, ⟨by simp, by simp; omega⟩⟩)
  have P1 := Lib.hid (fun w => S.do_ v op x y nn n addr len q w hv hx hy hn hop)
  have P2 := Lib.hid (fun w => rdo_any v op x y nn n addr len q w hv hx hy hn)
  have P3 := Lib.hid (fun w => S.sk v op x y nn n addr len w hv hx hy hn)
  have P4 := Lib.hid (fun w => rskips_any v op x y nn n addr len w hv hx hy hn)
  have P5 := Lib.hid (fun w => S.dg b w hb)
  clear S hop
  have hI : (icells ⟨op, x, y, n, nn, addr, len⟩).size = 7 := rfl
  have hP : (prc q).size = 8 := rfl
  generalize aluV v ⟨op, x, y, n, nn, addr, len⟩ q = V at P1 P2
  generalize aluIs op = t1 at P1 P2
  generalize skB v ⟨op, x, y, n, nn, addr, len⟩ = t2 at P3 P4
  generalize skIs op = t3 at P3 P4
  generalize icells ⟨op, x, y, n, nn, addr, len⟩ = I at *
  generalize prc q = P at *
  unfold d3 at P5
  have gb : (0 : Int) ≤ b ∧ (b : Int) < 256 := by omega
  generalize (b : Int) = B at *
  clear hv hx hy hn hb x y n nn addr len op b q
  obtain ⟨v0, hv0⟩ : ∃ v0, v0 = w := ⟨_, rfl⟩
  subst hv0
  have BV := Lib.hid (Below.refl v0.heap.size v0)
  go_enter Try.func3, Try.ntmps3
  go_upto_region 0 with fail
  refine wp_region_lit ?_
  refine list_box_all rfl _ (.tmp 0) rfl (rg v) rfl ?_
  simp only [Act.put, List.setIfInBounds_toArray, List.set_cons_zero, List.set_cons_succ]
  have KV := Lib.hid (Blk.new v0 22 (rg v))
  have BA := below_newP v0 (.cells (rg v) 22)
  have BV := Lib.hid (BV.out.trans (BA.mono BV.out.size))
  clear BA
  obtain ⟨bKV, hq⟩ : ∃ q, v0.heap.size = q := ⟨_, rfl⟩
  generalize v0.alloc (.cells (rg v) 22) = w2 at *
  rw [hq] at KV ⊢
  clear hq
  refine list_box_all rfl _ (.tmp 1) rfl (I) rfl ?_
  simp only [Act.put, List.setIfInBounds_toArray, List.set_cons_zero, List.set_cons_succ]
  have KI := Lib.hid (Blk.new w2 24 (I))
  have BA := below_newP w2 (.cells (I) 24)
  have KV := Lib.hid (KV.out.step BA)
  have BV := Lib.hid (BV.out.trans (BA.mono BV.out.size))
  clear BA
  obtain ⟨bKI, hq⟩ : ∃ q, w2.heap.size = q := ⟨_, rfl⟩
  generalize w2.alloc (.cells (I) 24) = w3 at *
  rw [hq] at KI ⊢
  clear hq
  refine list_box_all rfl _ (.tmp 2) rfl (P) rfl ?_
  simp only [Act.put, List.setIfInBounds_toArray, List.set_cons_zero, List.set_cons_succ]
  have KP := Lib.hid (Blk.new w3 26 (P))
  have BA := below_newP w3 (.cells (P) 26)
  have KV := Lib.hid (KV.out.step BA)
  have KI := Lib.hid (KI.out.step BA)
  have BV := Lib.hid (BV.out.trans (BA.mono BV.out.size))
  clear BA
  obtain ⟨bKP, hq⟩ : ∃ q, w3.heap.size = q := ⟨_, rfl⟩
  generalize w3.alloc (.cells (P) 26) = w4 at *
  rw [hq] at KP ⊢
  clear hq
  go_upto_region 1 with fail
  have CI := Lib.hid (calm_blk KI.out)
  refine calm_plain ?_
  repeat (first
    | (refine quiet_load_all aggInstr CI.out hI ?_ (.tmp 5) ?_ ?_ ?_; (focus rfl); (focus rfl); (focus (simp [Act.eval]; done)); simp only [Act.put, List.setIfInBounds_toArray, List.set_cons_zero, List.set_cons_succ])
    | go_big_quiet_step ((first | (go_at_call 8; exact calm_call (A0.out _)) | (go_at_call 9; exact calm_call (RT.out _)))))
  refine wpQuiet_nil ?_
  intro _ hw'
  obtain ⟨u, rfl⟩ := hw'
  have b1 := u.below
  generalize u.w = w5 at *
  have KV := Lib.hid (KV.out.step b1)
  have KI := Lib.hid (KI.out.step b1)
  have KP := Lib.hid (KP.out.step b1)
  have BV := Lib.hid (BV.out.trans (b1.mono BV.out.size))
  clear b1
  clear CI A0 RT
  go_upto_region 3 with fail
  refine wp_region_lit ?_
  refine list_load_all aggPat KV.out (rg_size _) rfl (.tmp 4) rfl (by simp [Act.eval, Act.put]) ?_
  simp only [Act.put, List.setIfInBounds_toArray, List.set_cons_zero, List.set_cons_succ]
  refine list_load_all aggInstr KI.out hI rfl (.tmp 5) rfl (by simp [Act.eval, Act.put]) ?_
  simp only [Act.put, List.setIfInBounds_toArray, List.set_cons_zero, List.set_cons_succ]
  refine list_load_all aggPro18 KP.out hP rfl (.tmp 6) rfl (by simp [Act.eval, Act.put]) ?_
  simp only [Act.put, List.setIfInBounds_toArray, List.set_cons_zero, List.set_cons_succ]
  go_wp2_with fail
  refine (P1.out _).mono ?_
  rintro e w6 ⟨rfl, b1⟩
  have KV := Lib.hid (KV.out.step b1)
  have KI := Lib.hid (KI.out.step b1)
  have KP := Lib.hid (KP.out.step b1)
  have BV := Lib.hid (BV.out.trans (b1.mono BV.out.size))
  clear b1
  simp only []
  go_at_K
  iterate 10 go_step
  refine list_var_all (ds := rg V) aggPat zeroRg (pc_size _) (rg_size _) (rg_one _) rfl rfl rfl (.tmp 9) (.tmp 31) rfl (by simp [Act.eval, Act.put]) (by simp [Act.eval, Act.put]) ?_
  simp only [Act.put, List.setIfInBounds_toArray, List.set_cons_zero, List.set_cons_succ]
  have K9 := Lib.hid (Blk.new w6 22 (rg V))
  have BA := below_newP w6 (.cells (rg V) 22)
  have KV := Lib.hid (KV.out.step BA)
  have KI := Lib.hid (KI.out.step BA)
  have KP := Lib.hid (KP.out.step BA)
  have BV := Lib.hid (BV.out.trans (BA.mono BV.out.size))
  clear BA
  obtain ⟨bK9, hq⟩ : ∃ q, w6.heap.size = q := ⟨_, rfl⟩
  generalize w6.alloc (.cells (rg V) 22) = w7 at *
  rw [hq] at K9 ⊢
  clear hq
  go_upto_region 4 with fail
  refine wp_region_lit ?_
  refine list_load_all aggPat KV.out (rg_size _) rfl (.tmp 4) rfl (by simp [Act.eval, Act.put]) ?_
  simp only [Act.put, List.setIfInBounds_toArray, List.set_cons_zero, List.set_cons_succ]
  refine list_load_all aggInstr KI.out hI rfl (.tmp 5) rfl (by simp [Act.eval, Act.put]) ?_
  simp only [Act.put, List.setIfInBounds_toArray, List.set_cons_zero, List.set_cons_succ]
  refine list_load_all aggPro18 KP.out hP rfl (.tmp 6) rfl (by simp [Act.eval, Act.put]) ?_
  simp only [Act.put, List.setIfInBounds_toArray, List.set_cons_zero, List.set_cons_succ]
  go_wp2_with fail
  refine (P2.out _).mono ?_
  rintro e w8 ⟨rfl, b1⟩
  have KV := Lib.hid (KV.out.step b1)
  have KI := Lib.hid (KI.out.step b1)
  have KP := Lib.hid (KP.out.step b1)
  have K9 := Lib.hid (K9.out.step b1)
  have BV := Lib.hid (BV.out.trans (b1.mono BV.out.size))
  clear b1
  simp only []
  go_at_K
  iterate 10 go_step
  refine list_var_all (ds := rg V) aggPat zeroRg (pc_size _) (rg_size _) (rg_one _) rfl rfl rfl (.tmp 11) (.tmp 38) rfl (by simp [Act.eval, Act.put]) (by simp [Act.eval, Act.put]) ?_
  simp only [Act.put, List.setIfInBounds_toArray, List.set_cons_zero, List.set_cons_succ]
  have K11 := Lib.hid (Blk.new w8 22 (rg V))
  have BA := below_newP w8 (.cells (rg V) 22)
  have KV := Lib.hid (KV.out.step BA)
  have KI := Lib.hid (KI.out.step BA)
  have KP := Lib.hid (KP.out.step BA)
  have K9 := Lib.hid (K9.out.step BA)
  have BV := Lib.hid (BV.out.trans (BA.mono BV.out.size))
  clear BA
  obtain ⟨bK11, hq⟩ : ∃ q, w8.heap.size = q := ⟨_, rfl⟩
  generalize w8.alloc (.cells (rg V) 22) = w9 at *
  rw [hq] at K11 ⊢
  clear hq
  go_upto_region 5 with fail
  refine wp_region_lit ?_
  refine list_load_all aggPat KV.out (rg_size _) rfl (.tmp 4) rfl (by simp [Act.eval, Act.put]) ?_
  simp only [Act.put, List.setIfInBounds_toArray, List.set_cons_zero, List.set_cons_succ]
  refine list_load_all aggInstr KI.out hI rfl (.tmp 5) rfl (by simp [Act.eval, Act.put]) ?_
  simp only [Act.put, List.setIfInBounds_toArray, List.set_cons_zero, List.set_cons_succ]
  go_wp2_with fail
  refine (P3.out _).mono ?_
  rintro e w10 ⟨rfl, b1⟩
  have KV := Lib.hid (KV.out.step b1)
  have KI := Lib.hid (KI.out.step b1)
  have KP := Lib.hid (KP.out.step b1)
  have K9 := Lib.hid (K9.out.step b1)
  have K11 := Lib.hid (K11.out.step b1)
  have BV := Lib.hid (BV.out.trans (b1.mono BV.out.size))
  clear b1
  go_upto_region 6 with fail
  refine wp_region_lit ?_
  refine list_load_all aggPat KV.out (rg_size _) rfl (.tmp 4) rfl (by simp [Act.eval, Act.put]) ?_
  simp only [Act.put, List.setIfInBounds_toArray, List.set_cons_zero, List.set_cons_succ]
  refine list_load_all aggInstr KI.out hI rfl (.tmp 5) rfl (by simp [Act.eval, Act.put]) ?_
  simp only [Act.put, List.setIfInBounds_toArray, List.set_cons_zero, List.set_cons_succ]
  go_wp2_with fail
  refine (P4.out _).mono ?_
  rintro e w11 ⟨rfl, b1⟩
  have KV := Lib.hid (KV.out.step b1)
  have KI := Lib.hid (KI.out.step b1)
  have KP := Lib.hid (KP.out.step b1)
  have K9 := Lib.hid (K9.out.step b1)
  have K11 := Lib.hid (K11.out.step b1)
  have BV := Lib.hid (BV.out.trans (b1.mono BV.out.size))
  clear b1
  go_wp2_with fail
  refine (P5.out _).mono ?_
  rintro e w12 ⟨rfl, b1⟩
  have KV := Lib.hid (KV.out.step b1)
  have KI := Lib.hid (KI.out.step b1)
  have KP := Lib.hid (KP.out.step b1)
  have K9 := Lib.hid (K9.out.step b1)
  have K11 := Lib.hid (K11.out.step b1)
  have BV := Lib.hid (BV.out.trans (b1.mono BV.out.size))
  clear b1
  simp only []
  go_at_K
  iterate 1 go_step
  refine list_var_all (ds := #[.int .u8 (B / 100), .int .u8 (B / 10 % 10), .int .u8 (B % 10)]) aggD3 zeroD3 rfl rfl (by unfold Ones; simp [Value.oneCell']) rfl rfl rfl (.tmp 17) (.tmp 53) rfl (by simp [Act.eval, Act.put]) (by simp [Act.eval, Act.put]) ?_
  simp only [Act.put, List.setIfInBounds_toArray, List.set_cons_zero, List.set_cons_succ]
  have K17 := Lib.hid (Blk.new w12 33 (#[.int .u8 (B / 100), .int .u8 (B / 10 % 10), .int .u8 (B % 10)]))
  have BA := below_newP w12 (.cells (#[.int .u8 (B / 100), .int .u8 (B / 10 % 10), .int .u8 (B % 10)]) 33)
  have KV := Lib.hid (KV.out.step BA)
  have KI := Lib.hid (KI.out.step BA)
  have KP := Lib.hid (KP.out.step BA)
  have K9 := Lib.hid (K9.out.step BA)
  have K11 := Lib.hid (K11.out.step BA)
  have BV := Lib.hid (BV.out.trans (BA.mono BV.out.size))
  clear BA
  obtain ⟨bK17, hq⟩ : ∃ q, w12.heap.size = q := ⟨_, rfl⟩
  generalize w12.alloc (.cells (#[.int .u8 (B / 100), .int .u8 (B / 10 % 10), .int .u8 (B % 10)]) 33) = w13 at *
  rw [hq] at K17 ⊢
  clear hq
  go_upto_region 8 with fail
  have CK9 := Lib.hid (calm_blk K9.out)
  have CK11 := Lib.hid (calm_blk K11.out)
  have CK17 := Lib.hid (calm_blk K17.out)
  clear P1 P2 P3 P4 P5 K9 K11 K17 KV KI KP
  refine calm_plain ?_
  repeat (first
    | (refine quiet_load_all aggPat CK9.out (rg_size _) ?_ (.tmp 9) ?_ ?_ ?_; (focus rfl); (focus rfl); (focus (simp [Act.eval]; done)); simp only [Act.put, List.setIfInBounds_toArray, List.set_cons_zero, List.set_cons_succ])
    | (refine quiet_load_all aggPat CK11.out (rg_size _) ?_ (.tmp 11) ?_ ?_ ?_; (focus rfl); (focus rfl); (focus (simp [Act.eval]; done)); simp only [Act.put, List.setIfInBounds_toArray, List.set_cons_zero, List.set_cons_succ])
    | (refine quiet_load_all aggD3 CK17.out rfl ?_ (.tmp 17) ?_ ?_ ?_; (focus rfl); (focus rfl); (focus (simp [Act.eval]; done)); simp only [Act.put, List.setIfInBounds_toArray, List.set_cons_zero, List.set_cons_succ])
    | (refine quiet_eqR (v := V) ?_ (.tmp 54) (.tmp 55) 22 ?_ ?_ ?_ ?_; (focus rfl); (focus rfl); (focus (simp [Act.eval]; done)); (focus (simp [Act.eval]; done)); simp only [Act.put, List.setIfInBounds_toArray, List.set_cons_zero, List.set_cons_succ])
    | go_big_quiet_step (fail))
  refine quiet_eq3 (a := B / 100) (b := B / 10 % 10) (c := B % 10) ?_ (.tmp 73) (.tmp 81) 33 ?_ ?_ ?_ ?_
  any_goals rfl
  simp only [Act.put, List.setIfInBounds_toArray, List.set_cons_zero, List.set_cons_succ]
  repeat (go_big_quiet_step (fail))
  refine wpQuiet_nil ?_
  intro _ hw'
  obtain ⟨u, rfl⟩ := hw'
  have b1 := u.below
  generalize u.w = w14 at *
  have BV := Lib.hid (BV.out.trans (b1.mono BV.out.size))
  clear b1
  go_wp2_with fail
  go_ret
  exact ⟨by simp [*], BV.out⟩
end Go.Proofs.Ytfjdhhheofcanaa
