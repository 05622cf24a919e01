/- Stage 18: The walk of AluFlags. -/
import Derived.Test.YtfjdhhheofcanaaAluFlagsN
namespace Go.Proofs.Ytfjdhhheofcanaa
open Go.RowKit Num Dec Cpu
set_option linter.unusedVariables false
set_option linter.unusedSimpArgs false
set_option maxRecDepth 100000

set_option maxHeartbeats 8000000 in
theorem flags18 (S : AluSpec) (x y : Nat) (q : Pr) (hx : x < 256) (hy : y < 256) (w : World) :
    Calls Try.prog 4 #[.int .u8 (x : Int), .int .u8 (y : Int), .agg (prc q)] w fun e w' => e = .returned (.bool true) ∧ Below w.heap.size w w' := by
  have A0 := Lib.hid (awake18 S)
  have Pa : Hid (∀ w : World, Calls Try.prog 10 #[.agg (rg (vF x y)), .agg (icells ⟨14, 4, 7, 0, 0, 0, 0⟩), .agg (prc q)] w fun e w' => e = .returned (.tuple #[.agg (rg (aluV (vF x y) (iF 14) q)), .bool true]) ∧ Below w.heap.size w w') := Lib.hid fun w => S.do_ (vF x y) 14 4 7 0 0 0 0 q w (ok_vF hx hy) (by decide) (by decide) (by decide)
  have Pb : Hid (∀ w : World, Calls Try.prog 10 #[.agg (rg (vF x y)), .agg (icells ⟨15, 4, 7, 0, 0, 0, 0⟩), .agg (prc q)] w fun e w' => e = .returned (.tuple #[.agg (rg (aluV (vF x y) (iF 15) q)), .bool true]) ∧ Below w.heap.size w w') := Lib.hid fun w => S.do_ (vF x y) 15 4 7 0 0 0 0 q w (ok_vF hx hy) (by decide) (by decide) (by decide)
  have Pc : Hid (∀ w : World, Calls Try.prog 10 #[.agg (rg (vF x y)), .agg (icells ⟨17, 4, 7, 0, 0, 0, 0⟩), .agg (prc q)] w fun e w' => e = .returned (.tuple #[.agg (rg (aluV (vF x y) (iF 17) q)), .bool true]) ∧ Below w.heap.size w w') := Lib.hid fun w => S.do_ (vF x y) 17 4 7 0 0 0 0 q w (ok_vF hx hy) (by decide) (by decide) (by decide)
  have Pd : Hid (∀ w : World, Calls Try.prog 10 #[.agg (rg (vF x y)), .agg (icells ⟨16, 4, 7, 0, 0, 0, 0⟩), .agg (prc q)] w fun e w' => e = .returned (.tuple #[.agg (rg (aluV (vF x y) (iF 16) q)), .bool true]) ∧ Below w.heap.size w w') := Lib.hid fun w => S.do_ (vF x y) 16 4 7 0 0 0 0 q w (ok_vF hx hy) (by decide) (by decide) (by decide)
  have Pe : Hid (∀ w : World, Calls Try.prog 10 #[.agg (rg (vF x y)), .agg (icells ⟨18, 4, 7, 0, 0, 0, 0⟩), .agg (prc q)] w fun e w' => e = .returned (.tuple #[.agg (rg (aluV (vF x y) (iF 18) q)), .bool true]) ∧ Below w.heap.size w w') := Lib.hid fun w => S.do_ (vF x y) 18 4 7 0 0 0 0 q w (ok_vF hx hy) (by decide) (by decide) (by decide)
  have Fa := flag_sum x y hx hy q
  generalize aluV (vF x y) (iF 14) q = Va at Pa Fa
  have Fb := flag_sub x y hx hy q
  generalize aluV (vF x y) (iF 15) q = Vb at Pb Fb
  have Fc := flag_bus x y hx hy q
  generalize aluV (vF x y) (iF 17) q = Vc at Pc Fc
  have Fd := flag_shr x y hx hy q
  generalize aluV (vF x y) (iF 16) q = Vd at Pd Fd
  have Fe := flag_shl x y hx hy q
  generalize aluV (vF x y) (iF 18) q = Ve at Pe Fe
  clear S
  have hP : (prc q).size = 8 := rfl
  have hp1 : (prc q)[1]? = some (.bool q.sh) := rfl
  generalize q.sh = sh at *
  generalize prc q = P at *
  clear q
  obtain ⟨v0, hv0⟩ : ∃ v0, v0 = w := ⟨_, rfl⟩
  subst hv0
  have BV := Lib.hid (Below.refl v0.heap.size v0)
  go_enter Try.func4, Try.ntmps4
  go_upto_region 0 with fail
  refine wp_region_lit ?_
  refine list_box_all rfl _ (.tmp 2) rfl (P) rfl ?_
  simp only [Act.put, List.setIfInBounds_toArray, List.set_cons_zero, List.set_cons_succ]
  have KP := Lib.hid (Blk.new v0 26 (P))
  have BA := below_newP v0 (.cells (P) 26)
  have BV := Lib.hid (BV.out.trans (BA.mono BV.out.size))
  clear BA
  obtain ⟨bKP, hq⟩ : ∃ q, v0.heap.size = q := ⟨_, rfl⟩
  generalize v0.alloc (.cells (P) 26) = w2 at *
  rw [hq] at KP ⊢
  clear hq
  go_wp2_with fail
  refine (A0.out _).mono ?_
  rintro e w3 ⟨rfl, b1⟩
  have KP := Lib.hid (KP.out.step b1)
  have BV := Lib.hid (BV.out.trans (b1.mono BV.out.size))
  clear b1
  go_upto_region 3 with fail
  refine wp_region_lit ?_
  iterate 6 go_step
  refine list_build_all (cs := rg (vF x y)) rfl rfl (by simp [Act.eval]; kernel_rfl) ?_
  simp only [Act.put, List.setIfInBounds_toArray, List.set_cons_zero, List.set_cons_succ]
  refine list_var_all (ds := rg (vF x y)) aggPat zeroRg (pc_size _) (rg_size _) (rg_one _) rfl rfl rfl (.tmp 7) (.tmp 23) rfl (by simp [Act.eval, Act.put]) (by simp [Act.eval, Act.put]) ?_
  simp only [Act.put, List.setIfInBounds_toArray, List.set_cons_zero, List.set_cons_succ]
  have KV := Lib.hid (Blk.new w3 22 (rg (vF x y)))
  have BA := below_newP w3 (.cells (rg (vF x y)) 22)
  have KP := Lib.hid (KP.out.step BA)
  have BV := Lib.hid (BV.out.trans (BA.mono BV.out.size))
  clear BA
  obtain ⟨bKV, hq⟩ : ∃ q, w3.heap.size = q := ⟨_, rfl⟩
  generalize w3.alloc (.cells (rg (vF x y)) 22) = w4 at *
  rw [hq] at KV ⊢
  clear hq
  go_upto_region 4 with fail
  refine wp_region_lit ?_
  refine list_load_all aggPat KV.out (rg_size _) rfl (.tmp 7) rfl (by simp [Act.eval, Act.put]) ?_
  simp only [Act.put, List.setIfInBounds_toArray, List.set_cons_zero, List.set_cons_succ]
  refine list_build_all (cs := icells ⟨14, 4, 7, 0, 0, 0, 0⟩) rfl rfl (by simp [Act.eval]; kernel_rfl) ?_
  simp only [Act.put, List.setIfInBounds_toArray, List.set_cons_zero, List.set_cons_succ]
  refine list_load_all aggPro18 KP.out hP rfl (.tmp 5) rfl (by simp [Act.eval, Act.put]) ?_
  simp only [Act.put, List.setIfInBounds_toArray, List.set_cons_zero, List.set_cons_succ]
  go_wp2_with fail
  refine (Pa.out _).mono ?_
  rintro e w5 ⟨rfl, b1⟩
  have KP := Lib.hid (KP.out.step b1)
  have KV := Lib.hid (KV.out.step b1)
  have BV := Lib.hid (BV.out.trans (b1.mono BV.out.size))
  clear b1
  simp only []
  go_at_K
  iterate 10 go_step
  refine list_var_all (ds := rg Va) aggPat zeroRg (pc_size _) (rg_size _) (rg_one _) rfl rfl rfl (.tmp 8) (.tmp 29) rfl (by simp [Act.eval, Act.put]) (by simp [Act.eval, Act.put]) ?_
  simp only [Act.put, List.setIfInBounds_toArray, List.set_cons_zero, List.set_cons_succ]
  have Ka := Lib.hid (Blk.new w5 22 (rg Va))
  have BA := below_newP w5 (.cells (rg Va) 22)
  have KP := Lib.hid (KP.out.step BA)
  have KV := Lib.hid (KV.out.step BA)
  have BV := Lib.hid (BV.out.trans (BA.mono BV.out.size))
  clear BA
  obtain ⟨bKa, hq⟩ : ∃ q, w5.heap.size = q := ⟨_, rfl⟩
  generalize w5.alloc (.cells (rg Va) 22) = w6 at *
  rw [hq] at Ka ⊢
  clear hq
  go_upto_region 5 with fail
  refine wp_region_lit ?_
  refine list_load_all aggPat KV.out (rg_size _) rfl (.tmp 7) rfl (by simp [Act.eval, Act.put]) ?_
  simp only [Act.put, List.setIfInBounds_toArray, List.set_cons_zero, List.set_cons_succ]
  refine list_build_all (cs := icells ⟨15, 4, 7, 0, 0, 0, 0⟩) rfl rfl (by simp [Act.eval]; kernel_rfl) ?_
  simp only [Act.put, List.setIfInBounds_toArray, List.set_cons_zero, List.set_cons_succ]
  refine list_load_all aggPro18 KP.out hP rfl (.tmp 5) rfl (by simp [Act.eval, Act.put]) ?_
  simp only [Act.put, List.setIfInBounds_toArray, List.set_cons_zero, List.set_cons_succ]
  go_wp2_with fail
  refine (Pb.out _).mono ?_
  rintro e w7 ⟨rfl, b1⟩
  have KP := Lib.hid (KP.out.step b1)
  have KV := Lib.hid (KV.out.step b1)
  have Ka := Lib.hid (Ka.out.step b1)
  have BV := Lib.hid (BV.out.trans (b1.mono BV.out.size))
  clear b1
  simp only []
  go_at_K
  iterate 10 go_step
  refine list_var_all (ds := rg Vb) aggPat zeroRg (pc_size _) (rg_size _) (rg_one _) rfl rfl rfl (.tmp 10) (.tmp 36) rfl (by simp [Act.eval, Act.put]) (by simp [Act.eval, Act.put]) ?_
  simp only [Act.put, List.setIfInBounds_toArray, List.set_cons_zero, List.set_cons_succ]
  have Kb := Lib.hid (Blk.new w7 22 (rg Vb))
  have BA := below_newP w7 (.cells (rg Vb) 22)
  have KP := Lib.hid (KP.out.step BA)
  have KV := Lib.hid (KV.out.step BA)
  have Ka := Lib.hid (Ka.out.step BA)
  have BV := Lib.hid (BV.out.trans (BA.mono BV.out.size))
  clear BA
  obtain ⟨bKb, hq⟩ : ∃ q, w7.heap.size = q := ⟨_, rfl⟩
  generalize w7.alloc (.cells (rg Vb) 22) = w8 at *
  rw [hq] at Kb ⊢
  clear hq
  go_upto_region 6 with fail
  refine wp_region_lit ?_
  refine list_load_all aggPat KV.out (rg_size _) rfl (.tmp 7) rfl (by simp [Act.eval, Act.put]) ?_
  simp only [Act.put, List.setIfInBounds_toArray, List.set_cons_zero, List.set_cons_succ]
  refine list_build_all (cs := icells ⟨17, 4, 7, 0, 0, 0, 0⟩) rfl rfl (by simp [Act.eval]; kernel_rfl) ?_
  simp only [Act.put, List.setIfInBounds_toArray, List.set_cons_zero, List.set_cons_succ]
  refine list_load_all aggPro18 KP.out hP rfl (.tmp 5) rfl (by simp [Act.eval, Act.put]) ?_
  simp only [Act.put, List.setIfInBounds_toArray, List.set_cons_zero, List.set_cons_succ]
  go_wp2_with fail
  refine (Pc.out _).mono ?_
  rintro e w9 ⟨rfl, b1⟩
  have KP := Lib.hid (KP.out.step b1)
  have KV := Lib.hid (KV.out.step b1)
  have Ka := Lib.hid (Ka.out.step b1)
  have Kb := Lib.hid (Kb.out.step b1)
  have BV := Lib.hid (BV.out.trans (b1.mono BV.out.size))
  clear b1
  simp only []
  go_at_K
  iterate 10 go_step
  refine list_var_all (ds := rg Vc) aggPat zeroRg (pc_size _) (rg_size _) (rg_one _) rfl rfl rfl (.tmp 12) (.tmp 43) rfl (by simp [Act.eval, Act.put]) (by simp [Act.eval, Act.put]) ?_
  simp only [Act.put, List.setIfInBounds_toArray, List.set_cons_zero, List.set_cons_succ]
  have Kc := Lib.hid (Blk.new w9 22 (rg Vc))
  have BA := below_newP w9 (.cells (rg Vc) 22)
  have KP := Lib.hid (KP.out.step BA)
  have KV := Lib.hid (KV.out.step BA)
  have Ka := Lib.hid (Ka.out.step BA)
  have Kb := Lib.hid (Kb.out.step BA)
  have BV := Lib.hid (BV.out.trans (BA.mono BV.out.size))
  clear BA
  obtain ⟨bKc, hq⟩ : ∃ q, w9.heap.size = q := ⟨_, rfl⟩
  generalize w9.alloc (.cells (rg Vc) 22) = w10 at *
  rw [hq] at Kc ⊢
  clear hq
  go_upto_region 7 with fail
  refine wp_region_lit ?_
  refine list_load_all aggPat KV.out (rg_size _) rfl (.tmp 7) rfl (by simp [Act.eval, Act.put]) ?_
  simp only [Act.put, List.setIfInBounds_toArray, List.set_cons_zero, List.set_cons_succ]
  refine list_build_all (cs := icells ⟨16, 4, 7, 0, 0, 0, 0⟩) rfl rfl (by simp [Act.eval]; kernel_rfl) ?_
  simp only [Act.put, List.setIfInBounds_toArray, List.set_cons_zero, List.set_cons_succ]
  refine list_load_all aggPro18 KP.out hP rfl (.tmp 5) rfl (by simp [Act.eval, Act.put]) ?_
  simp only [Act.put, List.setIfInBounds_toArray, List.set_cons_zero, List.set_cons_succ]
  go_wp2_with fail
  refine (Pd.out _).mono ?_
  rintro e w11 ⟨rfl, b1⟩
  have KP := Lib.hid (KP.out.step b1)
  have KV := Lib.hid (KV.out.step b1)
  have Ka := Lib.hid (Ka.out.step b1)
  have Kb := Lib.hid (Kb.out.step b1)
  have Kc := Lib.hid (Kc.out.step b1)
  have BV := Lib.hid (BV.out.trans (b1.mono BV.out.size))
  clear b1
  simp only []
  go_at_K
  iterate 10 go_step
  refine list_var_all (ds := rg Vd) aggPat zeroRg (pc_size _) (rg_size _) (rg_one _) rfl rfl rfl (.tmp 14) (.tmp 50) rfl (by simp [Act.eval, Act.put]) (by simp [Act.eval, Act.put]) ?_
  simp only [Act.put, List.setIfInBounds_toArray, List.set_cons_zero, List.set_cons_succ]
  have Kd := Lib.hid (Blk.new w11 22 (rg Vd))
  have BA := below_newP w11 (.cells (rg Vd) 22)
  have KP := Lib.hid (KP.out.step BA)
  have KV := Lib.hid (KV.out.step BA)
  have Ka := Lib.hid (Ka.out.step BA)
  have Kb := Lib.hid (Kb.out.step BA)
  have Kc := Lib.hid (Kc.out.step BA)
  have BV := Lib.hid (BV.out.trans (BA.mono BV.out.size))
  clear BA
  obtain ⟨bKd, hq⟩ : ∃ q, w11.heap.size = q := ⟨_, rfl⟩
  generalize w11.alloc (.cells (rg Vd) 22) = w12 at *
  rw [hq] at Kd ⊢
  clear hq
  go_upto_region 8 with fail
  refine wp_region_lit ?_
  refine list_load_all aggPat KV.out (rg_size _) rfl (.tmp 7) rfl (by simp [Act.eval, Act.put]) ?_
  simp only [Act.put, List.setIfInBounds_toArray, List.set_cons_zero, List.set_cons_succ]
  refine list_build_all (cs := icells ⟨18, 4, 7, 0, 0, 0, 0⟩) rfl rfl (by simp [Act.eval]; kernel_rfl) ?_
  simp only [Act.put, List.setIfInBounds_toArray, List.set_cons_zero, List.set_cons_succ]
  refine list_load_all aggPro18 KP.out hP rfl (.tmp 5) rfl (by simp [Act.eval, Act.put]) ?_
  simp only [Act.put, List.setIfInBounds_toArray, List.set_cons_zero, List.set_cons_succ]
  go_wp2_with fail
  refine (Pe.out _).mono ?_
  rintro e w13 ⟨rfl, b1⟩
  have KP := Lib.hid (KP.out.step b1)
  have KV := Lib.hid (KV.out.step b1)
  have Ka := Lib.hid (Ka.out.step b1)
  have Kb := Lib.hid (Kb.out.step b1)
  have Kc := Lib.hid (Kc.out.step b1)
  have Kd := Lib.hid (Kd.out.step b1)
  have BV := Lib.hid (BV.out.trans (b1.mono BV.out.size))
  clear b1
  simp only []
  go_at_K
  iterate 10 go_step
  refine list_var_all (ds := rg Ve) aggPat zeroRg (pc_size _) (rg_size _) (rg_one _) rfl rfl rfl (.tmp 16) (.tmp 57) rfl (by simp [Act.eval, Act.put]) (by simp [Act.eval, Act.put]) ?_
  simp only [Act.put, List.setIfInBounds_toArray, List.set_cons_zero, List.set_cons_succ]
  have Ke := Lib.hid (Blk.new w13 22 (rg Ve))
  have BA := below_newP w13 (.cells (rg Ve) 22)
  have KP := Lib.hid (KP.out.step BA)
  have KV := Lib.hid (KV.out.step BA)
  have Ka := Lib.hid (Ka.out.step BA)
  have Kb := Lib.hid (Kb.out.step BA)
  have Kc := Lib.hid (Kc.out.step BA)
  have Kd := Lib.hid (Kd.out.step BA)
  have BV := Lib.hid (BV.out.trans (BA.mono BV.out.size))
  clear BA
  obtain ⟨bKe, hq⟩ : ∃ q, w13.heap.size = q := ⟨_, rfl⟩
  generalize w13.alloc (.cells (rg Ve) 22) = w14 at *
  rw [hq] at Ke ⊢
  clear hq
  have ca4 := Calm.cell ((Ka.out.cell 4).trans (rg_get Va (by decide))) Ka.out.lt
  generalize (Va 4) = a4 at ca4 Fa
  have ca15 := Calm.cell ((Ka.out.cell 15).trans (rg_get Va (by decide))) Ka.out.lt
  generalize (Va 15) = a15 at ca15 Fa
  have cb4 := Calm.cell ((Kb.out.cell 4).trans (rg_get Vb (by decide))) Kb.out.lt
  generalize (Vb 4) = b4 at cb4 Fb
  have cb15 := Calm.cell ((Kb.out.cell 15).trans (rg_get Vb (by decide))) Kb.out.lt
  generalize (Vb 15) = b15 at cb15 Fb
  have cc4 := Calm.cell ((Kc.out.cell 4).trans (rg_get Vc (by decide))) Kc.out.lt
  generalize (Vc 4) = c4 at cc4 Fc
  have cc15 := Calm.cell ((Kc.out.cell 15).trans (rg_get Vc (by decide))) Kc.out.lt
  generalize (Vc 15) = c15 at cc15 Fc
  have cd4 := Calm.cell ((Kd.out.cell 4).trans (rg_get Vd (by decide))) Kd.out.lt
  generalize (Vd 4) = d4 at cd4 Fd
  have cd15 := Calm.cell ((Kd.out.cell 15).trans (rg_get Vd (by decide))) Kd.out.lt
  generalize (Vd 15) = d15 at cd15 Fd
  have ce4 := Calm.cell ((Ke.out.cell 4).trans (rg_get Ve (by decide))) Ke.out.lt
  generalize (Ve 4) = e4 at ce4 Fe
  have ce15 := Calm.cell ((Ke.out.cell 15).trans (rg_get Ve (by decide))) Ke.out.lt
  generalize (Ve 15) = e15 at ce15 Fe
  have c1 := (KP.out.cell 1).trans hp1
  clear Pa Ka Pb Kb Pc Kc Pd Kd Pe Ke KV KP A0
  have wr : ∀ z : Int, -70000 ≤ z → z ≤ 70000 → IntKind.i64.wrap z = z := fun z a b => by rw [IntKind.wrap_i64]; omega
  obtain ⟨Fa, Fa1, Fa2⟩ := Fa
  obtain ⟨Fb, Fb1, Fb2⟩ := Fb
  obtain ⟨Fc, Fc1, Fc2⟩ := Fc
  obtain ⟨Fd, Fd1, Fd2⟩ := Fd
  obtain ⟨Fe, Fe1, Fe2⟩ := Fe
  have wa1 : IntKind.i64.wrap (256 * (a15 : Int)) = 256 * (a15 : Int) := (wr _ (by omega) (by omega))
  have wa2 : IntKind.i64.wrap ((a4 : Int) + 256 * (a15 : Int)) = (x : Int) + (y : Int) := (wr _ (by omega) (by omega)).trans Fa
  have wxy : IntKind.i64.wrap ((x : Int) + (y : Int)) = (x : Int) + (y : Int) := (wr _ (by omega) (by omega))
  have wb1 : IntKind.i64.wrap (1 - (b15 : Int)) = 1 - (b15 : Int) := (wr _ (by omega) (by omega))
  have wb2 : IntKind.i64.wrap (256 * (1 - (b15 : Int))) = 256 * (1 - (b15 : Int)) := (wr _ (by omega) (by omega))
  have wb3 : IntKind.i64.wrap ((b4 : Int) - 256 * (1 - (b15 : Int))) = (x : Int) - (y : Int) := (wr _ (by omega) (by omega)).trans Fb
  have wxb : IntKind.i64.wrap ((x : Int) - (y : Int)) = (x : Int) - (y : Int) := (wr _ (by omega) (by omega))
  have wc1 : IntKind.i64.wrap (1 - (c15 : Int)) = 1 - (c15 : Int) := (wr _ (by omega) (by omega))
  have wc2 : IntKind.i64.wrap (256 * (1 - (c15 : Int))) = 256 * (1 - (c15 : Int)) := (wr _ (by omega) (by omega))
  have wc3 : IntKind.i64.wrap ((c4 : Int) - 256 * (1 - (c15 : Int))) = (y : Int) - (x : Int) := (wr _ (by omega) (by omega)).trans Fc
  have wxc : IntKind.i64.wrap ((y : Int) - (x : Int)) = (y : Int) - (x : Int) := (wr _ (by omega) (by omega))
  have wd1 : IntKind.i64.wrap (2 * (d4 : Int)) = 2 * (d4 : Int) := (wr _ (by omega) (by omega))
  have we1 : IntKind.i64.wrap (256 * (e15 : Int)) = 256 * (e15 : Int) := (wr _ (by omega) (by omega))
  have wx2 : IntKind.i64.wrap (2 * (x : Int)) = 2 * (x : Int) := (wr _ (by omega) (by omega))
  have wy2 : IntKind.i64.wrap (2 * (y : Int)) = 2 * (y : Int) := (wr _ (by omega) (by omega))
  cases sh
  all_goals
    simp only [if_true, if_false, Bool.false_eq_true] at Fd Fe
    have wd2 := (wr (2 * (d4 : Int) + (d15 : Int)) (by omega) (by omega)).trans Fd
    have we2 := (wr ((e4 : Int) + 256 * (e15 : Int)) (by omega) (by omega)).trans Fe
    clear wr
    go_upto_region 12 with fail
    refine calm_plain ?_
    simp only [List.append_eq, List.cons_append, List.nil_append]
    repeat (go_big_quiet_step (rfl))
    refine wpQuiet_nil ?_
    intro _ hw'
    obtain ⟨u, rfl⟩ := hw'
    have b1 := u.below
    generalize u.w = w15 at *
    have BV := Lib.hid (BV.out.trans (b1.mono BV.out.size))
    clear b1
    go_wp2_with fail
    go_ret
    exact ⟨by simp [*], BV.out⟩
end Go.Proofs.Ytfjdhhheofcanaa
