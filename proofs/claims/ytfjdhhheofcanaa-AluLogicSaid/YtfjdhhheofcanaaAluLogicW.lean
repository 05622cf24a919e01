/- Stage 18: The walk of AluLogic. -/
import Derived.Test.YtfjdhhheofcanaaAluLogicN
namespace Go.Proofs.Ytfjdhhheofcanaa
open Go.RowKit Num Dec Cpu
set_option linter.unusedVariables false
set_option linter.unusedSimpArgs false
set_option maxRecDepth 100000

set_option maxHeartbeats 8000000 in
theorem logic18 (S : AluSpec) (x y f : Nat) (q : Pr) (hx : x < 256) (hy : y < 256) (hf : f < 256) (w : World) :
    Calls Try.prog 7 #[.int .u8 (x : Int), .int .u8 (y : Int), .int .u8 (f : Int), .agg (prc q)] w fun e w' => e = .returned (.bool true) ∧ Below w.heap.size w w' := by
  have A0 := Lib.hid (awake18 S)
  have Pa : Hid (∀ w : World, Calls Try.prog 10 #[.agg (rg (vL x y f)), .agg (icells ⟨11, 2, 9, 0, 0, 0, 0⟩), .agg (prc q)] w fun e w' => e = .returned (.tuple #[.agg (rg (aluV (vL x y f) (iL 11) q)), .bool true]) ∧ Below w.heap.size w w') := Lib.hid fun w => S.do_ (vL x y f) 11 2 9 0 0 0 0 q w (ok_vL hx hy hf) (by decide) (by decide) (by decide)
  have Pb : Hid (∀ w : World, Calls Try.prog 10 #[.agg (rg (vL x y f)), .agg (icells ⟨12, 2, 9, 0, 0, 0, 0⟩), .agg (prc q)] w fun e w' => e = .returned (.tuple #[.agg (rg (aluV (vL x y f) (iL 12) q)), .bool true]) ∧ Below w.heap.size w w') := Lib.hid fun w => S.do_ (vL x y f) 12 2 9 0 0 0 0 q w (ok_vL hx hy hf) (by decide) (by decide) (by decide)
  have Pc : Hid (∀ w : World, Calls Try.prog 10 #[.agg (rg (vL x y f)), .agg (icells ⟨13, 2, 9, 0, 0, 0, 0⟩), .agg (prc q)] w fun e w' => e = .returned (.tuple #[.agg (rg (aluV (vL x y f) (iL 13) q)), .bool true]) ∧ Below w.heap.size w w') := Lib.hid fun w => S.do_ (vL x y f) 13 2 9 0 0 0 0 q w (ok_vL hx hy hf) (by decide) (by decide) (by decide)
  obtain ⟨⟨⟨F1, F2⟩, F3, F4, F5⟩, Ga, Gb, Gc⟩ := logic_all x y f hx hy hf q
  generalize aluV (vL x y f) (iL 11) q = Va at *
  generalize aluV (vL x y f) (iL 12) q = Vb at *
  generalize aluV (vL x y f) (iL 13) q = Vc at *
  clear S
  have hP : (prc q).size = 8 := rfl
  have hp1 : (prc q)[4]? = some (.bool q.lr) := rfl
  unfold wantF at Ga Gb Gc
  generalize q.lr = lr at *
  generalize prc q = P at *
  clear q
  obtain ⟨v0, hv0⟩ : ∃ v0, v0 = w := ⟨_, rfl⟩
  subst hv0
  have BV := Lib.hid (Below.refl v0.heap.size v0)
  go_enter Try.func7, Try.ntmps7
  go_upto_region 0 with fail
  refine wp_region_lit ?_
  refine list_box_all rfl _ (.tmp 3) rfl (P) rfl ?_
  simp only [Act.put, List.setIfInBounds_toArray, List.set_cons_zero, List.set_cons_succ]
  have KP := Lib.hid (Blk.new v0 26 (P))
  have BA := below_newP v0 (.cells (P) 26)
  have BV := Lib.hid (BV.out.trans (BA.mono BV.out.size))
  clear BA
  obtain ⟨bKP, hq⟩ : ∃ q, v0.heap.size = q := ⟨_, rfl⟩
  generalize v0.alloc (.cells (P) 26) = w2 at *
  rw [hq] at KP ⊢
  clear hq
  go_wp2_with fail
  refine (A0.out _).mono ?_
  rintro e w3 ⟨rfl, b1⟩
  have KP := Lib.hid (KP.out.step b1)
  have BV := Lib.hid (BV.out.trans (b1.mono BV.out.size))
  clear b1
  go_upto_region 3 with fail
  refine wp_region_lit ?_
  iterate 9 go_step
  refine list_build_all (cs := rg (vL x y f)) rfl rfl (by simp [Act.eval]; kernel_rfl) ?_
  simp only [Act.put, List.setIfInBounds_toArray, List.set_cons_zero, List.set_cons_succ]
  refine list_var_all (ds := rg (vL x y f)) aggPat zeroRg (pc_size _) (rg_size _) (rg_one _) rfl rfl rfl (.tmp 9) (.tmp 22) rfl (by simp [Act.eval, Act.put]) (by simp [Act.eval, Act.put]) ?_
  simp only [Act.put, List.setIfInBounds_toArray, List.set_cons_zero, List.set_cons_succ]
  have KV := Lib.hid (Blk.new w3 22 (rg (vL x y f)))
  have BA := below_newP w3 (.cells (rg (vL x y f)) 22)
  have KP := Lib.hid (KP.out.step BA)
  have BV := Lib.hid (BV.out.trans (BA.mono BV.out.size))
  clear BA
  obtain ⟨bKV, hq⟩ : ∃ q, w3.heap.size = q := ⟨_, rfl⟩
  generalize w3.alloc (.cells (rg (vL x y f)) 22) = w4 at *
  rw [hq] at KV ⊢
  clear hq
  go_upto_region 4 with fail
  refine wp_region_lit ?_
  refine list_load_all aggPat KV.out (rg_size _) rfl (.tmp 9) rfl (by simp [Act.eval, Act.put]) ?_
  simp only [Act.put, List.setIfInBounds_toArray, List.set_cons_zero, List.set_cons_succ]
  refine list_build_all (cs := icells ⟨11, 2, 9, 0, 0, 0, 0⟩) rfl rfl (by simp [Act.eval]; kernel_rfl) ?_
  simp only [Act.put, List.setIfInBounds_toArray, List.set_cons_zero, List.set_cons_succ]
  refine list_load_all aggPro18 KP.out hP rfl (.tmp 7) rfl (by simp [Act.eval, Act.put]) ?_
  simp only [Act.put, List.setIfInBounds_toArray, List.set_cons_zero, List.set_cons_succ]
  go_wp2_with fail
  refine (Pa.out _).mono ?_
  rintro e w5 ⟨rfl, b1⟩
  have KP := Lib.hid (KP.out.step b1)
  have KV := Lib.hid (KV.out.step b1)
  have BV := Lib.hid (BV.out.trans (b1.mono BV.out.size))
  clear b1
  simp only []
  go_at_K
  iterate 10 go_step
  refine list_var_all (ds := rg Va) aggPat zeroRg (pc_size _) (rg_size _) (rg_one _) rfl rfl rfl (.tmp 10) (.tmp 28) rfl (by simp [Act.eval, Act.put]) (by simp [Act.eval, Act.put]) ?_
  simp only [Act.put, List.setIfInBounds_toArray, List.set_cons_zero, List.set_cons_succ]
  have Ka := Lib.hid (Blk.new w5 22 (rg Va))
  have BA := below_newP w5 (.cells (rg Va) 22)
  have KP := Lib.hid (KP.out.step BA)
  have KV := Lib.hid (KV.out.step BA)
  have BV := Lib.hid (BV.out.trans (BA.mono BV.out.size))
  clear BA
  obtain ⟨bKa, hq⟩ : ∃ q, w5.heap.size = q := ⟨_, rfl⟩
  generalize w5.alloc (.cells (rg Va) 22) = w6 at *
  rw [hq] at Ka ⊢
  clear hq
  go_upto_region 5 with fail
  refine wp_region_lit ?_
  refine list_load_all aggPat KV.out (rg_size _) rfl (.tmp 9) rfl (by simp [Act.eval, Act.put]) ?_
  simp only [Act.put, List.setIfInBounds_toArray, List.set_cons_zero, List.set_cons_succ]
  refine list_build_all (cs := icells ⟨12, 2, 9, 0, 0, 0, 0⟩) rfl rfl (by simp [Act.eval]; kernel_rfl) ?_
  simp only [Act.put, List.setIfInBounds_toArray, List.set_cons_zero, List.set_cons_succ]
  refine list_load_all aggPro18 KP.out hP rfl (.tmp 7) rfl (by simp [Act.eval, Act.put]) ?_
  simp only [Act.put, List.setIfInBounds_toArray, List.set_cons_zero, List.set_cons_succ]
  go_wp2_with fail
  refine (Pb.out _).mono ?_
  rintro e w7 ⟨rfl, b1⟩
  have KP := Lib.hid (KP.out.step b1)
  have KV := Lib.hid (KV.out.step b1)
  have Ka := Lib.hid (Ka.out.step b1)
  have BV := Lib.hid (BV.out.trans (b1.mono BV.out.size))
  clear b1
  simp only []
  go_at_K
  iterate 10 go_step
  refine list_var_all (ds := rg Vb) aggPat zeroRg (pc_size _) (rg_size _) (rg_one _) rfl rfl rfl (.tmp 12) (.tmp 35) rfl (by simp [Act.eval, Act.put]) (by simp [Act.eval, Act.put]) ?_
  simp only [Act.put, List.setIfInBounds_toArray, List.set_cons_zero, List.set_cons_succ]
  have Kb := Lib.hid (Blk.new w7 22 (rg Vb))
  have BA := below_newP w7 (.cells (rg Vb) 22)
  have KP := Lib.hid (KP.out.step BA)
  have KV := Lib.hid (KV.out.step BA)
  have Ka := Lib.hid (Ka.out.step BA)
  have BV := Lib.hid (BV.out.trans (BA.mono BV.out.size))
  clear BA
  obtain ⟨bKb, hq⟩ : ∃ q, w7.heap.size = q := ⟨_, rfl⟩
  generalize w7.alloc (.cells (rg Vb) 22) = w8 at *
  rw [hq] at Kb ⊢
  clear hq
  go_upto_region 6 with fail
  refine wp_region_lit ?_
  refine list_load_all aggPat KV.out (rg_size _) rfl (.tmp 9) rfl (by simp [Act.eval, Act.put]) ?_
  simp only [Act.put, List.setIfInBounds_toArray, List.set_cons_zero, List.set_cons_succ]
  refine list_build_all (cs := icells ⟨13, 2, 9, 0, 0, 0, 0⟩) rfl rfl (by simp [Act.eval]; kernel_rfl) ?_
  simp only [Act.put, List.setIfInBounds_toArray, List.set_cons_zero, List.set_cons_succ]
  refine list_load_all aggPro18 KP.out hP rfl (.tmp 7) rfl (by simp [Act.eval, Act.put]) ?_
  simp only [Act.put, List.setIfInBounds_toArray, List.set_cons_zero, List.set_cons_succ]
  go_wp2_with fail
  refine (Pc.out _).mono ?_
  rintro e w9 ⟨rfl, b1⟩
  have KP := Lib.hid (KP.out.step b1)
  have KV := Lib.hid (KV.out.step b1)
  have Ka := Lib.hid (Ka.out.step b1)
  have Kb := Lib.hid (Kb.out.step b1)
  have BV := Lib.hid (BV.out.trans (b1.mono BV.out.size))
  clear b1
  simp only []
  go_at_K
  iterate 10 go_step
  refine list_var_all (ds := rg Vc) aggPat zeroRg (pc_size _) (rg_size _) (rg_one _) rfl rfl rfl (.tmp 14) (.tmp 42) rfl (by simp [Act.eval, Act.put]) (by simp [Act.eval, Act.put]) ?_
  simp only [Act.put, List.setIfInBounds_toArray, List.set_cons_zero, List.set_cons_succ]
  have Kc := Lib.hid (Blk.new w9 22 (rg Vc))
  have BA := below_newP w9 (.cells (rg Vc) 22)
  have KP := Lib.hid (KP.out.step BA)
  have KV := Lib.hid (KV.out.step BA)
  have Ka := Lib.hid (Ka.out.step BA)
  have Kb := Lib.hid (Kb.out.step BA)
  have BV := Lib.hid (BV.out.trans (BA.mono BV.out.size))
  clear BA
  obtain ⟨bKc, hq⟩ : ∃ q, w9.heap.size = q := ⟨_, rfl⟩
  generalize w9.alloc (.cells (rg Vc) 22) = w10 at *
  rw [hq] at Kc ⊢
  clear hq
  have ca2 := Calm.cell ((Ka.out.cell 2).trans (rg_get Va (by decide))) Ka.out.lt
  have ca15 := Calm.cell ((Ka.out.cell 15).trans (rg_get Va (by decide))) Ka.out.lt
  have cb2 := Calm.cell ((Kb.out.cell 2).trans (rg_get Vb (by decide))) Kb.out.lt
  have cb15 := Calm.cell ((Kb.out.cell 15).trans (rg_get Vb (by decide))) Kb.out.lt
  have cc2 := Calm.cell ((Kc.out.cell 2).trans (rg_get Vc (by decide))) Kc.out.lt
  have cc15 := Calm.cell ((Kc.out.cell 15).trans (rg_get Vc (by decide))) Kc.out.lt
  generalize Va 2 = a2 at *
  generalize Va 15 = a15 at *
  generalize Vb 2 = b2 at *
  generalize Vb 15 = b15 at *
  generalize Vc 2 = c2 at *
  generalize Vc 15 = c15 at *
  have c1 := (KP.out.cell 4).trans hp1
  clear Pa Ka Pb Kb Pc Kc KV KP A0
  have wr : ∀ z : Int, -70000 ≤ z → z ≤ 70000 → IntKind.i64.wrap z = z := fun z a b => by rw [IntKind.wrap_i64]; omega
  have wab := (wr ((a2 : Int) + (b2 : Int)) (by omega) (by omega)).trans F1
  have wxy := wr ((x : Int) + (y : Int)) (by omega) (by omega)
  have wac := (wr ((a2 : Int) - (b2 : Int)) (by omega) (by omega)).trans F2.symm
  clear wr F2
  cases lr
  all_goals
    simp only [if_true, if_false, Bool.false_eq_true] at Ga Gb Gc
    rw [Ga] at ca15
    rw [Gb] at cb15
    rw [Gc] at cc15
    try rw [show ((0 : Nat) : Int) = 0 from rfl] at ca15 cb15 cc15
    clear Ga Gb Gc
    go_upto_region 10 with fail
    refine calm_plain ?_
    try simp only [List.append_eq, List.cons_append, List.nil_append]
    repeat (go_big_quiet_step (rfl))
    refine wpQuiet_nil ?_
    intro _ hw'
    obtain ⟨u, rfl⟩ := hw'
    have b1 := u.below
    generalize u.w = w11 at *
    have BV := Lib.hid (BV.out.trans (b1.mono BV.out.size))
    clear b1
    go_wp2_with fail
    go_ret
    exact ⟨by simp [*], BV.out⟩
end Go.Proofs.Ytfjdhhheofcanaa
