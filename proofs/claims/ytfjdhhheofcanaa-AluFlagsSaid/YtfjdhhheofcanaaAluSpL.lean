/- Package alu: Skips, Digits. -/
import Derived.Test.YtfjdhhheofcanaaAluLk
import Derived.Test.YtfjdhhheofcanaaAluSpec
namespace Go.Proofs.Ytfjdhhheofcanaa
open Go.RowKit Num Dec Cpu Go.Maps
set_option linter.unusedVariables false
set_option linter.unusedSimpArgs false
set_option maxRecDepth 100000

/-- The cells of the table of conditions. -/
def cdA : Array Value := #[.int .i64 5, afn 32, .int .i64 6, afn 33, .int .i64 7, afn 34, .int .i64 19, afn 35]
theorem conditions_any (w : World) : Calls Try.prog 20 #[] w fun e w' => e = .returned (.agg cdA) ∧ Below w.heap.size w w' := by
  go_enter Try.func20, Try.ntmps20
  go_wp2_with fail
  go_returns
  exact ⟨rfl, by go_grown⟩
theorem cond1_any (x y nn : Nat) (q : Pr) (w : World) : Calls Try.prog 32 #[.agg (opc x y nn q)] w fun e w' => e = .returned (.bool (decide ((x : Int) = (nn : Int)))) ∧ Below w.heap.size w w' := by
  unfold opc
  go_enter Try.func32, Try.ntmps32
  go_wp2_with fail
  go_ret
  exact ⟨rfl, by go_grown⟩
theorem cond2_any (x y nn : Nat) (q : Pr) (w : World) : Calls Try.prog 33 #[.agg (opc x y nn q)] w fun e w' => e = .returned (.bool (!decide ((x : Int) = (nn : Int)))) ∧ Below w.heap.size w w' := by
  unfold opc
  go_enter Try.func33, Try.ntmps33
  go_wp2_with fail
  go_ret
  exact ⟨rfl, by go_grown⟩
theorem cond3_any (x y nn : Nat) (q : Pr) (w : World) : Calls Try.prog 34 #[.agg (opc x y nn q)] w fun e w' => e = .returned (.bool (decide ((x : Int) = (y : Int)))) ∧ Below w.heap.size w w' := by
  unfold opc
  go_enter Try.func34, Try.ntmps34
  go_wp2_with fail
  go_ret
  exact ⟨rfl, by go_grown⟩
theorem cond4_any (x y nn : Nat) (q : Pr) (w : World) : Calls Try.prog 35 #[.agg (opc x y nn q)] w fun e w' => e = .returned (.bool (!decide ((x : Int) = (y : Int)))) ∧ Below w.heap.size w w' := by
  unfold opc
  go_enter Try.func35, Try.ntmps35
  go_wp2_with fail
  go_ret
  exact ⟨rfl, by go_grown⟩
theorem digits_any (b : Nat) (w : World) (hb : b < 256) : Calls Try.prog 14 #[.int .u8 (b : Int)] w fun e w' => e = .returned (.agg (d3 b)) ∧ Below w.heap.size w w' := by
  have e : (b : Int) / 10 / 10 = (b : Int) / 100 := by omega
  have E := Lib.hid e
  clear e
  go_enter Try.func14, Try.ntmps14
  go_wp2_with fail
  go_returns
  exact ⟨by rw [E.out]; rfl, by go_grown⟩
theorem cd_at : (∀ w : World, (Instr.index 55 (.agg cdA) (.int .i64 0)).run Try.prog w = .ok (.agg #[.int .i64 5, afn 32]) w) ∧ (∀ w : World, (Instr.index 55 (.agg cdA) (.int .i64 1)).run Try.prog w = .ok (.agg #[.int .i64 6, afn 33]) w) ∧
    (∀ w : World, (Instr.index 55 (.agg cdA) (.int .i64 2)).run Try.prog w = .ok (.agg #[.int .i64 7, afn 34]) w) ∧ (∀ w : World, (Instr.index 55 (.agg cdA) (.int .i64 3)).run Try.prog w = .ok (.agg #[.int .i64 19, afn 35]) w) :=
  ⟨fun _ => by kernel_rfl, fun _ => by kernel_rfl, fun _ => by kernel_rfl, fun _ => by kernel_rfl⟩
set_option maxHeartbeats 8000000 in
theorem skips_any (v : Nat → Nat) (op : Int) (x y nn : Nat) (n addr len : Int) (w : World) (hv : OkV v) (hx : x < 16) (hy : y < 16) (hn : nn < 256) :
    Calls Try.prog 12 #[.agg (rg v), .agg (icells ⟨op, x, y, n, nn, addr, len⟩)] w fun e w' => e = .returned (.tuple #[.bool (skB v ⟨op, x, y, n, nn, addr, len⟩), .bool (skIs op)]) ∧ Below w.heap.size w w' := by
  have RD := Lib.hid (fun w => read_any v op x y nn n addr len ⟨0, false, false, false, false, false, false, false⟩ w hv hx hy hn)
  have C1 := Lib.hid (fun w => cond1_any (v x) (v y) nn ⟨0, false, false, false, false, false, false, false⟩ w)
  have C2 := Lib.hid (fun w => cond2_any (v x) (v y) nn ⟨0, false, false, false, false, false, false, false⟩ w)
  have C3 := Lib.hid (fun w => cond3_any (v x) (v y) nn ⟨0, false, false, false, false, false, false, false⟩ w)
  have C4 := Lib.hid (fun w => cond4_any (v x) (v y) nn ⟨0, false, false, false, false, false, false, false⟩ w)
  have B0 := Lib.hid (show Below w.heap.size w ((w.alloc (.cells (rg v) 22)).alloc (.cells (icells ⟨op, x, y, n, nn, addr, len⟩) 24)) from by go_grown)
  have R0 := Lib.hid ((Blk.new w 22 (rg v)).alloc (.cells (icells ⟨op, x, y, n, nn, addr, len⟩) 24))
  have I0 := Lib.hid (Blk.new (w.alloc (.cells (rg v) 22)) 24 (icells ⟨op, x, y, n, nn, addr, len⟩))
  simp only [World.size_alloc] at I0
  have S5 := Lib.hid (fun (h : op = 5) => (show skB v ⟨op, x, y, n, nn, addr, len⟩ = decide ((v x : Int) = (nn : Int)) ∧ skIs op = true from by subst h; unfold skB skIs; simp))
  have S6 := Lib.hid (fun (h : op = 6) => (show skB v ⟨op, x, y, n, nn, addr, len⟩ = (!decide ((v x : Int) = (nn : Int))) ∧ skIs op = true from by subst h; unfold skB skIs; simp))
  have S7 := Lib.hid (fun (h : op = 7) => (show skB v ⟨op, x, y, n, nn, addr, len⟩ = decide ((v x : Int) = (v y : Int)) ∧ skIs op = true from by subst h; unfold skB skIs; simp; omega))
  have S19 := Lib.hid (fun (h : op = 19) => (show skB v ⟨op, x, y, n, nn, addr, len⟩ = (!decide ((v x : Int) = (v y : Int))) ∧ skIs op = true from by subst h; unfold skB skIs; simp; omega))
  have SO := Lib.hid (fun (h : ¬ op = 5 ∧ ¬ op = 6 ∧ ¬ op = 7 ∧ ¬ op = 19) => (show skB v ⟨op, x, y, n, nn, addr, len⟩ = false ∧ skIs op = false from by obtain ⟨a, b, c, d⟩ := h; unfold skB skIs; simp [a, b, c, d]))
  obtain ⟨I, hI⟩ : ∃ I, icells ⟨op, x, y, n, nn, addr, len⟩ = I := ⟨_, rfl⟩
  have I7 : I.size = 7 := by rw [← hI]; rfl
  have hi0 : I[0]? = some (.int .i64 op) := by rw [← hI]; rfl
  rw [hI] at RD B0 R0 I0 ⊢
  generalize skB v ⟨op, x, y, n, nn, addr, len⟩ = sb at *
  clear hI hv hx hy hn
  go_enter Try.func12, Try.ntmps12
  go_upto_region 0 with fail
  refine wp_region_lit ?_
  refine list_box_all rfl _ (.tmp 0) rfl (rg v) rfl ?_
  simp only [Act.put, List.setIfInBounds_toArray, List.set_cons_zero, List.set_cons_succ, World.size_alloc]
  refine list_box_all rfl _ (.tmp 1) rfl I rfl ?_
  simp only [Act.put, List.setIfInBounds_toArray, List.set_cons_zero, List.set_cons_succ, World.size_alloc]
  obtain ⟨g, hg⟩ : ∃ g, w.heap.size = g := ⟨_, rfl⟩
  rw [hg] at R0 I0 ⊢
  have GL := Lib.hid hg
  generalize (w.alloc (.cells (rg v) 22)).alloc (.cells I 24) = w1 at *
  clear hg
  go_wp2_with fail
  refine (conditions_any _).mono ?_
  rintro e w2 ⟨rfl, b⟩
  have R0 := Lib.hid (R0.out.step b)
  have I0 := Lib.hid (I0.out.step b)
  have B0 := Lib.hid (B0.out.trans (b.mono B0.out.size))
  clear b
  obtain ⟨j0, j1, j2, j3⟩ := cd_at
  generalize cdA = CA at *
  have gl := I0.out.lt
  have i0 : w2.cell? ⟨g + 1, 0, none⟩ = some (.int .i64 op) := (I0.out.cell 0).trans hi0
  unfold afn at j0 j1 j2 j3
  by_cases h5 : op = 5
  · have SX := Lib.hid (S5.out h5)
    clear S5 S6 S7 S19 SO
    subst h5
    clear i0
    go_wp2_with fail
    refine wp_loop_rounds 5 ?_
    rw [rounds_succ]
    go_upto_region 4 with fail
    have b := (Below.refl w2.heap.size w2).alloc (Nat.le_refl _) (.cells #[.int .i64 5, .func (.func 32) #[] #[]] 54)
    have KC := Lib.hid (Blk.new w2 54 #[.int .i64 5, .func (.func 32) #[] #[]])
    have R0 := Lib.hid (R0.out.step b)
    have I0 := Lib.hid (I0.out.step b)
    have B0 := Lib.hid (B0.out.trans (b.mono B0.out.size))
    clear b
    obtain ⟨gc, hgc⟩ : ∃ gc, w2.heap.size = gc := ⟨_, rfl⟩
    rw [hgc] at KC ⊢
    generalize w2.alloc (.cells #[.int .i64 5, .func (.func 32) #[] #[]] 54) = w3 at *
    clear hgc
    have i0 : w3.cell? ⟨g + 1, 0, none⟩ = some (.int .i64 5) := (I0.out.cell 0).trans hi0
    have k0 : w3.cell? ⟨gc, 0, none⟩ = some (.int .i64 5) := KC.out.cell 0
    go_upto_region 5 with fail
    clear i0 k0 j0 j1 j2 j3
    have k1 := Calm.cell (show w3.cell? ⟨gc, 1, none⟩ = some (.func (.func 32) #[] #[]) from KC.out.cell 1) KC.out.lt
    have CI := Lib.hid (calm_blk I0.out)
    have CV := Lib.hid (calm_blk R0.out)
    refine calm_region (by kernel_rfl) (by kernel_rfl) ?_
    iterate 2 (go_big_quiet_step (fail))
    refine quiet_load_all aggPat CV.out (rg_size _) ?_ (.tmp 2) ?_ ?_ ?_
    · rfl
    · rfl
    · simp [Act.eval]
    simp only [Act.put, List.setIfInBounds_toArray, List.set_cons_zero, List.set_cons_succ]
    refine quiet_load_all aggInstr CI.out I7 ?_ (.tmp 3) ?_ ?_ ?_
    · rfl
    · rfl
    · simp [Act.eval]
    simp only [Act.put, List.setIfInBounds_toArray, List.set_cons_zero, List.set_cons_succ]
    clear CI CV R0 I0 KC
    repeat (go_big_quiet_step (first | (go_at_call 16; exact calm_call (RD.out _)) | (go_at_call 32; exact calm_call (C1.out _))))
    refine wpQuiet_nil ?_
    intro _ hw'
    obtain ⟨u, rfl⟩ := hw'
    have BE := Lib.hid (B0.out.trans (u.below.mono B0.out.size))
    go_wp2_with fail
    go_ret2
    exact ⟨by rw [SX.out.1, SX.out.2]; rfl, BE.out⟩
  by_cases h6 : op = 6
  · have SX := Lib.hid (S6.out h6)
    clear S5 S6 S7 S19 SO
    subst h6
    clear i0
    go_wp2_with fail
    refine wp_loop_rounds 5 ?_
    rw [rounds_succ]
    go_upto_region 4 with fail
    have b := (Below.refl w2.heap.size w2).alloc (Nat.le_refl _) (.cells #[.int .i64 5, .func (.func 32) #[] #[]] 54)
    have KC := Lib.hid (Blk.new w2 54 #[.int .i64 5, .func (.func 32) #[] #[]])
    have R0 := Lib.hid (R0.out.step b)
    have I0 := Lib.hid (I0.out.step b)
    have B0 := Lib.hid (B0.out.trans (b.mono B0.out.size))
    clear b
    obtain ⟨gc, hgc⟩ : ∃ gc, w2.heap.size = gc := ⟨_, rfl⟩
    rw [hgc] at KC ⊢
    generalize w2.alloc (.cells #[.int .i64 5, .func (.func 32) #[] #[]] 54) = w3 at *
    clear hgc
    have i0 : w3.cell? ⟨g + 1, 0, none⟩ = some (.int .i64 6) := (I0.out.cell 0).trans hi0
    have k0 : w3.cell? ⟨gc, 0, none⟩ = some (.int .i64 5) := KC.out.cell 0
    go_wp2_with fail
    clear i0 k0 KC
    rw [rounds_succ]
    go_upto_region 4 with fail
    have b := (Below.refl w3.heap.size w3).alloc (Nat.le_refl _) (.cells #[.int .i64 6, .func (.func 33) #[] #[]] 54)
    have KC := Lib.hid (Blk.new w3 54 #[.int .i64 6, .func (.func 33) #[] #[]])
    have R0 := Lib.hid (R0.out.step b)
    have I0 := Lib.hid (I0.out.step b)
    have B0 := Lib.hid (B0.out.trans (b.mono B0.out.size))
    clear b
    obtain ⟨gc, hgc⟩ : ∃ gc, w3.heap.size = gc := ⟨_, rfl⟩
    rw [hgc] at KC ⊢
    generalize w3.alloc (.cells #[.int .i64 6, .func (.func 33) #[] #[]] 54) = w4 at *
    clear hgc
    have i0 : w4.cell? ⟨g + 1, 0, none⟩ = some (.int .i64 6) := (I0.out.cell 0).trans hi0
    have k0 : w4.cell? ⟨gc, 0, none⟩ = some (.int .i64 6) := KC.out.cell 0
    go_upto_region 5 with fail
    clear i0 k0 j0 j1 j2 j3
    have k1 := Calm.cell (show w4.cell? ⟨gc, 1, none⟩ = some (.func (.func 33) #[] #[]) from KC.out.cell 1) KC.out.lt
    have CI := Lib.hid (calm_blk I0.out)
    have CV := Lib.hid (calm_blk R0.out)
    refine calm_region (by kernel_rfl) (by kernel_rfl) ?_
    iterate 2 (go_big_quiet_step (fail))
    refine quiet_load_all aggPat CV.out (rg_size _) ?_ (.tmp 2) ?_ ?_ ?_
    · rfl
    · rfl
    · simp [Act.eval]
    simp only [Act.put, List.setIfInBounds_toArray, List.set_cons_zero, List.set_cons_succ]
    refine quiet_load_all aggInstr CI.out I7 ?_ (.tmp 3) ?_ ?_ ?_
    · rfl
    · rfl
    · simp [Act.eval]
    simp only [Act.put, List.setIfInBounds_toArray, List.set_cons_zero, List.set_cons_succ]
    clear CI CV R0 I0 KC
    repeat (go_big_quiet_step (first | (go_at_call 16; exact calm_call (RD.out _)) | (go_at_call 33; exact calm_call (C2.out _))))
    refine wpQuiet_nil ?_
    intro _ hw'
    obtain ⟨u, rfl⟩ := hw'
    have BE := Lib.hid (B0.out.trans (u.below.mono B0.out.size))
    go_wp2_with fail
    go_ret2
    exact ⟨by rw [SX.out.1, SX.out.2]; rfl, BE.out⟩
  by_cases h7 : op = 7
  · have SX := Lib.hid (S7.out h7)
    clear S5 S6 S7 S19 SO
    subst h7
    clear i0
    go_wp2_with fail
    refine wp_loop_rounds 5 ?_
    rw [rounds_succ]
    go_upto_region 4 with fail
    have b := (Below.refl w2.heap.size w2).alloc (Nat.le_refl _) (.cells #[.int .i64 5, .func (.func 32) #[] #[]] 54)
    have KC := Lib.hid (Blk.new w2 54 #[.int .i64 5, .func (.func 32) #[] #[]])
    have R0 := Lib.hid (R0.out.step b)
    have I0 := Lib.hid (I0.out.step b)
    have B0 := Lib.hid (B0.out.trans (b.mono B0.out.size))
    clear b
    obtain ⟨gc, hgc⟩ : ∃ gc, w2.heap.size = gc := ⟨_, rfl⟩
    rw [hgc] at KC ⊢
    generalize w2.alloc (.cells #[.int .i64 5, .func (.func 32) #[] #[]] 54) = w3 at *
    clear hgc
    have i0 : w3.cell? ⟨g + 1, 0, none⟩ = some (.int .i64 7) := (I0.out.cell 0).trans hi0
    have k0 : w3.cell? ⟨gc, 0, none⟩ = some (.int .i64 5) := KC.out.cell 0
    go_wp2_with fail
    clear i0 k0 KC
    rw [rounds_succ]
    go_upto_region 4 with fail
    have b := (Below.refl w3.heap.size w3).alloc (Nat.le_refl _) (.cells #[.int .i64 6, .func (.func 33) #[] #[]] 54)
    have KC := Lib.hid (Blk.new w3 54 #[.int .i64 6, .func (.func 33) #[] #[]])
    have R0 := Lib.hid (R0.out.step b)
    have I0 := Lib.hid (I0.out.step b)
    have B0 := Lib.hid (B0.out.trans (b.mono B0.out.size))
    clear b
    obtain ⟨gc, hgc⟩ : ∃ gc, w3.heap.size = gc := ⟨_, rfl⟩
    rw [hgc] at KC ⊢
    generalize w3.alloc (.cells #[.int .i64 6, .func (.func 33) #[] #[]] 54) = w4 at *
    clear hgc
    have i0 : w4.cell? ⟨g + 1, 0, none⟩ = some (.int .i64 7) := (I0.out.cell 0).trans hi0
    have k0 : w4.cell? ⟨gc, 0, none⟩ = some (.int .i64 6) := KC.out.cell 0
    go_wp2_with fail
    clear i0 k0 KC
    rw [rounds_succ]
    go_upto_region 4 with fail
    have b := (Below.refl w4.heap.size w4).alloc (Nat.le_refl _) (.cells #[.int .i64 7, .func (.func 34) #[] #[]] 54)
    have KC := Lib.hid (Blk.new w4 54 #[.int .i64 7, .func (.func 34) #[] #[]])
    have R0 := Lib.hid (R0.out.step b)
    have I0 := Lib.hid (I0.out.step b)
    have B0 := Lib.hid (B0.out.trans (b.mono B0.out.size))
    clear b
    obtain ⟨gc, hgc⟩ : ∃ gc, w4.heap.size = gc := ⟨_, rfl⟩
    rw [hgc] at KC ⊢
    generalize w4.alloc (.cells #[.int .i64 7, .func (.func 34) #[] #[]] 54) = w5 at *
    clear hgc
    have i0 : w5.cell? ⟨g + 1, 0, none⟩ = some (.int .i64 7) := (I0.out.cell 0).trans hi0
    have k0 : w5.cell? ⟨gc, 0, none⟩ = some (.int .i64 7) := KC.out.cell 0
    go_upto_region 5 with fail
    clear i0 k0 j0 j1 j2 j3
    have k1 := Calm.cell (show w5.cell? ⟨gc, 1, none⟩ = some (.func (.func 34) #[] #[]) from KC.out.cell 1) KC.out.lt
    have CI := Lib.hid (calm_blk I0.out)
    have CV := Lib.hid (calm_blk R0.out)
    refine calm_region (by kernel_rfl) (by kernel_rfl) ?_
    iterate 2 (go_big_quiet_step (fail))
    refine quiet_load_all aggPat CV.out (rg_size _) ?_ (.tmp 2) ?_ ?_ ?_
    · rfl
    · rfl
    · simp [Act.eval]
    simp only [Act.put, List.setIfInBounds_toArray, List.set_cons_zero, List.set_cons_succ]
    refine quiet_load_all aggInstr CI.out I7 ?_ (.tmp 3) ?_ ?_ ?_
    · rfl
    · rfl
    · simp [Act.eval]
    simp only [Act.put, List.setIfInBounds_toArray, List.set_cons_zero, List.set_cons_succ]
    clear CI CV R0 I0 KC
    repeat (go_big_quiet_step (first | (go_at_call 16; exact calm_call (RD.out _)) | (go_at_call 34; exact calm_call (C3.out _))))
    refine wpQuiet_nil ?_
    intro _ hw'
    obtain ⟨u, rfl⟩ := hw'
    have BE := Lib.hid (B0.out.trans (u.below.mono B0.out.size))
    go_wp2_with fail
    go_ret2
    exact ⟨by rw [SX.out.1, SX.out.2]; rfl, BE.out⟩
  by_cases h19 : op = 19
  · have SX := Lib.hid (S19.out h19)
    clear S5 S6 S7 S19 SO
    subst h19
    clear i0
    go_wp2_with fail
    refine wp_loop_rounds 5 ?_
    rw [rounds_succ]
    go_upto_region 4 with fail
    have b := (Below.refl w2.heap.size w2).alloc (Nat.le_refl _) (.cells #[.int .i64 5, .func (.func 32) #[] #[]] 54)
    have KC := Lib.hid (Blk.new w2 54 #[.int .i64 5, .func (.func 32) #[] #[]])
    have R0 := Lib.hid (R0.out.step b)
    have I0 := Lib.hid (I0.out.step b)
    have B0 := Lib.hid (B0.out.trans (b.mono B0.out.size))
    clear b
    obtain ⟨gc, hgc⟩ : ∃ gc, w2.heap.size = gc := ⟨_, rfl⟩
    rw [hgc] at KC ⊢
    generalize w2.alloc (.cells #[.int .i64 5, .func (.func 32) #[] #[]] 54) = w3 at *
    clear hgc
    have i0 : w3.cell? ⟨g + 1, 0, none⟩ = some (.int .i64 19) := (I0.out.cell 0).trans hi0
    have k0 : w3.cell? ⟨gc, 0, none⟩ = some (.int .i64 5) := KC.out.cell 0
    go_wp2_with fail
    clear i0 k0 KC
    rw [rounds_succ]
    go_upto_region 4 with fail
    have b := (Below.refl w3.heap.size w3).alloc (Nat.le_refl _) (.cells #[.int .i64 6, .func (.func 33) #[] #[]] 54)
    have KC := Lib.hid (Blk.new w3 54 #[.int .i64 6, .func (.func 33) #[] #[]])
    have R0 := Lib.hid (R0.out.step b)
    have I0 := Lib.hid (I0.out.step b)
    have B0 := Lib.hid (B0.out.trans (b.mono B0.out.size))
    clear b
    obtain ⟨gc, hgc⟩ : ∃ gc, w3.heap.size = gc := ⟨_, rfl⟩
    rw [hgc] at KC ⊢
    generalize w3.alloc (.cells #[.int .i64 6, .func (.func 33) #[] #[]] 54) = w4 at *
    clear hgc
    have i0 : w4.cell? ⟨g + 1, 0, none⟩ = some (.int .i64 19) := (I0.out.cell 0).trans hi0
    have k0 : w4.cell? ⟨gc, 0, none⟩ = some (.int .i64 6) := KC.out.cell 0
    go_wp2_with fail
    clear i0 k0 KC
    rw [rounds_succ]
    go_upto_region 4 with fail
    have b := (Below.refl w4.heap.size w4).alloc (Nat.le_refl _) (.cells #[.int .i64 7, .func (.func 34) #[] #[]] 54)
    have KC := Lib.hid (Blk.new w4 54 #[.int .i64 7, .func (.func 34) #[] #[]])
    have R0 := Lib.hid (R0.out.step b)
    have I0 := Lib.hid (I0.out.step b)
    have B0 := Lib.hid (B0.out.trans (b.mono B0.out.size))
    clear b
    obtain ⟨gc, hgc⟩ : ∃ gc, w4.heap.size = gc := ⟨_, rfl⟩
    rw [hgc] at KC ⊢
    generalize w4.alloc (.cells #[.int .i64 7, .func (.func 34) #[] #[]] 54) = w5 at *
    clear hgc
    have i0 : w5.cell? ⟨g + 1, 0, none⟩ = some (.int .i64 19) := (I0.out.cell 0).trans hi0
    have k0 : w5.cell? ⟨gc, 0, none⟩ = some (.int .i64 7) := KC.out.cell 0
    go_wp2_with fail
    clear i0 k0 KC
    rw [rounds_succ]
    go_upto_region 4 with fail
    have b := (Below.refl w5.heap.size w5).alloc (Nat.le_refl _) (.cells #[.int .i64 19, .func (.func 35) #[] #[]] 54)
    have KC := Lib.hid (Blk.new w5 54 #[.int .i64 19, .func (.func 35) #[] #[]])
    have R0 := Lib.hid (R0.out.step b)
    have I0 := Lib.hid (I0.out.step b)
    have B0 := Lib.hid (B0.out.trans (b.mono B0.out.size))
    clear b
    obtain ⟨gc, hgc⟩ : ∃ gc, w5.heap.size = gc := ⟨_, rfl⟩
    rw [hgc] at KC ⊢
    generalize w5.alloc (.cells #[.int .i64 19, .func (.func 35) #[] #[]] 54) = w6 at *
    clear hgc
    have i0 : w6.cell? ⟨g + 1, 0, none⟩ = some (.int .i64 19) := (I0.out.cell 0).trans hi0
    have k0 : w6.cell? ⟨gc, 0, none⟩ = some (.int .i64 19) := KC.out.cell 0
    go_upto_region 5 with fail
    clear i0 k0 j0 j1 j2 j3
    have k1 := Calm.cell (show w6.cell? ⟨gc, 1, none⟩ = some (.func (.func 35) #[] #[]) from KC.out.cell 1) KC.out.lt
    have CI := Lib.hid (calm_blk I0.out)
    have CV := Lib.hid (calm_blk R0.out)
    refine calm_region (by kernel_rfl) (by kernel_rfl) ?_
    iterate 2 (go_big_quiet_step (fail))
    refine quiet_load_all aggPat CV.out (rg_size _) ?_ (.tmp 2) ?_ ?_ ?_
    · rfl
    · rfl
    · simp [Act.eval]
    simp only [Act.put, List.setIfInBounds_toArray, List.set_cons_zero, List.set_cons_succ]
    refine quiet_load_all aggInstr CI.out I7 ?_ (.tmp 3) ?_ ?_ ?_
    · rfl
    · rfl
    · simp [Act.eval]
    simp only [Act.put, List.setIfInBounds_toArray, List.set_cons_zero, List.set_cons_succ]
    clear CI CV R0 I0 KC
    repeat (go_big_quiet_step (first | (go_at_call 16; exact calm_call (RD.out _)) | (go_at_call 35; exact calm_call (C4.out _))))
    refine wpQuiet_nil ?_
    intro _ hw'
    obtain ⟨u, rfl⟩ := hw'
    have BE := Lib.hid (B0.out.trans (u.below.mono B0.out.size))
    go_wp2_with fail
    go_ret2
    exact ⟨by rw [SX.out.1, SX.out.2]; rfl, BE.out⟩
  have SX := Lib.hid (SO.out ⟨h5, h6, h7, h19⟩)
  clear S5 S6 S7 S19 SO
  clear i0
  go_wp2_with fail
  refine wp_loop_rounds 5 ?_
  rw [rounds_succ]
  go_upto_region 4 with fail
  have b := (Below.refl w2.heap.size w2).alloc (Nat.le_refl _) (.cells #[.int .i64 5, .func (.func 32) #[] #[]] 54)
  have KC := Lib.hid (Blk.new w2 54 #[.int .i64 5, .func (.func 32) #[] #[]])
  have R0 := Lib.hid (R0.out.step b)
  have I0 := Lib.hid (I0.out.step b)
  have B0 := Lib.hid (B0.out.trans (b.mono B0.out.size))
  clear b
  obtain ⟨gc, hgc⟩ : ∃ gc, w2.heap.size = gc := ⟨_, rfl⟩
  rw [hgc] at KC ⊢
  generalize w2.alloc (.cells #[.int .i64 5, .func (.func 32) #[] #[]] 54) = w3 at *
  clear hgc
  have i0 : w3.cell? ⟨g + 1, 0, none⟩ = some (.int .i64 op) := (I0.out.cell 0).trans hi0
  have k0 : w3.cell? ⟨gc, 0, none⟩ = some (.int .i64 5) := KC.out.cell 0
  go_wp2_with fail
  clear i0 k0 KC
  rw [rounds_succ]
  go_upto_region 4 with fail
  have b := (Below.refl w3.heap.size w3).alloc (Nat.le_refl _) (.cells #[.int .i64 6, .func (.func 33) #[] #[]] 54)
  have KC := Lib.hid (Blk.new w3 54 #[.int .i64 6, .func (.func 33) #[] #[]])
  have R0 := Lib.hid (R0.out.step b)
  have I0 := Lib.hid (I0.out.step b)
  have B0 := Lib.hid (B0.out.trans (b.mono B0.out.size))
  clear b
  obtain ⟨gc, hgc⟩ : ∃ gc, w3.heap.size = gc := ⟨_, rfl⟩
  rw [hgc] at KC ⊢
  generalize w3.alloc (.cells #[.int .i64 6, .func (.func 33) #[] #[]] 54) = w4 at *
  clear hgc
  have i0 : w4.cell? ⟨g + 1, 0, none⟩ = some (.int .i64 op) := (I0.out.cell 0).trans hi0
  have k0 : w4.cell? ⟨gc, 0, none⟩ = some (.int .i64 6) := KC.out.cell 0
  go_wp2_with fail
  clear i0 k0 KC
  rw [rounds_succ]
  go_upto_region 4 with fail
  have b := (Below.refl w4.heap.size w4).alloc (Nat.le_refl _) (.cells #[.int .i64 7, .func (.func 34) #[] #[]] 54)
  have KC := Lib.hid (Blk.new w4 54 #[.int .i64 7, .func (.func 34) #[] #[]])
  have R0 := Lib.hid (R0.out.step b)
  have I0 := Lib.hid (I0.out.step b)
  have B0 := Lib.hid (B0.out.trans (b.mono B0.out.size))
  clear b
  obtain ⟨gc, hgc⟩ : ∃ gc, w4.heap.size = gc := ⟨_, rfl⟩
  rw [hgc] at KC ⊢
  generalize w4.alloc (.cells #[.int .i64 7, .func (.func 34) #[] #[]] 54) = w5 at *
  clear hgc
  have i0 : w5.cell? ⟨g + 1, 0, none⟩ = some (.int .i64 op) := (I0.out.cell 0).trans hi0
  have k0 : w5.cell? ⟨gc, 0, none⟩ = some (.int .i64 7) := KC.out.cell 0
  go_wp2_with fail
  clear i0 k0 KC
  rw [rounds_succ]
  go_upto_region 4 with fail
  have b := (Below.refl w5.heap.size w5).alloc (Nat.le_refl _) (.cells #[.int .i64 19, .func (.func 35) #[] #[]] 54)
  have KC := Lib.hid (Blk.new w5 54 #[.int .i64 19, .func (.func 35) #[] #[]])
  have R0 := Lib.hid (R0.out.step b)
  have I0 := Lib.hid (I0.out.step b)
  have B0 := Lib.hid (B0.out.trans (b.mono B0.out.size))
  clear b
  obtain ⟨gc, hgc⟩ : ∃ gc, w5.heap.size = gc := ⟨_, rfl⟩
  rw [hgc] at KC ⊢
  generalize w5.alloc (.cells #[.int .i64 19, .func (.func 35) #[] #[]] 54) = w6 at *
  clear hgc
  have i0 : w6.cell? ⟨g + 1, 0, none⟩ = some (.int .i64 op) := (I0.out.cell 0).trans hi0
  have k0 : w6.cell? ⟨gc, 0, none⟩ = some (.int .i64 19) := KC.out.cell 0
  go_wp2_with fail
  clear i0 k0 KC
  rw [rounds_succ]
  go_wp2_with fail
  go_ret2
  exact ⟨by rw [SX.out.1, SX.out.2]; rfl, B0.out⟩
end Go.Proofs.Ytfjdhhheofcanaa
