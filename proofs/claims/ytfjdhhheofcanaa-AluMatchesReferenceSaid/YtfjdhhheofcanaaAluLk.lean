/- Package alu: read, operations, conditions. -/
import Derived.Test.YtfjdhhheofcanaaAluFn
import Derived.Test.YtfjdhhheofcanaaTail
import Derived.Laws.EntriesVeiled
namespace Go.Proofs.Ytfjdhhheofcanaa
open Go.RowKit Num Dec Cpu Go.Maps
set_option linter.unusedVariables false
set_option linter.unusedSimpArgs false
set_option maxRecDepth 100000

theorem register_still (n : Nat) (hn : n < 16) (w : World) : Calls Try.prog 17 #[.int .i64 (n : Int)] w fun e w' => e = .returned (.int .i64 (n : Int)) ∧ w' = w :=
  (register_any n hn w).mono fun _ _ ⟨he, hw⟩ => ⟨he, hw.symm⟩
theorem opc_one (x y nn : Nat) (q : Pr) : Ones (opc x y nn q) := by unfold Ones opc; simp [Value.oneCell']
def zeroO : Array Value := opc 0 0 0 ⟨0, false, false, false, false, false, false, false⟩
theorem below3 (w : World) (a b c : Obj) : Below w.heap.size w (((w.alloc a).alloc b).alloc c) := by go_grown
set_option maxHeartbeats 2000000 in
theorem read_any (v : Nat → Nat) (op : Int) (x y nn : Nat) (n addr len : Int) (q : Pr) (w : World) (hv : OkV v) (hx : x < 16) (hy : y < 16) (hn : nn < 256) :
    Calls Try.prog 16 #[.agg (rg v), .agg (icells ⟨op, x, y, n, nn, addr, len⟩), .agg (prc q)] w fun e w' => e = .returned (.agg (opc (v x) (v y) nn q)) ∧ Below w.heap.size w w' := by
  have vx := hv x hx
  have vy := hv y hy
  have RX := Lib.hid (fun w => register_still x hx w)
  have RY := Lib.hid (fun w => register_still y hy w)
  have B0 := Lib.hid ((below3 w (.cells (rg v) 22) (.cells (icells ⟨op, x, y, n, nn, addr, len⟩) 24) (.cells (prc q) 26)).alloc (by simp; omega) (.cells zeroO 47))
  have V0 := Lib.hid ((((Blk.new w 22 (rg v)).alloc (.cells (icells ⟨op, x, y, n, nn, addr, len⟩) 24)).alloc (.cells (prc q) 26)).alloc (.cells zeroO 47))
  have I0 := Lib.hid (((Blk.new (w.alloc (.cells (rg v) 22)) 24 (icells ⟨op, x, y, n, nn, addr, len⟩)).alloc (.cells (prc q) 26)).alloc (.cells zeroO 47))
  have P0 := Lib.hid ((Blk.new ((w.alloc (.cells (rg v) 22)).alloc (.cells (icells ⟨op, x, y, n, nn, addr, len⟩) 24)) 26 (prc q)).alloc (.cells zeroO 47))
  have O0 := Lib.hid (Blk.new (((w.alloc (.cells (rg v) 22)).alloc (.cells (icells ⟨op, x, y, n, nn, addr, len⟩) 24)).alloc (.cells (prc q) 26)) 47 zeroO)
  simp only [World.size_alloc] at I0 P0 O0
  go_enter Try.func16, Try.ntmps16
  go_upto_region 0 with fail
  refine wp_region_lit ?_
  refine list_box_all rfl _ (.tmp 0) rfl (rg v) rfl ?_
  simp only [Act.put, List.setIfInBounds_toArray, List.set_cons_zero, List.set_cons_succ, World.size_alloc]
  refine list_box_all rfl _ (.tmp 1) rfl (icells ⟨op, x, y, n, nn, addr, len⟩) rfl ?_
  simp only [Act.put, List.setIfInBounds_toArray, List.set_cons_zero, List.set_cons_succ, World.size_alloc]
  refine list_box_all rfl _ (.tmp 2) rfl (prc q) rfl ?_
  simp only [Act.put, List.setIfInBounds_toArray, List.set_cons_zero, List.set_cons_succ, World.size_alloc]
  go_upto_region 1 with fail
  show (Code.region _ _ _).wp _ _ _ ((((w.alloc (.cells (rg v) 22)).alloc (.cells (icells ⟨op, x, y, n, nn, addr, len⟩) 24)).alloc (.cells (prc q) 26)).alloc (.cells zeroO 47))
  obtain ⟨g, hg⟩ : ∃ g, w.heap.size = g := ⟨_, rfl⟩
  rw [hg] at V0 I0 P0 O0 ⊢
  have GL := Lib.hid hg
  generalize (((w.alloc (.cells (rg v) 22)).alloc (.cells (icells ⟨op, x, y, n, nn, addr, len⟩) 24)).alloc (.cells (prc q) 26)).alloc (.cells zeroO 47) = w1 at *
  clear hg
  refine tail_region 16 (by kernel_rfl) (by kernel_rfl) ?_
  intro wd hwd
  have V0 := Lib.hid (show Blk g 22 (rg v) wd by rw [hwd]; exact V0.out.drew)
  have I0 := Lib.hid (show Blk (g + 1) 24 (icells ⟨op, x, y, n, nn, addr, len⟩) wd by rw [hwd]; exact I0.out.drew)
  have P0 := Lib.hid (show Blk (g + 1 + 1) 26 (prc q) wd by rw [hwd]; exact P0.out.drew)
  have O0 := Lib.hid (show Blk (g + 1 + 1 + 1) 47 zeroO wd by rw [hwd]; exact O0.out.drew)
  have B0 := Lib.hid (show Below w.heap.size w wd by rw [hwd]; exact B0.out.drew)
  clear hwd
  have cx : wd.cell? ⟨g, x, none⟩ = some (.int .u8 (v x : Int)) := by rw [V0.out.cell, rg_get v hx]
  have cy : wd.cell? ⟨g, y, none⟩ = some (.int .u8 (v y : Int)) := by rw [V0.out.cell, rg_get v hy]
  have i1 : wd.cell? ⟨g + 1, 1, none⟩ = some (.int .i64 (x : Int)) := (I0.out.cell 1).trans rfl
  have i2 : wd.cell? ⟨g + 1, 2, none⟩ = some (.int .i64 (y : Int)) := (I0.out.cell 2).trans rfl
  have i4 : wd.cell? ⟨g + 1, 4, none⟩ = some (.int .i64 (nn : Int)) := (I0.out.cell 4).trans rfl
  have p0 : wd.cell? ⟨g + 1 + 1, 0, none⟩ = some (.int .i64 q.lv) := (P0.out.cell 0).trans rfl
  have p1 : wd.cell? ⟨g + 1 + 1, 1, none⟩ = some (.bool q.sh) := (P0.out.cell 1).trans rfl
  have p2 : wd.cell? ⟨g + 1 + 1, 2, none⟩ = some (.bool q.ki) := (P0.out.cell 2).trans rfl
  have p3 : wd.cell? ⟨g + 1 + 1, 3, none⟩ = some (.bool q.jx) := (P0.out.cell 3).trans rfl
  have p4 : wd.cell? ⟨g + 1 + 1, 4, none⟩ = some (.bool q.lr) := (P0.out.cell 4).trans rfl
  have p5 : wd.cell? ⟨g + 1 + 1, 5, none⟩ = some (.bool q.cl) := (P0.out.cell 5).trans rfl
  have p6 : wd.cell? ⟨g + 1 + 1, 6, none⟩ = some (.bool q.dw) := (P0.out.cell 6).trans rfl
  have p7 : wd.cell? ⟨g + 1 + 1, 7, none⟩ = some (.bool q.fa) := (P0.out.cell 7).trans rfl
  have xi : (x : Int) < 16 := by omega
  have yi : (y : Int) < 16 := by omega
  have wx := i64_wrap (show v x < 65536 by omega)
  have wy := i64_wrap (show v y < 65536 by omega)
  simp only [List.take_succ_cons, List.take_zero, List.drop_succ_cons, List.drop_zero]
  repeat still_step
  still_call (RX.out _)
  repeat still_step
  still_call (RY.out _)
  repeat still_step
  refine wpStill_nil ?_
  refine list_store_all aggOpc O0.out rfl rfl (opc_one (v x) (v y) nn q) rfl (.tmp 6) (.tmp 22) rfl rfl rfl ?_
  simp only [Act.put, List.setIfInBounds_toArray, List.set_cons_zero, List.set_cons_succ]
  have R := O0.out.store (opc (v x) (v y) nn q)
  have B := belowRow' B0.out (by rw [GL.out]; omega : w.heap.size ≤ g + 1 + 1 + 1) (opc (v x) (v y) nn q)
  iterate 4 go_step
  exact bodyPost_ret (results_cell_row rfl _ _ (g + 1 + 1 + 1) _ _ _ _ rfl R Try.underlying47 rfl aggOpc.i) rfl ⟨rfl, B⟩
/-- The map of the operations. -/
def afn (f : Nat) : Value := .func (.func f) #[] #[]
def opsA : List (Int × Nat) := [(18, 31), (16, 30), (17, 29), (15, 28), (14, 27), (13, 26), (12, 25), (11, 24), (10, 23), (9, 22), (8, 21)]
def alk : List (Int × Nat) → Int → Option Nat
  | [], _ => none
  | (k, v) :: L, l => if l = k then some v else alk L l
def aHeld (v : Value) : Option (DataW Value × List MemPlace) := some (.held v, [])
structure MapA (m n : Nat) (L : List (Int × Nat)) (w : World) (D : DataW Value) : Prop where
  own : w.ownsMap Try.prog 3 aHeld m n D
  is : IsMap D
  at_ : ∀ l zd, D.atKey (.int .i64 l) zd = match alk L l with | some v => .held (afn v) | none => zd
  has_ : ∀ l, has D (.int .i64 l) = (alk L l).isSome
theorem isKeyA (l : Int) : WideAt.IsKeyLit (.int .i64 l) := by first | trivial | simp [WideAt.IsKeyLit]
theorem MapA.new (w : World) : MapA w.heap.size 0 [] (w.alloc (.map #[] 0)) (.map []) := ⟨World.ownsMap_made w _ _ _, ⟨_, rfl⟩, fun _ _ => rfl, fun _ => rfl⟩
theorem list_insertA {ops : Array Oper} {rest : List Oper} {o : Oper} {a : Act} {Q : Exit → Act → World → Prop} {w : World} {m n : Nat} {L : List (Int × Nat)} {D : DataW Value} (H : MapA m n L w D) (hn : n < 1000)
    (hg : o.guard = none) (mx xx vx : Operand) (hop : o.op = Op.insert 42 mx xx vx) (hm : a.eval mx = .map (some m)) (k : Int) (f : Nat) (hx : a.eval xx = .int .i64 k) (hv : a.eval vx = afn f) (hk : (Lit.int .i64 k).wf = true)
    {w0 : World} (hb : Below w0.heap.size w0 w) (hge : w0.heap.size ≤ m)
    (h : ∀ w' D', MapA m (n + 1) ((k, f) :: L) w' D' → Below w0.heap.size w0 w' → wpList Try.prog ops Q rest (a.put o.dst undef) w') : wpList Try.prog ops Q (o :: rest) a w := by
  refine wpList_insert_own w hg mx xx vx 42 hop 3 40 intKeyed Try.underlying42 aHeld m n D hm H.own (by unfold maxLen; omega) _ _ (.int .i64 k) hx hv (int_key k hk) (.held (afn f)) [] rfl ?_
  intro w' o' g'
  refine h w' _ ⟨o', H.is.put _ _, fun l zd => ?_, fun l => ?_⟩ (hb.grown g' hb.size (fun j hj => by cases hj; exact hge))
  · unfold alk
    by_cases hl : l = k
    · subst hl
      rw [if_pos rfl, atKey_put_same H.is (isKeyA l)]
    · rw [if_neg hl, atKey_put_other (by intro c; injection c with _ c; exact hl c), H.at_]
  · unfold alk
    by_cases hl : l = k
    · subst hl
      rw [if_pos rfl, has_put_same H.is (isKeyA l)]
      rfl
    · rw [if_neg hl, has_put_other (by intro c; injection c with _ c; exact hl c), H.has_]
set_option maxHeartbeats 2000000 in
theorem operations_any (w : World) : Calls Try.prog 15 #[] w fun e w' => ∃ m D, e = .returned (.map (some m)) ∧ MapA m 11 opsA w' D ∧ Below w.heap.size w w' := by
  have hmm := @run_makeMap Try.prog
  go_enter Try.func15, Try.ntmps15
  go_upto_region 1 with fail
  refine wp_region_lit ?_
  iterate 3 go_step
  have M := Lib.hid (MapA.new w)
  have B := Lib.hid (show Below w.heap.size w (w.alloc (.map #[] 0)) from (Below.refl _ _).alloc (Nat.le_refl _) _)
  clear hmm
  generalize w.alloc (.map #[] 0) = w1 at *
  refine list_insertA M.out (by omega) rfl (.tmp 1) (.const (.int .i64 8)) (.func 21) rfl rfl 8 21 rfl rfl (by decide) B.out (Nat.le_refl _) ?_
  simp only [Act.put]
  clear M B
  intro w2 D2 m b
  have M := Lib.hid m
  have B := Lib.hid b
  clear m b
  refine list_insertA M.out (by omega) rfl (.tmp 1) (.const (.int .i64 9)) (.func 22) rfl rfl 9 22 rfl rfl (by decide) B.out (Nat.le_refl _) ?_
  simp only [Act.put]
  clear M B
  intro w3 D3 m b
  have M := Lib.hid m
  have B := Lib.hid b
  clear m b
  refine list_insertA M.out (by omega) rfl (.tmp 1) (.const (.int .i64 10)) (.func 23) rfl rfl 10 23 rfl rfl (by decide) B.out (Nat.le_refl _) ?_
  simp only [Act.put]
  clear M B
  intro w4 D4 m b
  have M := Lib.hid m
  have B := Lib.hid b
  clear m b
  refine list_insertA M.out (by omega) rfl (.tmp 1) (.const (.int .i64 11)) (.func 24) rfl rfl 11 24 rfl rfl (by decide) B.out (Nat.le_refl _) ?_
  simp only [Act.put]
  clear M B
  intro w5 D5 m b
  have M := Lib.hid m
  have B := Lib.hid b
  clear m b
  refine list_insertA M.out (by omega) rfl (.tmp 1) (.const (.int .i64 12)) (.func 25) rfl rfl 12 25 rfl rfl (by decide) B.out (Nat.le_refl _) ?_
  simp only [Act.put]
  clear M B
  intro w6 D6 m b
  have M := Lib.hid m
  have B := Lib.hid b
  clear m b
  refine list_insertA M.out (by omega) rfl (.tmp 1) (.const (.int .i64 13)) (.func 26) rfl rfl 13 26 rfl rfl (by decide) B.out (Nat.le_refl _) ?_
  simp only [Act.put]
  clear M B
  intro w7 D7 m b
  have M := Lib.hid m
  have B := Lib.hid b
  clear m b
  refine list_insertA M.out (by omega) rfl (.tmp 1) (.const (.int .i64 14)) (.func 27) rfl rfl 14 27 rfl rfl (by decide) B.out (Nat.le_refl _) ?_
  simp only [Act.put]
  clear M B
  intro w8 D8 m b
  have M := Lib.hid m
  have B := Lib.hid b
  clear m b
  refine list_insertA M.out (by omega) rfl (.tmp 1) (.const (.int .i64 15)) (.func 28) rfl rfl 15 28 rfl rfl (by decide) B.out (Nat.le_refl _) ?_
  simp only [Act.put]
  clear M B
  intro w9 D9 m b
  have M := Lib.hid m
  have B := Lib.hid b
  clear m b
  refine list_insertA M.out (by omega) rfl (.tmp 1) (.const (.int .i64 17)) (.func 29) rfl rfl 17 29 rfl rfl (by decide) B.out (Nat.le_refl _) ?_
  simp only [Act.put]
  clear M B
  intro w10 D10 m b
  have M := Lib.hid m
  have B := Lib.hid b
  clear m b
  refine list_insertA M.out (by omega) rfl (.tmp 1) (.const (.int .i64 16)) (.func 30) rfl rfl 16 30 rfl rfl (by decide) B.out (Nat.le_refl _) ?_
  simp only [Act.put]
  clear M B
  intro w11 D11 m b
  have M := Lib.hid m
  have B := Lib.hid b
  clear m b
  refine list_insertA M.out (by omega) rfl (.tmp 1) (.const (.int .i64 18)) (.func 31) rfl rfl 18 31 rfl rfl (by decide) B.out (Nat.le_refl _) ?_
  simp only [Act.put]
  clear M B
  intro w12 D12 m b
  have M := Lib.hid m
  have B := Lib.hid b
  clear m b
  go_wp2_with fail
  go_ret
  exact ⟨_, _, rfl, M.out, B.out⟩
end Go.Proofs.Ytfjdhhheofcanaa
