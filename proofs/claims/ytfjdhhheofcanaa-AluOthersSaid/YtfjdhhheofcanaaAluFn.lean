/- Package alu: its small functions. -/
import Derived.Test.YtfjdhhheofcanaaRegs
import Derived.Test.YtfjdhhheofcanaaInsV
import Derived.Test.YtfjdhhheofcanaaCells
import Derived.Test.YtfjdhhheofcanaaPlain
import Derived.Test.YtfjdhhheofcanaaLate
import Derived.Test.YtfjdhhheofcanaaFlaAllow
import Derived.Handy
import Derived.Laws.BitsLemmas
namespace Go.Proofs.Ytfjdhhheofcanaa
open Go.RowKit Num Dec Cpu Go.Maps
set_option linter.unusedVariables false
set_option linter.unusedSimpArgs false
set_option maxRecDepth 100000

/-- The cells of the operands, and of an outcome. -/
def opc (x y nn : Nat) (q : Pr) : Array Value := #[.int .i64 (x : Int), .int .i64 (y : Int), .int .i64 (nn : Int), .int .i64 q.lv, .bool q.sh, .bool q.ki, .bool q.jx, .bool q.lr, .bool q.cl, .bool q.dw, .bool q.fa]
def oc (r : Int) (f : Nat) (h : Bool) : Array Value := #[.int .i64 r, .int .u8 (f : Int), .bool h]
theorem aggOpc : AggT Try.prog 47 11 := ⟨⟨_, Try.underlying47, rfl⟩, by kernel_rfl⟩
theorem aggOc : AggT Try.prog 45 3 := ⟨⟨_, Try.underlying45, rfl⟩, by kernel_rfl⟩
theorem aggPrA : AggT Try.prog 26 8 := ⟨⟨_, Try.underlying26, rfl⟩, by kernel_rfl⟩
theorem zeroOc : ZeroT Try.prog 45 (oc 0 0 false) := by unfold ZeroT; kernel_rfl
theorem oc_one (r : Int) (f : Nat) (h : Bool) : Ones (oc r f h) := by unfold Ones oc; simp [Value.oneCell']
/-- What an operation makes of its operands. -/
def Outc (op : Int) (x y nn : Nat) (q : Pr) (e : Ending) : Prop :=
  ∃ (r : Int) (f : Nat) (h : Bool), e = .returned (.agg (oc r f h)) ∧ r % 256 = (aluR op x y (if q.sh = true then y else x) nn : Nat) ∧ f ≤ 1 ∧ aluF op x y (if q.sh = true then y else x) q.lr = (if h = true then some f else none) ∧ -65536 < r ∧ r < 65536

theorem i64_small (n : Int) (h0 : 0 ≤ n) (h1 : n < 2 ^ 8) : IntKind.i64.wrap n = n := by rw [IntKind.wrap_i64]; omega
theorem bits_or8 {x y : Nat} (hx : x < 256) (hy : y < 256) : bits .or .i64 (x : Int) (y : Int) = ((x ||| y : Nat) : Int) := (bits_nat .i64 8 (by decide) i64_small x y hx hy).2
theorem bits_and8 {x y : Nat} (hx : x < 256) (hy : y < 256) : bits .and .i64 (x : Int) (y : Int) = ((x &&& y : Nat) : Int) := (bits_nat .i64 8 (by decide) i64_small x y hx hy).1
theorem bits_xor8 {x y : Nat} (hx : x < 256) (hy : y < 256) : bits .xor .i64 (x : Int) (y : Int) = ((x ^^^ y : Nat) : Int) := by
  have hx' : x % 2 ^ IntKind.i64.bits = x := Nat.mod_eq_of_lt (Nat.lt_of_lt_of_le hx (by decide))
  have hy' : y % 2 ^ IntKind.i64.bits = y := Nat.mod_eq_of_lt (Nat.lt_of_lt_of_le hy (by decide))
  simp only [bits, BitVec.ofInt_natCast, BitVec.toNat_xor, BitVec.toNat_ofNat, hx', hy']
  exact i64_small _ (Int.natCast_nonneg _) (by have := xor_lt hx hy; omega)
theorem bits_15 {n : Nat} (hn : n < 16) : bits .and .i64 (n : Int) 15 = (n : Int) := by
  have h := bits_mask .i64 8 (by decide) i64_small 4 (by decide) (n : Int) (by omega) (by omega)
  have e : ((2 : Int) ^ 4 - 1) = 15 := by decide
  rw [e] at h
  rw [h]
  have e2 : ((2 : Int) ^ 4) = 16 := by decide
  rw [e2]
  omega
theorem register_any (n : Nat) (hn : n < 16) (w : World) : Calls Try.prog 17 #[.int .i64 (n : Int)] w fun e w' => e = .returned (.int .i64 (n : Int)) ∧ w = w' := by
  have hb := bits_15 hn
  go_enter Try.func17, Try.ntmps17
  go_wp2_with fail
  go_ret
  exact ⟨rfl, rfl⟩
set_option maxHeartbeats 1000000 in
theorem flagged_any (r : Int) (b : Bool) (w : World) : Calls Try.prog 37 #[.int .i64 r, .bool b] w fun e w' => e = .returned (.agg (oc r (b2 b) true)) ∧ Below w.heap.size w w' := by
  cases b
  · go_enter Try.func37, Try.ntmps37
    go_wp2_with fail
    go_returns
    exact ⟨rfl, by go_grown⟩
  · go_enter Try.func37, Try.ntmps37
    go_wp2_with fail
    go_returns
    exact ⟨rfl, by go_grown⟩
set_option maxHeartbeats 1000000 in
theorem shifted_any (x y nn : Nat) (q : Pr) (w : World) : Calls Try.prog 38 #[.agg (opc x y nn q)] w fun e w' => e = .returned (.int .i64 ((if q.sh = true then y else x : Nat) : Int)) ∧ Below w.heap.size w w' := by
  obtain ⟨lv, sh, ki, jx, lr, cl, dw, fa⟩ := q
  unfold opc
  simp only
  cases sh
  · go_enter Try.func38, Try.ntmps38
    go_wp2_with fail
    go_ret
    exact ⟨rfl, by go_grown⟩
  · go_enter Try.func38, Try.ntmps38
    go_wp2_with fail
    go_ret
    exact ⟨rfl, by go_grown⟩
set_option maxHeartbeats 1000000 in
theorem logic_any (r : Int) (x y nn : Nat) (q : Pr) (w : World) : Calls Try.prog 36 #[.agg (opc x y nn q), .int .i64 r] w fun e w' => e = .returned (.agg (oc r 0 q.lr)) ∧ Below w.heap.size w w' := by
  obtain ⟨lv, sh, ki, jx, lr, cl, dw, fa⟩ := q
  unfold opc
  simp only
  go_enter Try.func36, Try.ntmps36
  go_wp2_with fail
  go_returns
  exact ⟨rfl, by go_grown⟩
set_option maxHeartbeats 1000000 in
theorem setNN_any (x y nn : Nat) (hx : x < 256) (hy : y < 256) (hn : nn < 256) (q : Pr) (w : World) : Calls Try.prog 21 #[.agg (opc x y nn q)] w fun e w' => Outc 8 x y nn q e ∧ Below w.heap.size w w' := by
  unfold opc
  go_enter Try.func21, Try.ntmps21
  go_wp2_with fail
  go_returns
  exact ⟨⟨_, 0, false, rfl, by unfold aluR; simp; omega, by omega, rfl, by omega, by omega⟩, by go_grown⟩
set_option maxHeartbeats 1000000 in
theorem addNN_any (x y nn : Nat) (hx : x < 256) (hy : y < 256) (hn : nn < 256) (q : Pr) (w : World) : Calls Try.prog 22 #[.agg (opc x y nn q)] w fun e w' => Outc 9 x y nn q e ∧ Below w.heap.size w w' := by
  unfold opc
  go_enter Try.func22, Try.ntmps22
  go_wp2_with fail
  go_returns
  exact ⟨⟨_, 0, false, rfl, by unfold aluR; simp, by omega, rfl, by omega, by omega⟩, by go_grown⟩
set_option maxHeartbeats 1000000 in
theorem move_any (x y nn : Nat) (hx : x < 256) (hy : y < 256) (hn : nn < 256) (q : Pr) (w : World) : Calls Try.prog 23 #[.agg (opc x y nn q)] w fun e w' => Outc 10 x y nn q e ∧ Below w.heap.size w w' := by
  unfold opc
  go_enter Try.func23, Try.ntmps23
  go_wp2_with fail
  go_returns
  exact ⟨⟨_, 0, false, rfl, by unfold aluR; simp; omega, by omega, rfl, by omega, by omega⟩, by go_grown⟩
set_option maxHeartbeats 2000000 in
theorem or_any (x y nn : Nat) (hx : x < 256) (hy : y < 256) (hn : nn < 256) (q : Pr) (w : World) : Calls Try.prog 24 #[.agg (opc x y nn q)] w fun e w' => Outc 11 x y nn q e ∧ Below w.heap.size w w' := by
  have hb := bits_or8 hx hy
  have H1 := Lib.hid ((Blk.new w 47 (opc x y nn q)).alloc (.cells (oc 0 0 false) 45))
  have H2 := Lib.hid (show Blk (w.heap.size + 1) 45 (oc 0 0 false) ((w.alloc (.cells (opc x y nn q) 47)).alloc (.cells (oc 0 0 false) 45)) from by
    have h := Blk.new (w.alloc (.cells (opc x y nn q) 47)) 45 (oc 0 0 false)
    rw [World.size_alloc] at h
    exact h)
  have B2 := Lib.hid (show Below w.heap.size w ((w.alloc (.cells (opc x y nn q) 47)).alloc (.cells (oc 0 0 false) 45)) from by go_grown)
  have HX := Lib.hid (And.intro hx (And.intro hy hn))
  go_enter Try.func24, Try.ntmps24
  go_upto_region 1 with fail
  show (Code.region _ _ _).wp _ _ _ ((w.alloc (.cells (opc x y nn q) 47)).alloc (.cells (oc 0 0 false) 45))
  generalize (w.alloc (.cells (opc x y nn q) 47)).alloc (.cells (oc 0 0 false) 45) = w1 at *
  have c0 : w1.cell? ⟨w.heap.size, 0, none⟩ = some (.int .i64 (x : Int)) := H1.out.cell 0
  have c1 : w1.cell? ⟨w.heap.size, 1, none⟩ = some (.int .i64 (y : Int)) := H1.out.cell 1
  refine wp_region_lit ?_
  refine list_load_all aggOpc H1.out rfl rfl (.tmp 1) rfl rfl ?_
  simp only [Act.put, List.setIfInBounds_toArray, List.set_cons_zero, List.set_cons_succ]
  clear hx hy hn
  go_wp2_with fail
  refine (logic_any ((x ||| y : Nat) : Int) x y nn q _).mono ?_
  rintro e w2 ⟨rfl, b1⟩
  have H2 := Lib.hid (H2.out.step b1)
  have B2 := Lib.hid (B2.out.trans (b1.mono B2.out.size))
  clear b1
  simp only []
  go_at_K
  iterate 1 go_step
  refine list_store_all aggOc H2.out rfl rfl (oc_one _ _ _) rfl (.tmp 2) (.tmp 9) rfl rfl rfl ?_
  simp only [Act.put, List.setIfInBounds_toArray, List.set_cons_zero, List.set_cons_succ]
  have R := Lib.hid (H2.out.store (oc ((x ||| y : Nat) : Int) 0 q.lr))
  have B := Lib.hid (belowRow' B2.out (by simp : w.heap.size ≤ w.heap.size + 1) (oc ((x ||| y : Nat) : Int) 0 q.lr))
  iterate 4 go_step
  refine bodyPost_ret (results_cell_row rfl _ _ (w.heap.size + 1) _ _ _ _ rfl R.out Try.underlying45 rfl aggOc.i) rfl ⟨⟨((x ||| y : Nat) : Int), 0, q.lr, rfl, ?_, ?_, ?_, ?_, ?_⟩, B.out⟩
  · have := or_lt HX.out.1 HX.out.2.1
    unfold aluR
    simp
    omega
  · omega
  · unfold aluF
    simp
  · omega
  · have := or_lt HX.out.1 HX.out.2.1
    omega
set_option maxHeartbeats 2000000 in
theorem and_any (x y nn : Nat) (hx : x < 256) (hy : y < 256) (hn : nn < 256) (q : Pr) (w : World) : Calls Try.prog 25 #[.agg (opc x y nn q)] w fun e w' => Outc 12 x y nn q e ∧ Below w.heap.size w w' := by
  have hb := bits_and8 hx hy
  have H1 := Lib.hid ((Blk.new w 47 (opc x y nn q)).alloc (.cells (oc 0 0 false) 45))
  have H2 := Lib.hid (show Blk (w.heap.size + 1) 45 (oc 0 0 false) ((w.alloc (.cells (opc x y nn q) 47)).alloc (.cells (oc 0 0 false) 45)) from by
    have h := Blk.new (w.alloc (.cells (opc x y nn q) 47)) 45 (oc 0 0 false)
    rw [World.size_alloc] at h
    exact h)
  have B2 := Lib.hid (show Below w.heap.size w ((w.alloc (.cells (opc x y nn q) 47)).alloc (.cells (oc 0 0 false) 45)) from by go_grown)
  have HX := Lib.hid (And.intro hx (And.intro hy hn))
  go_enter Try.func25, Try.ntmps25
  go_upto_region 1 with fail
  show (Code.region _ _ _).wp _ _ _ ((w.alloc (.cells (opc x y nn q) 47)).alloc (.cells (oc 0 0 false) 45))
  generalize (w.alloc (.cells (opc x y nn q) 47)).alloc (.cells (oc 0 0 false) 45) = w1 at *
  have c0 : w1.cell? ⟨w.heap.size, 0, none⟩ = some (.int .i64 (x : Int)) := H1.out.cell 0
  have c1 : w1.cell? ⟨w.heap.size, 1, none⟩ = some (.int .i64 (y : Int)) := H1.out.cell 1
  refine wp_region_lit ?_
  refine list_load_all aggOpc H1.out rfl rfl (.tmp 1) rfl rfl ?_
  simp only [Act.put, List.setIfInBounds_toArray, List.set_cons_zero, List.set_cons_succ]
  clear hx hy hn
  go_wp2_with fail
  refine (logic_any ((x &&& y : Nat) : Int) x y nn q _).mono ?_
  rintro e w2 ⟨rfl, b1⟩
  have H2 := Lib.hid (H2.out.step b1)
  have B2 := Lib.hid (B2.out.trans (b1.mono B2.out.size))
  clear b1
  simp only []
  go_at_K
  iterate 1 go_step
  refine list_store_all aggOc H2.out rfl rfl (oc_one _ _ _) rfl (.tmp 2) (.tmp 9) rfl rfl rfl ?_
  simp only [Act.put, List.setIfInBounds_toArray, List.set_cons_zero, List.set_cons_succ]
  have R := Lib.hid (H2.out.store (oc ((x &&& y : Nat) : Int) 0 q.lr))
  have B := Lib.hid (belowRow' B2.out (by simp : w.heap.size ≤ w.heap.size + 1) (oc ((x &&& y : Nat) : Int) 0 q.lr))
  iterate 4 go_step
  refine bodyPost_ret (results_cell_row rfl _ _ (w.heap.size + 1) _ _ _ _ rfl R.out Try.underlying45 rfl aggOc.i) rfl ⟨⟨((x &&& y : Nat) : Int), 0, q.lr, rfl, ?_, ?_, ?_, ?_, ?_⟩, B.out⟩
  · have := and_lt HX.out.1 HX.out.2.1
    unfold aluR
    simp
    omega
  · omega
  · unfold aluF
    simp
  · omega
  · have := and_lt HX.out.1 HX.out.2.1
    omega
set_option maxHeartbeats 2000000 in
theorem xor_any (x y nn : Nat) (hx : x < 256) (hy : y < 256) (hn : nn < 256) (q : Pr) (w : World) : Calls Try.prog 26 #[.agg (opc x y nn q)] w fun e w' => Outc 13 x y nn q e ∧ Below w.heap.size w w' := by
  have hb := bits_xor8 hx hy
  have H1 := Lib.hid ((Blk.new w 47 (opc x y nn q)).alloc (.cells (oc 0 0 false) 45))
  have H2 := Lib.hid (show Blk (w.heap.size + 1) 45 (oc 0 0 false) ((w.alloc (.cells (opc x y nn q) 47)).alloc (.cells (oc 0 0 false) 45)) from by
    have h := Blk.new (w.alloc (.cells (opc x y nn q) 47)) 45 (oc 0 0 false)
    rw [World.size_alloc] at h
    exact h)
  have B2 := Lib.hid (show Below w.heap.size w ((w.alloc (.cells (opc x y nn q) 47)).alloc (.cells (oc 0 0 false) 45)) from by go_grown)
  have HX := Lib.hid (And.intro hx (And.intro hy hn))
  go_enter Try.func26, Try.ntmps26
  go_upto_region 1 with fail
  show (Code.region _ _ _).wp _ _ _ ((w.alloc (.cells (opc x y nn q) 47)).alloc (.cells (oc 0 0 false) 45))
  generalize (w.alloc (.cells (opc x y nn q) 47)).alloc (.cells (oc 0 0 false) 45) = w1 at *
  have c0 : w1.cell? ⟨w.heap.size, 0, none⟩ = some (.int .i64 (x : Int)) := H1.out.cell 0
  have c1 : w1.cell? ⟨w.heap.size, 1, none⟩ = some (.int .i64 (y : Int)) := H1.out.cell 1
  refine wp_region_lit ?_
  refine list_load_all aggOpc H1.out rfl rfl (.tmp 1) rfl rfl ?_
  simp only [Act.put, List.setIfInBounds_toArray, List.set_cons_zero, List.set_cons_succ]
  clear hx hy hn
  go_wp2_with fail
  refine (logic_any ((x ^^^ y : Nat) : Int) x y nn q _).mono ?_
  rintro e w2 ⟨rfl, b1⟩
  have H2 := Lib.hid (H2.out.step b1)
  have B2 := Lib.hid (B2.out.trans (b1.mono B2.out.size))
  clear b1
  simp only []
  go_at_K
  iterate 1 go_step
  refine list_store_all aggOc H2.out rfl rfl (oc_one _ _ _) rfl (.tmp 2) (.tmp 9) rfl rfl rfl ?_
  simp only [Act.put, List.setIfInBounds_toArray, List.set_cons_zero, List.set_cons_succ]
  have R := Lib.hid (H2.out.store (oc ((x ^^^ y : Nat) : Int) 0 q.lr))
  have B := Lib.hid (belowRow' B2.out (by simp : w.heap.size ≤ w.heap.size + 1) (oc ((x ^^^ y : Nat) : Int) 0 q.lr))
  iterate 4 go_step
  refine bodyPost_ret (results_cell_row rfl _ _ (w.heap.size + 1) _ _ _ _ rfl R.out Try.underlying45 rfl aggOc.i) rfl ⟨⟨((x ^^^ y : Nat) : Int), 0, q.lr, rfl, ?_, ?_, ?_, ?_, ?_⟩, B.out⟩
  · have := xor_lt HX.out.1 HX.out.2.1
    unfold aluR
    simp
    omega
  · omega
  · unfold aluF
    simp
  · omega
  · have := xor_lt HX.out.1 HX.out.2.1
    omega
set_option maxHeartbeats 2000000 in
theorem add_any (x y nn : Nat) (hx : x < 256) (hy : y < 256) (hn : nn < 256) (q : Pr) (w : World) : Calls Try.prog 27 #[.agg (opc x y nn q)] w fun e w' => Outc 14 x y nn q e ∧ Below w.heap.size w w' := by
  have H1 := Lib.hid ((Blk.new w 47 (opc x y nn q)).alloc (.cells (oc 0 0 false) 45))
  have H2 := Lib.hid (show Blk (w.heap.size + 1) 45 (oc 0 0 false) ((w.alloc (.cells (opc x y nn q) 47)).alloc (.cells (oc 0 0 false) 45)) from by
    have h := Blk.new (w.alloc (.cells (opc x y nn q) 47)) 45 (oc 0 0 false)
    rw [World.size_alloc] at h
    exact h)
  have B2 := Lib.hid (show Below w.heap.size w ((w.alloc (.cells (opc x y nn q) 47)).alloc (.cells (oc 0 0 false) 45)) from by go_grown)
  have HX := Lib.hid (And.intro hx (And.intro hy hn))
  go_enter Try.func27, Try.ntmps27
  go_upto_region 1 with fail
  show (Code.region _ _ _).wp _ _ _ ((w.alloc (.cells (opc x y nn q) 47)).alloc (.cells (oc 0 0 false) 45))
  generalize (w.alloc (.cells (opc x y nn q) 47)).alloc (.cells (oc 0 0 false) 45) = w1 at *
  have c0 : w1.cell? ⟨w.heap.size, 0, none⟩ = some (.int .i64 (x : Int)) := H1.out.cell 0
  have c1 : w1.cell? ⟨w.heap.size, 1, none⟩ = some (.int .i64 (y : Int)) := H1.out.cell 1
  obtain ⟨X, eX⟩ : ∃ X : Int, (x : Int) = X := ⟨_, rfl⟩
  obtain ⟨Y, eY⟩ : ∃ Y : Int, (y : Int) = Y := ⟨_, rfl⟩
  rw [eX] at c0
  rw [eY] at c1
  have X0 : 0 ≤ X := by omega
  have X1 : X ≤ 255 := by omega
  have Y0 : 0 ≤ Y := by omega
  have Y1 : Y ≤ 255 := by omega
  have EX := Lib.hid (And.intro eX eY)
  clear eX eY hx hy hn
  go_wp2_with fail
  refine (flagged_any (X + Y) (decide (255 < X + Y)) _).mono ?_
  rintro e w2 ⟨rfl, b1⟩
  have H2 := Lib.hid (H2.out.step b1)
  have B2 := Lib.hid (B2.out.trans (b1.mono B2.out.size))
  clear b1
  clear c0 c1 H1 X0 X1 Y0 Y1
  simp only []
  go_at_K
  iterate 1 go_step
  refine list_store_all aggOc H2.out rfl rfl (oc_one _ _ _) rfl (.tmp 2) (.tmp 12) rfl rfl rfl ?_
  simp only [Act.put, List.setIfInBounds_toArray, List.set_cons_zero, List.set_cons_succ]
  have R := Lib.hid (H2.out.store (oc (X + Y) (b2 (decide (255 < X + Y))) true))
  have B := Lib.hid (belowRow' B2.out (by simp : w.heap.size ≤ w.heap.size + 1) (oc (X + Y) (b2 (decide (255 < X + Y))) true))
  iterate 4 go_step
  refine bodyPost_ret (results_cell_row rfl _ _ (w.heap.size + 1) _ _ _ _ rfl R.out Try.underlying45 rfl aggOc.i) rfl ⟨⟨(X + Y), (b2 (decide (255 < X + Y))), true, rfl, ?_, ?_, ?_, ?_, ?_⟩, B.out⟩
  all_goals clear R B
  all_goals have HY := HX.out
  all_goals obtain ⟨rfl, rfl⟩ := EX.out
  · unfold aluR
    first | (simp; done) | (simp; omega)
  · exact b2_le _
  · unfold aluF
    first | (simp [b2]; done) | (simp [b2]; split <;> first | omega | (split <;> omega))
  · omega
  · omega
set_option maxHeartbeats 2000000 in
theorem sub_any (x y nn : Nat) (hx : x < 256) (hy : y < 256) (hn : nn < 256) (q : Pr) (w : World) : Calls Try.prog 28 #[.agg (opc x y nn q)] w fun e w' => Outc 15 x y nn q e ∧ Below w.heap.size w w' := by
  have H1 := Lib.hid ((Blk.new w 47 (opc x y nn q)).alloc (.cells (oc 0 0 false) 45))
  have H2 := Lib.hid (show Blk (w.heap.size + 1) 45 (oc 0 0 false) ((w.alloc (.cells (opc x y nn q) 47)).alloc (.cells (oc 0 0 false) 45)) from by
    have h := Blk.new (w.alloc (.cells (opc x y nn q) 47)) 45 (oc 0 0 false)
    rw [World.size_alloc] at h
    exact h)
  have B2 := Lib.hid (show Below w.heap.size w ((w.alloc (.cells (opc x y nn q) 47)).alloc (.cells (oc 0 0 false) 45)) from by go_grown)
  have HX := Lib.hid (And.intro hx (And.intro hy hn))
  go_enter Try.func28, Try.ntmps28
  go_upto_region 1 with fail
  show (Code.region _ _ _).wp _ _ _ ((w.alloc (.cells (opc x y nn q) 47)).alloc (.cells (oc 0 0 false) 45))
  generalize (w.alloc (.cells (opc x y nn q) 47)).alloc (.cells (oc 0 0 false) 45) = w1 at *
  have c0 : w1.cell? ⟨w.heap.size, 0, none⟩ = some (.int .i64 (x : Int)) := H1.out.cell 0
  have c1 : w1.cell? ⟨w.heap.size, 1, none⟩ = some (.int .i64 (y : Int)) := H1.out.cell 1
  obtain ⟨X, eX⟩ : ∃ X : Int, (x : Int) = X := ⟨_, rfl⟩
  obtain ⟨Y, eY⟩ : ∃ Y : Int, (y : Int) = Y := ⟨_, rfl⟩
  rw [eX] at c0
  rw [eY] at c1
  have X0 : 0 ≤ X := by omega
  have X1 : X ≤ 255 := by omega
  have Y0 : 0 ≤ Y := by omega
  have Y1 : Y ≤ 255 := by omega
  have EX := Lib.hid (And.intro eX eY)
  clear eX eY hx hy hn
  go_wp2_with fail
  refine (flagged_any (X - Y) (decide (Y ≤ X)) _).mono ?_
  rintro e w2 ⟨rfl, b1⟩
  have H2 := Lib.hid (H2.out.step b1)
  have B2 := Lib.hid (B2.out.trans (b1.mono B2.out.size))
  clear b1
  clear c0 c1 H1 X0 X1 Y0 Y1
  simp only []
  go_at_K
  iterate 1 go_step
  refine list_store_all aggOc H2.out rfl rfl (oc_one _ _ _) rfl (.tmp 2) (.tmp 13) rfl rfl rfl ?_
  simp only [Act.put, List.setIfInBounds_toArray, List.set_cons_zero, List.set_cons_succ]
  have R := Lib.hid (H2.out.store (oc (X - Y) (b2 (decide (Y ≤ X))) true))
  have B := Lib.hid (belowRow' B2.out (by simp : w.heap.size ≤ w.heap.size + 1) (oc (X - Y) (b2 (decide (Y ≤ X))) true))
  iterate 4 go_step
  refine bodyPost_ret (results_cell_row rfl _ _ (w.heap.size + 1) _ _ _ _ rfl R.out Try.underlying45 rfl aggOc.i) rfl ⟨⟨(X - Y), (b2 (decide (Y ≤ X))), true, rfl, ?_, ?_, ?_, ?_, ?_⟩, B.out⟩
  all_goals clear R B
  all_goals have HY := HX.out
  all_goals obtain ⟨rfl, rfl⟩ := EX.out
  · unfold aluR
    first | (simp; done) | (simp; omega)
  · exact b2_le _
  · unfold aluF
    first | (simp [b2]; done) | (simp [b2]; split <;> first | omega | (split <;> omega))
  · omega
  · omega
set_option maxHeartbeats 2000000 in
theorem subFrom_any (x y nn : Nat) (hx : x < 256) (hy : y < 256) (hn : nn < 256) (q : Pr) (w : World) : Calls Try.prog 29 #[.agg (opc x y nn q)] w fun e w' => Outc 17 x y nn q e ∧ Below w.heap.size w w' := by
  have H1 := Lib.hid ((Blk.new w 47 (opc x y nn q)).alloc (.cells (oc 0 0 false) 45))
  have H2 := Lib.hid (show Blk (w.heap.size + 1) 45 (oc 0 0 false) ((w.alloc (.cells (opc x y nn q) 47)).alloc (.cells (oc 0 0 false) 45)) from by
    have h := Blk.new (w.alloc (.cells (opc x y nn q) 47)) 45 (oc 0 0 false)
    rw [World.size_alloc] at h
    exact h)
  have B2 := Lib.hid (show Below w.heap.size w ((w.alloc (.cells (opc x y nn q) 47)).alloc (.cells (oc 0 0 false) 45)) from by go_grown)
  have HX := Lib.hid (And.intro hx (And.intro hy hn))
  go_enter Try.func29, Try.ntmps29
  go_upto_region 1 with fail
  show (Code.region _ _ _).wp _ _ _ ((w.alloc (.cells (opc x y nn q) 47)).alloc (.cells (oc 0 0 false) 45))
  generalize (w.alloc (.cells (opc x y nn q) 47)).alloc (.cells (oc 0 0 false) 45) = w1 at *
  have c0 : w1.cell? ⟨w.heap.size, 0, none⟩ = some (.int .i64 (x : Int)) := H1.out.cell 0
  have c1 : w1.cell? ⟨w.heap.size, 1, none⟩ = some (.int .i64 (y : Int)) := H1.out.cell 1
  obtain ⟨X, eX⟩ : ∃ X : Int, (x : Int) = X := ⟨_, rfl⟩
  obtain ⟨Y, eY⟩ : ∃ Y : Int, (y : Int) = Y := ⟨_, rfl⟩
  rw [eX] at c0
  rw [eY] at c1
  have X0 : 0 ≤ X := by omega
  have X1 : X ≤ 255 := by omega
  have Y0 : 0 ≤ Y := by omega
  have Y1 : Y ≤ 255 := by omega
  have EX := Lib.hid (And.intro eX eY)
  clear eX eY hx hy hn
  go_wp2_with fail
  refine (flagged_any (Y - X) (decide (X ≤ Y)) _).mono ?_
  rintro e w2 ⟨rfl, b1⟩
  have H2 := Lib.hid (H2.out.step b1)
  have B2 := Lib.hid (B2.out.trans (b1.mono B2.out.size))
  clear b1
  clear c0 c1 H1 X0 X1 Y0 Y1
  simp only []
  go_at_K
  iterate 1 go_step
  refine list_store_all aggOc H2.out rfl rfl (oc_one _ _ _) rfl (.tmp 2) (.tmp 13) rfl rfl rfl ?_
  simp only [Act.put, List.setIfInBounds_toArray, List.set_cons_zero, List.set_cons_succ]
  have R := Lib.hid (H2.out.store (oc (Y - X) (b2 (decide (X ≤ Y))) true))
  have B := Lib.hid (belowRow' B2.out (by simp : w.heap.size ≤ w.heap.size + 1) (oc (Y - X) (b2 (decide (X ≤ Y))) true))
  iterate 4 go_step
  refine bodyPost_ret (results_cell_row rfl _ _ (w.heap.size + 1) _ _ _ _ rfl R.out Try.underlying45 rfl aggOc.i) rfl ⟨⟨(Y - X), (b2 (decide (X ≤ Y))), true, rfl, ?_, ?_, ?_, ?_, ?_⟩, B.out⟩
  all_goals clear R B
  all_goals have HY := HX.out
  all_goals obtain ⟨rfl, rfl⟩ := EX.out
  · unfold aluR
    first | (simp; done) | (simp; omega)
  · exact b2_le _
  · unfold aluF
    first | (simp [b2]; done) | (simp [b2]; split <;> first | omega | (split <;> omega))
  · omega
  · omega
set_option maxHeartbeats 2000000 in
theorem shiftRight_any (x y nn : Nat) (hx : x < 256) (hy : y < 256) (hn : nn < 256) (q : Pr) (w : World) : Calls Try.prog 30 #[.agg (opc x y nn q)] w fun e w' => Outc 16 x y nn q e ∧ Below w.heap.size w w' := by
  have H1 := Lib.hid ((Blk.new w 47 (opc x y nn q)).alloc (.cells (oc 0 0 false) 45))
  have H2 := Lib.hid (show Blk (w.heap.size + 1) 45 (oc 0 0 false) ((w.alloc (.cells (opc x y nn q) 47)).alloc (.cells (oc 0 0 false) 45)) from by
    have h := Blk.new (w.alloc (.cells (opc x y nn q) 47)) 45 (oc 0 0 false)
    rw [World.size_alloc] at h
    exact h)
  have B2 := Lib.hid (show Below w.heap.size w ((w.alloc (.cells (opc x y nn q) 47)).alloc (.cells (oc 0 0 false) 45)) from by go_grown)
  have HX := Lib.hid (And.intro hx (And.intro hy hn))
  go_enter Try.func30, Try.ntmps30
  go_upto_region 1 with fail
  show (Code.region _ _ _).wp _ _ _ ((w.alloc (.cells (opc x y nn q) 47)).alloc (.cells (oc 0 0 false) 45))
  generalize (w.alloc (.cells (opc x y nn q) 47)).alloc (.cells (oc 0 0 false) 45) = w1 at *
  have c0 : w1.cell? ⟨w.heap.size, 0, none⟩ = some (.int .i64 (x : Int)) := H1.out.cell 0
  have c1 : w1.cell? ⟨w.heap.size, 1, none⟩ = some (.int .i64 (y : Int)) := H1.out.cell 1
  refine wp_region_lit ?_
  refine list_load_all aggOpc H1.out rfl rfl (.tmp 1) rfl rfl ?_
  simp only [Act.put, List.setIfInBounds_toArray, List.set_cons_zero, List.set_cons_succ]
  go_wp2_with fail
  refine (shifted_any x y nn q _).mono ?_
  rintro e w2 ⟨rfl, b1⟩
  have H2 := Lib.hid (H2.out.step b1)
  have B2 := Lib.hid (B2.out.trans (b1.mono B2.out.size))
  clear b1
  clear c0 c1 H1
  obtain ⟨s, hs⟩ : ∃ s, (if q.sh = true then y else x) = s := ⟨_, rfl⟩
  have S8 := Lib.hid (show s < 256 by rw [← hs]; split; exact hy; exact hx)
  have s8 := S8.out
  have HS := Lib.hid hs
  rw [hs]
  clear hs hx hy hn
  go_wp2_with fail
  refine (flagged_any ((s : Int) / 2) (decide ((s : Int) % 2 = 1)) _).mono ?_
  rintro e w2 ⟨rfl, b1⟩
  have H2 := Lib.hid (H2.out.step b1)
  have B2 := Lib.hid (B2.out.trans (b1.mono B2.out.size))
  clear b1
  simp only []
  go_at_K
  iterate 1 go_step
  refine list_store_all aggOc H2.out rfl rfl (oc_one _ _ _) rfl (.tmp 2) (.tmp 11) rfl rfl rfl ?_
  simp only [Act.put, List.setIfInBounds_toArray, List.set_cons_zero, List.set_cons_succ]
  have R := Lib.hid (H2.out.store (oc ((s : Int) / 2) (b2 (decide ((s : Int) % 2 = 1))) true))
  have B := Lib.hid (belowRow' B2.out (by simp : w.heap.size ≤ w.heap.size + 1) (oc ((s : Int) / 2) (b2 (decide ((s : Int) % 2 = 1))) true))
  iterate 4 go_step
  refine bodyPost_ret (results_cell_row rfl _ _ (w.heap.size + 1) _ _ _ _ rfl R.out Try.underlying45 rfl aggOc.i) rfl ⟨⟨((s : Int) / 2), (b2 (decide ((s : Int) % 2 = 1))), true, rfl, ?_, ?_, ?_, ?_, ?_⟩, B.out⟩
  all_goals clear R B
  all_goals try rw [HS.out]
  all_goals have := S8.out
  · unfold aluR
    first | (simp; done) | (simp; omega)
  · exact b2_le _
  · unfold aluF
    first | (simp [b2]; done) | (simp [b2]; split <;> first | omega | (split <;> omega))
  · omega
  · omega
set_option maxHeartbeats 2000000 in
theorem shiftLeft_any (x y nn : Nat) (hx : x < 256) (hy : y < 256) (hn : nn < 256) (q : Pr) (w : World) : Calls Try.prog 31 #[.agg (opc x y nn q)] w fun e w' => Outc 18 x y nn q e ∧ Below w.heap.size w w' := by
  have H1 := Lib.hid ((Blk.new w 47 (opc x y nn q)).alloc (.cells (oc 0 0 false) 45))
  have H2 := Lib.hid (show Blk (w.heap.size + 1) 45 (oc 0 0 false) ((w.alloc (.cells (opc x y nn q) 47)).alloc (.cells (oc 0 0 false) 45)) from by
    have h := Blk.new (w.alloc (.cells (opc x y nn q) 47)) 45 (oc 0 0 false)
    rw [World.size_alloc] at h
    exact h)
  have B2 := Lib.hid (show Below w.heap.size w ((w.alloc (.cells (opc x y nn q) 47)).alloc (.cells (oc 0 0 false) 45)) from by go_grown)
  have HX := Lib.hid (And.intro hx (And.intro hy hn))
  go_enter Try.func31, Try.ntmps31
  go_upto_region 1 with fail
  show (Code.region _ _ _).wp _ _ _ ((w.alloc (.cells (opc x y nn q) 47)).alloc (.cells (oc 0 0 false) 45))
  generalize (w.alloc (.cells (opc x y nn q) 47)).alloc (.cells (oc 0 0 false) 45) = w1 at *
  have c0 : w1.cell? ⟨w.heap.size, 0, none⟩ = some (.int .i64 (x : Int)) := H1.out.cell 0
  have c1 : w1.cell? ⟨w.heap.size, 1, none⟩ = some (.int .i64 (y : Int)) := H1.out.cell 1
  refine wp_region_lit ?_
  refine list_load_all aggOpc H1.out rfl rfl (.tmp 1) rfl rfl ?_
  simp only [Act.put, List.setIfInBounds_toArray, List.set_cons_zero, List.set_cons_succ]
  go_wp2_with fail
  refine (shifted_any x y nn q _).mono ?_
  rintro e w2 ⟨rfl, b1⟩
  have H2 := Lib.hid (H2.out.step b1)
  have B2 := Lib.hid (B2.out.trans (b1.mono B2.out.size))
  clear b1
  clear c0 c1 H1
  obtain ⟨s, hs⟩ : ∃ s, (if q.sh = true then y else x) = s := ⟨_, rfl⟩
  have S8 := Lib.hid (show s < 256 by rw [← hs]; split; exact hy; exact hx)
  have s8 := S8.out
  have HS := Lib.hid hs
  rw [hs]
  clear hs hx hy hn
  go_wp2_with fail
  refine (flagged_any ((s : Int) * 2) (decide (128 ≤ (s : Int))) _).mono ?_
  rintro e w2 ⟨rfl, b1⟩
  have H2 := Lib.hid (H2.out.step b1)
  have B2 := Lib.hid (B2.out.trans (b1.mono B2.out.size))
  clear b1
  simp only []
  go_at_K
  iterate 1 go_step
  refine list_store_all aggOc H2.out rfl rfl (oc_one _ _ _) rfl (.tmp 2) (.tmp 10) rfl rfl rfl ?_
  simp only [Act.put, List.setIfInBounds_toArray, List.set_cons_zero, List.set_cons_succ]
  have R := Lib.hid (H2.out.store (oc ((s : Int) * 2) (b2 (decide (128 ≤ (s : Int)))) true))
  have B := Lib.hid (belowRow' B2.out (by simp : w.heap.size ≤ w.heap.size + 1) (oc ((s : Int) * 2) (b2 (decide (128 ≤ (s : Int)))) true))
  iterate 4 go_step
  refine bodyPost_ret (results_cell_row rfl _ _ (w.heap.size + 1) _ _ _ _ rfl R.out Try.underlying45 rfl aggOc.i) rfl ⟨⟨((s : Int) * 2), (b2 (decide (128 ≤ (s : Int)))), true, rfl, ?_, ?_, ?_, ?_, ?_⟩, B.out⟩
  all_goals clear R B
  all_goals try rw [HS.out]
  all_goals have := S8.out
  · unfold aluR
    first | (simp; done) | (simp; omega)
  · exact b2_le _
  · unfold aluF
    first | (simp [b2]; done) | (simp [b2]; split <;> first | omega | (split <;> omega))
  · omega
  · omega
end Go.Proofs.Ytfjdhhheofcanaa
