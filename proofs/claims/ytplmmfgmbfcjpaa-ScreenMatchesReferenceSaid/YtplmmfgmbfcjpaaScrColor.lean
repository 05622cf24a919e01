/- Contract of screen.Color. -/
import Derived.Test.YtplmmfgmbfcjpaaScrIter
namespace Go.Proofs.Ytplmmfgmbfcjpaa
open Go.RowKit Num
set_option linter.unusedVariables false
set_option linter.unusedSimpArgs false

/-- The color of the first k planes. -/
def colTo (f : Nat → Bool) : Nat → Nat
  | 0 => 0
  | k + 1 => colTo f k ||| (if f k then 2 ^ k else 0)
theorem col_step (f : Nat → Bool) (k : Nat) : colTo f (k + 1) = colTo f k ||| (if f k then 2 ^ k else 0) := rfl
theorem col_le (f : Nat → Bool) (k : Nat) (hk : k ≤ 4) : colTo f k ≤ 15 := by
  have e : ∀ b0 b1 b2 b3 : Bool, ∀ k, k ≤ 4 → colTo (fun i => if i = 0 then b0 else if i = 1 then b1 else if i = 2 then b2 else b3) k ≤ 15 := by
    intro b0 b1 b2 b3 k hk
    rcases (show k = 0 ∨ k = 1 ∨ k = 2 ∨ k = 3 ∨ k = 4 by omega) with rfl | rfl | rfl | rfl | rfl <;> revert b0 b1 b2 b3 <;> decide
  have c : ∀ k, k ≤ 4 → colTo f k = colTo (fun i => if i = 0 then f 0 else if i = 1 then f 1 else if i = 2 then f 2 else f 3) k := by
    intro k hk
    rcases (show k = 0 ∨ k = 1 ∨ k = 2 ∨ k = 3 ∨ k = 4 by omega) with rfl | rfl | rfl | rfl | rfl <;> rfl
  rw [c k hk]
  exact e _ _ _ _ k hk
theorem col_on (f : Nat → Bool) (i : Nat) (hi : i < 4) : onB (colTo f 4) i = f i := by
  have e : ∀ b0 b1 b2 b3 : Bool, ∀ i, i < 4 → onB (colTo (fun i => if i = 0 then b0 else if i = 1 then b1 else if i = 2 then b2 else b3) 4) i = (if i = 0 then b0 else if i = 1 then b1 else if i = 2 then b2 else b3) := by
    intro b0 b1 b2 b3 i hi
    rcases (show i = 0 ∨ i = 1 ∨ i = 2 ∨ i = 3 by omega) with rfl | rfl | rfl | rfl <;> revert b0 b1 b2 b3 <;> decide
  have h := e (f 0) (f 1) (f 2) (f 3) i hi
  rw [show colTo f 4 = colTo (fun i => if i = 0 then f 0 else if i = 1 then f 1 else if i = 2 then f 2 else f 3) 4 from rfl, h]
  rcases (show i = 0 ∨ i = 1 ∨ i = 2 ∨ i = 3 by omega) with rfl | rfl | rfl | rfl <;> rfl
theorem or_nat (a b : Nat) (ha : a ≤ 15) (hb : b ≤ 15) : bits .or .i64 (a : Int) (b : Int) = ((a ||| b : Nat) : Int) := by
  have e : ∀ a b : Fin 16, bits .or .i64 (a.val : Int) (b.val : Int) = ((a.val ||| b.val : Nat) : Int) := by decide +kernel
  exact e ⟨a, by omega⟩ ⟨b, by omega⟩
theorem shl_nat (k : Nat) (hk : k < 4) : ∃ p : Nat, wrap64 (2 ^ k) = (p : Int) ∧ p = 2 ^ k ∧ p ≤ 15 := by
  refine ⟨2 ^ k, ?_, rfl, ?_⟩ <;> rcases (show k = 0 ∨ k = 1 ∨ k = 2 ∨ k = 3 by omega) with rfl | rfl | rfl | rfl <;> first | decide | (unfold wrap64; decide) | (simp [wrap64]; done)
theorem index_plane (P : Nat → Pl) (k : Nat) (hk : k < 4) (w : World) : (Instr.index 30 (.agg (qcells P)) (.int .i64 (k : Int))).run Try.prog w = .ok (.agg (pcells (P k))) w := by
  have hn : (0 : Int) ≤ (k : Int) ∧ (k : Int) < ((4 : Nat) : Int) := by omega
  have hs := aggPl.i
  have hp := run_part_agg (P := Try.prog) 29 _ (qcells P) (k * 128) 128 w rfl Try.underlying29 hs
  rw [q_plane P k hk] at hp
  cases hq : Try.prog.info? 29 with
  | none => rw [hq] at hs; cases hs
  | some i =>
    have hs : i.size = 128 := by simpa [hq] using hs
    generalize qcells P = Q at *
    simp [Instr.index, run_underlying Try.underlying30, asIntOf, hn, go_sem, sizeOf, typeInfo, hq, hs, hp]
    rw [if_pos hk]
    have h2 := hp
    simp [part, Sem.run_bind, isAgg, run_underlying Try.underlying29, sizeOf, typeInfo, hq, hs] at h2
    rw [h2]
theorem exec_indexP {o : Oper} {ρ : Operand → Value} {P : Nat → Pl} {k : Nat} (hk : k < 4) (w : World) (x y : Operand) (ho : o.op = .index 30 x y) (hx : ρ x = .agg (qcells P)) (hy : ρ y = .int .i64 (k : Int)) : (execOp ρ o).run Try.prog w = .ok (.value (.agg (pcells (P k)))) w := by
  unfold execOp
  simp only [ho, hx, hy]
  rw [Sem.run_bind, index_plane P k hk w, Result.andThen_ok, Sem.run_pure]
set_option maxRecDepth 100000 in
set_option maxHeartbeats 4000000 in
theorem color8_any (S : Sc) (x y : Int) (x0 : -9223372036854775808 ≤ x) (x1 : x ≤ 9223372036854775807) (y0 : -9223372036854775808 ≤ y) (y1 : y ≤ 9223372036854775807) (w : World) :
    Calls Try.prog 22 #[.agg (scells S), .int .i64 x, .int .i64 y] w fun e w' => e = .returned (.int .i64 (colTo (fun i => pget (S.P i) x y) 4 : Nat)) ∧ Below w.heap.size w w' := by
  obtain ⟨f, hf⟩ : ∃ f : Nat → Bool, (fun i => pget (S.P i) x y) = f := ⟨_, rfl⟩
  rw [hf]
  have PX := Lib.hid fun (i : Nat) (w : World) => pxW (show pget (S.P i) x y = f i by rw [← hf]) x0 x1 y0 y1 w
  clear hf x0 x1 y0 y1
  obtain ⟨Z, hZ⟩ : ∃ Z, colTo f 4 = Z := ⟨_, rfl⟩
  rw [hZ]
  have ZZ := Lib.hid hZ
  clear hZ
  go_enter Try.func22, Try.ntmps22
  go_upto_region 2 with fail
  refine wp_region_lit ?_
  have S0 := Lib.hid (SB.new w S)
  have B0 := Lib.hid (below_new w (.cells (scells S) 32))
  generalize w.alloc (.cells (scells S) 32) = w1 at *
  iterate 3 go_step
  refine list_load_part (o := 0) (n := 512) aggPls S0.out (by rw [scells_size]; omega) rfl (.tmp 10) rfl (by simp [Act.eval]) ?_
  rw [sc_planes]
  simp only [Act.put, List.setIfInBounds_toArray, List.set_cons_zero, List.set_cons_succ]
  go_wp2
  obtain ⟨QC, hQC⟩ : ∃ QC, QC = qcells S.P := ⟨_, rfl⟩
  rw [← hQC]
  have HQ := Lib.hid hQC
  clear hQC
  go_loopw [7, 12] (fun c i wr => ∃ k X : Nat, k ≤ 4 ∧ c = .int .i64 (X : Int) ∧ i = .int .i64 (k : Int) ∧ X = colTo f k ∧ Below w.heap.size w wr) (fun _ i _ => 4 - (intOf i).toNat)
  case atStart => exact ⟨0, 0, by omega, rfl, rfl, rfl, B0.out⟩
  case round =>
    clear S0 B0
    obtain ⟨k, X, hk, rfl, rfl, hX, hB⟩ := hrel
    have Q := Lib.hid (And.intro hX hB)
    have X1 := col_le f k hk
    rw [← hX] at X1
    clear hX hB
    by_cases hlt : k < 4
    · have kI : (k : Int) < 4 := by omega
      obtain ⟨p, p1, p2, p3⟩ := shl_nat k hlt
      go_upto_region 4 with fail
      refine wp_region_lit ?_
      iterate 3 go_step
      refine list_run rfl (.agg (pcells (S.P k))) (exec_indexP hlt _ (.tmp 11) (.tmp 12) rfl (by simp [Act.eval, HQ.out]) (by simp [Act.eval])) ?_
      simp only [Act.put, List.setIfInBounds_toArray, List.set_cons_zero, List.set_cons_succ]
      obtain ⟨v, hv⟩ : ∃ v, f k = v := ⟨_, rfl⟩
      have V := Lib.hid (And.intro hv p2)
      have PK := Lib.hid fun w => hv ▸ PX.out k w
      clear hv p2
      obtain ⟨A, hA⟩ : ∃ A, S.P k = A := ⟨_, rfl⟩
      rw [hA] at PK ⊢
      clear hA
      have or1 := or_nat X p X1 p3
      obtain ⟨Y, hY⟩ : ∃ Y, X ||| p = Y := ⟨_, rfl⟩
      rw [hY] at or1
      have YY := Lib.hid hY
      clear hY
      refine wpList_plain rfl fun K hK => wp_alloc zeroPl rfl (hK _ _ ?_)
      clear hK K
      simp only [Act.put, List.setIfInBounds_toArray, List.set_cons_zero, List.set_cons_succ]
      iterate 3 go_step
      refine list_store_all (ds := pcells A) aggPl (Blk.new wr 29 _) (pcells_size _) (pcells_size _) (pcells_one _) rfl (.tmp 9) (.tmp 15) rfl (by simp [Act.eval, Act.put]) (by simp [Act.eval, Act.put]) ?_
      rw [setRow_fresh]
      simp only [Act.put, List.setIfInBounds_toArray, List.set_cons_zero, List.set_cons_succ]
      have A1 := Lib.hid (PBox.new wr A 29)
      have Q1 := Lib.hid (Q.out.2.alloc Q.out.2.size (.cells (pcells A) 29))
      generalize wr.alloc (.cells (pcells A) 29) = w3 at *
      go_upto_region 5 with fail
      refine wp_region_lit ?_
      refine list_plane A1.out rfl (.tmp 9) rfl (by simp [Act.eval]) ?_
      simp only [Act.put, List.setIfInBounds_toArray, List.set_cons_zero, List.set_cons_succ]
      go_wp2_with fail
      refine (PK.out _).mono ?_
      rintro e w4 ⟨rfl, b4⟩
      have Q2 := Lib.hid (Q1.out.trans (b4.mono Q1.out.size))
      clear b4 Q1 A1
      cases v
      · go_wp2
        go_roundw
        case rel => exact ⟨k + 1, X, by omega, rfl, by go_num, by rw [col_step, V.out.1, ← Q.out.1]; simp, Q2.out⟩
        case measure => simp [intOf]; omega
      · go_wp2
        go_roundw
        case rel => exact ⟨k + 1, Y, by omega, by go_num, by go_num, by rw [col_step, V.out.1, if_pos rfl, ← Q.out.1, ← V.out.2, YY.out], Q2.out⟩
        case measure => simp [intOf]; omega
    · have ke := Lib.hid (show k = 4 by omega)
      have kI : ¬ (k : Int) < 4 := by omega
      go_wp2
      go_ret
      have e : X = Z := by rw [Q.out.1, ke.out, ZZ.out]
      rw [← e]
      exact ⟨rfl, Q.out.2⟩
end Go.Proofs.Ytplmmfgmbfcjpaa
