/- Contracts of audio.New, Tune, Load, Sample. -/
import Derived.Test.YtojgblpgbfpcbaaAudBox
namespace Go.Proofs.Ytojgblpgbfpcbaa
open Go.RowKit Num
set_option linter.unusedVariables false
set_option linter.unusedSimpArgs false

set_option maxRecDepth 100000 in
set_option maxHeartbeats 2000000 in
theorem new_any (w : World) : Calls Try.prog 10 #[] w fun e w' => e = .returned (.agg (ac zeroP 64)) ∧ Below w.heap.size w w' := by
  have hz := zeroA
  go_enter Try.func10, Try.ntmps10
  go_upto_region 1 with fail
  have R := Lib.hid (AB.new w zeroP 0)
  have B := Lib.hid (below_new w (.cells (ac zeroP 0) 26))
  generalize w.alloc (.cells (ac zeroP 0) 26) = w1 at *
  obtain ⟨r, hr⟩ : ∃ r, w.heap.size = r := ⟨_, rfl⟩
  have HR := Lib.hid hr
  rw [hr] at R B ⊢
  clear hr
  refine wp_region_lit ?_
  refine list_build_all (cs := ac zeroP 64) rfl rfl (by simp [Act.eval]; exact built_new) ?_
  simp only [Act.put, List.setIfInBounds_toArray, List.set_cons_zero, List.set_cons_succ]
  refine list_store_all (ds := ac zeroP 64) aggAud R.out (ac_size _ _) (ac_size _ _) (ac_one _ _) rfl (.tmp 0) (.tmp 1) rfl (by simp [Act.eval, Act.put]) (by simp [Act.eval, Act.put]) ?_
  have R2 := Lib.hid (R.out.store zeroP 64)
  have B2 := Lib.hid (belowRowA B.out (Nat.le_refl _) (ac zeroP 64))
  generalize w1.setRow r (ac zeroP 64) = w2 at *
  iterate 4 go_step
  exact bodyPost_ret (results_cell_row rfl _ _ r _ _ _ _ rfl R2.out Try.underlying26 rfl (by rw [aggAud.i, ac_size])) rfl ⟨rfl, by rw [HR.out]; exact B2.out⟩

set_option maxRecDepth 100000 in
set_option maxHeartbeats 2000000 in
theorem tune_any (P : Nat → Int) (p q : Int) (w : World) : Calls Try.prog 8 #[.agg (ac P p), .int .u8 q] w fun e w' => e = .returned (.agg (ac P q)) ∧ Below w.heap.size w w' := by
  have hz := zeroA
  go_enter Try.func8, Try.ntmps8
  go_upto_region 1 with fail
  have S := Lib.hid ((AB.new w P p).alloc (.cells (ac zeroP 0) 26))
  have R := Lib.hid (AB.new (w.alloc (.cells (ac P p) 26)) zeroP 0)
  have B := Lib.hid ((below_new w (.cells (ac P p) 26)).alloc (by simp) (.cells (ac zeroP 0) 26))
  rw [World.size_alloc] at R
  generalize (w.alloc (.cells (ac P p) 26)).alloc (.cells (ac zeroP 0) 26) = w1 at *
  clear hz
  obtain ⟨r, hr⟩ : ∃ r, w.heap.size = r := ⟨_, rfl⟩
  have HR := Lib.hid hr
  rw [hr] at S R B ⊢
  clear hr
  have c0 := S.out.pitch
  have f0 := S.out.fz 16
  go_upto_region 2 with fail
  clear c0 f0
  have S2 := Lib.hid (S.out.tune q)
  have R2 := Lib.hid (R.out.other (g := r) (by omega) 16 (.int .u8 q))
  have B2 := Lib.hid (B.out.setCell (p := ⟨r, 16, none⟩) (Nat.le_refl _) (.int .u8 q))
  generalize w1.setCell ⟨r, 16, none⟩ (.int .u8 q) = w2 at *
  refine wp_region_lit ?_
  refine list_load_all aggAud S2.out (ac_size _ _) rfl (.tmp 2) rfl (by simp [Act.eval]) ?_
  simp only [Act.put, List.setIfInBounds_toArray, List.set_cons_zero, List.set_cons_succ]
  refine list_store_all (ds := ac P q) aggAud R2.out (ac_size _ _) (ac_size _ _) (ac_one _ _) rfl (.tmp 4) (.tmp 7) rfl (by simp [Act.eval, Act.put]) (by simp [Act.eval, Act.put]) ?_
  have R3 := Lib.hid (R2.out.store P q)
  have B3 := Lib.hid (belowRowA B2.out (Nat.le_succ r) (ac P q))
  generalize w2.setRow (r + 1) (ac P q) = w3 at *
  iterate 4 go_step
  exact bodyPost_ret (results_cell_row rfl _ _ (r + 1) _ _ _ _ rfl R3.out Try.underlying26 rfl (by rw [aggAud.i, ac_size])) rfl ⟨rfl, by rw [HR.out]; exact B3.out⟩

theorem list_copy {ops : Array Oper} {rest : List Oper} {o : Oper} {a : Act} {w w' : World} {Q : Exit → Act → World → Prop} (hgd : o.guard = none) (d s : Operand)
    (ho : o.op = .call { callee := .builtin .copy, args := #[d, s], argTypes := #[22, 22] }) (X Y r : Value) (hd : a.eval d = X) (hs : a.eval s = Y)
    (hrun : (Builtin.copy_ #[22, 22] o.type #[X, Y]).run Try.prog w = .ok r w') (t : Nat) (hdst : o.dst = some t) (h : wpList Try.prog ops Q rest ⟨a.tmps.setIfInBounds t r, a.defers⟩ w') : wpList Try.prog ops Q (o :: rest) a w :=
  wpList_plain hgd fun K hK => wp_copy_run d s ho o.type rfl X Y r hd hs hrun t hdst (hK _ _ h)

set_option maxRecDepth 100000 in
set_option maxHeartbeats 2000000 in
theorem load_any (P : Nat → Int) (p : Int) (A : Option Addr) (n c : Nat) (L : List Int) (w : World) (H : Rd w A L) (hn : L.length = n) :
    Calls Try.prog 9 #[.agg (ac P p), .slice A n c] w fun e w' => e = .returned (.agg (ac (pad L) p)) ∧ Below w.heap.size w w' := by
  have hz := zeroA
  have HL := Lib.hid (And.intro H hn)
  clear H hn
  go_enter Try.func9, Try.ntmps9
  go_upto_region 1 with fail
  have S := Lib.hid ((AB.new w P p).alloc (.cells (ac zeroP 0) 26))
  have R := Lib.hid (AB.new (w.alloc (.cells (ac P p) 26)) zeroP 0)
  have B := Lib.hid ((below_new w (.cells (ac P p) 26)).alloc (by simp) (.cells (ac zeroP 0) 26))
  rw [World.size_alloc] at R
  generalize (w.alloc (.cells (ac P p) 26)).alloc (.cells (ac zeroP 0) 26) = w1 at *
  clear hz
  obtain ⟨r, hr⟩ : ∃ r, w.heap.size = r := ⟨_, rfl⟩
  have HR := Lib.hid hr
  rw [hr] at S R B ⊢
  clear hr
  refine wp_region_lit ?_
  refine list_build_all (cs := pc zeroP) rfl rfl (by simp [Act.eval]; exact built_zero) ?_
  simp only [Act.put, List.setIfInBounds_toArray, List.set_cons_zero, List.set_cons_succ]
  iterate 3 go_step
  refine list_store_part (o := 0) (ds := pc zeroP) aggPat S.out (pc_size _) (by rw [ac_size]; omega) (pc_one _) rfl (.tmp 6) (.tmp 5) rfl (by simp [Act.eval, Act.put]) (by simp [Act.eval, Act.put]) ?_
  rw [ac_splice]
  have S2 := Lib.hid (S.out.store zeroP p)
  have R2 := Lib.hid (R.out.otherRow (g := r) (by omega) (ac zeroP p))
  have B2 := Lib.hid (belowRowA B.out (Nat.le_refl _) (ac zeroP p))
  generalize w1.setRow r (ac zeroP p) = w2 at *
  simp only [Act.put, List.setIfInBounds_toArray, List.set_cons_zero, List.set_cons_succ]
  go_upto_region 2 with fail
  refine wp_region_lit ?_
  iterate 9 go_step
  obtain ⟨d, hd⟩ : ∃ d, d = min n 16 := ⟨_, rfl⟩
  have hp : w2.heap[r]? = some (.cells ((lstP zeroP ++ [p]).map (Value.int .u8)).toArray 26 (0, 0)) := by rw [← ac_list]; exact S2.out
  have RL : Rd w2 A L := HL.out.1.below (by rw [HR.out]; exact B2.out)
  obtain ⟨w3, hrun, hg, ha⟩ := run_copy_gen 3 r 0 16 16 (some ⟨r, 0, none⟩) (fun _ => rfl) A n c d hd L HL.out.2 RL _ 26 hp (by simp [lstP_len])
  rw [ac_copy] at hg
  refine list_copy rfl (.tmp 8) (.tmp 9) rfl _ _ _ (by simp [Act.eval]) (by simp [Act.eval]) hrun 10 rfl ?_
  have S3 := Lib.hid (show AB r (pad L) p w3 from hg)
  have R3 := Lib.hid (show AB (r + 1) zeroP 0 w3 from ((ha none).block (r + 1) R2.out.lt (by omega) (fun e => by cases e)).trans R2.out)
  have B3 := Lib.hid (B2.out.trans ((ha none).below (by have := S2.out.lt; omega) (Nat.le_refl _) (fun k hk => by cases hk)))
  clear hrun hg ha RL hp hd
  simp only [List.setIfInBounds_toArray, List.set_cons_zero, List.set_cons_succ]
  go_upto_region 3 with fail
  refine wp_region_lit ?_
  refine list_load_all aggAud S3.out (ac_size _ _) rfl (.tmp 2) rfl (by simp [Act.eval]) ?_
  simp only [Act.put, List.setIfInBounds_toArray, List.set_cons_zero, List.set_cons_succ]
  refine list_store_all (ds := ac (pad L) p) aggAud R3.out (ac_size _ _) (ac_size _ _) (ac_one _ _) rfl (.tmp 4) (.tmp 11) rfl (by simp [Act.eval, Act.put]) (by simp [Act.eval, Act.put]) ?_
  have R4 := Lib.hid (R3.out.store (pad L) p)
  have B4 := Lib.hid (belowRowA B3.out (Nat.le_succ r) (ac (pad L) p))
  generalize w3.setRow (r + 1) (ac (pad L) p) = w4 at *
  iterate 4 go_step
  exact bodyPost_ret (results_cell_row rfl _ _ (r + 1) _ _ _ _ rfl R4.out Try.underlying26 rfl (by rw [aggAud.i, ac_size])) rfl ⟨rfl, by rw [HR.out]; exact B4.out⟩

set_option maxRecDepth 100000 in
set_option maxHeartbeats 2000000 in
theorem sample_any (P : Nat → Int) (p i : Int) (w : World) : Calls Try.prog 13 #[.agg (ac P p), .int .i64 i] w fun e w' => e = .returned (.bool (smp P i)) ∧ Below w.heap.size w w' := by
  obtain ⟨k, hk⟩ : ∃ k : Nat, i % 128 = (k : Int) := ⟨(i % 128).toNat, by omega⟩
  have h127 : bits .and .i64 i 127 = (k : Int) := by rw [and127, hk]
  have E := Lib.hid (show smp P i = smpN P k by unfold smp; rw [hk, Int.toNat_natCast])
  have k128 : k < 128 := by omega
  clear hk
  obtain ⟨q, hq⟩ : ∃ q : Nat, (k : Int) / 8 = (q : Int) := ⟨k / 8, by simp⟩
  obtain ⟨t, ht⟩ : ∃ t : Nat, (k : Int) % 8 = (t : Int) := ⟨k % 8, by simp⟩
  have q16 : q < 16 := by omega
  have t8 : t < 8 := by omega
  have F := Lib.hid (show smpN P k = decide (P q / 2 ^ (7 - t) % 2 = 1) by unfold smpN; rw [show k / 8 = q by omega, show k % 8 = t by omega])
  have qI : (q : Int) < 16 := by omega
  have tI : (t : Int) < 8 := by omega
  have kI : (k : Int) < 128 := by omega
  go_enter Try.func13, Try.ntmps13
  go_upto_region 1 with fail
  have S := Lib.hid (AB.new w P p)
  have B := Lib.hid (below_new w (.cells (ac P p) 26))
  generalize w.alloc (.cells (ac P p) 26) = w1 at *
  obtain ⟨r, hr⟩ : ∃ r, w.heap.size = r := ⟨_, rfl⟩
  have HR := Lib.hid hr
  rw [hr] at S B ⊢
  clear hr
  have c1 := S.out.cell q16
  go_upto_region 2 with fail
  go_wp2
  go_ret
  refine ⟨?_, by rw [HR.out]; exact B.out⟩
  show Ending.returned (Value.bool (bits .and .u8 (P q / 2 ^ (7 - t)) 1 == 1)) = _
  rw [E.out, F.out, and1_u8]
  generalize P q / 2 ^ (7 - t) % 2 = z
  by_cases h : z = 1 <;> simp [h]
end Go.Proofs.Ytojgblpgbfpcbaa
