/- Contracts of keypad.Apply, IsDown, Lowest, and of slices.Index over bools. -/
import Derived.Test.YtdlomdkapepkbaaKeyBox
namespace Go.Proofs.Ytdlomdkapepkbaa
open Go.RowKit Num
set_option linter.unusedVariables false
set_option linter.unusedSimpArgs false

set_option maxRecDepth 100000 in
set_option maxHeartbeats 2000000 in
theorem apply_key (K L : Nat → Bool) (n : Nat) (d r : Bool) (hn : n < 16) (hL : L = fun j => if j = n then d else K j) (hr : r = (K n && !d)) (w : World) :
    Calls Try.prog 8 #[.agg (kc K), .agg #[.int .i64 (n : Int), .bool d]] w fun x w' => x = .returned (.tuple #[.agg (kc L), .bool r]) ∧ Below w.heap.size w w' := by
  have HA := Lib.hid hL
  have HR := Lib.hid hr
  clear hL hr
  have hz := zeroKeys
  have n0 : 0 ≤ (n : Int) := by omega
  have n1 : ¬ (n : Int) < 0 := by omega
  have n2 : (n : Int) < 16 := by omega
  go_enter Try.func8, Try.ntmps8
  go_upto_region 1 with fail
  have P := Lib.hid (((KB.new w K).alloc (.cells #[.int .i64 (n : Int), .bool d] 30)).alloc (.cells (kc up) 26))
  have E := Lib.hid ((Blk.new (w.alloc (.cells (kc K) 26)) 30 #[.int .i64 (n : Int), .bool d]).alloc (.cells (kc up) 26))
  have R := Lib.hid (KB.new ((w.alloc (.cells (kc K) 26)).alloc (.cells #[.int .i64 (n : Int), .bool d] 30)) up)
  have B := Lib.hid (((below_newK w (.cells (kc K) 26)).alloc (by simp) (.cells #[.int .i64 (n : Int), .bool d] 30)).alloc (by simp; omega) (.cells (kc up) 26))
  simp only [World.size_alloc] at P E R B
  generalize ((w.alloc (.cells (kc K) 26)).alloc (.cells #[.int .i64 (n : Int), .bool d] 30)).alloc (.cells (kc up) 26) = w1 at *
  clear hz
  have c1 := E.out.cell 0
  have c2 := E.out.cell 1
  simp at c1 c2
  obtain ⟨p, hp⟩ : ∃ p, w.heap.size = p := ⟨_, rfl⟩
  rw [hp] at P E R B c1 c2 ⊢
  have HP := Lib.hid hp
  clear hp
  have f3 := P.out.fz n
  cases hv : K n
  all_goals
    rw [hv] at HR
    have c3 := P.out.cell hn
    rw [hv] at c3
    clear hv
    go_upto_region 5 with fail
    refine wp_region_lit ?_
    have P1 := Lib.hid (P.out.put hn d)
    have R1 := Lib.hid (R.out.other (g := p) (by omega) n (.bool d))
    have B1 := Lib.hid (B.out.setCell (p := ⟨p, n, none⟩) (Nat.le_refl _) (.bool d))
    generalize w1.setCell ⟨p, n, none⟩ (.bool d) = w2 at *
    clear c1 c2 c3 f3
    rw [← HA.out] at P1
    clear HA P R B E
    refine list_load_all aggPad P1.out (kc_size _) rfl (.tmp 2) rfl (by simp [Act.eval]) ?_
    simp only [Act.put, List.setIfInBounds_toArray, List.set_cons_zero, List.set_cons_succ]
    iterate 3 go_step
    refine list_store_all (ds := kc L) aggPad R1.out (kc_size _) (kc_size _) (kc_one _) rfl (.tmp 4) (.tmp 32) rfl (by simp [Act.eval, Act.put]) (by simp [Act.eval, Act.put]) ?_
    have R2 := Lib.hid (R1.out.store L)
    have B2 := Lib.hid (belowRowK B1.out (by omega : p ≤ p + 1 + 1) (kc L))
    generalize w2.setRow (p + 1 + 1) (kc L) = w3 at *
    iterate 8 go_step
    exact bodyPost_ret (results_cell_slot rfl _ _ (p + 1 + 1) _ _ _ _ _ rfl rfl R2.out Try.underlying26 rfl (by rw [aggPad.i, kc_size])) rfl ⟨by rw [HR.out]; simp, by rw [HP.out]; exact B2.out⟩
set_option maxRecDepth 100000 in
set_option maxHeartbeats 2000000 in
theorem apply_out (K : Nat → Bool) (e : Ev) (hk : ¬ (0 ≤ e.k ∧ e.k ≤ 15)) (w : World) :
    Calls Try.prog 8 #[.agg (kc K), .agg (ec e)] w fun x w' => x = .returned (.tuple #[.agg (kc (ap K e)), .bool (rel K e)]) ∧ Below w.heap.size w w' := by
  rw [ap_out hk, rel_out hk]
  obtain ⟨n, d⟩ := e
  simp only at hk
  have hz := zeroKeys
  unfold ec
  simp only
  rcases (show n < 0 ∨ 16 ≤ n by omega) with n1 | n1
  all_goals
    clear hk
    go_enter Try.func8, Try.ntmps8
    go_upto_region 1 with fail
    have P := Lib.hid (((KB.new w K).alloc (.cells #[.int .i64 n, .bool d] 30)).alloc (.cells (kc up) 26))
    have E := Lib.hid ((Blk.new (w.alloc (.cells (kc K) 26)) 30 #[.int .i64 n, .bool d]).alloc (.cells (kc up) 26))
    have R := Lib.hid (KB.new ((w.alloc (.cells (kc K) 26)).alloc (.cells #[.int .i64 n, .bool d] 30)) up)
    have B := Lib.hid (((below_newK w (.cells (kc K) 26)).alloc (by simp) (.cells #[.int .i64 n, .bool d] 30)).alloc (by simp; omega) (.cells (kc up) 26))
    simp only [World.size_alloc] at P E R B
    generalize ((w.alloc (.cells (kc K) 26)).alloc (.cells #[.int .i64 n, .bool d] 30)).alloc (.cells (kc up) 26) = w1 at *
    clear hz
    have c1 := E.out.cell 0
    simp at c1
    obtain ⟨p, hp⟩ : ∃ p, w.heap.size = p := ⟨_, rfl⟩
    rw [hp] at P E R B c1 ⊢
    have HP := Lib.hid hp
    clear hp
    go_upto_region 2 with fail
    refine wp_region_lit ?_
    clear c1
    refine list_load_all aggPad P.out (kc_size _) rfl (.tmp 2) rfl (by simp [Act.eval]) ?_
    simp only [Act.put, List.setIfInBounds_toArray, List.set_cons_zero, List.set_cons_succ]
    refine list_store_all (ds := kc K) aggPad R.out (kc_size _) (kc_size _) (kc_one _) rfl (.tmp 4) (.tmp 15) rfl (by simp [Act.eval, Act.put]) (by simp [Act.eval, Act.put]) ?_
    have R2 := Lib.hid (R.out.store K)
    have B2 := Lib.hid (belowRowK B.out (by omega : p ≤ p + 1 + 1) (kc K))
    generalize w1.setRow (p + 1 + 1) (kc K) = w3 at *
    iterate 8 go_step
    exact bodyPost_ret (results_cell_slot rfl _ _ (p + 1 + 1) _ _ _ _ _ rfl rfl R2.out Try.underlying26 rfl (by rw [aggPad.i, kc_size])) rfl ⟨by simp, by rw [HP.out]; exact B2.out⟩
theorem apply_any (K : Nat → Bool) (e : Ev) (w : World) :
    Calls Try.prog 8 #[.agg (kc K), .agg (ec e)] w fun x w' => x = .returned (.tuple #[.agg (kc (ap K e)), .bool (rel K e)]) ∧ Below w.heap.size w w' := by
  rcases key_or e.k with ⟨n, h, hn⟩ | h
  · obtain ⟨k, d⟩ := e
    simp only at h
    subst h
    exact apply_key K _ n d _ hn (ap_in rfl hn) (rel_in rfl hn) w
  · exact apply_out K e h w
end Go.Proofs.Ytdlomdkapepkbaa
