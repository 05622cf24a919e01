/- Contracts of package font: the fonts, addresses and glyphs. -/
import Derived.Test.YtcihdfiomogiaaaDoorFontCat
namespace Go.Proofs.YtcihdfiomogiaaaDoor
open Go.RowKit Num
set_option linter.unusedVariables false

/-- The fonts lie in the package's tables. -/
structure Laid (w : World) : Prop where
  lt : 1 < w.heap.size
  big : ∀ j (h : j < bigL.length), w.cell? ⟨0, j, none⟩ = some (.int .u8 bigL[j])
  small : ∀ j (h : j < smallL.length), w.cell? ⟨1, j, none⟩ = some (.int .u8 smallL[j])
theorem Laid.below {w w' : World} {n : Nat} (h : Laid w) (hb : Below n w w') (hn : 1 < n) : Laid w' :=
  ⟨Nat.lt_of_lt_of_le h.lt hb.size, fun j hj => (hb.cell (p := ⟨0, j, none⟩) (by simp; omega)).trans (h.big j hj), fun j hj => (hb.cell (p := ⟨1, j, none⟩) (by simp; omega)).trans (h.small j hj)⟩
theorem Laid.step {w w' : World} (h : Laid w) (hb : Below w.heap.size w w') : Laid w' := h.below hb h.lt
theorem add_lit (g o j : Nat) : (⟨g, o, none⟩ : Addr).add j = ⟨g, o + j, none⟩ := by unfold Addr.add; split <;> simp_all

set_option maxHeartbeats 400000 in
theorem last_any (n : Int) (w : World) (h : 0 ≤ n) : Calls Tryd.prog 16 #[.int .i64 n] w fun e w' => e = .returned (.int .i64 (n % 16)) ∧ w = w' := by
  have e := tmod_pos n 16 h
  go_enter Tryd.func16, Tryd.ntmps16
  go_wp2
  go_ret
  exact ⟨ret_int (by omega), rfl⟩

set_option maxHeartbeats 400000 in
theorem smallAt_yes (n : Int) (w : World) (h : 0 ≤ n) : Calls Tryd.prog 8 #[.int .i64 n] w fun e w' => e = .returned (.int .i64 (80 + 5 * (n % 16))) ∧ w = w' := by
  go_enter Tryd.func8, Tryd.ntmps8
  go_wp2_with fail
  refine (last_any _ _ h).mono ?_
  rintro e w' ⟨rfl, rfl⟩
  go_wp2
  go_ret
  exact ⟨ret_int (by omega), rfl⟩
set_option maxHeartbeats 400000 in
theorem bigAt_yes (n : Int) (w : World) (h : 0 ≤ n) : Calls Tryd.prog 9 #[.int .i64 n] w fun e w' => e = .returned (.int .i64 (160 + 10 * (n % 16))) ∧ w = w' := by
  go_enter Tryd.func9, Tryd.ntmps9
  go_wp2_with fail
  refine (last_any _ _ h).mono ?_
  rintro e w' ⟨rfl, rfl⟩
  go_wp2
  go_ret
  exact ⟨ret_int (by omega), rfl⟩
set_option maxHeartbeats 400000 in
theorem smallAt_no (n : Int) (w : World) (h : n < 0) : Calls Tryd.prog 8 #[.int .i64 n] w fun e w' => e = .returned (.int .i64 0) ∧ w = w' := by
  go_enter Tryd.func8, Tryd.ntmps8
  go_wp2
  go_ret
  exact ⟨rfl, rfl⟩
set_option maxHeartbeats 400000 in
theorem bigAt_no (n : Int) (w : World) (h : n < 0) : Calls Tryd.prog 9 #[.int .i64 n] w fun e w' => e = .returned (.int .i64 0) ∧ w = w' := by
  go_enter Tryd.func9, Tryd.ntmps9
  go_wp2
  go_ret
  exact ⟨rfl, rfl⟩

set_option maxRecDepth 100000 in
set_option maxHeartbeats 400000 in
theorem small_any (w : World) (hL : Laid w) : Calls Tryd.prog 14 #[] w (Gives 5 smallL w) := by
  go_enter Tryd.func14, Tryd.ntmps14
  go_upto_region 1 with fail
  refine wp_region_lit ?_
  refine wpList_load_part rfl 36 (.global 1) rfl ⟨1, 0, none⟩ rfl smallL _ (fun j h => by rw [add_lit, Nat.zero_add]; exact hL.small j h) Tryd.underlying36 rfl (by rw [smallL_len]; kernel_rfl) ?_
  go_wp2_with fail
  refine (concat5 _).mono ?_
  rintro e w' ⟨v, rfl, hown, hb⟩
  go_wp2
  go_ret
  exact ⟨_, rfl, hown, hb⟩
set_option maxRecDepth 100000 in
set_option maxHeartbeats 400000 in
theorem big_any (w : World) (hL : Laid w) : Calls Tryd.prog 15 #[] w (Gives 5 bigL w) := by
  go_enter Tryd.func15, Tryd.ntmps15
  go_upto_region 1 with fail
  refine wp_region_lit ?_
  refine wpList_load_part rfl 33 (.global 0) rfl ⟨0, 0, none⟩ rfl bigL _ (fun j h => by rw [add_lit, Nat.zero_add]; exact hL.big j h) Tryd.underlying33 rfl (by rw [bigL_len]; kernel_rfl) ?_
  go_wp2_with fail
  refine (concat10 _).mono ?_
  rintro e w' ⟨v, rfl, hown, hb⟩
  go_wp2
  go_ret
  exact ⟨_, rfl, hown, hb⟩

set_option maxHeartbeats 400000 in
theorem glyph_no (n : Int) (b : Bool) (w : World) (h : n < 0) : Calls Tryd.prog 10 #[.int .i64 n, .bool b] w fun e w' => e = .returned (.slice none 0 0) ∧ w = w' := by
  go_enter Tryd.func10, Tryd.ntmps10
  go_wp2
  go_ret
  exact ⟨rfl, rfl⟩
set_option maxRecDepth 100000 in
set_option maxHeartbeats 400000 in
theorem glyph_small (n : Int) (k : Nat) (w : World) (h : 0 ≤ n) (hk : n % 16 = k) (hL : Laid w) : Calls Tryd.prog 10 #[.int .i64 n, .bool false] w (Gives 5 (smallG k) w) := by
  have hk16 : k < 16 := by omega
  have hg := smallG_len hk16
  go_enter Tryd.func10, Tryd.ntmps10
  go_wp2_with fail
  refine (last_any _ _ h).mono ?_
  rintro e w' ⟨rfl, rfl⟩
  rw [hk]
  simp only []
  go_at_K
  iterate 4 go_step
  refine wpList_load_part rfl 35 (.tmp 17) rfl ⟨1, 5 * k, none⟩ (by simp [Act.eval]) (smallG k) _ (fun j hj => by rw [add_lit, smallG_get hj (by rw [smallL_len]; omega)]; exact hL.small _ _) Tryd.underlying35 rfl (by rw [hg]; kernel_rfl) ?_
  go_wp2_with fail
  refine (add5 (smallG k) hg (.slice none 0 0) 0 [] w.heap.size w (World.ownsRow_nil _ _ _ _) (Nat.le_refl _) (by omega)).mono ?_
  rintro e w' ⟨v, rfl, hown, hb⟩
  go_wp2
  go_ret
  exact ⟨_, rfl, by rw [hg]; simpa using hown, hb⟩
set_option maxRecDepth 100000 in
set_option maxHeartbeats 400000 in
theorem glyph_big (n : Int) (k : Nat) (w : World) (h : 0 ≤ n) (hk : n % 16 = k) (hL : Laid w) : Calls Tryd.prog 10 #[.int .i64 n, .bool true] w (Gives 5 (bigG k) w) := by
  have hk16 : k < 16 := by omega
  have hg := bigG_len hk16
  go_enter Tryd.func10, Tryd.ntmps10
  go_wp2_with fail
  refine (last_any _ _ h).mono ?_
  rintro e w' ⟨rfl, rfl⟩
  rw [hk]
  simp only []
  go_at_K
  iterate 4 go_step
  refine wpList_load_part rfl 32 (.tmp 12) rfl ⟨0, 10 * k, none⟩ (by simp [Act.eval]) (bigG k) _ (fun j hj => by rw [add_lit, bigG_get hj (by rw [bigL_len]; omega)]; exact hL.big _ _) Tryd.underlying32 rfl (by rw [hg]; kernel_rfl) ?_
  go_wp2_with fail
  refine (add10 (bigG k) hg (.slice none 0 0) 0 [] w.heap.size w (World.ownsRow_nil _ _ _ _) (Nat.le_refl _) (by omega)).mono ?_
  rintro e w' ⟨v, rfl, hown, hb⟩
  go_wp2
  go_ret
  exact ⟨_, rfl, by rw [hg]; simpa using hown, hb⟩
end Go.Proofs.YtcihdfiomogiaaaDoor
