/- Contracts of package font: the bytes of a glyph are appended to a list. -/
import Derived.Test.YtllfakimcgbppaaDoorArr
namespace Go.Proofs.YtllfakimcgbppaaDoor
open Go.RowKit Num
set_option linter.unusedVariables false

theorem infoByte : (Tryd.prog.info? 5).map (fun i => (i.zero, i.size, i.bytes)) = some (some (.int .u8 0), 1, 1) := by kernel_rfl

set_option maxRecDepth 100000 in
set_option maxHeartbeats 2000000 in
theorem add5 (X : List Int) (hX : X.length = 5) (v : Value) (n : Nat) (M : List Int) (base : Nat) (w : World)
    (hown : w.ownsRow base 5 1 v n (M.map (Value.int .u8))) (hbase : base ≤ w.heap.size) (hn : n ≤ 1000) :
    Calls Tryd.prog 31 #[v, .agg (arr X)] w fun e w' => ∃ v', e = .returned v' ∧ w'.ownsRow base 5 1 v' (n + 5) ((M ++ X).map (Value.int .u8)) ∧ Below base w w' := by
  obtain ⟨i0, hi, hz0, hz1, hz2⟩ := info_parts infoByte
  have hown1 := hown.alloc (.cells (arr X) 59)
  have hbox : (w.alloc (.cells (arr X) 59)).heap[w.heap.size]? = some (.cells (arr X) 59 (0, 0)) := heap_alloc_new _ _
  have hb1 : Below base w (w.alloc (.cells (arr X) 59)) := (Below.refl _ _).alloc hbase _
  go_enter Tryd.func31, Tryd.ntmps31
  go_upto_region 1 with fail
  refine wp_region_lit ?_
  refine wpList_load_row rfl 59 (.tmp 3) rfl w.heap.size rfl 59 (arr X) (0, 0) _ hbox Tryd.underlying59 rfl (by rw [arr_size, hX]; kernel_rfl) ?_
  generalize w.alloc (Obj.cells (arr X) 59) = w1 at *
  clear hown
  go_wp2
  go_loopw [0, 5, 8] (fun o i c wr => ∃ k : Nat, k ≤ 5 ∧ c = .int .i64 k ∧ wr.ownsRow base 5 1 o (n + k) ((M ++ X.take k).map (Value.int .u8)) ∧ Below base w wr ∧ wr.heap[w.heap.size]? = some (.cells (arr X) 59 (0, 0))) (fun _ _ c _ => 5 - (intOf c).toNat)
  case atStart => exact ⟨0, Nat.zero_le _, rfl, by simpa using hown1, hb1, hbox⟩
  case round =>
    obtain ⟨k, hk, rfl, hown, hb, hbox2⟩ := hrel
    have hne := block_not_row hbox2 (by decide) hown
    clear hbox hown1 hb1
    by_cases hlt : k < 5
    · have hkX : k < X.length := by omega
      have hc : wr.cell? ⟨w.heap.size, k, none⟩ = some (.int .u8 X[k]) := (cell_of_row wr _ k _ _ _ hbox2).trans (arr_get X k hkX)
      have ht := take_step hkX
      obtain ⟨x, hx⟩ : ∃ x, X[k] = x := ⟨_, rfl⟩
      rw [hx] at hc ht
      clear hx
      go_wp2_with ((at_builtin; refine wpList_append_own _ rfl _ _ 22 rfl base 5 i0 (.int .u8 0) 1 1 Tryd.underlying22 hi hz0 hz1 hz2 rfl (by decide) _ _ _ rfl (hown.alloc _) ⟨_, 0, none⟩ 1 1 [.int .u8 x] rfl rfl (cell_one_new _ _ _) (by simp [Value.oneCell']) (by unfold maxLen; omega) (by omega) (by have := hb.size; simp; omega) ?_; intro v' w2 hown' hgrow _))
      go_roundw
      case rel =>
        refine ⟨k + 1, by omega, by go_num, ?_, (hb.alloc (Nat.le_trans hbase hb.size) _).grown hgrow (by have := hb.size; simp; omega) fun j ej => (hown.lt j ej).1, block_kept _ hbox2 hgrow hne⟩
        rw [ht, ← List.append_assoc, List.map_append]
        simpa [Nat.add_assoc] using hown'
      case measure => simp [intOf]; omega
    · have hkn : k = 5 := by omega
      subst hkn
      rw [List.take_of_length_le (by omega)] at hown
      go_wp2
      go_ret
      exact ⟨_, rfl, hown, hb⟩

set_option maxRecDepth 100000 in
set_option maxHeartbeats 2000000 in
theorem add10 (X : List Int) (hX : X.length = 10) (v : Value) (n : Nat) (M : List Int) (base : Nat) (w : World)
    (hown : w.ownsRow base 5 1 v n (M.map (Value.int .u8))) (hbase : base ≤ w.heap.size) (hn : n ≤ 1000) :
    Calls Tryd.prog 32 #[v, .agg (arr X)] w fun e w' => ∃ v', e = .returned v' ∧ w'.ownsRow base 5 1 v' (n + 10) ((M ++ X).map (Value.int .u8)) ∧ Below base w w' := by
  obtain ⟨i0, hi, hz0, hz1, hz2⟩ := info_parts infoByte
  have hown1 := hown.alloc (.cells (arr X) 62)
  have hbox : (w.alloc (.cells (arr X) 62)).heap[w.heap.size]? = some (.cells (arr X) 62 (0, 0)) := heap_alloc_new _ _
  have hb1 : Below base w (w.alloc (.cells (arr X) 62)) := (Below.refl _ _).alloc hbase _
  go_enter Tryd.func32, Tryd.ntmps32
  go_upto_region 1 with fail
  refine wp_region_lit ?_
  refine wpList_load_row rfl 62 (.tmp 3) rfl w.heap.size rfl 62 (arr X) (0, 0) _ hbox Tryd.underlying62 rfl (by rw [arr_size, hX]; kernel_rfl) ?_
  generalize w.alloc (Obj.cells (arr X) 62) = w1 at *
  clear hown
  go_wp2
  go_loopw [0, 5, 8] (fun o i c wr => ∃ k : Nat, k ≤ 10 ∧ c = .int .i64 k ∧ wr.ownsRow base 5 1 o (n + k) ((M ++ X.take k).map (Value.int .u8)) ∧ Below base w wr ∧ wr.heap[w.heap.size]? = some (.cells (arr X) 62 (0, 0))) (fun _ _ c _ => 10 - (intOf c).toNat)
  case atStart => exact ⟨0, Nat.zero_le _, rfl, by simpa using hown1, hb1, hbox⟩
  case round =>
    obtain ⟨k, hk, rfl, hown, hb, hbox2⟩ := hrel
    have hne := block_not_row hbox2 (by decide) hown
    clear hbox hown1 hb1
    by_cases hlt : k < 10
    · have hkX : k < X.length := by omega
      have hc : wr.cell? ⟨w.heap.size, k, none⟩ = some (.int .u8 X[k]) := (cell_of_row wr _ k _ _ _ hbox2).trans (arr_get X k hkX)
      have ht := take_step hkX
      obtain ⟨x, hx⟩ : ∃ x, X[k] = x := ⟨_, rfl⟩
      rw [hx] at hc ht
      clear hx
      go_wp2_with ((at_builtin; refine wpList_append_own _ rfl _ _ 22 rfl base 5 i0 (.int .u8 0) 1 1 Tryd.underlying22 hi hz0 hz1 hz2 rfl (by decide) _ _ _ rfl (hown.alloc _) ⟨_, 0, none⟩ 1 1 [.int .u8 x] rfl rfl (cell_one_new _ _ _) (by simp [Value.oneCell']) (by unfold maxLen; omega) (by omega) (by have := hb.size; simp; omega) ?_; intro v' w2 hown' hgrow _))
      go_roundw
      case rel =>
        refine ⟨k + 1, by omega, by go_num, ?_, (hb.alloc (Nat.le_trans hbase hb.size) _).grown hgrow (by have := hb.size; simp; omega) fun j ej => (hown.lt j ej).1, block_kept _ hbox2 hgrow hne⟩
        rw [ht, ← List.append_assoc, List.map_append]
        simpa [Nat.add_assoc] using hown'
      case measure => simp [intOf]; omega
    · have hkn : k = 10 := by omega
      subst hkn
      rw [List.take_of_length_le (by omega)] at hown
      go_wp2
      go_ret
      exact ⟨_, rfl, hown, hb⟩
end Go.Proofs.YtllfakimcgbppaaDoor
