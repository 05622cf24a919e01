/- Contracts of package font: the bytes of all glyphs. -/
import Derived.Test.YtllfakimcgbppaaDoorFontAdd
import Derived.Test.YtllfakimcgbppaaDoorFontNum
namespace Go.Proofs.YtllfakimcgbppaaDoor
open Go.RowKit Num
set_option linter.unusedVariables false

theorem index5 (k : Nat) (h : k < 16) : ∀ w : World, (Instr.index 60 (.agg (arr smallL)) (.int .i64 k)).run Tryd.prog w = .ok (.agg (arr (smallG k))) w := by
  obtain rfl | rfl | rfl | rfl | rfl | rfl | rfl | rfl | rfl | rfl | rfl | rfl | rfl | rfl | rfl | rfl : k = 0 ∨ k = 1 ∨ k = 2 ∨ k = 3 ∨ k = 4 ∨ k = 5 ∨ k = 6 ∨ k = 7 ∨ k = 8 ∨ k = 9 ∨ k = 10 ∨ k = 11 ∨ k = 12 ∨ k = 13 ∨ k = 14 ∨ k = 15 := by omega
  all_goals exact fun _ => by kernel_rfl

set_option maxRecDepth 100000 in
set_option maxHeartbeats 2000000 in
theorem concat5 (w : World) : Calls Tryd.prog 28 #[.agg (arr smallL)] w (Gives 5 smallL w) := by
  obtain ⟨i0, hi, hz0, hz1, hz2⟩ := info_parts infoByte
  have hbox : (w.alloc (.cells (arr smallL) 60)).heap[w.heap.size]? = some (.cells (arr smallL) 60 (0, 0)) := heap_alloc_new _ _
  have hb1 : Below w.heap.size w (w.alloc (.cells (arr smallL) 60)) := (Below.refl _ _).alloc (Nat.le_refl _) _
  go_enter Tryd.func28, Tryd.ntmps28
  go_upto_region 2 with fail
  refine wp_region_lit ?_
  refine wpList_load_row rfl 60 (.tmp 1) rfl w.heap.size rfl 60 (arr smallL) (0, 0) _ hbox Tryd.underlying60 rfl (by kernel_rfl) ?_
  generalize w.alloc (Obj.cells (arr smallL) 60) = w1 at *
  go_wp2
  go_loopw [3, 7] (fun o c wr => ∃ k : Nat, k ≤ 16 ∧ c = .int .i64 k ∧ wr.ownsRow w.heap.size 5 1 o (5 * k) ((smallL.take (5 * k)).map (Value.int .u8)) ∧ Below w.heap.size w wr) (fun _ c _ => 16 - (intOf c).toNat)
  case atStart => exact ⟨0, Nat.zero_le _, rfl, World.ownsRow_nil _ _ _ _, hb1⟩
  case round =>
    obtain ⟨k, hk, rfl, hown, hb⟩ := hrel
    clear hb1 hbox
    by_cases hlt : k < 16
    · have ik := index5 k hlt
      have ht := small_take k
      obtain ⟨x0, x1, x2, x3, x4, hx⟩ := five (smallG_len hlt)
      rw [hx] at ik ht
      have ik' : ∀ w : World, (Instr.index 60 (.agg (arr smallL)) (.int .i64 k)).run Tryd.prog w = .ok (.agg #[.int .u8 x0, .int .u8 x1, .int .u8 x2, .int .u8 x3, .int .u8 x4]) w := ik
      clear ik hx
      go_wp2_with fail
      refine (add5 [x0, x1, x2, x3, x4] rfl _ (5 * k) (smallL.take (5 * k)) w.heap.size _ (hown.alloc _) (by have := hb.size; simp; omega) (by omega)).mono ?_
      rintro e w' ⟨v', rfl, hown', hb'⟩
      go_wp2
      go_roundw
      case rel => exact ⟨k + 1, by omega, by go_num, by rw [ht]; exact hown', (hb.alloc hb.size _).trans hb'⟩
      case measure => simp [intOf]; omega
    · have hkn : k = 16 := by omega
      subst hkn
      go_wp2
      go_ret
      rw [List.take_of_length_le (by rw [smallL_len]; decide)] at hown
      exact ⟨_, rfl, by rw [smallL_len]; exact hown, hb⟩

set_option maxRecDepth 100000 in
theorem index10 (k : Nat) (h : k < 16) : ∀ w : World, (Instr.index 63 (.agg (arr bigL)) (.int .i64 k)).run Tryd.prog w = .ok (.agg (arr (bigG k))) w := by
  obtain rfl | rfl | rfl | rfl | rfl | rfl | rfl | rfl | rfl | rfl | rfl | rfl | rfl | rfl | rfl | rfl : k = 0 ∨ k = 1 ∨ k = 2 ∨ k = 3 ∨ k = 4 ∨ k = 5 ∨ k = 6 ∨ k = 7 ∨ k = 8 ∨ k = 9 ∨ k = 10 ∨ k = 11 ∨ k = 12 ∨ k = 13 ∨ k = 14 ∨ k = 15 := by omega
  all_goals exact fun _ => by kernel_rfl

set_option maxRecDepth 100000 in
set_option maxHeartbeats 2000000 in
theorem concat10 (w : World) : Calls Tryd.prog 29 #[.agg (arr bigL)] w (Gives 5 bigL w) := by
  obtain ⟨i0, hi, hz0, hz1, hz2⟩ := info_parts infoByte
  have hbox : (w.alloc (.cells (arr bigL) 63)).heap[w.heap.size]? = some (.cells (arr bigL) 63 (0, 0)) := heap_alloc_new _ _
  have hb1 : Below w.heap.size w (w.alloc (.cells (arr bigL) 63)) := (Below.refl _ _).alloc (Nat.le_refl _) _
  go_enter Tryd.func29, Tryd.ntmps29
  go_upto_region 2 with fail
  refine wp_region_lit ?_
  refine wpList_load_row rfl 63 (.tmp 1) rfl w.heap.size rfl 63 (arr bigL) (0, 0) _ hbox Tryd.underlying63 rfl (by kernel_rfl) ?_
  generalize w.alloc (Obj.cells (arr bigL) 63) = w1 at *
  go_wp2
  go_loopw [3, 7] (fun o c wr => ∃ k : Nat, k ≤ 16 ∧ c = .int .i64 k ∧ wr.ownsRow w.heap.size 5 1 o (10 * k) ((bigL.take (10 * k)).map (Value.int .u8)) ∧ Below w.heap.size w wr) (fun _ c _ => 16 - (intOf c).toNat)
  case atStart => exact ⟨0, Nat.zero_le _, rfl, World.ownsRow_nil _ _ _ _, hb1⟩
  case round =>
    obtain ⟨k, hk, rfl, hown, hb⟩ := hrel
    clear hb1 hbox
    by_cases hlt : k < 16
    · have ik := index10 k hlt
      have ht := big_take k
      obtain ⟨x0, x1, x2, x3, x4, x5, x6, x7, x8, x9, hx⟩ := ten (bigG_len hlt)
      rw [hx] at ik ht
      have ik' : ∀ w : World, (Instr.index 63 (.agg (arr bigL)) (.int .i64 k)).run Tryd.prog w = .ok (.agg #[.int .u8 x0, .int .u8 x1, .int .u8 x2, .int .u8 x3, .int .u8 x4, .int .u8 x5, .int .u8 x6, .int .u8 x7, .int .u8 x8, .int .u8 x9]) w := ik
      clear ik hx
      go_wp2_with fail
      refine (add10 [x0, x1, x2, x3, x4, x5, x6, x7, x8, x9] rfl _ (10 * k) (bigL.take (10 * k)) w.heap.size _ (hown.alloc _) (by have := hb.size; simp; omega) (by omega)).mono ?_
      rintro e w' ⟨v', rfl, hown', hb'⟩
      go_wp2
      go_roundw
      case rel => exact ⟨k + 1, by omega, by go_num, by rw [ht]; exact hown', (hb.alloc hb.size _).trans hb'⟩
      case measure => simp [intOf]; omega
    · have hkn : k = 16 := by omega
      subst hkn
      go_wp2
      go_ret
      rw [List.take_of_length_le (by rw [bigL_len]; decide)] at hown
      exact ⟨_, rfl, by rw [bigL_len]; exact hown, hb⟩
end Go.Proofs.YtllfakimcgbppaaDoor
