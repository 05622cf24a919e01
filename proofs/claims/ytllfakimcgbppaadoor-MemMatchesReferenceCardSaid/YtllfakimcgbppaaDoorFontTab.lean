/- Contracts of package font: the fonts' tables, and the bytes of all glyphs. -/
import Derived.Test.YtllfakimcgbppaaDoorFontCat
namespace Go.Proofs.YtllfakimcgbppaaDoor
open Go.RowKit Num
set_option linter.unusedVariables false

/-- The fonts lie in the package's tables. -/
structure Laid (w : World) : Prop where
  lt : 1 < w.heap.size
  big : ∀ j (h : j < bigL.length), w.cell? ⟨1, j, none⟩ = some (.int .u8 bigL[j])
  small : ∀ j (h : j < smallL.length), w.cell? ⟨0, j, none⟩ = some (.int .u8 smallL[j])
theorem Laid.below {w w' : World} {n : Nat} (h : Laid w) (hb : Below n w w') (hn : 1 < n) : Laid w' :=
  ⟨Nat.lt_of_lt_of_le h.lt hb.size, fun j hj => (hb.cell (p := ⟨1, j, none⟩) (by simp; omega)).trans (h.big j hj), fun j hj => (hb.cell (p := ⟨0, j, none⟩) (by simp; omega)).trans (h.small j hj)⟩
theorem Laid.step {w w' : World} (h : Laid w) (hb : Below w.heap.size w w') : Laid w' := h.below hb h.lt
theorem add_lit (g o j : Nat) : (⟨g, o, none⟩ : Addr).add j = ⟨g, o + j, none⟩ := by unfold Addr.add; split <;> simp_all

set_option maxRecDepth 100000 in
set_option maxHeartbeats 400000 in
theorem small_any (w : World) (hL : Laid w) : Calls Tryd.prog 21 #[] w (Gives 5 smallL w) := by
  go_enter Tryd.func21, Tryd.ntmps21
  go_upto_region 1 with fail
  refine wp_region_lit ?_
  refine wpList_load_part rfl 60 (.global 0) rfl ⟨0, 0, none⟩ rfl smallL _ (fun j h => by rw [add_lit, Nat.zero_add]; exact hL.small j h) Tryd.underlying60 rfl (by rw [smallL_len]; kernel_rfl) ?_
  go_wp2_with fail
  refine (concat5 _).mono ?_
  rintro e w' ⟨v, rfl, hown, hb⟩
  go_wp2
  go_ret
  exact ⟨_, rfl, hown, hb⟩
set_option maxRecDepth 100000 in
set_option maxHeartbeats 400000 in
theorem big_any (w : World) (hL : Laid w) : Calls Tryd.prog 22 #[] w (Gives 5 bigL w) := by
  go_enter Tryd.func22, Tryd.ntmps22
  go_upto_region 1 with fail
  refine wp_region_lit ?_
  refine wpList_load_part rfl 63 (.global 1) rfl ⟨1, 0, none⟩ rfl bigL _ (fun j h => by rw [add_lit, Nat.zero_add]; exact hL.big j h) Tryd.underlying63 rfl (by rw [bigL_len]; kernel_rfl) ?_
  go_wp2_with fail
  refine (concat10 _).mono ?_
  rintro e w' ⟨v, rfl, hown, hb⟩
  go_wp2
  go_ret
  exact ⟨_, rfl, hown, hb⟩

end Go.Proofs.YtllfakimcgbppaaDoor
