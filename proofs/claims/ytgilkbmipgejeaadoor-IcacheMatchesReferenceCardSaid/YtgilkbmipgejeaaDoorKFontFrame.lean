/- What the frames round the walks of layer 4 need: the fonts' tables, which the rows list. -/
import Derived.Stop.Joined
import Derived.MakeChecks
import Derived.Test.YtgilkbmipgejeaaDoorPk0a
namespace Go.Proofs.YtgilkbmipgejeaaDoor
open Go.ChangeShapes Go.WideShapes Go.ChangeAt Go.RowKit
set_option linter.unusedVariables false
set_option maxRecDepth 100000

theorem gSmall : Tryd.prog.globalNamed "cosmac/font.smallFont" = some 0 := by kernel_rfl
theorem gBig : Tryd.prog.globalNamed "cosmac/font.bigFont" = some 1 := by kernel_rfl
theorem tSmall : (Tryd.prog.globals[0]?).map (·.type) = some 95 := by kernel_rfl
theorem tBig : (Tryd.prog.globals[1]?).map (·.type) = some 98 := by kernel_rfl
def laidL : List (String × DataW Unit) := [("cosmac/font.smallFont", Rows.laid_cosmac_font_smallFont), ("cosmac/font.bigFont", Rows.laid_cosmac_font_bigFont)]
theorem door_met (os : Os) (args : Array Value) : laidMetH Tryd.prog laidL ((World.doorLaid Tryd.prog 400 os).forCall (fun _ _ => 0) ⟨#[], args, []⟩).memory :=
  laidMetH_of_parts3 (fuel := 8) (laidMet_of_run' 8 (by kernel_rfl) (by kernel_rfl)) (by kernel_rfl) (by kernel_rfl)
theorem small_data : (Rows.laid_cosmac_font_smallFont : DataW Unit) = dTab ((List.range 16).map smallG) := by kernel_rfl
theorem big_data : (Rows.laid_cosmac_font_bigFont : DataW Unit) = dTab ((List.range 16).map bigG) := by kernel_rfl
theorem of_laid {W : World} (h : laidMetH Tryd.prog laidL W) : Laid W := by
  rw [MakeChecks.laidMetH_plain _ _ _ (by kernel_rfl)] at h
  obtain ⟨ps, ⟨g0, t0, cs0, f0, p0, q0, hg0, ht0, hv0, hd0, ⟨g1, t1, cs1, f1, p1, q1, hg1, ht1, hv1, hd1, _⟩, _⟩, _, _⟩ := h
  obtain rfl := Option.some.inj (gSmall.symm.trans hg0)
  obtain rfl := Option.some.inj (tSmall.symm.trans ht0)
  obtain rfl := Option.some.inj (gBig.symm.trans hg1)
  obtain rfl := Option.some.inj (tBig.symm.trans ht1)
  have k0 := (tab_cells Tryd.underlying95 Tryd.underlying94 Tryd.underlying5 (by kernel_rfl) (by kernel_rfl) hd0 small_data).2
  have k1 := (tab_cells Tryd.underlying98 Tryd.underlying97 Tryd.underlying5 (by kernel_rfl) (by kernel_rfl) hd1 big_data).2
  have c0 : ∀ j (hj : j < smallL.length), W.cell? ⟨0, j, none⟩ = some (.int .u8 smallL[j]) := fun j hj => by
    have hj' := hj
    rw [smallL_len] at hj'
    obtain ⟨hk, hc⟩ := k0 (j / 5) (by simp; omega)
    have := hc (j % 5) (by omega)
    rw [show j / 5 * 5 + j % 5 = j by omega] at this
    rw [World.var?_cell hg0 hv0 j, ← Array.getElem?_toList, this]
    congr 2
    simp only [List.getElem_map, List.getElem_range]
    rw [smallG_get _ (by omega)]
    congr 1
    omega
  have c1 : ∀ j (hj : j < bigL.length), W.cell? ⟨1, j, none⟩ = some (.int .u8 bigL[j]) := fun j hj => by
    have hj' := hj
    rw [bigL_len] at hj'
    obtain ⟨hk, hc⟩ := k1 (j / 10) (by simp; omega)
    have := hc (j % 10) (by omega)
    rw [show j / 10 * 10 + j % 10 = j by omega] at this
    rw [World.var?_cell hg1 hv1 j, ← Array.getElem?_toList, this]
    congr 2
    simp only [List.getElem_map, List.getElem_range]
    rw [bigG_get _ (by omega)]
    congr 1
    omega
  refine ⟨?_, c1, c0⟩
  have a0 := World.block_lt_of_cell? W _ (c0 0 (by rw [smallL_len]; omega))
  have a1 := World.block_lt_of_cell? W _ (c1 0 (by rw [bigL_len]; omega))
  simp at a0 a1
  omega
end Go.Proofs.YtgilkbmipgejeaaDoor
