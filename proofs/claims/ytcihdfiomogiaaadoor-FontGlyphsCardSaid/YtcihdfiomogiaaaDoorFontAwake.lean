/- 'awake' of the law package of layer 4 returns true. -/
import Derived.Test.YtcihdfiomogiaaaDoorFontRef
namespace Go.Proofs.YtcihdfiomogiaaaDoor
open Go.RowKit Num
set_option linter.unusedVariables false

theorem Gives.form {ty : TypeId} {L : List Int} {w w' : World} {e : Ending} {n : Nat} (h : Gives ty L w e w') (hn : L.length = n) (h0 : 0 < n) :
    ∃ g c, e = .returned (.slice (some ⟨g, 0, none⟩) n c) ∧ n ≤ c ∧ w.heap.size ≤ g ∧ g < w'.heap.size ∧ Row (Value.int .u8) w' (some ⟨g, 0, none⟩) L ∧ Below w.heap.size w w' := by
  obtain ⟨v, rfl, hown, hb⟩ := h
  rw [hn] at hown
  obtain ⟨g, c, rfl, hg, hlt⟩ := hown.form h0
  refine ⟨g, c, rfl, ?_, hg, hlt, Row.of_own hown, hb⟩
  rcases hown.2 with ⟨h1, _⟩ | ⟨g', c', cur, h1, _, _, hc, _⟩
  · cases h1
  · injection h1 with _ _ h2
    omega
theorem Row.new {α : Type} {enc : α → Value} (w : World) (L : List α) (t : TypeId) : Row enc (w.alloc (.cells (L.map enc).toArray t)) (some ⟨w.heap.size, 0, none⟩) L := fun hne => by
  refine ⟨w.heap.size, 0, rfl, by simp, fun j hj => ?_⟩
  rw [World.cell?_alloc_at _ _ _ _ rfl]
  simp [hj]
/-- A part of a row. -/
theorem Row.part {α : Type} {enc : α → Value} {w : World} {g o : Nat} {L : List α} (h : Row enc w (some ⟨g, o, none⟩) L) (i m : Nat) : Row enc w (some ⟨g, o + i, none⟩) ((L.drop i).take m) := fun hne => by
  have hL : L ≠ [] := by rintro rfl; simp at hne
  obtain ⟨b, o', he, hlt, hc⟩ := h hL
  injection he with he
  injection he with e1 e2
  subst e1; subst e2
  refine ⟨g, o + i, rfl, hlt, fun j hj => ?_⟩
  have hj' : i + j < L.length := by simp at hj; omega
  rw [Nat.add_assoc, hc (i + j) hj']
  simp
theorem Row.part0 {α : Type} {enc : α → Value} {w : World} {g : Nat} {L : List α} (h : Row enc w (some ⟨g, 0, none⟩) L) (i m : Nat) : Row enc w (some ⟨g, i, none⟩) ((L.drop i).take m) := by
  have := h.part i m
  rwa [Nat.zero_add] at this
theorem smallG_1 : smallG 1 = [32, 96, 32, 32, 112] := by decide +kernel

set_option maxRecDepth 100000 in
set_option maxHeartbeats 4000000 in
theorem awake4 (w : World) (hL : Laid w) : Calls Tryd.prog 7 #[] w fun e w' => e = .returned (.bool true) ∧ Below w.heap.size w w' := by
  go_enter Tryd.func7, Tryd.ntmps7
  go_wp2_with fail
  refine (small_any _ hL).mono ?_
  rintro e w1 h
  obtain ⟨g1, c1, rfl, _, _, _, r1, b1⟩ := h.form smallL_len (by omega)
  have L1 := hL.step b1
  go_wp2_with fail
  refine (rsmall_any _).mono ?_
  rintro e w2 h
  obtain ⟨g2, c2, rfl, _, _, _, r2, b2⟩ := h.form smallL_len (by omega)
  have L2 := L1.step b2
  have B2 := b1.trans (b2.mono b1.size)
  go_wp2_with fail
  refine (same_any _ _ _ _ _ _ _ _ _ smallL_len smallL_len (by omega) (by omega) (r1.below b2) r2).mono ?_
  rintro e w3 ⟨rfl, b3⟩
  rw [decide_eq_true rfl]
  have L3 := L2.step b3
  have B3 := B2.trans (b3.mono B2.size)
  clear r1 r2 b1 b2 b3 L1 L2 B2 hL
  go_wp2_with fail
  refine (big_any _ L3).mono ?_
  rintro e w4 h
  obtain ⟨g4, c4, rfl, _, _, _, r1, b4⟩ := h.form bigL_len (by omega)
  have L4 := L3.step b4
  have B4 := B3.trans (b4.mono B3.size)
  go_wp2_with fail
  refine (rbig_any _).mono ?_
  rintro e w5 h
  obtain ⟨g5, c5, rfl, _, _, _, r2, b5⟩ := h.form bigL_len (by omega)
  have L5 := L4.step b5
  have B5 := B4.trans (b5.mono B4.size)
  go_wp2_with fail
  refine (same_any _ _ _ _ _ _ _ _ _ bigL_len bigL_len (by omega) (by omega) (r1.below b5) r2).mono ?_
  rintro e w6 ⟨rfl, b6⟩
  rw [decide_eq_true rfl]
  have L6 := L5.step b6
  have B6 := B5.trans (b6.mono B5.size)
  clear r1 r2 b4 b5 b6 L3 L4 L5 B3 B4 B5
  go_wp2_with fail
  refine (glyph_small 1 1 _ (by omega) (by decide) L6).mono ?_
  rintro e w7 h
  obtain ⟨g7, c7, rfl, _, _, _, r1, b7⟩ := h.form (n := 5) (smallG_len (by omega)) (by omega)
  rw [smallG_1] at r1
  have B7 := B6.trans (b7.mono B6.size)
  clear h
  go_wp2_with fail
  refine (same_any _ _ _ _ 5 5 [32, 96, 32, 32, 112] [32, 96, 32, 32, 112] _ rfl rfl (by omega) (by omega) (r1.below ((Below.refl _ _).alloc (Nat.le_refl _) _)) (Row.new _ _ 5)).mono ?_
  rintro e w8 ⟨rfl, b8⟩
  rw [decide_eq_true rfl]
  have B8 := (B7.alloc B7.size _).trans (b8.mono (by have := B7.size; simp; omega))
  clear r1 b7 b8 L6 B6 B7
  go_wp2_with fail
  refine (smallAt_yes 1 _ (by omega)).mono ?_
  rintro e w' ⟨rfl, rfl⟩
  go_wp2_with fail
  refine (bigAt_yes 15 _ (by omega)).mono ?_
  rintro e w' ⟨rfl, rfl⟩
  go_wp2_with fail
  refine (glyph_no (-1) true _ (by omega)).mono ?_
  rintro e w' ⟨rfl, rfl⟩
  go_wp2
  go_ret
  exact ⟨rfl, B8⟩
end Go.Proofs.YtcihdfiomogiaaaDoor
