/- The walk of FontShapes. -/
import Derived.Test.YtcihdfiomogiaaaDoorFontAwake
namespace Go.Proofs.YtcihdfiomogiaaaDoor
open Go.RowKit Num
set_option linter.unusedVariables false

theorem small_ok : ∀ (k : Fin 16) (j : Fin 5), 0 < (smallG k).getD j 0 ∧ (smallG k).getD j 0 ≤ 255 ∧ ((smallG k).getD j 0).tmod 16 = 0 := by decide +kernel
theorem small_first : ∀ k : Fin 16, k.val = 1 ∨ k.val = 4 ∨ 224 ≤ (smallG k).getD 0 0 := by decide +kernel
theorem big_ok : ∀ (k : Fin 16) (j : Fin 10), 0 < (bigG k).getD j 0 ∧ (bigG k).getD j 0 ≤ 255 := by decide +kernel
theorem Row.cell0 {L : List Int} {w : World} {g : Nat} (h : Row (Value.int .u8) w (some ⟨g, 0, none⟩) L) {j : Nat} (hj : j < L.length) : w.cell? ⟨g, j, none⟩ = some (.int .u8 (L.getD j 0)) := by
  obtain ⟨b, o, he, _, hc⟩ := h.at_ hj
  injection he with he
  injection he with e1 e2
  subst e1; subst e2
  rw [Nat.zero_add] at hc
  rw [hc]
  simp [List.getD, hj]

set_option maxRecDepth 100000 in
set_option maxHeartbeats 4000000 in
theorem fontShapes_walk (n : Int) (w0 : (Lit.int .u8 n).wf = true) (w : World) (hL : Laid w) :
    Calls Tryd.prog 6 #[.int .u8 n] w fun e w' => e = .returned (.bool true) ∧ Below w.heap.size w w' := by
  obtain ⟨n0, n1⟩ := bd_u8 w0
  obtain ⟨k, hk⟩ : ∃ k : Nat, n % 16 = k := ⟨(n % 16).toNat, by omega⟩
  have hk16 : k < 16 := by omega
  have ht : n.tmod 16 = k := by rw [tmod_pos n 16 n0, hk]
  have ht2 : (k : Int) % 16 = k := by omega
  go_enter Tryd.func6, Tryd.ntmps6
  go_wp2_with fail
  refine (awake4 _ hL).mono ?_
  rintro e w1 ⟨rfl, hb1⟩
  have L1 := hL.step hb1
  go_wp2_with fail
  refine (glyph_small k k _ (by omega) ht2 L1).mono ?_
  rintro e w2 h2
  obtain ⟨g2, c2, rfl, _, _, _, r2, b2⟩ := h2.form (smallG_len hk16) (by omega)
  have B2 := hb1.trans (b2.mono hb1.size)
  have L2 := L1.step b2
  go_wp2_with fail
  refine (glyph_big k k _ (by omega) ht2 L2).mono ?_
  rintro e w3 h3
  obtain ⟨g3, c3, rfl, _, _, _, r3, b3⟩ := h3.form (bigG_len hk16) (by omega)
  have B3 := B2.trans (b3.mono B2.size)
  have rs := r2.below b3
  clear h2 h3 r2 b2 b3 L1 L2 hb1 B2 hL ht ht2 hk w0
  go_wp2
  go_loop [6] (fun i => ∃ j : Nat, j ≤ 5 ∧ i = .int .i64 j) (fun i => 5 - (intOf i).toNat)
  case atStart => exact ⟨0, by omega, rfl⟩
  case round =>
    obtain ⟨j, hj, rfl⟩ := hrel
    by_cases hlt : j < 5
    · have hc := rs.cell0 (j := j) (by rw [smallG_len hk16]; exact hlt)
      obtain ⟨x0, x1, x2⟩ := small_ok ⟨k, hk16⟩ ⟨j, hlt⟩
      simp only at x0 x1 x2
      generalize (smallG k).getD j 0 = x at *
      have x3 : (x == 0) = false := by simp; omega
      go_wp2
      go_round
      case rel => exact ⟨j + 1, by omega, by go_num⟩
      case measure => simp [intOf]; omega
    · go_wp2
      go_loop [7] (fun i => ∃ j : Nat, j ≤ 10 ∧ i = .int .i64 j) (fun i => 10 - (intOf i).toNat)
      case atStart => exact ⟨0, by omega, rfl⟩
      case round =>
        clear hlt hj
        obtain ⟨j, hj, rfl⟩ := hrel
        by_cases hlt : j < 10
        · have hc := r3.cell0 (j := j) (by rw [bigG_len hk16]; exact hlt)
          obtain ⟨x0, x1⟩ := big_ok ⟨k, hk16⟩ ⟨j, hlt⟩
          simp only at x0 x1
          generalize (bigG k).getD j 0 = x at *
          have x3 : (x == 0) = false := by simp; omega
          go_wp2
          go_round
          case rel => exact ⟨j + 1, by omega, by go_num⟩
          case measure => simp [intOf]; omega
        · have hc := rs.cell0 (j := 0) (by rw [smallG_len hk16]; omega)
          rcases small_first ⟨k, hk16⟩ with h | h | h
          · simp only at h
            subst h
            go_wp2
            go_ret
            exact ⟨rfl, B3⟩
          · simp only at h
            subst h
            go_wp2
            go_ret
            exact ⟨rfl, B3⟩
          · simp only at h
            generalize (smallG k).getD 0 0 = x at *
            by_cases h1 : k = 1
            · subst h1
              go_wp2
              go_ret
              exact ⟨rfl, B3⟩
            · by_cases h4 : k = 4
              · subst h4
                go_wp2
                go_ret
                exact ⟨rfl, B3⟩
              · have e1 : ((k : Int) == 1) = false := by simp; omega
                have e4 : ((k : Int) == 4) = false := by simp; omega
                have e5 : decide (224 ≤ x) = true := by simpa using h
                go_wp2
                go_ret
                exact ⟨by simp, B3⟩
end Go.Proofs.YtcihdfiomogiaaaDoor
