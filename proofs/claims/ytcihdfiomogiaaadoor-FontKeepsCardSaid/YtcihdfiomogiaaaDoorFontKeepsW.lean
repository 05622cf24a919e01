/- The walk of FontKeeps. -/
import Derived.Test.YtcihdfiomogiaaaDoorFontAwake
namespace Go.Proofs.YtcihdfiomogiaaaDoor
open Go.RowKit Num
set_option linter.unusedVariables false

/-- The block g is the call's own, and has at least n bytes, which may be written. -/
def Own (base g n : Nat) (w : World) : Prop := base ≤ g ∧ ∀ j, j < n → (∃ x : Int, w.cell? ⟨g, j, none⟩ = some (.int .u8 x)) ∧ w.frozen? ⟨g, j, none⟩ = false
theorem Own.set {base g n : Nat} {w : World} (h : Own base g n w) (g' i : Nat) (v : Int) : Own base g n (w.setCell ⟨g', i, none⟩ (.int .u8 v)) := by
  refine ⟨h.1, fun j hj => ⟨?_, by rw [World.frozen?_setCell]; exact (h.2 j hj).2⟩⟩
  obtain ⟨x, hx⟩ := (h.2 j hj).1
  by_cases e : g' = g ∧ i = j
  · obtain ⟨rfl, rfl⟩ := e
    exact ⟨v, World.cell?_setCell_same w _ _ hx⟩
  · refine ⟨x, ?_⟩
    rw [World.cell?_setCell_other w _ _ _ (fun c => e (by injection c with c1 c2; exact ⟨by first | exact c1 | exact c1.symm, by first | exact c2 | exact c2.symm⟩))]
    exact hx
theorem Own.below {base g n : Nat} {w w' : World} (h : Own base g n w) (hb : Below w.heap.size w w') : Own base g n w' := by
  refine ⟨h.1, fun j hj => ?_⟩
  obtain ⟨⟨x, hx⟩, hf⟩ := h.2 j hj
  have hlt := World.block_lt_of_cell? w _ hx
  exact ⟨⟨x, (hb.cell (p := ⟨g, j, none⟩) hlt).trans hx⟩, (hb.frozen (p := ⟨g, j, none⟩) hlt).trans hf⟩
theorem Own.mono {base base' g n : Nat} {w : World} (h : Own base g n w) (hb : base' ≤ base) : Own base' g n w := ⟨Nat.le_trans hb h.1, h.2⟩
theorem Gives.own {ty : TypeId} {L : List Int} {w w' : World} {e : Ending} {n : Nat} (h : Gives ty L w e w') (hn : L.length = n) (h0 : 0 < n) :
    ∃ g c, e = .returned (.slice (some ⟨g, 0, none⟩) n c) ∧ Own w.heap.size g n w' ∧ Below w.heap.size w w' := by
  obtain ⟨v, rfl, hown, hb⟩ := h
  rw [hn] at hown
  obtain ⟨g, c, rfl, hg, hlt⟩ := hown.form h0
  refine ⟨g, c, rfl, ⟨hg, fun j hj => ⟨?_, ?_⟩⟩, hb⟩
  · obtain ⟨b, o, he, _, hc⟩ := (Row.of_own hown).at_ (k := j) (by omega)
    injection he with he
    injection he with e1 e2
    subst e1; subst e2
    rw [Nat.zero_add] at hc
    exact ⟨_, hc⟩
  · rcases hown.2 with ⟨h1, _⟩ | ⟨g', c', cur, h1, _, hgg, _⟩
    · cases h1
    · injection h1 with h1 _ _
      injection h1 with h1
      injection h1 with h1
      subst h1
      exact frozen_of_row w' g j cur ty hgg

set_option maxRecDepth 100000 in
set_option maxHeartbeats 8000000 in
theorem fontKeeps_walk (n : Int) (w0 : (Lit.int .u8 n).wf = true) (w : World) (hL : Laid w) :
    Calls Tryd.prog 5 #[.int .u8 n] w fun e w' => e = .returned (.bool true) ∧ Below w.heap.size w w' := by
  obtain ⟨n0, n1⟩ := bd_u8 w0
  obtain ⟨k, hk⟩ : ∃ k : Nat, n % 16 = k := ⟨(n % 16).toNat, by omega⟩
  have hk16 : k < 16 := by omega
  have ht : n.tmod 16 = k := by rw [tmod_pos n 16 n0, hk]
  have Ht := Lib.hid (And.intro hk ht)
  clear hk ht w0
  go_enter Tryd.func5, Tryd.ntmps5
  go_wp2_with fail
  refine (awake4 _ hL).mono ?_
  rintro e w1 ⟨rfl, hb1⟩
  have L1 := hL.step hb1
  go_wp2_with fail
  refine (small_any _ L1).mono ?_
  rintro e w2 h
  obtain ⟨ga, ca, rfl, o2, b2⟩ := h.own smallL_len (by omega)
  have L2 := L1.step b2
  have B2 := hb1.trans (b2.mono hb1.size)
  have O2 := o2.mono hb1.size
  go_wp2_with fail
  refine (big_any _ L2).mono ?_
  rintro e w3 h
  obtain ⟨gb, cb, rfl, o3, b3⟩ := h.own bigL_len (by omega)
  have L3 := L2.step b3
  have B3 := B2.trans (b3.mono B2.size)
  have O3 := o3.mono B2.size
  go_wp2_with fail
  refine (glyph_small n k _ n0 Ht.out.1 L3).mono ?_
  rintro e w4 h
  obtain ⟨gc, cc, rfl, o4, b4⟩ := h.own (smallG_len hk16) (by omega)
  have L4 := L3.step b4
  have B4 := B3.trans (b4.mono B3.size)
  have O4 := o4.mono B3.size
  go_wp2_with fail
  refine (glyph_big n k _ n0 Ht.out.1 L4).mono ?_
  rintro e w5 h
  obtain ⟨gd, cd, rfl, o5, b5⟩ := h.own (bigG_len hk16) (by omega)
  have B5 := B4.trans (b5.mono B4.size)
  have O5 := o5.mono B4.size
  have HO : Hid (Own w.heap.size ga 80 w5 ∧ Own w.heap.size gb 160 w5 ∧ Own w.heap.size gc 5 w5 ∧ Own w.heap.size gd 10 w5) :=
    Lib.hid ⟨((O2.below b3).below b4).below b5, (O3.below b4).below b5, O4.below b5, O5⟩
  clear h o2 o3 o4 o5 O2 O3 O4 O5 b2 b3 b4 b5 L1 L2 L3 L4 hb1 B2 B3 B4
  go_wp2
  go_loopw [7] (fun i wr => ∃ j : Nat, j ≤ 80 ∧ i = .int .i64 j ∧ Hid (Own w.heap.size ga 80 wr ∧ Own w.heap.size gb 160 wr ∧ Own w.heap.size gc 5 wr ∧ Own w.heap.size gd 10 wr) ∧ Below w.heap.size w wr) (fun i _ => 80 - (intOf i).toNat)
  case atStart => exact ⟨0, by omega, rfl, HO, B5⟩
  case round =>
    clear HO B5
    obtain ⟨j, hj, rfl, H, hb⟩ := hrel
    by_cases hlt : j < 80
    · obtain ⟨⟨x, hc⟩, hf⟩ := H.out.1.2 j hlt
      have hg := H.out.1.1
      go_wp2
      go_roundw
      case rel => exact ⟨j + 1, by omega, by go_num, Lib.hid ⟨H.out.1.set _ _ _, H.out.2.1.set _ _ _, H.out.2.2.1.set _ _ _, H.out.2.2.2.set _ _ _⟩, hb.setCell hg _⟩
      case measure => simp [intOf]; omega
    · go_wp2
      clear hlt hj
      go_loopw [8] (fun i wr => ∃ j : Nat, j ≤ 160 ∧ i = .int .i64 j ∧ Hid (Own w.heap.size ga 80 wr ∧ Own w.heap.size gb 160 wr ∧ Own w.heap.size gc 5 wr ∧ Own w.heap.size gd 10 wr) ∧ Below w.heap.size w wr) (fun i _ => 160 - (intOf i).toNat)
      case atStart => exact ⟨0, by omega, rfl, H, hb⟩
      case round =>
        clear H hb
        obtain ⟨j, hj, rfl, H, hb⟩ := hrel
        by_cases hlt : j < 160
        · obtain ⟨⟨x, hc⟩, hf⟩ := H.out.2.1.2 j hlt
          have hg := H.out.2.1.1
          go_wp2
          go_roundw
          case rel => exact ⟨j + 1, by omega, by go_num, Lib.hid ⟨H.out.1.set _ _ _, H.out.2.1.set _ _ _, H.out.2.2.1.set _ _ _, H.out.2.2.2.set _ _ _⟩, hb.setCell hg _⟩
          case measure => simp [intOf]; omega
        · go_wp2
          clear hlt hj
          go_loopw [9] (fun i wr => ∃ j : Nat, j ≤ 5 ∧ i = .int .i64 j ∧ Hid (Own w.heap.size ga 80 wr ∧ Own w.heap.size gb 160 wr ∧ Own w.heap.size gc 5 wr ∧ Own w.heap.size gd 10 wr) ∧ Below w.heap.size w wr) (fun i _ => 5 - (intOf i).toNat)
          case atStart => exact ⟨0, by omega, rfl, H, hb⟩
          case round =>
            clear H hb
            obtain ⟨j, hj, rfl, H, hb⟩ := hrel
            by_cases hlt : j < 5
            · obtain ⟨⟨x, hc⟩, hf⟩ := H.out.2.2.1.2 j hlt
              have hg := H.out.2.2.1.1
              go_wp2
              go_roundw
              case rel => exact ⟨j + 1, by omega, by go_num, Lib.hid ⟨H.out.1.set _ _ _, H.out.2.1.set _ _ _, H.out.2.2.1.set _ _ _, H.out.2.2.2.set _ _ _⟩, hb.setCell hg _⟩
              case measure => simp [intOf]; omega
            · go_wp2
              clear hlt hj
              go_loopw [10] (fun i wr => ∃ j : Nat, j ≤ 10 ∧ i = .int .i64 j ∧ Hid (Own w.heap.size ga 80 wr ∧ Own w.heap.size gb 160 wr ∧ Own w.heap.size gc 5 wr ∧ Own w.heap.size gd 10 wr) ∧ Below w.heap.size w wr) (fun i _ => 10 - (intOf i).toNat)
              case atStart => exact ⟨0, by omega, rfl, H, hb⟩
              case round =>
                clear H hb
                obtain ⟨j, hj, rfl, H, hb⟩ := hrel
                by_cases hlt : j < 10
                · obtain ⟨⟨x, hc⟩, hf⟩ := H.out.2.2.2.2 j hlt
                  have hg := H.out.2.2.2.1
                  go_wp2
                  go_roundw
                  case rel => exact ⟨j + 1, by omega, by go_num, Lib.hid ⟨H.out.1.set _ _ _, H.out.2.1.set _ _ _, H.out.2.2.1.set _ _ _, H.out.2.2.2.set _ _ _⟩, hb.setCell hg _⟩
                  case measure => simp [intOf]; omega
                · have L1 := hL.step hb
                  have hk := Ht.out.1
                  have ht := Ht.out.2
                  have q0 : 0 ≤ 5 * (k : Int) := by omega
                  have q1 : 0 ≤ 5 * (k : Int) + 5 := by omega
                  have q2 : 0 ≤ 10 * (k : Int) := by omega
                  have q3 : 0 ≤ 10 * (k : Int) + 10 := by omega
                  clear H
                  go_wp2_with fail
                  refine (awake4 _ L1).mono ?_
                  rintro e w2 ⟨rfl, b2⟩
                  have L2 := L1.step b2
                  have B2 := hb.trans (b2.mono hb.size)
                  go_wp2_with fail
                  refine (glyph_big n k _ n0 hk L2).mono ?_
                  rintro e w5 h2
                  obtain ⟨g5, c5, rfl, _, _, _, r2, b5⟩ := h2.form (bigG_len hk16) (by omega)
                  have B5 := B2.trans (b5.mono B2.size)
                  have L5 := L2.step b5
                  go_wp2_with fail
                  refine (rbig_any _).mono ?_
                  rintro e w6 h3
                  obtain ⟨g6, c6, rfl, m3, _, _, r3, b3⟩ := h3.form bigL_len (by omega)
                  have B6 := B5.trans (b3.mono B5.size)
                  have L6 := L5.step b3
                  have m3 : (160 : Int) ≤ (c6 : Int) := by omega
                  have m4 : 10 * (k : Int) + 10 ≤ (c6 : Int) := by omega
                  have m5 : 10 * (k : Int) < (c6 : Int) := by omega
                  clear h2 h3
                  go_wp2_with fail
                  refine (same_any _ _ _ _ _ _ (bigG k) (bigG k) _ (bigG_len hk16) (bigG_len hk16) (by omega) (by omega) (r2.below b3) (r3.part0 (10 * k) 10)).mono ?_
                  rintro e w7 ⟨rfl, b7⟩
                  rw [decide_eq_true rfl]
                  have B7 := B6.trans (b7.mono B6.size)
                  have L7 := L6.step b7
                  clear r2 r3 b2 b3 b5 b7 m3 m4 m5 L1 L2 L5 L6 B2 B5 B6 hb
                  go_wp2_with fail
                  refine (glyph_small n k _ n0 hk L7).mono ?_
                  rintro e w8 h2
                  obtain ⟨g8, c8, rfl, _, _, _, r2, b8⟩ := h2.form (smallG_len hk16) (by omega)
                  have B8 := B7.trans (b8.mono B7.size)
                  go_wp2_with fail
                  refine (rsmall_any _).mono ?_
                  rintro e w9 h3
                  obtain ⟨g9, c9, rfl, m3, _, _, r3, b9⟩ := h3.form smallL_len (by omega)
                  have B9 := B8.trans (b9.mono B8.size)
                  have m3 : (80 : Int) ≤ (c9 : Int) := by omega
                  have m4 : 5 * (k : Int) + 5 ≤ (c9 : Int) := by omega
                  have m5 : 5 * (k : Int) < (c9 : Int) := by omega
                  clear h2 h3
                  go_wp2_with fail
                  refine (same_any _ _ _ _ _ _ (smallG k) (smallG k) _ (smallG_len hk16) (smallG_len hk16) (by omega) (by omega) (r2.below b9) (r3.part0 (5 * k) 5)).mono ?_
                  rintro e wA ⟨rfl, bA⟩
                  rw [decide_eq_true rfl]
                  have BA := B9.trans (bA.mono B9.size)
                  go_wp2
                  go_ret
                  exact ⟨rfl, BA⟩
end Go.Proofs.YtcihdfiomogiaaaDoor
