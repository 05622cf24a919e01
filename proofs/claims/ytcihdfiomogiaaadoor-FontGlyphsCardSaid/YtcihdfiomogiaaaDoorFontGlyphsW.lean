/- The walk of FontGlyphs. -/
import Derived.Test.YtcihdfiomogiaaaDoorFontAwake
import Derived.Test.YtcihdfiomogiaaaDoorMix
namespace Go.Proofs.YtcihdfiomogiaaaDoor
open Go.RowKit Num
set_option linter.unusedVariables false

/-- What holds all through the last statement. -/
structure Sx (m ga gb : Nat) (w w' : World) : Prop where
  below : Below w.heap.size w w'
  laid : Laid w'
  ra : Row (Value.int .u8) w' (some ⟨ga, 5 * m, none⟩) (smallG m)
  rb : Row (Value.int .u8) w' (some ⟨gb, 10 * m, none⟩) (bigG m)
theorem Sx.step {m ga gb : Nat} {w w1 w2 : World} (h : Sx m ga gb w w1) (hb : Below w1.heap.size w1 w2) : Sx m ga gb w w2 :=
  ⟨h.below.trans (hb.mono h.below.size), h.laid.step hb, h.ra.below hb, h.rb.below hb⟩

set_option linter.unusedSimpArgs false in
set_option maxRecDepth 100000 in
set_option maxHeartbeats 8000000 in
theorem fontGlyphs_walk (a b : Int) (w0 : (Lit.int .u8 a).wf = true) (w1 : (Lit.int .u8 b).wf = true) (w : World) (hL : Laid w) :
    Calls Tryd.prog 4 #[.int .u8 a, .int .u8 b] w fun e w' => e = .returned (.bool true) ∧ Below w.heap.size w w' := by
  obtain ⟨a0, a1⟩ := bd_u8 w0
  obtain ⟨b0, b1⟩ := bd_u8 w1
  obtain ⟨m, hm⟩ : ∃ m : Nat, a % 16 = m := ⟨(a % 16).toNat, by omega⟩
  obtain ⟨n, hn⟩ : ∃ n : Nat, b % 16 = n := ⟨(b % 16).toNat, by omega⟩
  have hm16 : m < 16 := by omega
  have hn16 : n < 16 := by omega
  have tm : a.tmod 16 = m := by rw [tmod_pos a 16 a0, hm]
  have tn : b.tmod 16 = n := by rw [tmod_pos b 16 b0, hn]
  have mm : (m : Int) % 16 = m := by omega
  have nn : (n : Int) % 16 = n := by omega
  clear hm hn w0 w1
  go_enter Tryd.func4, Tryd.ntmps4
  go_wp2_with fail
  refine (awake4 _ hL).mono ?_
  rintro e w1 ⟨rfl, hb1⟩
  have L1 := hL.step hb1
  go_wp2_with fail
  refine (smallAt_yes _ _ (by omega)).mono ?_
  rintro e w' ⟨rfl, rfl⟩
  rw [mm]
  go_wp2_with fail
  refine (bigAt_yes _ _ (by omega)).mono ?_
  rintro e w' ⟨rfl, rfl⟩
  rw [mm]
  go_wp2_with fail
  refine (small_any _ L1).mono ?_
  rintro e w2 h
  obtain ⟨g2, c2, rfl, m2, _, _, r2, b2⟩ := h.form smallL_len (by omega)
  have L2 := L1.step b2
  have B2 := hb1.trans (b2.mono hb1.size)
  go_wp2_with fail
  refine (big_any _ L2).mono ?_
  rintro e w3 h
  obtain ⟨g3, c3, rfl, m3, _, _, r3, b3⟩ := h.form bigL_len (by omega)
  have L3 := L2.step b3
  have B3 := B2.trans (b3.mono B2.size)
  have S3 : Sx m g2 g3 w w3 := ⟨B3, L3, (r2.below b3).part0 (5 * m) 5, r3.part0 (10 * m) 10⟩
  clear h r2 r3 b2 b3 L1 L2 L3 hb1 B2 B3 hL tm tn
  go_wp2
  have f0 : 80 + 5 * (m : Int) - 80 = 5 * m := by omega
  have f1 : 160 + 10 * (m : Int) - 160 = 10 * m := by omega
  have m2 : (80 : Int) ≤ (c2 : Int) := by omega
  have m3 : (160 : Int) ≤ (c3 : Int) := by omega
  have hms := smallG_len hm16
  have hmb := bigG_len hm16
  have hns := smallG_len hn16
  have hnb := bigG_len hn16
  have S := Lib.hid S3
  clear S3
  rw [f0, f1]
  clear f0 f1
  have q0 : 0 ≤ 5 * (m : Int) := by omega
  have q1 : 0 ≤ 5 * (m : Int) + 5 := by omega
  have q2 : 0 ≤ 10 * (m : Int) := by omega
  have q3 : 0 ≤ 10 * (m : Int) + 10 := by omega
  have q4 : 5 * (m : Int) ≤ 5 * (m : Int) + 5 := by omega
  have q5 : 10 * (m : Int) ≤ 10 * (m : Int) + 10 := by omega
  have q6 : 5 * (m : Int) + 5 ≤ (c2 : Int) := by omega
  have q7 : 10 * (m : Int) + 10 ≤ (c3 : Int) := by omega
  have q8 : 5 * (m : Int) < (c2 : Int) := by omega
  have q9 : 10 * (m : Int) < (c3 : Int) := by omega
  have v0 := IntWalk.i64_in (5 * (m : Int) + 5) (by omega)
  have v1 := IntWalk.i64_in (10 * (m : Int) + 10) (by omega)
  obtain ⟨bv, es, eb, en⟩ : ∃ bv : Bool, decide (smallG m = smallG n) = bv ∧ decide (bigG m = bigG n) = bv ∧ ((m : Int) == (n : Int)) = bv := by
    refine ⟨decide (m = n), ?_, ?_, ?_⟩
    · have := smallG_ne ⟨m, hm16⟩ ⟨n, hn16⟩; simpa using this
    · have := bigG_ne ⟨m, hm16⟩ ⟨n, hn16⟩; simpa using this
    · by_cases e : m = n
      · subst e; simp
      · have e2 : ¬ (m : Int) = (n : Int) := by omega
        simp [e, e2]
  have ES := Lib.hid (And.intro es eb)
  clear es eb
  have Sd : Sx m g2 g3 w w3.drew := S.out.step (Below.refl _ _).drew
  refine wp_region_mix (C := fun w' => ∃ x : AnyW, w' = x.w) [([0, 1, 2, 3, 4, 5], 6), ([], 7), ([8, 9, 10, 11, 12, 13, 14], 15), ([], 16), ([17, 18, 19, 21, 24, 25, 26], 20), ([], 22), ([], 23), ([27, 28, 29, 30, 32, 35, 36, 37], 31), ([], 33), ([], 34)] [38, 39, 40] (by kernel_rfl) (by kernel_rfl) (fun _ _ d _ _ h => by cases d <;> exact h) (AnyW.any _) ?_
  intro wd hwd
  rw [← hwd] at Sd
  have SD := Lib.hid Sd
  clear hwd Sd S
  refine mix_run (by simp only [opsAt, List.getElem?_toArray, List.getElem?_cons_succ, List.getElem?_cons_zero]; rfl) (by rfl) ?_
  repeat (go_big_quiet_step (fail))
  refine wpQuiet_nil ?_
  refine mix_call (by rfl) ?_
  intro K hK
  go_wp2_with fail
  refine (glyph_small m m _ (by omega) mm SD.out.laid).mono ?_
  rintro e w' h
  obtain ⟨gx, cx, rfl, _, _, _, r, hk⟩ := h.form hms (by omega)
  have S1 := Lib.hid (SD.out.step hk)
  clear h SD hk
  simp only []
  refine hK _ _ (AnyW.any _) ?_
  clear hK K
  refine mix_run (by simp only [opsAt, List.getElem?_toArray, List.getElem?_cons_succ, List.getElem?_cons_zero]; rfl) (by rfl) ?_
  repeat (go_big_quiet_step (fail))
  refine wpQuiet_nil ?_
  refine mix_call (by rfl) ?_
  intro K hK
  go_wp2_with fail
  refine (same_any _ _ _ _ _ _ (smallG m) (smallG m) _ hms hms (by omega) (by omega) (S1.out.ra) (r)).mono ?_
  rintro e w' ⟨rfl, hk⟩
  rw [decide_eq_true rfl]
  have S2 := Lib.hid (S1.out.step hk)
  clear S1 r hk
  simp only []
  refine hK _ _ (AnyW.any _) ?_
  clear hK K
  refine mix_run (by simp only [opsAt, List.getElem?_toArray, List.getElem?_cons_succ, List.getElem?_cons_zero]; rfl) (by rfl) ?_
  repeat (go_big_quiet_step (fail))
  refine wpQuiet_nil ?_
  refine mix_call (by rfl) ?_
  intro K hK
  go_wp2_with fail
  refine (glyph_big m m _ (by omega) mm S2.out.laid).mono ?_
  rintro e w' h
  obtain ⟨gx, cx, rfl, _, _, _, r, hk⟩ := h.form hmb (by omega)
  have S3 := Lib.hid (S2.out.step hk)
  clear h S2 hk
  simp only []
  refine hK _ _ (AnyW.any _) ?_
  clear hK K
  refine mix_run (by simp only [opsAt, List.getElem?_toArray, List.getElem?_cons_succ, List.getElem?_cons_zero]; rfl) (by rfl) ?_
  repeat (go_big_quiet_step (fail))
  refine wpQuiet_nil ?_
  refine mix_call (by rfl) ?_
  intro K hK
  go_wp2_with fail
  refine (same_any _ _ _ _ _ _ (bigG m) (bigG m) _ hmb hmb (by omega) (by omega) (S3.out.rb) (r)).mono ?_
  rintro e w' ⟨rfl, hk⟩
  rw [decide_eq_true rfl]
  have S4 := Lib.hid (S3.out.step hk)
  clear S3 r hk
  simp only []
  refine hK _ _ (AnyW.any _) ?_
  clear hK K
  refine mix_run (by simp only [opsAt, List.getElem?_toArray, List.getElem?_cons_succ, List.getElem?_cons_zero]; rfl) (by rfl) ?_
  repeat (go_big_quiet_step (fail))
  refine wpQuiet_nil ?_
  refine mix_call (by rfl) ?_
  intro K hK
  go_wp2_with fail
  refine (glyph_small m m _ (by omega) mm S4.out.laid).mono ?_
  rintro e w' h
  obtain ⟨gx, cx, rfl, _, _, _, r, hk⟩ := h.form hms (by omega)
  have S5 := Lib.hid (S4.out.step hk)
  clear h S4 hk
  simp only []
  refine hK _ _ (AnyW.any _) ?_
  clear hK K
  refine mix_run (by simp only [opsAt, List.getElem?_toArray, List.getElem?_cons_succ, List.getElem?_cons_zero]; rfl) (by rfl) ?_
  repeat (go_big_quiet_step (fail))
  refine wpQuiet_nil ?_
  refine mix_call (by rfl) ?_
  intro K hK
  go_wp2_with fail
  refine (glyph_small n n _ (by omega) nn S5.out.laid).mono ?_
  rintro e w' h
  obtain ⟨gx, cx, rfl, _, _, _, r2, hk0⟩ := h.form hns (by omega)
  have S6 := Lib.hid (S5.out.step hk0)
  clear h S5
  simp only []
  refine hK _ _ (AnyW.any _) ?_
  clear hK K
  refine mix_run (by simp only [opsAt, List.getElem?_toArray, List.getElem?_cons_succ, List.getElem?_cons_zero]; rfl) (by rfl) ?_
  repeat (go_big_quiet_step (fail))
  refine wpQuiet_nil ?_
  refine mix_call (by rfl) ?_
  intro K hK
  go_wp2_with fail
  refine (same_any _ _ _ _ _ _ (smallG m) (smallG n) _ hms hns (by omega) (by omega) (r.below hk0) (r2)).mono ?_
  rintro e w' ⟨rfl, hk⟩
  rw [ES.out.1]
  have S7 := Lib.hid (S6.out.step hk)
  clear S6 r r2 hk hk0
  simp only []
  refine hK _ _ (AnyW.any _) ?_
  clear hK K
  refine mix_run (by simp only [opsAt, List.getElem?_toArray, List.getElem?_cons_succ, List.getElem?_cons_zero]; rfl) (by rfl) ?_
  repeat (go_big_quiet_step (fail))
  refine wpQuiet_nil ?_
  refine mix_call (by rfl) ?_
  intro K hK
  go_wp2_with fail
  refine (glyph_big m m _ (by omega) mm S7.out.laid).mono ?_
  rintro e w' h
  obtain ⟨gx, cx, rfl, _, _, _, r, hk⟩ := h.form hmb (by omega)
  have S8 := Lib.hid (S7.out.step hk)
  clear h S7 hk
  simp only []
  refine hK _ _ (AnyW.any _) ?_
  clear hK K
  refine mix_run (by simp only [opsAt, List.getElem?_toArray, List.getElem?_cons_succ, List.getElem?_cons_zero]; rfl) (by rfl) ?_
  repeat (go_big_quiet_step (fail))
  refine wpQuiet_nil ?_
  refine mix_call (by rfl) ?_
  intro K hK
  go_wp2_with fail
  refine (glyph_big n n _ (by omega) nn S8.out.laid).mono ?_
  rintro e w' h
  obtain ⟨gx, cx, rfl, _, _, _, r2, hk0⟩ := h.form hnb (by omega)
  have S9 := Lib.hid (S8.out.step hk0)
  clear h S8
  simp only []
  refine hK _ _ (AnyW.any _) ?_
  clear hK K
  refine mix_run (by simp only [opsAt, List.getElem?_toArray, List.getElem?_cons_succ, List.getElem?_cons_zero]; rfl) (by rfl) ?_
  repeat (go_big_quiet_step (fail))
  refine wpQuiet_nil ?_
  refine mix_call (by rfl) ?_
  intro K hK
  go_wp2_with fail
  refine (same_any _ _ _ _ _ _ (bigG m) (bigG n) _ hmb hnb (by omega) (by omega) (r.below hk0) (r2)).mono ?_
  rintro e w' ⟨rfl, hk⟩
  rw [ES.out.2]
  have SA := Lib.hid (S9.out.step hk)
  clear S9 r r2 hk hk0
  simp only []
  refine hK _ _ (AnyW.any _) ?_
  clear hK K
  refine mix_last (by simp only [opsAt, List.getElem?_toArray, List.getElem?_cons_succ, List.getElem?_cons_zero]; rfl) ?_
  repeat (go_big_quiet_step (fail))
  refine wpQuiet_nil ?_
  go_wp2
  go_ret
  exact ⟨rfl, SA.out.below⟩
end Go.Proofs.YtcihdfiomogiaaaDoor
