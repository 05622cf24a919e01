/- The contract of New. -/
import Derived.Test.YtllfakimcgbppaaDoorMemWrite
namespace Go.Proofs.YtllfakimcgbppaaDoor
open Go.RowKit Num
set_option linter.unusedVariables false

/-- A new memory for the ROM L. -/
def Made (L : List Int) (w : World) (e : Ending) (w' : World) : Prop :=
  ∃ p, e = .returned (.tuple #[.pointer (some ⟨p, 0, none⟩), .int .i64 0]) ∧ w.heap.size ≤ p ∧ MemAt p (initial L) (.slice none 0 0) w' ∧ Below w.heap.size w w'

theorem Gives.slice {ty : TypeId} {L : List Int} {w w' : World} {e : Ending} {n : Nat} (h : Gives ty L w e w') (hn : L.length = n) (h0 : 0 < n) :
    ∃ g c, e = .returned (.slice (some ⟨g, 0, none⟩) n c) ∧ n ≤ c ∧ w.heap.size ≤ g ∧ Rd w' (some ⟨g, 0, none⟩) L ∧ Below w.heap.size w w' := by
  obtain ⟨v, rfl, hown, hb⟩ := h
  rw [hn] at hown
  obtain ⟨g, c, rfl, hg, hlt⟩ := hown.form h0
  refine ⟨g, c, rfl, ?_, hg, own_rd hown, hb⟩
  rcases hown.2 with ⟨h1, _⟩ | ⟨g', c', cur, h1, _, _, hc, _⟩
  · cases h1
  · injection h1 with _ _ h2
    omega

set_option maxRecDepth 100000 in
set_option maxHeartbeats 1000000 in
theorem new_no (A : Option Addr) (n c : Nat) (w : World) (hn : 65024 < n) :
    Calls Tryd.prog 10 #[.slice A n c] w fun e w' => e = .returned (.tuple #[.pointer none, .int .i64 7]) ∧ w = w' := by
  have k1 : (65024 : Int) < (n : Int) := by omega
  go_enter Tryd.func10, Tryd.ntmps10
  go_wp2
  go_ret2
  exact ⟨rfl, rfl⟩

set_option linter.unusedSimpArgs false in
set_option maxRecDepth 100000 in
set_option maxHeartbeats 2000000 in
theorem new_yes (A : Option Addr) (n c : Nat) (L : List Int) (w : World) (hn : n ≤ 65024) (hL : L.length = n) (hR : Rd w A L) (hF : Laid w) :
    Calls Tryd.prog 10 #[.slice A n c] w (Made L w) := by
  have k1 : ¬ (65024 : Int) < (n : Int) := by omega
  have hz := zeroMem
  have H := Lib.hid (And.intro hL (And.intro hR hF))
  clear hL hR hF
  go_enter Tryd.func10, Tryd.ntmps10
  go_wp2_with fail
  clear hz
  have B1 : Below w.heap.size w (w.alloc (.cells (cells zeros (.slice none 0 0)) 55)) := (Below.refl _ _).alloc (Nat.le_refl _) _
  have M1 := MemAt.new w
  obtain ⟨p, hp⟩ : ∃ p, p = w.heap.size := ⟨_, rfl⟩
  generalize w.alloc (.cells (cells zeros (.slice none 0 0)) 55) = w1 at *
  rw [← hp] at M1 ⊢
  have P1 := Lib.hid (And.intro B1 (And.intro M1 hp))
  clear B1 M1 hp
  have c80 : ∀ w, (Instr.sliceAt 51 (.pointer (some ⟨p, 0, none⟩)) (some (.int .i64 80)) none none).run Tryd.prog w = .ok (.slice (some ⟨p, 80, none⟩) 65456 65456) w := cut_mem p 80 (by omega)
  have c160 : ∀ w, (Instr.sliceAt 51 (.pointer (some ⟨p, 0, none⟩)) (some (.int .i64 160)) none none).run Tryd.prog w = .ok (.slice (some ⟨p, 160, none⟩) 65376 65376) w := cut_mem p 160 (by omega)
  have c512 : ∀ w, (Instr.sliceAt 51 (.pointer (some ⟨p, 0, none⟩)) (some (.int .i64 512)) none none).run Tryd.prog w = .ok (.slice (some ⟨p, 512, none⟩) 65024 65024) w := cut_mem p 512 (by omega)
  refine wp_region_mix (C := fun w' => ∃ x : AnyW, w' = x.w) [([0, 1, 2, 3], 4), ([], 5)] [] (by kernel_rfl) (by kernel_rfl) (fun _ _ d _ _ h => by cases d <;> exact h) (AnyW.any _) ?_
  intro wd hwd
  have P2 : Below w.heap.size w wd ∧ MemAt p zeros (.slice none 0 0) wd ∧ p = w.heap.size := by rw [hwd]; exact ⟨P1.out.1.drew, P1.out.2⟩
  have PD := Lib.hid P2
  clear hwd P2 P1
  refine mix_run (by simp only [opsAt, List.getElem?_toArray, List.getElem?_cons_succ, List.getElem?_cons_zero]; rfl) (by rfl) ?_
  repeat (go_big_quiet_step (fail))
  refine wpQuiet_nil ?_
  refine mix_call (by rfl) ?_
  intro K hK
  go_wp2_with fail
  refine (small_any _ (H.out.2.2.step PD.out.1)).mono ?_
  rintro e w2 h
  obtain ⟨g, c2, rfl, _, _, R2, b2⟩ := h.slice smallL_len (by omega)
  have P2 : Below w.heap.size w w2 ∧ MemAt p zeros (.slice none 0 0) w2 ∧ p = w.heap.size := ⟨PD.out.1.trans (b2.mono PD.out.1.size), PD.out.2.1.keep (b2.block p PD.out.2.1.lt), PD.out.2.2⟩
  obtain ⟨v2, hrun, hm2, ha2⟩ := run_copy_mem 3 p 80 65456 65456 (some ⟨g, 0, none⟩) 80 c2 80 (by omega) smallL smallL_len R2 zeros (.slice none 0 0) (by exact zeros_len) P2.2.1 (by omega)
  rw [List.take_of_length_le (by rw [smallL_len]; omega), splice_put _ _ _ (by exact zeros_len) (by rw [smallL_len]; omega)] at hm2
  have Q2 := Lib.hid (And.intro (P2.1.trans ((ha2 none).below P2.1.size (by have := P2.2.2; omega) (fun k hk => by cases hk))) (And.intro hm2 P2.2.2))
  clear h PD R2 b2 P2 hm2 ha2
  simp only []
  refine hK _ _ (AnyW.any _) ?_
  clear hK K
  refine mix_run (by simp only [opsAt, List.getElem?_toArray, List.getElem?_cons_succ, List.getElem?_cons_zero]; rfl) (by rfl) ?_
  refine wpQuiet_nil ?_
  refine mix_call (by rfl) ?_
  intro K hK
  refine wp_copy_run (.tmp 12) (.tmp 13) rfl 3 rfl _ _ _ (by rfl) (by rfl) hrun 14 (by rfl) ?_
  simp only [List.setIfInBounds_toArray, List.set_cons_zero, List.set_cons_succ]
  refine hK _ _ (AnyW.any _) ?_
  clear hK K hrun
  refine mix_last (by simp only [opsAt, List.getElem?_toArray, List.getElem?_cons_succ, List.getElem?_cons_zero]; rfl) ?_
  refine wpQuiet_nil ?_
  clear c80
  go_wp2_with fail
  refine wp_region_mix (C := fun w' => ∃ x : AnyW, w' = x.w) [([0, 1, 2, 3], 4), ([], 5)] [] (by kernel_rfl) (by kernel_rfl) (fun _ _ d _ _ h => by cases d <;> exact h) (AnyW.any _) ?_
  intro wd hwd
  have P2 : Below w.heap.size w wd ∧ MemAt p (put zeros 80 smallL) (.slice none 0 0) wd ∧ p = w.heap.size := by rw [hwd]; exact ⟨Q2.out.1.drew, Q2.out.2⟩
  have PD := Lib.hid P2
  clear hwd P2 Q2
  refine mix_run (by simp only [opsAt, List.getElem?_toArray, List.getElem?_cons_succ, List.getElem?_cons_zero]; rfl) (by rfl) ?_
  repeat (go_big_quiet_step (fail))
  refine wpQuiet_nil ?_
  refine mix_call (by rfl) ?_
  intro K hK
  go_wp2_with fail
  refine (big_any _ (H.out.2.2.step PD.out.1)).mono ?_
  rintro e w3 h
  obtain ⟨g, c3, rfl, _, _, R3, b3⟩ := h.slice bigL_len (by omega)
  have P3 : Below w.heap.size w w3 ∧ MemAt p (put zeros 80 smallL) (.slice none 0 0) w3 ∧ p = w.heap.size := ⟨PD.out.1.trans (b3.mono PD.out.1.size), PD.out.2.1.keep (b3.block p PD.out.2.1.lt), PD.out.2.2⟩
  obtain ⟨v3, hrun, hm3, ha3⟩ := run_copy_mem 3 p 160 65376 65376 (some ⟨g, 0, none⟩) 160 c3 160 (by omega) bigL bigL_len R3 (put zeros 80 smallL) (.slice none 0 0) (by rw [put_len]; exact zeros_len) P3.2.1 (by omega)
  rw [List.take_of_length_le (by rw [bigL_len]; omega), splice_put _ _ _ (by rw [put_len]; exact zeros_len) (by rw [bigL_len]; omega)] at hm3
  have Q3 := Lib.hid (And.intro (P3.1.trans ((ha3 none).below P3.1.size (by have := P3.2.2; omega) (fun k hk => by cases hk))) (And.intro hm3 P3.2.2))
  clear h PD R3 b3 P3 hm3 ha3
  simp only []
  refine hK _ _ (AnyW.any _) ?_
  clear hK K
  refine mix_run (by simp only [opsAt, List.getElem?_toArray, List.getElem?_cons_succ, List.getElem?_cons_zero]; rfl) (by rfl) ?_
  refine wpQuiet_nil ?_
  refine mix_call (by rfl) ?_
  intro K hK
  refine wp_copy_run (.tmp 18) (.tmp 19) rfl 3 rfl _ _ _ (by rfl) (by rfl) hrun 20 (by rfl) ?_
  simp only [List.setIfInBounds_toArray, List.set_cons_zero, List.set_cons_succ]
  refine hK _ _ (AnyW.any _) ?_
  clear hK K hrun
  refine mix_last (by simp only [opsAt, List.getElem?_toArray, List.getElem?_cons_succ, List.getElem?_cons_zero]; rfl) ?_
  refine wpQuiet_nil ?_
  clear c160
  go_wp2_with fail
  have R3 : Rd v3 A L := H.out.2.1.below Q3.out.1
  obtain ⟨w4, hrun, hm4, ha4⟩ := run_copy_mem 3 p 512 65024 65024 A n c n (by omega) L H.out.1 R3 (put (put zeros 80 smallL) 160 bigL) (.slice none 0 0) (by rw [put_len, put_len]; exact zeros_len) Q3.out.2.1 (by omega)
  rw [List.take_of_length_le (by rw [H.out.1]; omega), splice_put _ _ _ (by rw [put_len, put_len]; exact zeros_len) (by rw [H.out.1]; omega)] at hm4
  have Q4 := Lib.hid (And.intro (Q3.out.1.trans ((ha4 none).below Q3.out.1.size (by have := Q3.out.2.2; omega) (fun k hk => by cases hk))) (And.intro hm4 Q3.out.2.2))
  clear R3 hm4 ha4 Q3 c512
  rw [hrun]
  clear hrun
  go_wp2
  go_ret2
  exact ⟨p, rfl, by have := Q4.out.2.2; omega, Q4.out.2.1, Q4.out.1⟩
end Go.Proofs.YtllfakimcgbppaaDoor
