/- The walk of MemReads. -/
import Derived.Test.YtllfakimcgbppaaDoorMemLaw
namespace Go.Proofs.YtllfakimcgbppaaDoor
open Go.RowKit Num
set_option linter.unusedVariables false

theorem wr_new (w : World) (a : Int) (A : Option Addr) (n c : Nat) (L : List Int) (h : Arg w A n c L) (lo : -9223372036854775808 ≤ a) (hi : a ≤ 9223372036854775807) (t : TypeId) :
    Wrs (w.alloc (.cells #[.int .i64 a, .slice A n c] t)) (some ⟨w.heap.size, 0, none⟩) [⟨a, A, n, c, L⟩] := fun _ => by
  refine ⟨_, rfl, by simp, fun i hi' => ?_⟩
  obtain rfl : i = 0 := by simpa using hi'
  have h' := h.below (below_new w (.cells #[.int .i64 a, .slice A n c] t))
  refine ⟨?_, ?_, ⟨h'.len, h'.rd, h'.cap, h'.max, lo, hi⟩⟩
  · rw [add_pl, cell_of_row _ _ _ _ _ _ (heap_alloc_new w _)]; rfl
  · rw [add_pl, cell_of_row _ _ _ _ _ _ (heap_alloc_new w _)]; rfl

set_option linter.unusedSimpArgs false in
set_option maxRecDepth 100000 in
set_option maxHeartbeats 8000000 in
theorem memReads_walk (A : Option Addr) (n c : Nat) (R : List Int) (a : Int) (B : Option Addr) (m d : Nat) (L : List Int) (x : Int) (w : World) (hA : Arg w A n c R) (wa : (Lit.int .i64 a).wf = true) (hB : Arg w B m d L) (wx : (Lit.int .i64 x).wf = true) (hF : Laid w) :
    Calls Tryd.prog 4 #[.slice A n c, .int .i64 a, .slice B m d, .int .i64 x] w fun e w' => e = .returned (.bool true) ∧ Below w.heap.size w w' := by
  obtain ⟨a0, a1⟩ := bd_i64 wa
  obtain ⟨x0, x1⟩ := bd_i64 wx
  have n1 := Nat.le_trans hA.cap hA.max
  have H := Lib.hid (And.intro hA (And.intro hB hF))
  clear hA hB hF wa wx
  go_enter Tryd.func4, Tryd.ntmps4
  go_wp2_with fail
  refine (awake5 _ H.out.2.2).mono ?_
  rintro e w1 ⟨rfl, b1⟩
  have B1 := Lib.hid b1
  clear b1
  go_wp2_with fail
  refine (few_any A n c _ 1 1 [⟨a, B, m, d, L⟩] _ n1 (by unfold maxLen; omega) rfl (wr_new w1 a B m d L (H.out.2.1.below B1.out) a0 a1 37)).mono ?_
  rintro e w2 h
  obtain ⟨f, rfl, hf, rfl⟩ := h
  have B2 := Lib.hid (B1.out.trans ((below_new w1 (.cells #[.int .i64 a, .slice B m d] 37)).mono B1.out.size))
  generalize w1.alloc (.cells #[.int .i64 a, .slice B m d] 37) = w2 at *
  have Hf := Lib.hid hf
  clear hf B1 n1
  cases f
  · go_wp2_with fail
    refine (awake5 _ (H.out.2.2.below B2.out H.out.2.2.lt)).mono ?_
    rintro e w3 ⟨rfl, b3⟩
    have B3 := Lib.hid (B2.out.trans (b3.mono B2.out.size))
    clear b3
    go_wp2
    go_ret
    exact ⟨rfl, B3.out⟩
  · by_cases hx : 0 ≤ x ∧ x ≤ 65535
    · obtain ⟨hx0, hx1⟩ := hx
      have gx0 : ¬ x < 0 := by omega
      have gx1 : ¬ 65535 < x := by omega
      obtain ⟨f1, f2, f3⟩ := Hf.out rfl
      obtain ⟨s1, s2, s3⟩ := f3 0 (by simp)
      simp only [List.getElem_cons_zero] at s1 s2 s3
      clear Hf f2 f3
      obtain ⟨k, hk⟩ : ∃ k : Nat, (x - a) % 65536 = k := ⟨((x - a) % 65536).toNat, by omega⟩
      obtain ⟨t, ht⟩ : ∃ t : Nat, x = t := ⟨x.toNat, by omega⟩
      have ht1 : t < 65536 := by omega
      have kk0 : 0 ≤ (k : Int) := by omega
      have HK := Lib.hid (And.intro hk ht)
      clear hk ht
      go_wp2_with fail
      refine (new_yes A n c R _ (by omega) H.out.1.len (H.out.1.rd.below B2.out) (H.out.2.2.below B2.out H.out.2.2.lt)).mono ?_
      rintro e w3 h
      obtain ⟨p, rfl, hp, m3, b3⟩ := h
      have P3 := Lib.hid (And.intro (B2.out.trans (b3.mono B2.out.size)) (And.intro m3 (Nat.le_trans B2.out.size hp)))
      clear B2 m3 b3 hp
      obtain ⟨y, hy⟩ : ∃ y, (initial R)[t]? = some y := ⟨_, List.getElem?_eq_getElem (by rw [initial_len]; exact ht1)⟩
      go_wp2_with fail
      refine (read_below p (initial R) _ x y t _ (initial_len _) P3.out.2.1 (by have := HK.out.2; omega) hy).mono ?_
      rintro e w4 ⟨rfl, b4⟩
      have P4 := Lib.hid (And.intro (P3.out.1.trans (b4.mono P3.out.1.size)) (And.intro (P3.out.2.1.keep (b4.block p P3.out.2.1.lt)) P3.out.2.2))
      have HY := Lib.hid hy
      clear b4 P3 hy
      go_wp2_with fail
      refine (write_both p (initial R) (.slice none 0 0) 0 w.heap.size [] a B m d L _ (initial_len _) P4.out.2.1 (World.ownsRow_nil _ _ _ _) P4.out.1.size (by omega) H.out.2.1.len (by omega) H.out.2.1.cap (H.out.2.1.rd.below P4.out.1) (fun ad e h0 => Nat.ne_of_lt (Nat.lt_of_lt_of_le (H.out.2.1.block ad e h0) P4.out.2.2))).mono ?_
      rintro e w5 h
      obtain ⟨rfl, v5, m5, o5, a5, _⟩ := h
      have b5 : Below w.heap.size w w5 := P4.out.1.trans (a5.below P4.out.1.size P4.out.2.2 (fun k hk => by cases hk))
      have P5 := Lib.hid (And.intro b5 m5)
      clear m5 o5 a5 b5 P4
      go_wp2_with fail
      refine (mmod_at _ k _ HK.out.1).mono ?_
      rintro e w' ⟨rfl, rfl⟩
      have hl := H.out.2.1.len
      have eb : seg (put (initial R) a L) a m = L := by rw [← hl]; exact seg_put (initial R) L a (initial_len _) (by omega)
      obtain ⟨ka, hka⟩ : ∃ ka : Nat, a % 65536 = ka := ⟨(a % 65536).toNat, by omega⟩
      have E := Lib.hid (And.intro eb hka)
      by_cases hlt : k < m
      · have g1 : (k : Int) < (m : Int) := by omega
        obtain ⟨ad, hB, hadlt, hc⟩ := H.out.2.1.rd.at_ (k := k) (by omega)
        obtain ⟨z, hz⟩ : ∃ z, L[k]'(by omega) = z := ⟨_, rfl⟩
        rw [hz] at hc
        have gz : (put (initial R) a L)[t]? = some z := by
          have := HK.out
          rw [get_written _ _ _ t k (initial_len _) (by omega) ht1 (by omega) (by omega), List.getElem?_eq_getElem (by omega), hz]
        have GZ := Lib.hid (And.intro gz hc)
        have HB := Lib.hid hB
        clear gz hz hc eb hl hka HY
        subst hB
        go_wp2
        refine wp_region_mix (C := fun w' => ∃ x : Calm w5, w' = x.w) [([0, 1, 3, 4, 5, 6], 2), ([7, 8, 9, 10, 11, 12, 14], 13), ([], 15)] [16, 17] (by kernel_rfl) (by kernel_rfl) (fun _ _ d _ _ h => by cases d <;> exact h) ⟨⟨w5.drew, (Below.refl _ _).drew⟩, rfl⟩ ?_
        intro wd hwd
        have bd : Below w5.heap.size w5 wd := by rw [hwd]; exact (Below.refl _ _).drew
        have PD := Lib.hid bd
        clear hwd bd
        have kc : ∀ x : Calm w5, x.w.cell? (ad.add k) = some (.int .u8 z) := fun x =>
          (x.below.cell (p := ad.add k) (by rw [add_block]; exact Nat.lt_of_lt_of_le hadlt P5.out.1.size)).trans ((P5.out.1.cell (p := ad.add k) (by rw [add_block]; exact hadlt)).trans GZ.out.2)
        refine mix_run (by simp only [opsAt, List.getElem?_toArray, List.getElem?_cons_succ, List.getElem?_cons_zero]; rfl) (by rfl) ?_
        repeat (go_big_quiet_step (fail))
        refine wpQuiet_nil ?_
        refine mix_call (by rfl) ?_
        intro K hK
        go_wp2_with fail
        refine (read_below p (put (initial R) a L) v5 x z t _ (by rw [put_len]; exact initial_len _) (P5.out.2.keep (PD.out.block p P5.out.2.lt)) (by have := HK.out.2; omega) GZ.out.1).mono ?_
        rintro e w6 ⟨rfl, b6⟩
        have P6 := Lib.hid (PD.out.trans (b6.mono PD.out.size))
        clear b6 PD
        simp only []
        refine hK _ _ ⟨⟨w6, P6.out⟩, rfl⟩ ?_
        clear hK K
        refine mix_run (by simp only [opsAt, List.getElem?_toArray, List.getElem?_cons_succ, List.getElem?_cons_zero]; rfl) (by rfl) ?_
        repeat (go_big_quiet_step (fail))
        refine wpQuiet_nil ?_
        refine mix_call (by rfl) ?_
        intro K hK
        go_wp2_with fail
        refine (bytes_any p (put (initial R) a L) v5 a ka m _ (by rw [put_len]; exact initial_len _) (P5.out.2.keep (P6.out.block p P5.out.2.lt)) E.out.2 (by omega)).mono ?_
        rintro e w7 h
        obtain ⟨g, rfl, _, r7, b7⟩ := h
        have P7 := Lib.hid (And.intro (P6.out.trans (b7.mono P6.out.size)) r7)
        clear b7 r7 P6
        simp only []
        refine hK _ _ ⟨⟨w7, P7.out.1⟩, rfl⟩ ?_
        clear hK K
        refine mix_run (by simp only [opsAt, List.getElem?_toArray, List.getElem?_cons_succ, List.getElem?_cons_zero]; rfl) (by rfl) ?_
        refine wpQuiet_nil ?_
        refine mix_call (by rfl) ?_
        intro K hK
        go_wp2_with fail
        refine (same2_any _ _ _ _ m m (seg (put (initial R) a L) a m) L _ (seg_len _ _ _) H.out.2.1.len (by omega) (by omega) P7.out.2 ((H.out.2.1.rd.below P5.out.1).below P7.out.1)).mono ?_
        rintro e w8 ⟨rfl, b8⟩
        rw [E.out.1, decide_eq_true rfl]
        have P8 := Lib.hid (P7.out.1.trans (b8.mono P7.out.1.size))
        clear b8 P7
        simp only []
        refine hK _ _ ⟨⟨w8, P8.out⟩, rfl⟩ ?_
        clear hK K
        refine mix_last (by simp only [opsAt, List.getElem?_toArray, List.getElem?_cons_succ, List.getElem?_cons_zero]; rfl) ?_
        repeat (go_big_quiet_step (fail))
        refine wpQuiet_nil ?_
        go_wp2
        go_ret
        exact ⟨rfl, P5.out.1.trans (P8.out.mono P5.out.1.size)⟩
      · have g1 : ¬ (k : Int) < (m : Int) := by omega
        have gz : (put (initial R) a L)[t]? = some y := by
          have := HK.out
          rw [get_kept _ _ _ t k (initial_len _) (by omega) ht1 (by omega) (by omega)]
          exact HY.out
        have GZ := Lib.hid gz
        clear gz eb hl hka HY
        go_wp2_with fail
        refine (read_below p (put (initial R) a L) v5 x y t _ (by rw [put_len]; exact initial_len _) P5.out.2 (by have := HK.out.2; omega) GZ.out).mono ?_
        rintro e w6 ⟨rfl, b6⟩
        have P6 := Lib.hid b6
        clear b6
        go_wp2_with fail
        refine (bytes_any p (put (initial R) a L) v5 a ka m _ (by rw [put_len]; exact initial_len _) (P5.out.2.keep (P6.out.block p P5.out.2.lt)) E.out.2 (by omega)).mono ?_
        rintro e w7 h
        obtain ⟨g, rfl, _, r7, b7⟩ := h
        have P7 := Lib.hid (And.intro (P6.out.trans (b7.mono P6.out.size)) r7)
        clear b7 r7 P6
        go_wp2_with fail
        refine (same2_any _ _ _ _ m m (seg (put (initial R) a L) a m) L _ (seg_len _ _ _) H.out.2.1.len (by omega) (by omega) P7.out.2 ((H.out.2.1.rd.below P5.out.1).below P7.out.1)).mono ?_
        rintro e w8 ⟨rfl, b8⟩
        rw [E.out.1, decide_eq_true rfl]
        have P8 := Lib.hid (P7.out.1.trans (b8.mono P7.out.1.size))
        clear b8 P7
        go_wp2
        go_ret
        exact ⟨rfl, P5.out.1.trans (P8.out.mono P5.out.1.size)⟩
    · have hx2 : x < 0 ∨ (0 ≤ x ∧ 65535 < x) := by omega
      rcases hx2 with hx2 | ⟨hx2, hx3⟩
      all_goals
        go_wp2_with fail
        refine (awake5 _ (H.out.2.2.below B2.out H.out.2.2.lt)).mono ?_
        rintro e w3 ⟨rfl, b3⟩
        have B3 := Lib.hid (B2.out.trans (b3.mono B2.out.size))
        clear b3
        go_wp2
        go_ret
        exact ⟨rfl, B3.out⟩
end Go.Proofs.YtllfakimcgbppaaDoor
