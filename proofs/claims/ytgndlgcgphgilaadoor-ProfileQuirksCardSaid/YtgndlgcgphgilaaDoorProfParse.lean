/- Contract of profile.Parse. -/
import Derived.Test.YtgndlgcgphgilaaDoorProfCut
import Derived.Test.YtgndlgcgphgilaaDoorProfAt
namespace Go.Proofs.YtgndlgcgphgilaaDoor
open Go.RowKit Num
set_option linter.unusedVariables false

/-- The text of quirk k. -/
def wq : Nat → ByteArray
  | 0 => ⟨#[43, 115, 104, 105, 102, 116]⟩
  | 1 => ⟨#[43, 107, 101, 101, 112]⟩
  | 2 => ⟨#[43, 106, 117, 109, 112]⟩
  | 3 => ⟨#[43, 108, 111, 103, 105, 99]⟩
  | 4 => ⟨#[43, 99, 108, 105, 112]⟩
  | 5 => ⟨#[43, 119, 97, 105, 116]⟩
  | _ => ⟨#[43, 102, 97, 117, 108, 116]⟩
/-- What is left of r behind k quirks. -/
def restTo (r : ByteArray) : Nat → ByteArray
  | 0 => r
  | k + 1 => cutS (wq k) (restTo r k)
/-- Quirk j, as it is found in r, behind k rounds. -/
def parB (r : ByteArray) (k j : Nat) : Bool := decide (j < k) && preB (wq j) (restTo r j)
theorem restTo_size (r : ByteArray) (k : Nat) : (restTo r k).size ≤ r.size := by
  induction k with
  | zero => exact Nat.le_refl _
  | succ k ih => exact Nat.le_trans (cutS_size _ _) ih
theorem rest0_size (s : ByteArray) : (rest0 s).size ≤ s.size := by
  unfold rest0
  split
  · exact cutS_size _ _
  · split
    · exact cutS_size _ _
    · split
      · exact cutS_size _ _
      · exact Nat.le_refl _
theorem parB_0 (r : ByteArray) : parB r 1 1 = parB r 0 1 ∧ parB r 1 2 = parB r 0 2 ∧ parB r 1 3 = parB r 0 3 ∧ parB r 1 4 = parB r 0 4 ∧ parB r 1 5 = parB r 0 5 ∧ parB r 1 6 = parB r 0 6 ∧ parB r 1 0 = preB (wq 0) (restTo r 0) := by
  simp [parB]
theorem parB_1 (r : ByteArray) : parB r 2 0 = parB r 1 0 ∧ parB r 2 2 = parB r 1 2 ∧ parB r 2 3 = parB r 1 3 ∧ parB r 2 4 = parB r 1 4 ∧ parB r 2 5 = parB r 1 5 ∧ parB r 2 6 = parB r 1 6 ∧ parB r 2 1 = preB (wq 1) (restTo r 1) := by
  simp [parB]
theorem parB_2 (r : ByteArray) : parB r 3 0 = parB r 2 0 ∧ parB r 3 1 = parB r 2 1 ∧ parB r 3 3 = parB r 2 3 ∧ parB r 3 4 = parB r 2 4 ∧ parB r 3 5 = parB r 2 5 ∧ parB r 3 6 = parB r 2 6 ∧ parB r 3 2 = preB (wq 2) (restTo r 2) := by
  simp [parB]
theorem parB_3 (r : ByteArray) : parB r 4 0 = parB r 3 0 ∧ parB r 4 1 = parB r 3 1 ∧ parB r 4 2 = parB r 3 2 ∧ parB r 4 4 = parB r 3 4 ∧ parB r 4 5 = parB r 3 5 ∧ parB r 4 6 = parB r 3 6 ∧ parB r 4 3 = preB (wq 3) (restTo r 3) := by
  simp [parB]
theorem parB_4 (r : ByteArray) : parB r 5 0 = parB r 4 0 ∧ parB r 5 1 = parB r 4 1 ∧ parB r 5 2 = parB r 4 2 ∧ parB r 5 3 = parB r 4 3 ∧ parB r 5 5 = parB r 4 5 ∧ parB r 5 6 = parB r 4 6 ∧ parB r 5 4 = preB (wq 4) (restTo r 4) := by
  simp [parB]
theorem parB_5 (r : ByteArray) : parB r 6 0 = parB r 5 0 ∧ parB r 6 1 = parB r 5 1 ∧ parB r 6 2 = parB r 5 2 ∧ parB r 6 3 = parB r 5 3 ∧ parB r 6 4 = parB r 5 4 ∧ parB r 6 6 = parB r 5 6 ∧ parB r 6 5 = preB (wq 5) (restTo r 5) := by
  simp [parB]
theorem parB_6 (r : ByteArray) : parB r 7 0 = parB r 6 0 ∧ parB r 7 1 = parB r 6 1 ∧ parB r 7 2 = parB r 6 2 ∧ parB r 7 3 = parB r 6 3 ∧ parB r 7 4 = parB r 6 4 ∧ parB r 7 5 = parB r 6 5 ∧ parB r 7 6 = preB (wq 6) (restTo r 6) := by
  simp [parB]

/-- The end of Parse: what has been found is the result, if the level is one and nothing is left. -/
def parseV (s : ByteArray) : Value :=
  if 1 ≤ levOf s ∧ (restTo (rest0 s) 7).size = 0 then .tuple #[profV (levOf s) (parB (rest0 s) 7 0) (parB (rest0 s) 7 1) (parB (rest0 s) 7 2) (parB (rest0 s) 7 3) (parB (rest0 s) 7 4) (parB (rest0 s) 7 5) (parB (rest0 s) 7 6), .int .i64 0] else .tuple #[profV 0 false false false false false false false, .int .i64 6]
theorem levOf_bd (s : ByteArray) : 0 ≤ levOf s ∧ levOf s ≤ 3 := by
  unfold levOf
  split
  · omega
  · split
    · omega
    · split <;> omega

set_option maxHeartbeats 4000000 in
theorem parse_any (s : ByteArray) (w : World) (hs : s.size ≤ maxLen) (hL : Laid w) :
    Calls Tryd.prog 16 #[.string s] w fun e w' => e = .returned (parseV s) ∧ Below w.heap.size w w' := by
  have hlev := levOf_bd s
  have hr := Nat.le_trans (rest0_size s) hs
  obtain ⟨V, hV⟩ : ∃ V, V = parseV s := ⟨_, rfl⟩
  rw [← hV]
  unfold parseV at hV
  have hlc := fun w hL => level_any s w hs hL
  generalize levOf s = L at *
  generalize rest0 s = r at *
  have Hlc := Lib.hid hlc
  have HV := Lib.hid hV
  clear hlc hV hs
  have z0 := hL.1
  obtain ⟨i0, i1, i2, i3, i4, i5, i6⟩ := quirk_at
  go_enter Tryd.func16, Tryd.ntmps16
  go_wp2_with fail
  refine (Hlc.out _ (hL.below ((Below.refl _ _).alloc (Nat.le_refl _) _) z0)).mono ?_
  rintro e w1 ⟨rfl, hb1⟩
  have hr1 := (Holds.new w 23 0 false false false false false false false).below hb1 (by simp)
  have hr2 := (Free.new w #[.int .i64 0, .bool false, .bool false, .bool false, .bool false, .bool false, .bool false, .bool false] 23).below hb1 (by simp)
  have hb := Below.trans (show Below w.heap.size w _ from (Below.refl _ _).alloc (Nat.le_refl _) _) (hb1.mono (by simp))
  have HR1 := Lib.hid (And.intro hr1 hr2)
  have hz := hb1.size
  simp only [World.size_alloc] at hz
  clear hr1 hr2 hb1 hL Hlc
  go_wp2_with fail
  have hh1 := Holds.new w1 23 L false false false false false false false
  have hf1 := Free.new w1 #[.int .i64 L, .bool false, .bool false, .bool false, .bool false, .bool false, .bool false, .bool false] 23
  have bb : Below w1.heap.size w1 (w1.alloc (.cells #[.int .i64 L, .bool false, .bool false, .bool false, .bool false, .bool false, .bool false, .bool false] 23)) := (Below.refl _ _).alloc (by simp) _
  have hr1 := HR1.out.1.below bb (by omega)
  have hr2 := HR1.out.2.below bb (by omega)
  have hbb := hb.trans (bb.mono (by omega))
  have H1 := Lib.hid (And.intro hh1 (And.intro hf1 (And.intro hr1 (And.intro hr2 hbb))))
  clear hh1 hf1 hr1 hr2 bb HR1 hb hbb
  refine (quirks_any _).mono ?_
  rintro e w2 ⟨rfl, hb2⟩
  have hh := H1.out.1.below hb2 (by simp)
  have hf := H1.out.2.1.below hb2 (by simp)
  have hr1 := H1.out.2.2.1.below hb2 (by simp; omega)
  have hr2 := H1.out.2.2.2.1.below hb2 (by simp; omega)
  have hb3 : Below w.heap.size w w2 := H1.out.2.2.2.2.trans (hb2.mono (by simp; omega))
  clear hb2 H1
  have HH := Lib.hid (And.intro hh hf)
  have HR := Lib.hid (And.intro hb3 (And.intro hr1 hr2))
  clear hh hf hr1 hr2 hb3
  go_wp2
  go_loopw [5, 14] (fun rr c wr => ∃ k : Nat, k ≤ 7 ∧ rr = .string (restTo r k) ∧ c = .int .i64 k ∧ Holds w1.heap.size L (parB r k 0) (parB r k 1) (parB r k 2) (parB r k 3) (parB r k 4) (parB r k 5) (parB r k 6) wr ∧ Free w1.heap.size wr ∧ Below w1.heap.size w2 wr) (fun _ c _ => 7 - (intOf c).toNat)
  case atStart => exact ⟨0, by omega, rfl, rfl, HH.out.1, HH.out.2, Below.refl _ _⟩
  case round =>
    clear HH
    obtain ⟨k, hk, rfl, rfl, hh, hf, hb⟩ := hrel
    have hsz := Nat.le_trans (restTo_size r k) hr
    have Hs := Lib.hid (And.intro hh hf)
    have z1 := hh.1
    clear hh hf
    obtain rfl | rfl | rfl | rfl | rfl | rfl | rfl | rfl : k = 0 ∨ k = 1 ∨ k = 2 ∨ k = 3 ∨ k = 4 ∨ k = 5 ∨ k = 6 ∨ k = 7 := by omega
    · generalize hM : restTo r 0 = M at *
      have HM := Lib.hid hM
      clear hM
      go_wp2
      refine region_tail 12 (by kernel_rfl) (by kernel_rfl) ?_
      intro wd hwd
      have k0 : wd.cell? ⟨wr.heap.size, 0, none⟩ = some (.string (wq 0)) := by rw [hwd]; simp [wq]
      have k1 : wd.cell? ⟨wr.heap.size, 1, none⟩ = some (.func (.func 23) #[] #[]) := by rw [hwd]; simp
      have kb : Below w1.heap.size w2 wd := by rw [hwd]; go_grown
      have kb2 : Below wr.heap.size wr wd := by rw [hwd]; go_grown
      have ks := Lib.hid (Hs.out.1.below kb2 z1)
      have kf := Lib.hid (Hs.out.2.below kb2 z1)
      have f := kf.out 1
      have c := ks.out.2.2.1
      clear hwd
      simp only [List.take_succ_cons, List.take_zero, List.drop_succ_cons, List.drop_zero]
      repeat still_step
      still_call (still_of (q1_any _ _))
      repeat still_step
      still_call (still_of (cut_any _ _ _ hsz (by decide)))
      repeat still_step
      refine wpStill_nil ?_
      go_wp2
      go_roundw
      case rel =>
        have hm := HM.out
        subst hm
        exact ⟨1, by omega, rfl, rfl, by simpa only [parB_0] using ks.out.set0 _, kf.out.set _ _, kb.setCell (Nat.le_refl _) _⟩
      case measure => simp [intOf]
    · generalize hM : restTo r 1 = M at *
      have HM := Lib.hid hM
      clear hM
      go_wp2
      refine region_tail 12 (by kernel_rfl) (by kernel_rfl) ?_
      intro wd hwd
      have k0 : wd.cell? ⟨wr.heap.size, 0, none⟩ = some (.string (wq 1)) := by rw [hwd]; simp [wq]
      have k1 : wd.cell? ⟨wr.heap.size, 1, none⟩ = some (.func (.func 24) #[] #[]) := by rw [hwd]; simp
      have kb : Below w1.heap.size w2 wd := by rw [hwd]; go_grown
      have kb2 : Below wr.heap.size wr wd := by rw [hwd]; go_grown
      have ks := Lib.hid (Hs.out.1.below kb2 z1)
      have kf := Lib.hid (Hs.out.2.below kb2 z1)
      have f := kf.out 2
      have c := ks.out.2.2.2.1
      clear hwd
      simp only [List.take_succ_cons, List.take_zero, List.drop_succ_cons, List.drop_zero]
      repeat still_step
      still_call (still_of (q2_any _ _))
      repeat still_step
      still_call (still_of (cut_any _ _ _ hsz (by decide)))
      repeat still_step
      refine wpStill_nil ?_
      go_wp2
      go_roundw
      case rel =>
        have hm := HM.out
        subst hm
        exact ⟨2, by omega, rfl, rfl, by simpa only [parB_1] using ks.out.set1 _, kf.out.set _ _, kb.setCell (Nat.le_refl _) _⟩
      case measure => simp [intOf]
    · generalize hM : restTo r 2 = M at *
      have HM := Lib.hid hM
      clear hM
      go_wp2
      refine region_tail 12 (by kernel_rfl) (by kernel_rfl) ?_
      intro wd hwd
      have k0 : wd.cell? ⟨wr.heap.size, 0, none⟩ = some (.string (wq 2)) := by rw [hwd]; simp [wq]
      have k1 : wd.cell? ⟨wr.heap.size, 1, none⟩ = some (.func (.func 25) #[] #[]) := by rw [hwd]; simp
      have kb : Below w1.heap.size w2 wd := by rw [hwd]; go_grown
      have kb2 : Below wr.heap.size wr wd := by rw [hwd]; go_grown
      have ks := Lib.hid (Hs.out.1.below kb2 z1)
      have kf := Lib.hid (Hs.out.2.below kb2 z1)
      have f := kf.out 3
      have c := ks.out.2.2.2.2.1
      clear hwd
      simp only [List.take_succ_cons, List.take_zero, List.drop_succ_cons, List.drop_zero]
      repeat still_step
      still_call (still_of (q3_any _ _))
      repeat still_step
      still_call (still_of (cut_any _ _ _ hsz (by decide)))
      repeat still_step
      refine wpStill_nil ?_
      go_wp2
      go_roundw
      case rel =>
        have hm := HM.out
        subst hm
        exact ⟨3, by omega, rfl, rfl, by simpa only [parB_2] using ks.out.set2 _, kf.out.set _ _, kb.setCell (Nat.le_refl _) _⟩
      case measure => simp [intOf]
    · generalize hM : restTo r 3 = M at *
      have HM := Lib.hid hM
      clear hM
      go_wp2
      refine region_tail 12 (by kernel_rfl) (by kernel_rfl) ?_
      intro wd hwd
      have k0 : wd.cell? ⟨wr.heap.size, 0, none⟩ = some (.string (wq 3)) := by rw [hwd]; simp [wq]
      have k1 : wd.cell? ⟨wr.heap.size, 1, none⟩ = some (.func (.func 26) #[] #[]) := by rw [hwd]; simp
      have kb : Below w1.heap.size w2 wd := by rw [hwd]; go_grown
      have kb2 : Below wr.heap.size wr wd := by rw [hwd]; go_grown
      have ks := Lib.hid (Hs.out.1.below kb2 z1)
      have kf := Lib.hid (Hs.out.2.below kb2 z1)
      have f := kf.out 4
      have c := ks.out.2.2.2.2.2.1
      clear hwd
      simp only [List.take_succ_cons, List.take_zero, List.drop_succ_cons, List.drop_zero]
      repeat still_step
      still_call (still_of (q4_any _ _))
      repeat still_step
      still_call (still_of (cut_any _ _ _ hsz (by decide)))
      repeat still_step
      refine wpStill_nil ?_
      go_wp2
      go_roundw
      case rel =>
        have hm := HM.out
        subst hm
        exact ⟨4, by omega, rfl, rfl, by simpa only [parB_3] using ks.out.set3 _, kf.out.set _ _, kb.setCell (Nat.le_refl _) _⟩
      case measure => simp [intOf]
    · generalize hM : restTo r 4 = M at *
      have HM := Lib.hid hM
      clear hM
      go_wp2
      refine region_tail 12 (by kernel_rfl) (by kernel_rfl) ?_
      intro wd hwd
      have k0 : wd.cell? ⟨wr.heap.size, 0, none⟩ = some (.string (wq 4)) := by rw [hwd]; simp [wq]
      have k1 : wd.cell? ⟨wr.heap.size, 1, none⟩ = some (.func (.func 27) #[] #[]) := by rw [hwd]; simp
      have kb : Below w1.heap.size w2 wd := by rw [hwd]; go_grown
      have kb2 : Below wr.heap.size wr wd := by rw [hwd]; go_grown
      have ks := Lib.hid (Hs.out.1.below kb2 z1)
      have kf := Lib.hid (Hs.out.2.below kb2 z1)
      have f := kf.out 5
      have c := ks.out.2.2.2.2.2.2.1
      clear hwd
      simp only [List.take_succ_cons, List.take_zero, List.drop_succ_cons, List.drop_zero]
      repeat still_step
      still_call (still_of (q5_any _ _))
      repeat still_step
      still_call (still_of (cut_any _ _ _ hsz (by decide)))
      repeat still_step
      refine wpStill_nil ?_
      go_wp2
      go_roundw
      case rel =>
        have hm := HM.out
        subst hm
        exact ⟨5, by omega, rfl, rfl, by simpa only [parB_4] using ks.out.set4 _, kf.out.set _ _, kb.setCell (Nat.le_refl _) _⟩
      case measure => simp [intOf]
    · generalize hM : restTo r 5 = M at *
      have HM := Lib.hid hM
      clear hM
      go_wp2
      refine region_tail 12 (by kernel_rfl) (by kernel_rfl) ?_
      intro wd hwd
      have k0 : wd.cell? ⟨wr.heap.size, 0, none⟩ = some (.string (wq 5)) := by rw [hwd]; simp [wq]
      have k1 : wd.cell? ⟨wr.heap.size, 1, none⟩ = some (.func (.func 28) #[] #[]) := by rw [hwd]; simp
      have kb : Below w1.heap.size w2 wd := by rw [hwd]; go_grown
      have kb2 : Below wr.heap.size wr wd := by rw [hwd]; go_grown
      have ks := Lib.hid (Hs.out.1.below kb2 z1)
      have kf := Lib.hid (Hs.out.2.below kb2 z1)
      have f := kf.out 6
      have c := ks.out.2.2.2.2.2.2.2.1
      clear hwd
      simp only [List.take_succ_cons, List.take_zero, List.drop_succ_cons, List.drop_zero]
      repeat still_step
      still_call (still_of (q6_any _ _))
      repeat still_step
      still_call (still_of (cut_any _ _ _ hsz (by decide)))
      repeat still_step
      refine wpStill_nil ?_
      go_wp2
      go_roundw
      case rel =>
        have hm := HM.out
        subst hm
        exact ⟨6, by omega, rfl, rfl, by simpa only [parB_5] using ks.out.set5 _, kf.out.set _ _, kb.setCell (Nat.le_refl _) _⟩
      case measure => simp [intOf]
    · generalize hM : restTo r 6 = M at *
      have HM := Lib.hid hM
      clear hM
      go_wp2
      refine region_tail 12 (by kernel_rfl) (by kernel_rfl) ?_
      intro wd hwd
      have k0 : wd.cell? ⟨wr.heap.size, 0, none⟩ = some (.string (wq 6)) := by rw [hwd]; simp [wq]
      have k1 : wd.cell? ⟨wr.heap.size, 1, none⟩ = some (.func (.func 29) #[] #[]) := by rw [hwd]; simp
      have kb : Below w1.heap.size w2 wd := by rw [hwd]; go_grown
      have kb2 : Below wr.heap.size wr wd := by rw [hwd]; go_grown
      have ks := Lib.hid (Hs.out.1.below kb2 z1)
      have kf := Lib.hid (Hs.out.2.below kb2 z1)
      have f := kf.out 7
      have c := ks.out.2.2.2.2.2.2.2.2
      clear hwd
      simp only [List.take_succ_cons, List.take_zero, List.drop_succ_cons, List.drop_zero]
      repeat still_step
      still_call (still_of (q7_any _ _))
      repeat still_step
      still_call (still_of (cut_any _ _ _ hsz (by decide)))
      repeat still_step
      refine wpStill_nil ?_
      go_wp2
      go_roundw
      case rel =>
        have hm := HM.out
        subst hm
        exact ⟨7, by omega, rfl, rfl, by simpa only [parB_6] using ks.out.set6 _, kf.out.set _ _, kb.setCell (Nat.le_refl _) _⟩
      case measure => simp [intOf]
    · have r1 := HR.out.2.1.below hb (by omega)
      have r2 := HR.out.2.2.below hb (by omega)
      have hbw := HR.out.1.trans (hb.mono (by omega))
      have zz : w.heap.size < wr.heap.size := by have := hbw.size; omega
      have HX := Lib.hid (And.intro r1 (And.intro r2 (And.intro hbw Hs.out.1)))
      have hc := Hs.out.1
      clear r1 r2 hb HR hbw
      have hfin := HV.out
      clear HV
      generalize hRR : restTo r 7 = R at *
      clear hRR
      obtain ⟨y', c0, c1, c2, c3, c4, c5, c6, c7⟩ := hc
      by_cases hl : 1 ≤ L
      · by_cases hR : R = ⟨#[]⟩
        · subst hR
          rw [if_pos ⟨hl, rfl⟩] at hfin
          have Hfin := Lib.hid hfin
          clear hfin
          go_wp2_with fail
          refine (valid_yes L _ _ _ _ _ _ _ _ hl hlev.2).mono ?_
          rintro e w3 ⟨rfl, hb3⟩
          have r1 := HX.out.1.below hb3 zz
          have r2 := HX.out.2.1.below hb3 zz
          have hbw := HX.out.2.2.1.trans (hb3.mono (by omega))
          have f0 := r2 0
          have f1 := r2 1
          have f2 := r2 2
          have f3 := r2 3
          have f4 := r2 4
          have f5 := r2 5
          have f6 := r2 6
          have f7 := r2 7
          have hend : Holds w.heap.size L (parB r 7 0) (parB r 7 1) (parB r 7 2) (parB r 7 3) (parB r 7 4) (parB r 7 5) (parB r 7 6) ((((((((w3.setCell ⟨w.heap.size, 0, none⟩ (.int .i64 L)).setCell ⟨w.heap.size, 1, none⟩ (.bool (parB r 7 0))).setCell ⟨w.heap.size, 2, none⟩ (.bool (parB r 7 1))).setCell ⟨w.heap.size, 3, none⟩ (.bool (parB r 7 2))).setCell ⟨w.heap.size, 4, none⟩ (.bool (parB r 7 3))).setCell ⟨w.heap.size, 5, none⟩ (.bool (parB r 7 4))).setCell ⟨w.heap.size, 6, none⟩ (.bool (parB r 7 5))).setCell ⟨w.heap.size, 7, none⟩ (.bool (parB r 7 6))) ∧ Below w.heap.size w ((((((((w3.setCell ⟨w.heap.size, 0, none⟩ (.int .i64 L)).setCell ⟨w.heap.size, 1, none⟩ (.bool (parB r 7 0))).setCell ⟨w.heap.size, 2, none⟩ (.bool (parB r 7 1))).setCell ⟨w.heap.size, 3, none⟩ (.bool (parB r 7 2))).setCell ⟨w.heap.size, 4, none⟩ (.bool (parB r 7 3))).setCell ⟨w.heap.size, 5, none⟩ (.bool (parB r 7 4))).setCell ⟨w.heap.size, 6, none⟩ (.bool (parB r 7 5))).setCell ⟨w.heap.size, 7, none⟩ (.bool (parB r 7 6))) := And.intro ((((((((r1.setL L).set0 (parB r 7 0)).set1 (parB r 7 1)).set2 (parB r 7 2)).set3 (parB r 7 3)).set4 (parB r 7 4)).set5 (parB r 7 5)).set6 (parB r 7 6)) (by go_grown)
          have Hend := Lib.hid hend
          have hc := HX.out.2.2.2.below hb3 y'
          clear hend r2 hb3 HX hbw c0 c1 c2 c3 c4 c5 c6 c7 y'
          obtain ⟨y, d0, d1, d2, d3, d4, d5, d6, d7⟩ := r1
          obtain ⟨y', c0, c1, c2, c3, c4, c5, c6, c7⟩ := hc
          go_wp2
          generalize (((((((w3.setCell ⟨w.heap.size, 0, none⟩ (.int .i64 L)).setCell ⟨w.heap.size, 1, none⟩ (.bool (parB r 7 0))).setCell ⟨w.heap.size, 2, none⟩ (.bool (parB r 7 1))).setCell ⟨w.heap.size, 3, none⟩ (.bool (parB r 7 2))).setCell ⟨w.heap.size, 4, none⟩ (.bool (parB r 7 3))).setCell ⟨w.heap.size, 5, none⟩ (.bool (parB r 7 4))).setCell ⟨w.heap.size, 6, none⟩ (.bool (parB r 7 5))).setCell ⟨w.heap.size, 7, none⟩ (.bool (parB r 7 6)) = W' at *
          have hh := Hend.out.1
          have kb := Hend.out.2
          clear Hend d0 d1 d2 d3 d4 d5 d6 d7 f0 f1 f2 f3 f4 f5 f6 f7 c0 c1 c2 c3 c4 c5 c6 c7
          obtain ⟨z', c0, c1, c2, c3, c4, c5, c6, c7⟩ := hh
          exact bodyPost_ret (v := .tuple #[profV L (parB r 7 0) (parB r 7 1) (parB r 7 2) (parB r 7 3) (parB r 7 4) (parB r 7 5) (parB r 7 6), .int .i64 0]) (by simp [results, Tryd.results16, go_sem, c0, c1, c2, c3, c4, c5, c6, c7]) rfl ⟨by rw [Hfin.out], kb⟩
        · have hs0 : ¬ R.size = 0 := fun h => hR (by rcases R with ⟨⟨l⟩⟩; simp [ByteArray.size] at h; simp [h])
          rw [if_neg (fun h => hs0 h.2)] at hfin
          have Hfin := Lib.hid hfin
          have q0 : R.toList ≠ [] := fun h => hR (by have := congrArg List.length h; rw [ByteArray.toList_eq] at this; exact absurd this hs0)
          have q1 : (R.toList == []) = false := by simpa using q0
          have q2 : (R.toList != []) = true := by simpa using q0
          have q3 : R.toList.isEmpty = false := by simpa using q0
          clear hfin hs0 hR
          go_wp2_with fail
          refine (valid_yes L _ _ _ _ _ _ _ _ hl hlev.2).mono ?_
          rintro e w3 ⟨rfl, hb3⟩
          have r1 := HX.out.1.below hb3 zz
          have r2 := HX.out.2.1.below hb3 zz
          have hbw := HX.out.2.2.1.trans (hb3.mono (by omega))
          have f0 := r2 0
          have f1 := r2 1
          have f2 := r2 2
          have f3 := r2 3
          have f4 := r2 4
          have f5 := r2 5
          have f6 := r2 6
          have f7 := r2 7
          have hend : Holds w.heap.size 0 false false false false false false false ((((((((w3.setCell ⟨w.heap.size, 0, none⟩ (.int .i64 0)).setCell ⟨w.heap.size, 1, none⟩ (.bool false)).setCell ⟨w.heap.size, 2, none⟩ (.bool false)).setCell ⟨w.heap.size, 3, none⟩ (.bool false)).setCell ⟨w.heap.size, 4, none⟩ (.bool false)).setCell ⟨w.heap.size, 5, none⟩ (.bool false)).setCell ⟨w.heap.size, 6, none⟩ (.bool false)).setCell ⟨w.heap.size, 7, none⟩ (.bool false)) ∧ Below w.heap.size w ((((((((w3.setCell ⟨w.heap.size, 0, none⟩ (.int .i64 0)).setCell ⟨w.heap.size, 1, none⟩ (.bool false)).setCell ⟨w.heap.size, 2, none⟩ (.bool false)).setCell ⟨w.heap.size, 3, none⟩ (.bool false)).setCell ⟨w.heap.size, 4, none⟩ (.bool false)).setCell ⟨w.heap.size, 5, none⟩ (.bool false)).setCell ⟨w.heap.size, 6, none⟩ (.bool false)).setCell ⟨w.heap.size, 7, none⟩ (.bool false)) := And.intro ((((((((r1.setL 0).set0 false).set1 false).set2 false).set3 false).set4 false).set5 false).set6 false) (by go_grown)
          have Hend := Lib.hid hend
          have hc := HX.out.2.2.2.below hb3 y'
          clear hend r2 hb3 HX hbw c0 c1 c2 c3 c4 c5 c6 c7 y'
          obtain ⟨y, d0, d1, d2, d3, d4, d5, d6, d7⟩ := r1
          obtain ⟨y', c0, c1, c2, c3, c4, c5, c6, c7⟩ := hc
          go_wp2
          generalize (((((((w3.setCell ⟨w.heap.size, 0, none⟩ (.int .i64 0)).setCell ⟨w.heap.size, 1, none⟩ (.bool false)).setCell ⟨w.heap.size, 2, none⟩ (.bool false)).setCell ⟨w.heap.size, 3, none⟩ (.bool false)).setCell ⟨w.heap.size, 4, none⟩ (.bool false)).setCell ⟨w.heap.size, 5, none⟩ (.bool false)).setCell ⟨w.heap.size, 6, none⟩ (.bool false)).setCell ⟨w.heap.size, 7, none⟩ (.bool false) = W' at *
          have hh := Hend.out.1
          have kb := Hend.out.2
          clear Hend d0 d1 d2 d3 d4 d5 d6 d7 f0 f1 f2 f3 f4 f5 f6 f7 c0 c1 c2 c3 c4 c5 c6 c7
          obtain ⟨z', c0, c1, c2, c3, c4, c5, c6, c7⟩ := hh
          exact bodyPost_ret (v := .tuple #[profV 0 false false false false false false false, .int .i64 6]) (by simp [results, Tryd.results16, go_sem, c0, c1, c2, c3, c4, c5, c6, c7]) rfl ⟨by rw [Hfin.out], kb⟩
      · rw [if_neg (fun h => hl h.1)] at hfin
        have Hfin := Lib.hid hfin
        clear hfin
        go_wp2_with fail
        refine (valid_no L _ _ _ _ _ _ _ _ (by omega)).mono ?_
        rintro e w3 ⟨rfl, hb3⟩
        have r1 := HX.out.1.below hb3 zz
        have r2 := HX.out.2.1.below hb3 zz
        have hbw := HX.out.2.2.1.trans (hb3.mono (by omega))
        have f0 := r2 0
        have f1 := r2 1
        have f2 := r2 2
        have f3 := r2 3
        have f4 := r2 4
        have f5 := r2 5
        have f6 := r2 6
        have f7 := r2 7
        have hend : Holds w.heap.size 0 false false false false false false false ((((((((w3.setCell ⟨w.heap.size, 0, none⟩ (.int .i64 0)).setCell ⟨w.heap.size, 1, none⟩ (.bool false)).setCell ⟨w.heap.size, 2, none⟩ (.bool false)).setCell ⟨w.heap.size, 3, none⟩ (.bool false)).setCell ⟨w.heap.size, 4, none⟩ (.bool false)).setCell ⟨w.heap.size, 5, none⟩ (.bool false)).setCell ⟨w.heap.size, 6, none⟩ (.bool false)).setCell ⟨w.heap.size, 7, none⟩ (.bool false)) ∧ Below w.heap.size w ((((((((w3.setCell ⟨w.heap.size, 0, none⟩ (.int .i64 0)).setCell ⟨w.heap.size, 1, none⟩ (.bool false)).setCell ⟨w.heap.size, 2, none⟩ (.bool false)).setCell ⟨w.heap.size, 3, none⟩ (.bool false)).setCell ⟨w.heap.size, 4, none⟩ (.bool false)).setCell ⟨w.heap.size, 5, none⟩ (.bool false)).setCell ⟨w.heap.size, 6, none⟩ (.bool false)).setCell ⟨w.heap.size, 7, none⟩ (.bool false)) := And.intro ((((((((r1.setL 0).set0 false).set1 false).set2 false).set3 false).set4 false).set5 false).set6 false) (by go_grown)
        have Hend := Lib.hid hend
        have hc := HX.out.2.2.2.below hb3 y'
        clear hend r2 hb3 HX hbw c0 c1 c2 c3 c4 c5 c6 c7 y'
        obtain ⟨y, d0, d1, d2, d3, d4, d5, d6, d7⟩ := r1
        obtain ⟨y', c0, c1, c2, c3, c4, c5, c6, c7⟩ := hc
        go_wp2
        generalize (((((((w3.setCell ⟨w.heap.size, 0, none⟩ (.int .i64 0)).setCell ⟨w.heap.size, 1, none⟩ (.bool false)).setCell ⟨w.heap.size, 2, none⟩ (.bool false)).setCell ⟨w.heap.size, 3, none⟩ (.bool false)).setCell ⟨w.heap.size, 4, none⟩ (.bool false)).setCell ⟨w.heap.size, 5, none⟩ (.bool false)).setCell ⟨w.heap.size, 6, none⟩ (.bool false)).setCell ⟨w.heap.size, 7, none⟩ (.bool false) = W' at *
        have hh := Hend.out.1
        have kb := Hend.out.2
        clear Hend d0 d1 d2 d3 d4 d5 d6 d7 f0 f1 f2 f3 f4 f5 f6 f7 c0 c1 c2 c3 c4 c5 c6 c7
        obtain ⟨z', c0, c1, c2, c3, c4, c5, c6, c7⟩ := hh
        exact bodyPost_ret (v := .tuple #[profV 0 false false false false false false false, .int .i64 6]) (by simp [results, Tryd.results16, go_sem, c0, c1, c2, c3, c4, c5, c6, c7]) rfl ⟨by rw [Hfin.out], kb⟩
end Go.Proofs.YtgndlgcgphgilaaDoor
