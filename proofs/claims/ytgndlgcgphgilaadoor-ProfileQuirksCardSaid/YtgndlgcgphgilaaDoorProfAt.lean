/- Contract of profile.At. -/
import Derived.Test.YtgndlgcgphgilaaDoorProf
namespace Go.Proofs.YtgndlgcgphgilaaDoor
open Go.RowKit Num
set_option linter.unusedVariables false

set_option maxHeartbeats 400000 in
theorem count_any (w : World) : Calls Tryd.prog 17 #[] w fun e w' => e = .returned (.int .i64 384) ∧ w = w' := by
  go_enter Tryd.func17, Tryd.ntmps17
  go_wp2
  go_ret
  exact ⟨rfl, rfl⟩

set_option maxHeartbeats 400000 in
theorem at_no (n : Int) (w : World) (h : n < 0 ∨ 384 ≤ n) :
    Calls Tryd.prog 8 #[.int .i64 n] w fun e w' => e = .returned (.tuple #[profV 0 false false false false false false false, .int .i64 5]) ∧ Below w.heap.size w w' := by
  have h : n < 0 ∨ (0 ≤ n ∧ 384 ≤ n) := by omega
  rcases h with h | ⟨h, h2⟩
  all_goals
    go_enter Tryd.func8, Tryd.ntmps8
    go_wp2_with (go_at_call 17; refine (count_any _).mono ?_; rintro e w' ⟨rfl, rfl⟩)
    go_returns
    exact ⟨rfl, by go_grown⟩

/-- Bit k of n, as a profile has it behind r rounds. -/
def atB (n r k : Nat) : Bool := decide (k < r) && decide (n / 2 ^ k % 2 = 1)
theorem still_of {f : FuncId} {args : Array Value} {v : Value} {w : World} (h : Calls Tryd.prog f args w fun e w' => e = .returned v ∧ w = w') : Calls Tryd.prog f args w fun e w' => e = .returned v ∧ w' = w :=
  h.mono fun _ _ ⟨he, hw⟩ => ⟨he, hw.symm⟩
/-- The block b is the call's own, and may be written. -/
def Free (b : Nat) (w : World) : Prop := ∀ j, w.frozen? ⟨b, j, none⟩ = false
theorem Free.below {b : Nat} {w w' : World} {n : Nat} (h : Free b w) (hb : Below n w w') (hn : b < n) : Free b w' := fun j => (hb.frozen (p := ⟨b, j, none⟩) hn).trans (h j)
theorem Free.set {b : Nat} {w : World} (h : Free b w) (a : Addr) (v : Value) : Free b (w.setCell a v) := fun j => by rw [World.frozen?_setCell]; exact h j
theorem Free.drew {b : Nat} {w : World} (h : Free b w) : Free b w.drew := h
theorem Free.new (w : World) (c : Array Value) (t : TypeId) : Free w.heap.size (w.alloc (.cells c t)) := fun j => World.frozen?_alloc_at _ _ _ _ rfl

theorem Holds.setL {b : Nat} {l : Int} {b0 b1 b2 b3 b4 b5 b6 : Bool} {w : World} (h : Holds b l b0 b1 b2 b3 b4 b5 b6 w) (v : Int) : Holds b v b0 b1 b2 b3 b4 b5 b6 (w.setCell ⟨b, 0, none⟩ (.int .i64 v)) := by
  obtain ⟨z, c0, c1, c2, c3, c4, c5, c6, c7⟩ := h
  have hs := World.cell?_setCell_same w (a := ⟨b, 0, none⟩) (.int .i64 v) (by assumption)
  have ho : ∀ j, j ≠ 0 → (w.setCell ⟨b, 0, none⟩ (.int .i64 v)).cell? ⟨b, j, none⟩ = w.cell? ⟨b, j, none⟩ := fun j hj => World.cell?_setCell_other w _ _ _ (fun c => hj (by injection c with _ c; first | exact c | exact c.symm))
  refine ⟨by simpa using z, hs, (ho 1 (by omega)).trans c1, (ho 2 (by omega)).trans c2, (ho 3 (by omega)).trans c3, (ho 4 (by omega)).trans c4, (ho 5 (by omega)).trans c5, (ho 6 (by omega)).trans c6, (ho 7 (by omega)).trans c7⟩
theorem Holds.set0 {b : Nat} {l : Int} {b0 b1 b2 b3 b4 b5 b6 : Bool} {w : World} (h : Holds b l b0 b1 b2 b3 b4 b5 b6 w) (v : Bool) : Holds b l v b1 b2 b3 b4 b5 b6 (w.setCell ⟨b, 1, none⟩ (.bool v)) := by
  obtain ⟨z, c0, c1, c2, c3, c4, c5, c6, c7⟩ := h
  have hs := World.cell?_setCell_same w (a := ⟨b, 1, none⟩) (.bool v) (by assumption)
  have ho : ∀ j, j ≠ 1 → (w.setCell ⟨b, 1, none⟩ (.bool v)).cell? ⟨b, j, none⟩ = w.cell? ⟨b, j, none⟩ := fun j hj => World.cell?_setCell_other w _ _ _ (fun c => hj (by injection c with _ c; first | exact c | exact c.symm))
  refine ⟨by simpa using z, (ho 0 (by omega)).trans c0, hs, (ho 2 (by omega)).trans c2, (ho 3 (by omega)).trans c3, (ho 4 (by omega)).trans c4, (ho 5 (by omega)).trans c5, (ho 6 (by omega)).trans c6, (ho 7 (by omega)).trans c7⟩
theorem Holds.set1 {b : Nat} {l : Int} {b0 b1 b2 b3 b4 b5 b6 : Bool} {w : World} (h : Holds b l b0 b1 b2 b3 b4 b5 b6 w) (v : Bool) : Holds b l b0 v b2 b3 b4 b5 b6 (w.setCell ⟨b, 2, none⟩ (.bool v)) := by
  obtain ⟨z, c0, c1, c2, c3, c4, c5, c6, c7⟩ := h
  have hs := World.cell?_setCell_same w (a := ⟨b, 2, none⟩) (.bool v) (by assumption)
  have ho : ∀ j, j ≠ 2 → (w.setCell ⟨b, 2, none⟩ (.bool v)).cell? ⟨b, j, none⟩ = w.cell? ⟨b, j, none⟩ := fun j hj => World.cell?_setCell_other w _ _ _ (fun c => hj (by injection c with _ c; first | exact c | exact c.symm))
  refine ⟨by simpa using z, (ho 0 (by omega)).trans c0, (ho 1 (by omega)).trans c1, hs, (ho 3 (by omega)).trans c3, (ho 4 (by omega)).trans c4, (ho 5 (by omega)).trans c5, (ho 6 (by omega)).trans c6, (ho 7 (by omega)).trans c7⟩
theorem Holds.set2 {b : Nat} {l : Int} {b0 b1 b2 b3 b4 b5 b6 : Bool} {w : World} (h : Holds b l b0 b1 b2 b3 b4 b5 b6 w) (v : Bool) : Holds b l b0 b1 v b3 b4 b5 b6 (w.setCell ⟨b, 3, none⟩ (.bool v)) := by
  obtain ⟨z, c0, c1, c2, c3, c4, c5, c6, c7⟩ := h
  have hs := World.cell?_setCell_same w (a := ⟨b, 3, none⟩) (.bool v) (by assumption)
  have ho : ∀ j, j ≠ 3 → (w.setCell ⟨b, 3, none⟩ (.bool v)).cell? ⟨b, j, none⟩ = w.cell? ⟨b, j, none⟩ := fun j hj => World.cell?_setCell_other w _ _ _ (fun c => hj (by injection c with _ c; first | exact c | exact c.symm))
  refine ⟨by simpa using z, (ho 0 (by omega)).trans c0, (ho 1 (by omega)).trans c1, (ho 2 (by omega)).trans c2, hs, (ho 4 (by omega)).trans c4, (ho 5 (by omega)).trans c5, (ho 6 (by omega)).trans c6, (ho 7 (by omega)).trans c7⟩
theorem Holds.set3 {b : Nat} {l : Int} {b0 b1 b2 b3 b4 b5 b6 : Bool} {w : World} (h : Holds b l b0 b1 b2 b3 b4 b5 b6 w) (v : Bool) : Holds b l b0 b1 b2 v b4 b5 b6 (w.setCell ⟨b, 4, none⟩ (.bool v)) := by
  obtain ⟨z, c0, c1, c2, c3, c4, c5, c6, c7⟩ := h
  have hs := World.cell?_setCell_same w (a := ⟨b, 4, none⟩) (.bool v) (by assumption)
  have ho : ∀ j, j ≠ 4 → (w.setCell ⟨b, 4, none⟩ (.bool v)).cell? ⟨b, j, none⟩ = w.cell? ⟨b, j, none⟩ := fun j hj => World.cell?_setCell_other w _ _ _ (fun c => hj (by injection c with _ c; first | exact c | exact c.symm))
  refine ⟨by simpa using z, (ho 0 (by omega)).trans c0, (ho 1 (by omega)).trans c1, (ho 2 (by omega)).trans c2, (ho 3 (by omega)).trans c3, hs, (ho 5 (by omega)).trans c5, (ho 6 (by omega)).trans c6, (ho 7 (by omega)).trans c7⟩
theorem Holds.set4 {b : Nat} {l : Int} {b0 b1 b2 b3 b4 b5 b6 : Bool} {w : World} (h : Holds b l b0 b1 b2 b3 b4 b5 b6 w) (v : Bool) : Holds b l b0 b1 b2 b3 v b5 b6 (w.setCell ⟨b, 5, none⟩ (.bool v)) := by
  obtain ⟨z, c0, c1, c2, c3, c4, c5, c6, c7⟩ := h
  have hs := World.cell?_setCell_same w (a := ⟨b, 5, none⟩) (.bool v) (by assumption)
  have ho : ∀ j, j ≠ 5 → (w.setCell ⟨b, 5, none⟩ (.bool v)).cell? ⟨b, j, none⟩ = w.cell? ⟨b, j, none⟩ := fun j hj => World.cell?_setCell_other w _ _ _ (fun c => hj (by injection c with _ c; first | exact c | exact c.symm))
  refine ⟨by simpa using z, (ho 0 (by omega)).trans c0, (ho 1 (by omega)).trans c1, (ho 2 (by omega)).trans c2, (ho 3 (by omega)).trans c3, (ho 4 (by omega)).trans c4, hs, (ho 6 (by omega)).trans c6, (ho 7 (by omega)).trans c7⟩
theorem Holds.set5 {b : Nat} {l : Int} {b0 b1 b2 b3 b4 b5 b6 : Bool} {w : World} (h : Holds b l b0 b1 b2 b3 b4 b5 b6 w) (v : Bool) : Holds b l b0 b1 b2 b3 b4 v b6 (w.setCell ⟨b, 6, none⟩ (.bool v)) := by
  obtain ⟨z, c0, c1, c2, c3, c4, c5, c6, c7⟩ := h
  have hs := World.cell?_setCell_same w (a := ⟨b, 6, none⟩) (.bool v) (by assumption)
  have ho : ∀ j, j ≠ 6 → (w.setCell ⟨b, 6, none⟩ (.bool v)).cell? ⟨b, j, none⟩ = w.cell? ⟨b, j, none⟩ := fun j hj => World.cell?_setCell_other w _ _ _ (fun c => hj (by injection c with _ c; first | exact c | exact c.symm))
  refine ⟨by simpa using z, (ho 0 (by omega)).trans c0, (ho 1 (by omega)).trans c1, (ho 2 (by omega)).trans c2, (ho 3 (by omega)).trans c3, (ho 4 (by omega)).trans c4, (ho 5 (by omega)).trans c5, hs, (ho 7 (by omega)).trans c7⟩
theorem Holds.set6 {b : Nat} {l : Int} {b0 b1 b2 b3 b4 b5 b6 : Bool} {w : World} (h : Holds b l b0 b1 b2 b3 b4 b5 b6 w) (v : Bool) : Holds b l b0 b1 b2 b3 b4 b5 v (w.setCell ⟨b, 7, none⟩ (.bool v)) := by
  obtain ⟨z, c0, c1, c2, c3, c4, c5, c6, c7⟩ := h
  have hs := World.cell?_setCell_same w (a := ⟨b, 7, none⟩) (.bool v) (by assumption)
  have ho : ∀ j, j ≠ 7 → (w.setCell ⟨b, 7, none⟩ (.bool v)).cell? ⟨b, j, none⟩ = w.cell? ⟨b, j, none⟩ := fun j hj => World.cell?_setCell_other w _ _ _ (fun c => hj (by injection c with _ c; first | exact c | exact c.symm))
  refine ⟨by simpa using z, (ho 0 (by omega)).trans c0, (ho 1 (by omega)).trans c1, (ho 2 (by omega)).trans c2, (ho 3 (by omega)).trans c3, (ho 4 (by omega)).trans c4, (ho 5 (by omega)).trans c5, (ho 6 (by omega)).trans c6, hs⟩
theorem atB_0 (n : Nat) : atB n 1 1 = atB n 0 1 ∧ atB n 1 2 = atB n 0 2 ∧ atB n 1 3 = atB n 0 3 ∧ atB n 1 4 = atB n 0 4 ∧ atB n 1 5 = atB n 0 5 ∧ atB n 1 6 = atB n 0 6 ∧ atB n 1 0 = decide (n / 1 % 2 = 1) := by
  simp [atB]
theorem atB_1 (n : Nat) : atB n 2 0 = atB n 1 0 ∧ atB n 2 2 = atB n 1 2 ∧ atB n 2 3 = atB n 1 3 ∧ atB n 2 4 = atB n 1 4 ∧ atB n 2 5 = atB n 1 5 ∧ atB n 2 6 = atB n 1 6 ∧ atB n 2 1 = decide (n / 2 % 2 = 1) := by
  simp [atB]
theorem atB_2 (n : Nat) : atB n 3 0 = atB n 2 0 ∧ atB n 3 1 = atB n 2 1 ∧ atB n 3 3 = atB n 2 3 ∧ atB n 3 4 = atB n 2 4 ∧ atB n 3 5 = atB n 2 5 ∧ atB n 3 6 = atB n 2 6 ∧ atB n 3 2 = decide (n / 4 % 2 = 1) := by
  simp [atB]
theorem atB_3 (n : Nat) : atB n 4 0 = atB n 3 0 ∧ atB n 4 1 = atB n 3 1 ∧ atB n 4 2 = atB n 3 2 ∧ atB n 4 4 = atB n 3 4 ∧ atB n 4 5 = atB n 3 5 ∧ atB n 4 6 = atB n 3 6 ∧ atB n 4 3 = decide (n / 8 % 2 = 1) := by
  simp [atB]
theorem atB_4 (n : Nat) : atB n 5 0 = atB n 4 0 ∧ atB n 5 1 = atB n 4 1 ∧ atB n 5 2 = atB n 4 2 ∧ atB n 5 3 = atB n 4 3 ∧ atB n 5 5 = atB n 4 5 ∧ atB n 5 6 = atB n 4 6 ∧ atB n 5 4 = decide (n / 16 % 2 = 1) := by
  simp [atB]
theorem atB_5 (n : Nat) : atB n 6 0 = atB n 5 0 ∧ atB n 6 1 = atB n 5 1 ∧ atB n 6 2 = atB n 5 2 ∧ atB n 6 3 = atB n 5 3 ∧ atB n 6 4 = atB n 5 4 ∧ atB n 6 6 = atB n 5 6 ∧ atB n 6 5 = decide (n / 32 % 2 = 1) := by
  simp [atB]
theorem atB_6 (n : Nat) : atB n 7 0 = atB n 6 0 ∧ atB n 7 1 = atB n 6 1 ∧ atB n 7 2 = atB n 6 2 ∧ atB n 7 3 = atB n 6 3 ∧ atB n 7 4 = atB n 6 4 ∧ atB n 7 5 = atB n 6 5 ∧ atB n 7 6 = decide (n / 64 % 2 = 1) := by
  simp [atB]
theorem bit_at (n : Nat) (x : Int) (q : Nat) (hx : x = q) (hq : q ≤ 65535) : (bits .and .i64 x 1 == 1) = decide (q % 2 = 1) := by
  subst hx
  have e : bits .and .i64 (q : Int) 1 = (q : Int) % 2 := bits_mask .i64 62 (by decide) wraps_i64 1 (by decide) q (by omega) (by omega)
  rw [e]
  rw [Bool.eq_iff_iff]
  simp
  omega
theorem region_tail {P : Program} {id : Nat} {Q : Exit → Act → World → Prop} {a : Act} {w : World} {l : List Oper} (n : Nat) (hm : P.follows .mixedOrders = true) (hB : Region.lexTailB .any l.toArray n = true)
    (h : ∀ wd, wd = w.drew → wpStill P l.toArray wd (fun a' => wpList P l.toArray Q (l.drop n) a' wd) (l.take n) a) : (Code.region id l.toArray true).wp P Q a w :=
  wp_region_still_tail n hm hB (h w.drew rfl)

set_option maxHeartbeats 4000000 in
theorem at_yes (n : Nat) (w : World) (h : n < 384) :
    Calls Tryd.prog 8 #[.int .i64 n] w fun e w' => e = .returned (.tuple #[profV (1 + n / 128) (atB n 7 0) (atB n 7 1) (atB n 7 2) (atB n 7 3) (atB n 7 4) (atB n 7 5) (atB n 7 6), .int .i64 0]) ∧ Below w.heap.size w w' := by
  obtain ⟨i0, i1, i2, i3, i4, i5, i6⟩ := quirk_at
  go_enter Tryd.func8, Tryd.ntmps8
  go_wp2_with fail
  refine (count_any _).mono ?_
  rintro e w' ⟨rfl, rfl⟩
  go_wp2_with fail
  have hh1 := Holds.new (w.alloc (.cells #[.int .i64 0, .bool false, .bool false, .bool false, .bool false, .bool false, .bool false, .bool false] 23)) 23 (1 + n / 128) false false false false false false false
  have hf1 := Free.new (w.alloc (.cells #[.int .i64 0, .bool false, .bool false, .bool false, .bool false, .bool false, .bool false, .bool false] 23)) #[.int .i64 (1 + n / 128), .bool false, .bool false, .bool false, .bool false, .bool false, .bool false, .bool false] 23
  have bb : Below (w.heap.size + 1) (w.alloc (.cells #[.int .i64 0, .bool false, .bool false, .bool false, .bool false, .bool false, .bool false, .bool false] 23)) ((w.alloc (.cells #[.int .i64 0, .bool false, .bool false, .bool false, .bool false, .bool false, .bool false, .bool false] 23)).alloc (.cells #[.int .i64 (1 + n / 128), .bool false, .bool false, .bool false, .bool false, .bool false, .bool false, .bool false] 23)) := (Below.refl _ _).alloc (by simp) _
  have hr1 := (Holds.new w 23 0 false false false false false false false).below bb (by omega)
  have hr2 := (Free.new w #[.int .i64 0, .bool false, .bool false, .bool false, .bool false, .bool false, .bool false, .bool false] 23).below bb (by omega)
  have H1 := Lib.hid (And.intro hh1 (And.intro hf1 (And.intro hr1 hr2)))
  clear hh1 hf1 hr1 hr2 bb
  refine (quirks_any _).mono ?_
  rintro e w2 ⟨rfl, hb2⟩
  have hh := H1.out.1.below hb2 (by simp)
  have hf := H1.out.2.1.below hb2 (by simp)
  have hr1 := H1.out.2.2.1.below hb2 (by simp; omega)
  have hr2 := H1.out.2.2.2.below hb2 (by simp; omega)
  simp only [World.size_alloc] at hh hf
  have hb3 : Below w.heap.size w w2 := Below.trans (by go_grown) (hb2.mono (by simp; omega))
  clear hb2 H1
  have HH := Lib.hid (And.intro hh hf)
  have HR := Lib.hid (And.intro hb3 (And.intro hr1 hr2))
  clear hh hf hr1 hr2 hb3
  go_wp2
  go_loopw [20] (fun c wr => ∃ k : Nat, k ≤ 7 ∧ c = .int .i64 k ∧ Holds (w.heap.size + 1) (1 + n / 128) (atB n k 0) (atB n k 1) (atB n k 2) (atB n k 3) (atB n k 4) (atB n k 5) (atB n k 6) wr ∧ Free (w.heap.size + 1) wr ∧ Below (w.heap.size + 1) w2 wr) (fun c _ => 7 - (intOf c).toNat)
  case atStart => exact ⟨0, by omega, rfl, HH.out.1, HH.out.2, Below.refl _ _⟩
  case round =>
    clear HH
    obtain ⟨k, hk, rfl, hh, hf, hb⟩ := hrel
    have Hs := Lib.hid (And.intro hh hf)
    obtain ⟨z, c0, c1, c2, c3, c4, c5, c6, c7⟩ := hh
    obtain rfl | rfl | rfl | rfl | rfl | rfl | rfl | rfl : k = 0 ∨ k = 1 ∨ k = 2 ∨ k = 3 ∨ k = 4 ∨ k = 5 ∨ k = 6 ∨ k = 7 := by omega
    · clear hf
      go_wp2
      refine region_tail 9 (by kernel_rfl) (by kernel_rfl) ?_
      intro wd hwd
      have k0 : wd.cell? ⟨wr.heap.size, 1, none⟩ = some (.func (.func 23) #[] #[]) := by rw [hwd]; simp
      have kb : Below (w.heap.size + 1) w2 wd := by rw [hwd]; go_grown
      have kb2 : Below wr.heap.size wr wd := by rw [hwd]; go_grown
      have ks := Lib.hid (Hs.out.1.below kb2 z)
      have kf := Lib.hid (Hs.out.2.below kb2 z)
      have f := kf.out 1
      have c := ks.out.2.2.1
      clear hwd c0 c1 c2 c3 c4 c5 c6 c7
      simp only [List.take_succ_cons, List.take_zero, List.drop_succ_cons, List.drop_zero]
      repeat still_step
      still_call (still_of (q1_any _ _))
      repeat still_step
      refine wpStill_nil ?_
      go_wp2
      go_roundw
      case rel => exact ⟨1, by omega, rfl, by rw [bit_at n (n : Int) (n / 1) (by omega) (by omega)]; simpa only [atB_0] using ks.out.set0 _, kf.out.set _ _, kb.setCell (Nat.le_refl _) _⟩
      case measure => simp [intOf]
    · clear hf
      go_wp2
      refine region_tail 9 (by kernel_rfl) (by kernel_rfl) ?_
      intro wd hwd
      have k0 : wd.cell? ⟨wr.heap.size, 1, none⟩ = some (.func (.func 24) #[] #[]) := by rw [hwd]; simp
      have kb : Below (w.heap.size + 1) w2 wd := by rw [hwd]; go_grown
      have kb2 : Below wr.heap.size wr wd := by rw [hwd]; go_grown
      have ks := Lib.hid (Hs.out.1.below kb2 z)
      have kf := Lib.hid (Hs.out.2.below kb2 z)
      have f := kf.out 2
      have c := ks.out.2.2.2.1
      clear hwd c0 c1 c2 c3 c4 c5 c6 c7
      simp only [List.take_succ_cons, List.take_zero, List.drop_succ_cons, List.drop_zero]
      repeat still_step
      still_call (still_of (q2_any _ _))
      repeat still_step
      refine wpStill_nil ?_
      go_wp2
      go_roundw
      case rel => exact ⟨2, by omega, rfl, by rw [bit_at n ((n : Int) / 2) (n / 2) (by omega) (by omega)]; simpa only [atB_1] using ks.out.set1 _, kf.out.set _ _, kb.setCell (Nat.le_refl _) _⟩
      case measure => simp [intOf]
    · clear hf
      go_wp2
      refine region_tail 9 (by kernel_rfl) (by kernel_rfl) ?_
      intro wd hwd
      have k0 : wd.cell? ⟨wr.heap.size, 1, none⟩ = some (.func (.func 25) #[] #[]) := by rw [hwd]; simp
      have kb : Below (w.heap.size + 1) w2 wd := by rw [hwd]; go_grown
      have kb2 : Below wr.heap.size wr wd := by rw [hwd]; go_grown
      have ks := Lib.hid (Hs.out.1.below kb2 z)
      have kf := Lib.hid (Hs.out.2.below kb2 z)
      have f := kf.out 3
      have c := ks.out.2.2.2.2.1
      clear hwd c0 c1 c2 c3 c4 c5 c6 c7
      simp only [List.take_succ_cons, List.take_zero, List.drop_succ_cons, List.drop_zero]
      repeat still_step
      still_call (still_of (q3_any _ _))
      repeat still_step
      refine wpStill_nil ?_
      go_wp2
      go_roundw
      case rel => exact ⟨3, by omega, rfl, by rw [bit_at n ((n : Int) / 4) (n / 4) (by omega) (by omega)]; simpa only [atB_2] using ks.out.set2 _, kf.out.set _ _, kb.setCell (Nat.le_refl _) _⟩
      case measure => simp [intOf]
    · clear hf
      go_wp2
      refine region_tail 9 (by kernel_rfl) (by kernel_rfl) ?_
      intro wd hwd
      have k0 : wd.cell? ⟨wr.heap.size, 1, none⟩ = some (.func (.func 26) #[] #[]) := by rw [hwd]; simp
      have kb : Below (w.heap.size + 1) w2 wd := by rw [hwd]; go_grown
      have kb2 : Below wr.heap.size wr wd := by rw [hwd]; go_grown
      have ks := Lib.hid (Hs.out.1.below kb2 z)
      have kf := Lib.hid (Hs.out.2.below kb2 z)
      have f := kf.out 4
      have c := ks.out.2.2.2.2.2.1
      clear hwd c0 c1 c2 c3 c4 c5 c6 c7
      simp only [List.take_succ_cons, List.take_zero, List.drop_succ_cons, List.drop_zero]
      repeat still_step
      still_call (still_of (q4_any _ _))
      repeat still_step
      refine wpStill_nil ?_
      go_wp2
      go_roundw
      case rel => exact ⟨4, by omega, rfl, by rw [bit_at n ((n : Int) / 8) (n / 8) (by omega) (by omega)]; simpa only [atB_3] using ks.out.set3 _, kf.out.set _ _, kb.setCell (Nat.le_refl _) _⟩
      case measure => simp [intOf]
    · clear hf
      go_wp2
      refine region_tail 9 (by kernel_rfl) (by kernel_rfl) ?_
      intro wd hwd
      have k0 : wd.cell? ⟨wr.heap.size, 1, none⟩ = some (.func (.func 27) #[] #[]) := by rw [hwd]; simp
      have kb : Below (w.heap.size + 1) w2 wd := by rw [hwd]; go_grown
      have kb2 : Below wr.heap.size wr wd := by rw [hwd]; go_grown
      have ks := Lib.hid (Hs.out.1.below kb2 z)
      have kf := Lib.hid (Hs.out.2.below kb2 z)
      have f := kf.out 5
      have c := ks.out.2.2.2.2.2.2.1
      clear hwd c0 c1 c2 c3 c4 c5 c6 c7
      simp only [List.take_succ_cons, List.take_zero, List.drop_succ_cons, List.drop_zero]
      repeat still_step
      still_call (still_of (q5_any _ _))
      repeat still_step
      refine wpStill_nil ?_
      go_wp2
      go_roundw
      case rel => exact ⟨5, by omega, rfl, by rw [bit_at n ((n : Int) / 16) (n / 16) (by omega) (by omega)]; simpa only [atB_4] using ks.out.set4 _, kf.out.set _ _, kb.setCell (Nat.le_refl _) _⟩
      case measure => simp [intOf]
    · clear hf
      go_wp2
      refine region_tail 9 (by kernel_rfl) (by kernel_rfl) ?_
      intro wd hwd
      have k0 : wd.cell? ⟨wr.heap.size, 1, none⟩ = some (.func (.func 28) #[] #[]) := by rw [hwd]; simp
      have kb : Below (w.heap.size + 1) w2 wd := by rw [hwd]; go_grown
      have kb2 : Below wr.heap.size wr wd := by rw [hwd]; go_grown
      have ks := Lib.hid (Hs.out.1.below kb2 z)
      have kf := Lib.hid (Hs.out.2.below kb2 z)
      have f := kf.out 6
      have c := ks.out.2.2.2.2.2.2.2.1
      clear hwd c0 c1 c2 c3 c4 c5 c6 c7
      simp only [List.take_succ_cons, List.take_zero, List.drop_succ_cons, List.drop_zero]
      repeat still_step
      still_call (still_of (q6_any _ _))
      repeat still_step
      refine wpStill_nil ?_
      go_wp2
      go_roundw
      case rel => exact ⟨6, by omega, rfl, by rw [bit_at n ((n : Int) / 32) (n / 32) (by omega) (by omega)]; simpa only [atB_5] using ks.out.set5 _, kf.out.set _ _, kb.setCell (Nat.le_refl _) _⟩
      case measure => simp [intOf]
    · clear hf
      go_wp2
      refine region_tail 9 (by kernel_rfl) (by kernel_rfl) ?_
      intro wd hwd
      have k0 : wd.cell? ⟨wr.heap.size, 1, none⟩ = some (.func (.func 29) #[] #[]) := by rw [hwd]; simp
      have kb : Below (w.heap.size + 1) w2 wd := by rw [hwd]; go_grown
      have kb2 : Below wr.heap.size wr wd := by rw [hwd]; go_grown
      have ks := Lib.hid (Hs.out.1.below kb2 z)
      have kf := Lib.hid (Hs.out.2.below kb2 z)
      have f := kf.out 7
      have c := ks.out.2.2.2.2.2.2.2.2
      clear hwd c0 c1 c2 c3 c4 c5 c6 c7
      simp only [List.take_succ_cons, List.take_zero, List.drop_succ_cons, List.drop_zero]
      repeat still_step
      still_call (still_of (q7_any _ _))
      repeat still_step
      refine wpStill_nil ?_
      go_wp2
      go_roundw
      case rel => exact ⟨7, by omega, rfl, by rw [bit_at n ((n : Int) / 64) (n / 64) (by omega) (by omega)]; simpa only [atB_6] using ks.out.set6 _, kf.out.set _ _, kb.setCell (Nat.le_refl _) _⟩
      case measure => simp [intOf]
    · clear hf
      have r1 := HR.out.2.1.below hb (by omega)
      have r2 := HR.out.2.2.below hb (by omega)
      have hend : Holds w.heap.size (1 + n / 128) (atB n 7 0) (atB n 7 1) (atB n 7 2) (atB n 7 3) (atB n 7 4) (atB n 7 5) (atB n 7 6) ((((((((wr.setCell ⟨w.heap.size, 0, none⟩ (.int .i64 (1 + n / 128))).setCell ⟨w.heap.size, 1, none⟩ (.bool (atB n 7 0))).setCell ⟨w.heap.size, 2, none⟩ (.bool (atB n 7 1))).setCell ⟨w.heap.size, 3, none⟩ (.bool (atB n 7 2))).setCell ⟨w.heap.size, 4, none⟩ (.bool (atB n 7 3))).setCell ⟨w.heap.size, 5, none⟩ (.bool (atB n 7 4))).setCell ⟨w.heap.size, 6, none⟩ (.bool (atB n 7 5))).setCell ⟨w.heap.size, 7, none⟩ (.bool (atB n 7 6))) := (((((((r1.setL (1 + n / 128)).set0 (atB n 7 0)).set1 (atB n 7 1)).set2 (atB n 7 2)).set3 (atB n 7 3)).set4 (atB n 7 4)).set5 (atB n 7 5)).set6 (atB n 7 6)
      have Hend := Lib.hid hend
      clear hend
      obtain ⟨y, d0, d1, d2, d3, d4, d5, d6, d7⟩ := r1
      have f0 := r2 0
      have f1 := r2 1
      have f2 := r2 2
      have f3 := r2 3
      have f4 := r2 4
      have f5 := r2 5
      have f6 := r2 6
      have f7 := r2 7
      have hbw := HR.out.1.trans (hb.mono (by omega))
      clear r2
      go_wp2
      have kb : Below w.heap.size w ((((((((wr.setCell ⟨w.heap.size, 0, none⟩ (.int .i64 (1 + n / 128))).setCell ⟨w.heap.size, 1, none⟩ (.bool (atB n 7 0))).setCell ⟨w.heap.size, 2, none⟩ (.bool (atB n 7 1))).setCell ⟨w.heap.size, 3, none⟩ (.bool (atB n 7 2))).setCell ⟨w.heap.size, 4, none⟩ (.bool (atB n 7 3))).setCell ⟨w.heap.size, 5, none⟩ (.bool (atB n 7 4))).setCell ⟨w.heap.size, 6, none⟩ (.bool (atB n 7 5))).setCell ⟨w.heap.size, 7, none⟩ (.bool (atB n 7 6))) := by go_grown
      have hh := Hend.out
      clear Hend hbw c0 c1 c2 c3 c4 c5 c6 c7 d0 d1 d2 d3 d4 d5 d6 d7 f0 f1 f2 f3 f4 f5 f6 f7
      generalize (((((((wr.setCell ⟨w.heap.size, 0, none⟩ (.int .i64 (1 + n / 128))).setCell ⟨w.heap.size, 1, none⟩ (.bool (atB n 7 0))).setCell ⟨w.heap.size, 2, none⟩ (.bool (atB n 7 1))).setCell ⟨w.heap.size, 3, none⟩ (.bool (atB n 7 2))).setCell ⟨w.heap.size, 4, none⟩ (.bool (atB n 7 3))).setCell ⟨w.heap.size, 5, none⟩ (.bool (atB n 7 4))).setCell ⟨w.heap.size, 6, none⟩ (.bool (atB n 7 5))).setCell ⟨w.heap.size, 7, none⟩ (.bool (atB n 7 6)) = W' at *
      obtain ⟨z', c0, c1, c2, c3, c4, c5, c6, c7⟩ := hh
      exact bodyPost_ret (v := .tuple #[profV (1 + n / 128) (atB n 7 0) (atB n 7 1) (atB n 7 2) (atB n 7 3) (atB n 7 4) (atB n 7 5) (atB n 7 6), .int .i64 0]) (by simp [results, Tryd.results8, go_sem, c0, c1, c2, c3, c4, c5, c6, c7]) rfl ⟨rfl, kb⟩
end Go.Proofs.YtgndlgcgphgilaaDoor
