/- Contracts of package row: firstPixels, finder, Get. -/
import Derived.Test.YtplmmfgmbfcjpaaPix
import Derived.Test.YtplmmfgmbfcjpaaMix
import Derived.Test.YtplmmfgmbfcjpaaCalm
namespace Go.Proofs.Ytplmmfgmbfcjpaa
open Go.RowKit Num
set_option linter.unusedVariables false
set_option linter.unusedSimpArgs false

/-- A world that is as W was, below the block B. -/
def CalmB (B : Nat) (W : World) : Type := { w' : World // Below B W w' }
def CalmB.w {B : Nat} {W : World} (x : CalmB B W) : World := x.1
theorem CalmB.below {B : Nat} {W : World} (x : CalmB B W) : Below B W x.w := x.2
instance (B : Nat) (W : World) : Nonempty (CalmB B W) := ⟨⟨W, Below.refl _ _⟩⟩
/-- The contracts in words. -/
theorem move0_words {h l h' l' : BitVec 64} {n : Int} (e : mv (h ++ l) n = h' ++ l') (n0 : -9223372036854775808 ≤ n) (n1 : n ≤ 9223372036854775807) (w : World) :
    Calls Try.prog 65 #[.agg #[.int .u64 (h.toNat : Int), .int .u64 (l.toNat : Int)], .int .i64 n, .slice none 0 0] w fun e w' => e = .returned (.agg #[.int .u64 (h'.toNat : Int), .int .u64 (l'.toNat : Int)]) ∧ Below w.heap.size w w' := by
  rw [← rv_append, ← rv_append, ← e]
  exact move0_any _ n w n0 n1

set_option maxHeartbeats 1000000 in
theorem firsts_any (n : Int) (w : World) (n0 : 0 ≤ n) (n1 : n ≤ 128) : Calls Try.prog 66 #[.int .i64 n] w fun e w' => e = .returned (rv (firsts n)) ∧ Below w.heap.size w w' := by
  obtain ⟨h, l, e⟩ := words (firsts n)
  rw [e, rv_append]
  have e' : mv ((18446744073709551615#64) ++ (18446744073709551615#64)) (n - 128) = h ++ l := e
  have O := Lib.hid (move0_words e' (by omega) (by omega))
  clear e e'
  go_enter Try.func66, Try.ntmps66
  go_wp2_with fail
  refine (O.out _).mono ?_
  rintro e w1 ⟨rfl, b1⟩
  have Y := (Box.new w 0 0 26).step b1
  have B := Lib.hid ((below_new w (.cells #[.int .u64 0, .int .u64 0] 26)).trans (b1.mono (by simp)))
  have Z := Lib.hid (Y.set h l)
  have B2 := Lib.hid ((B.out.setCell (p := ⟨w.heap.size, 0, none⟩) (Nat.le_refl _) (.int .u64 (h.toNat : Int))).setCell (p := ⟨w.heap.size, 1, none⟩) (Nat.le_refl _) (.int .u64 (l.toNat : Int)))
  clear B b1
  obtain ⟨x1, x2, x3, x4, x5⟩ := Y
  go_wp2
  generalize (w1.setCell ⟨w.heap.size, 0, none⟩ (.int .u64 (h.toNat : Int))).setCell ⟨w.heap.size, 1, none⟩ (.int .u64 (l.toNat : Int)) = w2 at *
  clear x1 x2 x3 x4 x5
  obtain ⟨x1, x2, x3, x4, x5⟩ := Z.out
  exact bodyPost_ret (v := .agg #[.int .u64 (h.toNat : Int), .int .u64 (l.toNat : Int)]) (by simp [results, Try.results66, go_sem, x2, x3]) rfl ⟨rfl, B2.out⟩

/-- A function that finds the pixel x. -/
def finds (g : Nat) : Value := .func (.func 67) #[] #[.pointer (some ⟨g, 0, none⟩)]
set_option maxRecDepth 100000 in
set_option maxHeartbeats 1000000 in
theorem finder_any (x : Int) (h l : BitVec 64) (e : pixel x = h ++ l) (w : World) (x0 : -9223372036854775808 ≤ x) (x1 : x ≤ 9223372036854775807) :
    Calls Try.prog 60 #[.int .i64 x] w fun e w' => ∃ g, e = .returned (.func (.func 67) #[] #[.pointer (some ⟨g, 0, none⟩)]) ∧ Box g h l w' ∧ w.heap.size ≤ g ∧ Below w.heap.size w w' := by
  have e' : mv ((9223372036854775808#64) ++ (0#64)) x = h ++ l := by rw [← e, pixel]; rfl
  have O := Lib.hid (move0_words e' (by omega) (by omega))
  clear e e'
  go_enter Try.func60, Try.ntmps60
  go_wp2_with fail
  refine (O.out _).mono ?_
  rintro e w1 ⟨rfl, b1⟩
  go_wp2
  go_returns
  exact ⟨_, rfl, Box.new w1 h l 26, b1.size, b1.alloc b1.size _⟩
set_option maxRecDepth 100000 in
set_option maxHeartbeats 1000000 in
theorem find_any (h l h' l' : BitVec 64) (g : Nat) (w : World) (X : Box g h' l' w) :
    Calls Try.prog 67 #[.agg #[.int .u64 (h.toNat : Int), .int .u64 (l.toNat : Int)], .pointer (some ⟨g, 0, none⟩)] w fun e w' => e = .returned (.agg #[.int .u64 ((h &&& h').toNat : Int), .int .u64 ((l &&& l').toNat : Int)]) ∧ Below w.heap.size w w' := by
  have O := Lib.hid (and_words h l h' l')
  generalize h &&& h' = v1 at *
  generalize l &&& l' = v2 at *
  obtain ⟨x1, x2, x3, x4, x5⟩ := X
  go_enter Try.func67, Try.ntmps67
  go_wp2_with fail
  refine (O.out _).mono ?_
  rintro e w1 ⟨rfl, b1⟩
  have Y := ((Box.new (w.alloc (.cells #[.int .u64 (h.toNat : Int), .int .u64 (l.toNat : Int)] 26)) 0 0 26)).step b1
  simp only [World.size_alloc] at Y
  have B := Lib.hid ((((Below.refl _ w).alloc (Nat.le_refl _) _).alloc (by simp) _).trans (b1.mono (by simp; omega)))
  have Z := Lib.hid (Y.set v1 v2)
  have B2 := Lib.hid ((B.out.setCell (p := ⟨w.heap.size + 1, 0, none⟩) (by simp) (.int .u64 (v1.toNat : Int))).setCell (p := ⟨w.heap.size + 1, 1, none⟩) (by simp) (.int .u64 (v2.toNat : Int)))
  clear B b1 x1 x2 x3 x4 x5
  obtain ⟨x1, x2, x3, x4, x5⟩ := Y
  go_wp2
  generalize (w1.setCell ⟨w.heap.size + 1, 0, none⟩ (.int .u64 (v1.toNat : Int))).setCell ⟨w.heap.size + 1, 1, none⟩ (.int .u64 (v2.toNat : Int)) = w2 at *
  clear x1 x2 x3 x4 x5
  obtain ⟨x1, x2, x3, x4, x5⟩ := Z.out
  exact bodyPost_ret (v := .agg #[.int .u64 (v1.toNat : Int), .int .u64 (v2.toNat : Int)]) (by simp [results, Try.results67, go_sem, x2, x3]) rfl ⟨rfl, B2.out⟩

set_option maxRecDepth 100000 in
set_option maxHeartbeats 1000000 in
theorem get_any (r : BitVec 128) (x : Int) (w : World) (x0 : -9223372036854775808 ≤ x) (x1 : x ≤ 9223372036854775807) : Calls Try.prog 42 #[rv r, .int .i64 x] w fun e w' => e = .returned (.bool (pxi r x)) ∧ Below w.heap.size w w' := by
  have hg := get_eq r x
  have hg2 : pxi r x = !decide (r &&& pixel x = 0#128) := by rw [hg]; simp
  rw [hg2]
  clear hg hg2
  obtain ⟨h, l, rfl⟩ := words r
  obtain ⟨h', l', e⟩ := words (pixel x)
  rw [rv_append, e, app_and]
  have O1 := Lib.hid fun w => finder_any x h' l' e w x0 x1
  have O2 := Lib.hid (find_any h l h' l')
  have O3 : ∀ w, Calls Try.prog 59 #[.agg #[.int .u64 ((h &&& h').toNat : Int), .int .u64 ((l &&& l').toNat : Int)]] w fun e w' => e = .returned (.bool (decide ((h &&& h') ++ (l &&& l') = 0#128))) ∧ Below w.heap.size w w' := by
    intro w
    rw [← rv_append]
    exact empty_any _ w
  have O3 := Lib.hid O3
  generalize h &&& h' = v1 at *
  generalize l &&& l' = v2 at *
  generalize decide (v1 ++ v2 = 0#128) = f at *
  clear e
  go_enter Try.func42, Try.ntmps42
  go_wp2_with fail
  have X := Box.new w h l 26
  have B1 := Lib.hid (below_new w (.cells #[.int .u64 (h.toNat : Int), .int .u64 (l.toNat : Int)] 26))
  generalize w.alloc (.cells #[.int .u64 (h.toNat : Int), .int .u64 (l.toNat : Int)] 26) = w1 at *
  have X0 : ∀ x : Calm w1, x.w.cell? ⟨w.heap.size, 0, none⟩ = some (.int .u64 (h.toNat : Int)) := fun x => X.c0 ▸ x.below.cell (p := ⟨w.heap.size, 0, none⟩) X.lt
  have X1 : ∀ x : Calm w1, x.w.cell? ⟨w.heap.size, 1, none⟩ = some (.int .u64 (l.toNat : Int)) := fun x => X.c1 ▸ x.below.cell (p := ⟨w.heap.size, 1, none⟩) X.lt
  clear X
  refine wp_region_mix (C := fun w' => ∃ x : Calm w1, w' = x.w) [([0, 2], 1), ([], 3), ([], 4)] [5, 6] (by kernel_rfl) (by kernel_rfl) (fun _ _ d _ _ h => by cases d <;> exact h) ⟨⟨w1.drew, (Below.refl _ _).drew⟩, rfl⟩ ?_
  intro wd hwd
  have D := Lib.hid (show Below w1.heap.size w1 wd by rw [hwd]; exact (Below.refl _ _).drew)
  clear hwd
  refine mix_run (by simp only [opsAt, List.getElem?_toArray, List.getElem?_cons_succ, List.getElem?_cons_zero]; rfl) (by rfl) ?_
  repeat (go_big_quiet_step (fail))
  refine wpQuiet_nil ?_
  refine mix_call (by rfl) ?_
  intro K hK
  go_wp2_with fail
  refine (O1.out _).mono ?_
  rintro e w2 ⟨g, rfl, Y, hg, b2⟩
  have D2 := Lib.hid (D.out.trans (b2.mono D.out.size))
  have YY := Lib.hid Y
  clear D b2 Y
  simp only []
  refine hK _ _ ⟨⟨w2, D2.out⟩, rfl⟩ ?_
  clear hK K
  refine mix_run (by simp only [opsAt, List.getElem?_toArray, List.getElem?_cons_succ, List.getElem?_cons_zero]; rfl) (by rfl) ?_
  refine wpQuiet_nil ?_
  refine mix_call (by rfl) ?_
  intro K hK
  go_wp2_with fail
  refine (O2.out _ _ YY.out).mono ?_
  rintro e w3 ⟨rfl, b3⟩
  have D3 := Lib.hid (D2.out.trans (b3.mono D2.out.size))
  clear D2 b3 YY
  simp only []
  refine hK _ _ ⟨⟨w3, D3.out⟩, rfl⟩ ?_
  clear hK K
  refine mix_run (by simp only [opsAt, List.getElem?_toArray, List.getElem?_cons_succ, List.getElem?_cons_zero]; rfl) (by rfl) ?_
  refine wpQuiet_nil ?_
  refine mix_call (by rfl) ?_
  intro K hK
  go_wp2_with fail
  refine (O3.out _).mono ?_
  rintro e w4 ⟨rfl, b4⟩
  have D4 := Lib.hid (D3.out.trans (b4.mono D3.out.size))
  clear D3 b4
  simp only []
  refine hK _ _ ⟨⟨w4, D4.out⟩, rfl⟩ ?_
  clear hK K
  refine mix_last (by simp only [opsAt, List.getElem?_toArray, List.getElem?_cons_succ, List.getElem?_cons_zero]; rfl) ?_
  repeat (go_big_quiet_step (fail))
  refine wpQuiet_nil ?_
  clear X0 X1
  go_wp2
  go_returns
  exact ⟨rfl, B1.out.trans (D4.out.mono B1.out.size)⟩

theorem shift_words (h l : BitVec 64) (n width : Int) (h1 l1 : BitVec 64) (e : shift (h ++ l) n width = h1 ++ l1) (w : World) (b : Nat) (h' l' : BitVec 64) (em : firsts width = h' ++ l') (X : Box b h' l' w) (n0 : -9223372036854775808 ≤ n) (n1 : n ≤ 9223372036854775807) :
    Calls Try.prog 65 #[.agg #[.int .u64 (h.toNat : Int), .int .u64 (l.toNat : Int)], .int .i64 n, .slice (some ⟨b, 0, none⟩) 1 1] w fun e w' => e = .returned (.agg #[.int .u64 (h1.toNat : Int), .int .u64 (l1.toNat : Int)]) ∧ Below w.heap.size w w' := by
  rw [← rv_append, ← rv_append, ← e, shift, em]
  exact move1_any _ _ n b w n0 n1 X.lt (by rw [hi_append]; exact X.c0) (by rw [lo_append]; exact X.c1)
theorem firsts_words {n : Int} {h l : BitVec 64} (e : firsts n = h ++ l) (n0 : 0 ≤ n) (n1 : n ≤ 128) (w : World) : Calls Try.prog 66 #[.int .i64 n] w fun e w' => e = .returned (.agg #[.int .u64 (h.toNat : Int), .int .u64 (l.toNat : Int)]) ∧ Below w.heap.size w w' := by
  rw [← rv_append, ← e]
  exact firsts_any n w n0 n1

set_option maxRecDepth 100000 in
set_option maxHeartbeats 1000000 in
theorem shift_any (r : BitVec 128) (n width : Int) (w : World) (n0 : -9223372036854775808 ≤ n) (n1 : n ≤ 9223372036854775807) (w0 : 0 ≤ width) (w1 : width ≤ 128) :
    Calls Try.prog 62 #[rv r, .int .i64 n, .int .i64 width] w fun e w' => e = .returned (rv (shift r n width)) ∧ Below w.heap.size w w' := by
  obtain ⟨h, l, rfl⟩ := words r
  obtain ⟨h', l', em⟩ := words (firsts width)
  obtain ⟨v1, v2, e⟩ := words (shift (h ++ l) n width)
  rw [e, rv_append, rv_append]
  have O1 := Lib.hid (firsts_words em w0 w1)
  have O2 := Lib.hid fun w b X => shift_words h l n width v1 v2 e w b h' l' em X n0 n1
  clear e em
  go_enter Try.func62, Try.ntmps62
  go_wp2_with fail
  have X := (Box.new w h l 26).alloc (.cells #[.int .u64 0, .int .u64 0] 26)
  have Y : Box (w.heap.size + 1) 0 0 ((w.alloc (.cells #[.int .u64 (h.toNat : Int), .int .u64 (l.toNat : Int)] 26)).alloc (.cells #[.int .u64 0, .int .u64 0] 26)) := by
    have := Box.new (w.alloc (.cells #[.int .u64 (h.toNat : Int), .int .u64 (l.toNat : Int)] 26)) 0 0 26
    rw [World.size_alloc] at this
    exact this
  have hs : w.heap.size + 1 < ((w.alloc (.cells #[.int .u64 (h.toNat : Int), .int .u64 (l.toNat : Int)] 26)).alloc (.cells #[.int .u64 0, .int .u64 0] 26)).heap.size := Y.lt
  have YY := Lib.hid Y
  clear Y
  have B1 := Lib.hid ((((Below.refl _ w).alloc (Nat.le_refl _) (.cells #[.int .u64 (h.toNat : Int), .int .u64 (l.toNat : Int)] 26)).alloc (by simp) (.cells #[.int .u64 0, .int .u64 0] 26)))
  generalize (w.alloc (.cells #[.int .u64 (h.toNat : Int), .int .u64 (l.toNat : Int)] 26)).alloc (.cells #[.int .u64 0, .int .u64 0] 26) = w1 at *
  have X0 : ∀ x : CalmB (w.heap.size + 1) w1, x.w.cell? ⟨w.heap.size, 0, none⟩ = some (.int .u64 (h.toNat : Int)) := fun x => X.c0 ▸ x.below.cell (p := ⟨w.heap.size, 0, none⟩) (Nat.lt_succ_self _)
  have X1 : ∀ x : CalmB (w.heap.size + 1) w1, x.w.cell? ⟨w.heap.size, 1, none⟩ = some (.int .u64 (l.toNat : Int)) := fun x => X.c1 ▸ x.below.cell (p := ⟨w.heap.size, 1, none⟩) (Nat.lt_succ_self _)
  clear X
  refine wp_region_mix (C := fun w' => ∃ x : CalmB (w.heap.size + 1) w1, w' = x.w) [([0, 1, 2], 3), ([], 4), ([], 5), ([], 6)] [] (by kernel_rfl) (by kernel_rfl) (fun _ _ d _ _ h => by cases d <;> exact h) ⟨⟨w1.drew, (Below.refl _ _).drew⟩, rfl⟩ ?_
  intro wd hwd
  have D := Lib.hid (show Below w1.heap.size w1 wd by rw [hwd]; exact (Below.refl _ _).drew)
  clear hwd
  refine mix_run (by simp only [opsAt, List.getElem?_toArray, List.getElem?_cons_succ, List.getElem?_cons_zero]; rfl) (by rfl) ?_
  repeat (go_big_quiet_step (fail))
  refine wpQuiet_nil ?_
  refine mix_call (by rfl) ?_
  intro K hK
  go_wp2_with fail
  refine (O1.out _).mono ?_
  rintro e w2 ⟨rfl, b2⟩
  have D2 := Lib.hid (D.out.trans (b2.mono D.out.size))
  clear D b2
  simp only []
  refine hK _ _ ⟨⟨w2, D2.out.mono (Nat.le_of_lt hs)⟩, rfl⟩ ?_
  clear hK K
  refine mix_run (by simp only [opsAt, List.getElem?_toArray, List.getElem?_cons_succ, List.getElem?_cons_zero]; rfl) (by rfl) ?_
  refine wpQuiet_nil ?_
  refine mix_call (by rfl) ?_
  intro K hK
  go_wp2_with fail
  have Z := Lib.hid (Box.new w2 h' l' 26)
  have D3 := Lib.hid (D2.out.alloc D2.out.size (.cells #[.int .u64 (h'.toNat : Int), .int .u64 (l'.toNat : Int)] 26))
  clear D2
  refine hK _ _ ⟨⟨_, D3.out.mono (Nat.le_of_lt hs)⟩, rfl⟩ ?_
  clear hK K
  refine mix_run (by simp only [opsAt, List.getElem?_toArray, List.getElem?_cons_succ, List.getElem?_cons_zero]; rfl) (by rfl) ?_
  refine wpQuiet_nil ?_
  refine mix_call (by rfl) ?_
  intro K hK
  go_wp2_with fail
  refine (O2.out _ _ Z.out).mono ?_
  rintro e w3 ⟨rfl, b3⟩
  have D4 := Lib.hid (D3.out.trans (b3.mono D3.out.size))
  have Y4 := Lib.hid (YY.out.step D4.out)
  clear D3 b3 Z X0 X1
  simp only []
  refine hK _ _ ⟨⟨w3, D4.out.mono (Nat.le_of_lt hs)⟩, rfl⟩ ?_
  clear hK K
  refine mix_run (by simp only [opsAt, List.getElem?_toArray, List.getElem?_cons_succ, List.getElem?_cons_zero]; rfl) (by rfl) ?_
  refine wpQuiet_nil ?_
  refine mix_call (by rfl) ?_
  intro K hK
  have S := Lib.hid (Y4.out.set v1 v2)
  have BS := Lib.hid (((B1.out.trans (D4.out.mono B1.out.size)).setCell (p := ⟨w.heap.size + 1, 0, none⟩) (by simp) (.int .u64 (v1.toNat : Int))).setCell (p := ⟨w.heap.size + 1, 1, none⟩) (by simp) (.int .u64 (v2.toNat : Int)))
  obtain ⟨y1, y2, y3, y4, y5⟩ := Y4.out
  clear YY Y4
  have DS : Below (w.heap.size + 1) w1 ((w3.setCell ⟨w.heap.size + 1, 0, none⟩ (.int .u64 (v1.toNat : Int))).setCell ⟨w.heap.size + 1, 1, none⟩ (.int .u64 (v2.toNat : Int))) := ((D4.out.mono (Nat.le_of_lt hs)).setCell (p := ⟨w.heap.size + 1, 0, none⟩) (Nat.le_refl _) _).setCell (p := ⟨w.heap.size + 1, 1, none⟩) (Nat.le_refl _) _
  have DS := Lib.hid DS
  clear D4
  go_wp2_with fail
  generalize (w3.setCell ⟨w.heap.size + 1, 0, none⟩ (.int .u64 (v1.toNat : Int))).setCell ⟨w.heap.size + 1, 1, none⟩ (.int .u64 (v2.toNat : Int)) = w4 at *
  refine hK _ _ ⟨⟨w4, DS.out⟩, rfl⟩ ?_
  clear hK K y1 y2 y3 y4 y5
  refine mix_last (by simp only [opsAt, List.getElem?_toArray, List.getElem?_cons_succ, List.getElem?_cons_zero]; rfl) ?_
  refine wpQuiet_nil ?_
  obtain ⟨x1, x2, x3, x4, x5⟩ := S.out
  go_wp2
  exact bodyPost_ret (v := .agg #[.int .u64 (v1.toNat : Int), .int .u64 (v2.toNat : Int)]) (by simp [results, Try.results62, go_sem, x2, x3]) rfl ⟨rfl, BS.out⟩

theorem xor_words {h l h' l' v1 v2 : BitVec 64} (e1 : h ^^^ h' = v1) (e2 : l ^^^ l' = v2) (w : World) : Calls Try.prog 56 #[.agg #[.int .u64 (h.toNat : Int), .int .u64 (l.toNat : Int)], .agg #[.int .u64 (h'.toNat : Int), .int .u64 (l'.toNat : Int)]] w fun e w' =>
    e = .returned (.agg #[.int .u64 (v1.toNat : Int), .int .u64 (v2.toNat : Int)]) ∧ Below w.heap.size w w' := by
  rw [← e1, ← e2, ← rv_append, ← rv_append, ← rv_append, ← app_xor]
  exact xor_any _ _ w
theorem find_words {h l h' l' v1 v2 : BitVec 64} (e1 : h &&& h' = v1) (e2 : l &&& l' = v2) (g : Nat) (w : World) (X : Box g h' l' w) :
    Calls Try.prog 67 #[.agg #[.int .u64 (h.toNat : Int), .int .u64 (l.toNat : Int)], .pointer (some ⟨g, 0, none⟩)] w fun e w' => e = .returned (.agg #[.int .u64 (v1.toNat : Int), .int .u64 (v2.toNat : Int)]) ∧ Below w.heap.size w w' := by
  subst e1
  subst e2
  exact find_any h l h' l' g w X
end Go.Proofs.Ytplmmfgmbfcjpaa
