/- Contracts of package row: And, Xor, Count, Empty. -/
import Derived.Test.YtplmmfgmbfcjpaaRows
import Derived.Test.YtplmmfgmbfcjpaaPixMath
import Derived.Test.YtplmmfgmbfcjpaaRow
import Derived.WalkKit
import Derived.WalkSpells
import Derived.BigQuiet
import Derived.Deep.QuietTactic
import Derived.Handy
import Derived.IntWalk
import Derived.Lib.Hide
namespace Go.Proofs.Ytplmmfgmbfcjpaa
open Go.RowKit Num
set_option linter.unusedVariables false

set_option maxHeartbeats 400000 in
theorem and_words (h l h' l' : BitVec 64) (w : World) : Calls Try.prog 57 #[.agg #[.int .u64 (h.toNat : Int), .int .u64 (l.toNat : Int)], .agg #[.int .u64 (h'.toNat : Int), .int .u64 (l'.toNat : Int)]] w fun e w' =>
    e = .returned (.agg #[.int .u64 ((h &&& h').toNat : Int), .int .u64 ((l &&& l').toNat : Int)]) ∧ Below w.heap.size w w' := by
  go_enter Try.func57, Try.ntmps57
  go_wp2
  go_returns
  refine ⟨?_, by go_grown⟩
  rw [and64, and64]
theorem and_any (a b : BitVec 128) (w : World) : Calls Try.prog 57 #[rv a, rv b] w fun e w' => e = .returned (rv (a &&& b)) ∧ Below w.heap.size w w' := by
  obtain ⟨h, l, rfl⟩ := words a
  obtain ⟨h', l', rfl⟩ := words b
  rw [rv_append, rv_append, app_and, rv_append]
  exact and_words h l h' l' w
set_option maxHeartbeats 400000 in
theorem xor_any (a b : BitVec 128) (w : World) : Calls Try.prog 56 #[rv a, rv b] w fun e w' => e = .returned (rv (a ^^^ b)) ∧ Below w.heap.size w w' := by
  obtain ⟨h, l, rfl⟩ := words a
  obtain ⟨h', l', rfl⟩ := words b
  rw [rv_append, rv_append, app_xor, rv_append]
  go_enter Try.func56, Try.ntmps56
  go_wp2
  go_returns
  refine ⟨?_, by go_grown⟩
  rw [xor64, xor64]
theorem dec_zero (h l : BitVec 64) : decide (h ++ l = 0#128) = (decide (h.toNat = 0) && decide (l.toNat = 0)) := by
  rw [← zero_hi_lo, Bool.eq_iff_iff]
  simp only [decide_eq_true_eq, Bool.and_eq_true, app_inj]
  simp [BitVec.toNat_eq]
set_option maxHeartbeats 400000 in
theorem empty_any (a : BitVec 128) (w : World) : Calls Try.prog 59 #[rv a] w fun e w' => e = .returned (.bool (decide (a = 0#128))) ∧ Below w.heap.size w w' := by
  obtain ⟨h, l, rfl⟩ := words a
  rw [rv_append]
  go_enter Try.func59, Try.ntmps59
  go_wp2
  all_goals
    go_returns
    refine ⟨?_, by go_grown⟩
    rw [show decide (h ++ l = 0#128) = (decide (h.toNat = 0) && decide (l.toNat = 0)) from dec_zero h l]
    simp [*]
theorem band64 (a m : Nat) (ha : a < 18446744073709551616) (hm : m < 18446744073709551616) : bits .and .u64 (a : Int) (m : Int) = ((a &&& m : Nat) : Int) := by
  have h := and64 (BitVec.ofNat 64 a) (BitVec.ofNat 64 m)
  rw [BitVec.toNat_and, BitVec.toNat_ofNat, BitVec.toNat_ofNat, Nat.mod_eq_of_lt ha, Nat.mod_eq_of_lt hm] at h
  exact h
/-- The words of a moved row, step by step, as the program reckons them. -/
theorem right_steps (h l : BitVec 64) (n : Int) (n0 : 0 ≤ n) (n1 : n ≤ 9223372036854775807) : ∃ (k k1 k2 : Nat) (s1 s2 s3 s4 s5 s6 : BitVec 64), s1 ++ s6 = mv (h ++ l) n ∧ IntKind.u64.wrap n = (k : Int) ∧
    IntKind.u64.wrap (64 - (k : Int)) = (k1 : Int) ∧ IntKind.u64.wrap ((k : Int) - 64) = (k2 : Int) ∧ (h.toNat : Int) / 2 ^ min k 64 = (s1.toNat : Int) ∧ (l.toNat : Int) / 2 ^ min k 64 = (s2.toNat : Int) ∧
    IntKind.u64.wrap ((h.toNat : Int) * 2 ^ min k1 64) = (s3.toNat : Int) ∧ bits .or .u64 (s2.toNat : Int) (s3.toNat : Int) = (s4.toNat : Int) ∧ (h.toNat : Int) / 2 ^ min k2 64 = (s5.toNat : Int) ∧ bits .or .u64 (s4.toNat : Int) (s5.toNat : Int) = (s6.toNat : Int) := by
  obtain ⟨k, rfl⟩ := Int.eq_ofNat_of_zero_le n0
  have sh : ∀ (u : BitVec 64) (j : Nat), (u.toNat : Int) / 2 ^ min j 64 = ((u >>> j).toNat : Int) := fun u j => shr64 u j
  have sl : ∀ (u : BitVec 64) (j : Nat), IntKind.u64.wrap ((u.toNat : Int) * 2 ^ min j 64) = ((u <<< j).toNat : Int) := fun u j => by rw [IntKind.wrap_u64]; exact shl64 u j
  have e1 : IntKind.u64.wrap (64 - (k : Int)) = ((if k ≤ 64 then 64 - k else 18446744073709551616 + 64 - k : Nat) : Int) := by rw [IntKind.wrap_u64]; split <;> omega
  have e2 : IntKind.u64.wrap ((k : Int) - 64) = ((if 64 ≤ k then k - 64 else 18446744073709551616 + k - 64 : Nat) : Int) := by rw [IntKind.wrap_u64]; split <;> omega
  refine ⟨k, _, _, h >>> k, l >>> k, h <<< (if k ≤ 64 then 64 - k else 18446744073709551616 + 64 - k), _, h >>> (if 64 ≤ k then k - 64 else 18446744073709551616 + k - 64), _, ?_, ?_, e1, e2, sh h k, sh l k, sl h _, or64 _ _, sh h _, or64 _ _⟩
  · rw [right_eq h l k _ _ (by split <;> omega) (by split <;> omega), mv, if_neg (by omega)]
    rfl
  · rw [IntKind.wrap_u64]; omega
theorem left_steps (h l : BitVec 64) (n : Int) (n0 : n < 0) (n1 : -9223372036854775808 ≤ n) : ∃ (k k1 k2 : Nat) (s1 s2 s3 s4 s5 s6 : BitVec 64), s5 ++ s6 = mv (h ++ l) n ∧ IntKind.u64.wrap (wrap64 (-n)) = (k : Int) ∧
    IntKind.u64.wrap (64 - (k : Int)) = (k1 : Int) ∧ IntKind.u64.wrap ((k : Int) - 64) = (k2 : Int) ∧ IntKind.u64.wrap ((h.toNat : Int) * 2 ^ min k 64) = (s1.toNat : Int) ∧ (l.toNat : Int) / 2 ^ min k1 64 = (s2.toNat : Int) ∧
    bits .or .u64 (s1.toNat : Int) (s2.toNat : Int) = (s3.toNat : Int) ∧ IntKind.u64.wrap ((l.toNat : Int) * 2 ^ min k2 64) = (s4.toNat : Int) ∧ bits .or .u64 (s3.toNat : Int) (s4.toNat : Int) = (s5.toNat : Int) ∧ IntKind.u64.wrap ((l.toNat : Int) * 2 ^ min k 64) = (s6.toNat : Int) := by
  obtain ⟨k, hk⟩ : ∃ k : Nat, -n = k := ⟨(-n).toNat, by omega⟩
  have sh : ∀ (u : BitVec 64) (j : Nat), (u.toNat : Int) / 2 ^ min j 64 = ((u >>> j).toNat : Int) := fun u j => shr64 u j
  have sl : ∀ (u : BitVec 64) (j : Nat), IntKind.u64.wrap ((u.toNat : Int) * 2 ^ min j 64) = ((u <<< j).toNat : Int) := fun u j => by rw [IntKind.wrap_u64]; exact shl64 u j
  have e1 : IntKind.u64.wrap (64 - (k : Int)) = ((if k ≤ 64 then 64 - k else 18446744073709551616 + 64 - k : Nat) : Int) := by rw [IntKind.wrap_u64]; split <;> omega
  have e2 : IntKind.u64.wrap ((k : Int) - 64) = ((if 64 ≤ k then k - 64 else 18446744073709551616 + k - 64 : Nat) : Int) := by rw [IntKind.wrap_u64]; split <;> omega
  refine ⟨k, _, _, h <<< k, l >>> (if k ≤ 64 then 64 - k else 18446744073709551616 + 64 - k), _, l <<< (if 64 ≤ k then k - 64 else 18446744073709551616 + k - 64), _, l <<< k, ?_, ?_, e1, e2, sl h k, sh l _, or64 _ _, sl l _, or64 _ _, sl l k⟩
  · rw [left_eq h l k _ _ (by split <;> omega) (by split <;> omega), mv, if_pos n0, show (-n).toNat = k by omega]
  · unfold wrap64; rw [IntKind.wrap_u64]; omega

set_option maxHeartbeats 1000000 in
theorem move0_neg (a : BitVec 128) (n : Int) (w : World) (n0 : -9223372036854775808 ≤ n) (hn : n < 0) :
    Calls Try.prog 65 #[rv a, .int .i64 n, .slice none 0 0] w fun e w' => e = .returned (rv (mv a n)) ∧ Below w.heap.size w w' := by
  obtain ⟨h, l, rfl⟩ := words a
  obtain ⟨k, k1, k2, s1, s2, s3, s4, s5, s6, e, hk, h1, h2, h3, h4, h5, h6, h7, h8⟩ := left_steps h l n hn n0
  rw [← e, rv_append, rv_append]
  clear e
  go_enter Try.func65, Try.ntmps65
  go_wp2
  go_rounds 1
  go_returns
  exact ⟨rfl, by go_grown⟩
set_option maxHeartbeats 1000000 in
theorem move0_pos (a : BitVec 128) (n : Int) (w : World) (n0 : 0 ≤ n) (hn : n ≤ 9223372036854775807) :
    Calls Try.prog 65 #[rv a, .int .i64 n, .slice none 0 0] w fun e w' => e = .returned (rv (mv a n)) ∧ Below w.heap.size w w' := by
  obtain ⟨h, l, rfl⟩ := words a
  obtain ⟨k, k1, k2, s1, s2, s3, s4, s5, s6, e, hk, h1, h2, h3, h4, h5, h6, h7, h8⟩ := right_steps h l n n0 hn
  rw [← e, rv_append, rv_append]
  clear e
  go_enter Try.func65, Try.ntmps65
  go_wp2
  go_rounds 1
  go_returns
  exact ⟨rfl, by go_grown⟩
theorem move0_any (a : BitVec 128) (n : Int) (w : World) (n0 : -9223372036854775808 ≤ n) (n1 : n ≤ 9223372036854775807) :
    Calls Try.prog 65 #[rv a, .int .i64 n, .slice none 0 0] w fun e w' => e = .returned (rv (mv a n)) ∧ Below w.heap.size w w' := by
  by_cases h : n < 0
  · exact move0_neg a n w n0 h
  · exact move0_pos a n w (by omega) n1

/-- The block b is a variable of a row's two words, and may be written. -/
structure Box (b : Nat) (h l : BitVec 64) (w : World) : Prop where
  lt : b < w.heap.size
  c0 : w.cell? ⟨b, 0, none⟩ = some (.int .u64 (h.toNat : Int))
  c1 : w.cell? ⟨b, 1, none⟩ = some (.int .u64 (l.toNat : Int))
  f0 : w.frozen? ⟨b, 0, none⟩ = false
  f1 : w.frozen? ⟨b, 1, none⟩ = false
section
variable {b : Nat} {h l h' l' : BitVec 64} {w w' : World}
theorem Box.below (H : Box b h l w) {n : Nat} (hb : Below n w w') (hn : b < n) : Box b h l w' :=
  ⟨Nat.lt_of_lt_of_le H.lt hb.size, (hb.cell (p := ⟨b, 0, none⟩) hn).trans H.c0, (hb.cell (p := ⟨b, 1, none⟩) hn).trans H.c1, (hb.frozen (p := ⟨b, 0, none⟩) hn).trans H.f0, (hb.frozen (p := ⟨b, 1, none⟩) hn).trans H.f1⟩
theorem Box.step (H : Box b h l w) (hb : Below w.heap.size w w') : Box b h l w' := H.below hb H.lt
theorem Box.new (w : World) (h l : BitVec 64) (t : TypeId) : Box w.heap.size h l (w.alloc (.cells #[.int .u64 (h.toNat : Int), .int .u64 (l.toNat : Int)] t)) :=
  ⟨by simp, by rw [World.cell?_alloc_at _ _ _ _ rfl]; rfl, by rw [World.cell?_alloc_at _ _ _ _ rfl]; rfl, World.frozen?_alloc_at _ _ _ _ rfl, World.frozen?_alloc_at _ _ _ _ rfl⟩
theorem Box.alloc (H : Box b h l w) (o : Obj) : Box b h l (w.alloc o) := H.step ((Below.refl _ _).alloc (Nat.le_refl _) _)
theorem Box.drew (H : Box b h l w) : Box b h l w.drew := H.step (Below.refl _ _).drew
theorem Box.set (H : Box b h l w) (h' l' : BitVec 64) : Box b h' l' ((w.setCell ⟨b, 0, none⟩ (.int .u64 (h'.toNat : Int))).setCell ⟨b, 1, none⟩ (.int .u64 (l'.toNat : Int))) := by
  have e0 := World.cell?_setCell_same w (a := ⟨b, 0, none⟩) (.int .u64 (h'.toNat : Int)) H.c0
  have e1 : (w.setCell ⟨b, 0, none⟩ (.int .u64 (h'.toNat : Int))).cell? ⟨b, 1, none⟩ = _ := (World.cell?_setCell_other w _ _ _ (by simp)).trans H.c1
  refine ⟨by simpa using H.lt, ?_, World.cell?_setCell_same _ (a := ⟨b, 1, none⟩) _ e1, ?_, ?_⟩
  · rw [World.cell?_setCell_other _ _ _ _ (by simp)]; exact e0
  · rw [World.frozen?_setCell, World.frozen?_setCell]; exact H.f0
  · rw [World.frozen?_setCell, World.frozen?_setCell]; exact H.f1
set_option linter.unusedSimpArgs false in
theorem Box.other (H : Box b h l w) {g : Nat} (hg : g ≠ b) (o : Nat) (v : Value) : Box b h l (w.setCell ⟨g, o, none⟩ v) :=
  ⟨by simpa using H.lt, by rw [World.cell?_setCell_other _ _ _ _ (by simp [hg])]; exact H.c0, by rw [World.cell?_setCell_other _ _ _ _ (by simp [hg])]; exact H.c1, by rw [World.frozen?_setCell]; exact H.f0, by rw [World.frozen?_setCell]; exact H.f1⟩
end
theorem below_new (w : World) (o : Obj) : Below w.heap.size w (w.alloc o) := (Below.refl _ _).alloc (Nat.le_refl _) _

set_option maxHeartbeats 1000000 in
theorem move1_neg (a m : BitVec 128) (n : Int) (b : Nat) (w : World) (n0 : -9223372036854775808 ≤ n) (hn : n < 0) (hb : b < w.heap.size) (c0 : w.cell? ⟨b, 0, none⟩ = some (.int .u64 ((hi m).toNat : Int))) (c1 : w.cell? ⟨b, 1, none⟩ = some (.int .u64 ((lo m).toNat : Int))) :
    Calls Try.prog 65 #[rv a, .int .i64 n, .slice (some ⟨b, 0, none⟩) 1 1] w fun e w' => e = .returned (rv (mv a n &&& m)) ∧ Below w.heap.size w w' := by
  obtain ⟨h, l, rfl⟩ := words a
  obtain ⟨h', l', rfl⟩ := words m
  rw [hi_append] at c0
  rw [lo_append] at c1
  obtain ⟨k, k1, k2, s1, s2, s3, s4, s5, s6, e, hk, h1, h2, h3, h4, h5, h6, h7, h8⟩ := left_steps h l n hn n0
  rw [← e, rv_append, app_and, rv_append]
  clear e
  have O := Lib.hid (and_words s5 s6 h' l')
  generalize s5 &&& h' = v1 at *
  generalize s6 &&& l' = v2 at *
  go_enter Try.func65, Try.ntmps65
  go_wp2
  refine wp_loop_rounds 2 ?_
  rw [rounds_succ]
  go_wp2_with fail
  refine (O.out _).mono ?_
  rintro e w1 ⟨rfl, b1⟩
  have B := Lib.hid (((((Below.refl _ w).alloc (Nat.le_refl _) _).alloc (by simp) _).alloc (by simp; omega) _).trans (b1.mono (by simp; omega)))
  have X := (((Box.new w s5 s6 26).alloc (.cells #[.int .u64 0, .int .u64 0] 26)).alloc (.cells #[.int .u64 (h'.toNat : Int), .int .u64 (l'.toNat : Int)] 26)).step b1
  have Y := ((Box.new (w.alloc (.cells #[.int .u64 (s5.toNat : Int), .int .u64 (s6.toNat : Int)] 26)) 0 0 26).alloc (.cells #[.int .u64 (h'.toNat : Int), .int .u64 (l'.toNat : Int)] 26)).step b1
  simp only [World.size_alloc] at Y
  clear b1 c0 c1 h1 h2 h3 h4 h5 h6 h7 h8 hk O
  have X2 := Lib.hid (X.set v1 v2)
  have Y2 := Lib.hid ((Y.other (g := w.heap.size) (by omega) 0 (.int .u64 (v1.toNat : Int))).other (g := w.heap.size) (by omega) 1 (.int .u64 (v2.toNat : Int)))
  have B2 := Lib.hid ((B.out.setCell (p := ⟨w.heap.size, 0, none⟩) (Nat.le_refl _) (.int .u64 (v1.toNat : Int))).setCell (p := ⟨w.heap.size, 1, none⟩) (Nat.le_refl _) (.int .u64 (v2.toNat : Int)))
  obtain ⟨x1, x2, x3, x4, x5⟩ := X
  clear Y B
  go_wp2
  generalize (w1.setCell ⟨w.heap.size, 0, none⟩ (.int .u64 (v1.toNat : Int))).setCell ⟨w.heap.size, 1, none⟩ (.int .u64 (v2.toNat : Int)) = w2 at *
  clear x1 x2 x3 x4 x5
  obtain ⟨x1, x2, x3, x4, x5⟩ := X2.out
  obtain ⟨y1, y2, y3, y4, y5⟩ := Y2.out
  have Z := Lib.hid (Y2.out.set v1 v2)
  have B3 := Lib.hid ((B2.out.setCell (p := ⟨w.heap.size + 1, 0, none⟩) (by simp) (.int .u64 (v1.toNat : Int))).setCell (p := ⟨w.heap.size + 1, 1, none⟩) (by simp) (.int .u64 (v2.toNat : Int)))
  clear B2 X2 Y2
  rw [rounds_succ]
  go_wp2
  generalize (w2.setCell ⟨w.heap.size + 1, 0, none⟩ (.int .u64 (v1.toNat : Int))).setCell ⟨w.heap.size + 1, 1, none⟩ (.int .u64 (v2.toNat : Int)) = w3 at *
  clear x1 x2 x3 x4 x5 y1 y2 y3 y4 y5
  obtain ⟨x1, x2, x3, x4, x5⟩ := Z.out
  exact bodyPost_ret (v := .agg #[.int .u64 (v1.toNat : Int), .int .u64 (v2.toNat : Int)]) (by simp [results, Try.results65, go_sem, x2, x3]) rfl ⟨rfl, B3.out⟩
set_option maxHeartbeats 1000000 in
theorem move1_pos (a m : BitVec 128) (n : Int) (b : Nat) (w : World) (n0 : 0 ≤ n) (hn : n ≤ 9223372036854775807) (hb : b < w.heap.size) (c0 : w.cell? ⟨b, 0, none⟩ = some (.int .u64 ((hi m).toNat : Int))) (c1 : w.cell? ⟨b, 1, none⟩ = some (.int .u64 ((lo m).toNat : Int))) :
    Calls Try.prog 65 #[rv a, .int .i64 n, .slice (some ⟨b, 0, none⟩) 1 1] w fun e w' => e = .returned (rv (mv a n &&& m)) ∧ Below w.heap.size w w' := by
  obtain ⟨h, l, rfl⟩ := words a
  obtain ⟨h', l', rfl⟩ := words m
  rw [hi_append] at c0
  rw [lo_append] at c1
  obtain ⟨k, k1, k2, s1, s2, s3, s4, s5, s6, e, hk, h1, h2, h3, h4, h5, h6, h7, h8⟩ := right_steps h l n n0 hn
  rw [← e, rv_append, app_and, rv_append]
  clear e
  have O := Lib.hid (and_words s1 s6 h' l')
  generalize s1 &&& h' = v1 at *
  generalize s6 &&& l' = v2 at *
  go_enter Try.func65, Try.ntmps65
  go_wp2
  refine wp_loop_rounds 2 ?_
  rw [rounds_succ]
  go_wp2_with fail
  refine (O.out _).mono ?_
  rintro e w1 ⟨rfl, b1⟩
  have B := Lib.hid (((((Below.refl _ w).alloc (Nat.le_refl _) _).alloc (by simp) _).alloc (by simp; omega) _).trans (b1.mono (by simp; omega)))
  have X := (((Box.new w s1 s6 26).alloc (.cells #[.int .u64 0, .int .u64 0] 26)).alloc (.cells #[.int .u64 (h'.toNat : Int), .int .u64 (l'.toNat : Int)] 26)).step b1
  have Y := ((Box.new (w.alloc (.cells #[.int .u64 (s1.toNat : Int), .int .u64 (s6.toNat : Int)] 26)) 0 0 26).alloc (.cells #[.int .u64 (h'.toNat : Int), .int .u64 (l'.toNat : Int)] 26)).step b1
  simp only [World.size_alloc] at Y
  clear b1 c0 c1 h1 h2 h3 h4 h5 h6 h7 h8 hk O
  have X2 := Lib.hid (X.set v1 v2)
  have Y2 := Lib.hid ((Y.other (g := w.heap.size) (by omega) 0 (.int .u64 (v1.toNat : Int))).other (g := w.heap.size) (by omega) 1 (.int .u64 (v2.toNat : Int)))
  have B2 := Lib.hid ((B.out.setCell (p := ⟨w.heap.size, 0, none⟩) (Nat.le_refl _) (.int .u64 (v1.toNat : Int))).setCell (p := ⟨w.heap.size, 1, none⟩) (Nat.le_refl _) (.int .u64 (v2.toNat : Int)))
  obtain ⟨x1, x2, x3, x4, x5⟩ := X
  clear Y B
  go_wp2
  generalize (w1.setCell ⟨w.heap.size, 0, none⟩ (.int .u64 (v1.toNat : Int))).setCell ⟨w.heap.size, 1, none⟩ (.int .u64 (v2.toNat : Int)) = w2 at *
  clear x1 x2 x3 x4 x5
  obtain ⟨x1, x2, x3, x4, x5⟩ := X2.out
  obtain ⟨y1, y2, y3, y4, y5⟩ := Y2.out
  have Z := Lib.hid (Y2.out.set v1 v2)
  have B3 := Lib.hid ((B2.out.setCell (p := ⟨w.heap.size + 1, 0, none⟩) (by simp) (.int .u64 (v1.toNat : Int))).setCell (p := ⟨w.heap.size + 1, 1, none⟩) (by simp) (.int .u64 (v2.toNat : Int)))
  clear B2 X2 Y2
  rw [rounds_succ]
  go_wp2
  generalize (w2.setCell ⟨w.heap.size + 1, 0, none⟩ (.int .u64 (v1.toNat : Int))).setCell ⟨w.heap.size + 1, 1, none⟩ (.int .u64 (v2.toNat : Int)) = w3 at *
  clear x1 x2 x3 x4 x5 y1 y2 y3 y4 y5
  obtain ⟨x1, x2, x3, x4, x5⟩ := Z.out
  exact bodyPost_ret (v := .agg #[.int .u64 (v1.toNat : Int), .int .u64 (v2.toNat : Int)]) (by simp [results, Try.results65, go_sem, x2, x3]) rfl ⟨rfl, B3.out⟩
theorem move1_any (a m : BitVec 128) (n : Int) (b : Nat) (w : World) (n0 : -9223372036854775808 ≤ n) (n1 : n ≤ 9223372036854775807) (hb : b < w.heap.size) (c0 : w.cell? ⟨b, 0, none⟩ = some (.int .u64 ((hi m).toNat : Int))) (c1 : w.cell? ⟨b, 1, none⟩ = some (.int .u64 ((lo m).toNat : Int))) :
    Calls Try.prog 65 #[rv a, .int .i64 n, .slice (some ⟨b, 0, none⟩) 1 1] w fun e w' => e = .returned (rv (mv a n &&& m)) ∧ Below w.heap.size w w' := by
  by_cases h : n < 0
  · exact move1_neg a m n b w n0 h hb c0 c1
  · exact move1_pos a m n b w (by omega) n1 hb c0 c1
end Go.Proofs.Ytplmmfgmbfcjpaa
