/- The functions that write and read an operand. -/
import Derived.Test.YthfiaemdpfffcaaGreatDoorAsmSyn
import Derived.Test.YthfiaemdpfffcaaGreatDoorPu
import Derived.Test.YthfiaemdpfffcaaGreatDoorAsmTxt
import Derived.Test.YthfiaemdpfffcaaGreatDoorDec
import Derived.Test.YthfiaemdpfffcaaGreatDoorByt
import Derived.Test.YthfiaemdpfffcaaGreatDoorAsmRef
import Derived.LoopTactic
namespace Go.Proofs.YthfiaemdpfffcaaGreatDoor
open Go.RowKit Num Dec
set_option linter.unusedVariables false
set_option linter.unusedSimpArgs false

theorem cat_V (n : Nat) : (⟨#[86]⟩ : ByteArray) ++ hexS n 1 = ⟨(86 :: hexL n 1).toArray⟩ := by
  apply ByteArray.ext
  rw [ByteArray.data_append]
  apply Array.ext'
  simp [hexS]

set_option maxHeartbeats 2000000 in
theorem writeX_any (v : Nat) (o y n nn a l : Int) (hv : v ≤ 4294967295) (w : World) : Calls Tryz.prog 24 #[.agg #[.int .i64 o, .int .i64 (v : Int), .int .i64 y, .int .i64 n, .int .i64 nn, .int .i64 a, .int .i64 l]] w fun e w' => e = .returned (.string (⟨(86 :: hexL v 1).toArray⟩)) ∧ Below w.heap.size w w' := by
  have HX := Lib.hid (fun w => hex_yes v 1 w hv (by decide) (by decide))
  have hs : (hexS v 1).size = 1 := hexS_size v 1
  have C := Lib.hid (cat_V v)
  have BV := Lib.hid (below_new' w (.cells #[.int .i64 o, .int .i64 (v : Int), .int .i64 y, .int .i64 n, .int .i64 nn, .int .i64 a, .int .i64 l] 33))
  generalize (⟨(86 :: hexL v 1).toArray⟩ : ByteArray) = R at C ⊢
  generalize hexS v 1 = X at *
  clear hv
  go_enter Tryz.func24, Tryz.ntmps24
  go_wp2_with fail
  refine (HX.out _).mono ?_
  rintro e w1 ⟨rfl, b1⟩
  have B1 := Lib.hid (BV.out.trans (b1.mono (by simp)))
  clear b1
  go_wp2_with fail
  go_ret
  exact ⟨by rw [← C.out]; rfl, B1.out⟩

set_option maxHeartbeats 2000000 in
theorem writeY_any (v : Nat) (o x n nn a l : Int) (hv : v ≤ 4294967295) (w : World) : Calls Tryz.prog 26 #[.agg #[.int .i64 o, .int .i64 x, .int .i64 (v : Int), .int .i64 n, .int .i64 nn, .int .i64 a, .int .i64 l]] w fun e w' => e = .returned (.string (⟨(86 :: hexL v 1).toArray⟩)) ∧ Below w.heap.size w w' := by
  have HX := Lib.hid (fun w => hex_yes v 1 w hv (by decide) (by decide))
  have hs : (hexS v 1).size = 1 := hexS_size v 1
  have C := Lib.hid (cat_V v)
  have BV := Lib.hid (below_new' w (.cells #[.int .i64 o, .int .i64 x, .int .i64 (v : Int), .int .i64 n, .int .i64 nn, .int .i64 a, .int .i64 l] 33))
  generalize (⟨(86 :: hexL v 1).toArray⟩ : ByteArray) = R at C ⊢
  generalize hexS v 1 = X at *
  clear hv
  go_enter Tryz.func26, Tryz.ntmps26
  go_wp2_with fail
  refine (HX.out _).mono ?_
  rintro e w1 ⟨rfl, b1⟩
  have B1 := Lib.hid (BV.out.trans (b1.mono (by simp)))
  clear b1
  go_wp2_with fail
  go_ret
  exact ⟨by rw [← C.out]; rfl, B1.out⟩

set_option maxHeartbeats 2000000 in
theorem writeN_any (v : Nat) (o x y nn a l : Int) (hv : v ≤ 4294967295) (w : World) : Calls Tryz.prog 28 #[.agg #[.int .i64 o, .int .i64 x, .int .i64 y, .int .i64 (v : Int), .int .i64 nn, .int .i64 a, .int .i64 l]] w fun e w' => e = .returned (.string (hexS v 1)) ∧ Below w.heap.size w w' := by
  have HX := Lib.hid (fun w => hex_yes v 1 w hv (by decide) (by decide))
  have BV := Lib.hid (below_new' w (.cells #[.int .i64 o, .int .i64 x, .int .i64 y, .int .i64 (v : Int), .int .i64 nn, .int .i64 a, .int .i64 l] 33))
  generalize hexS v 1 = X at *
  clear hv
  go_enter Tryz.func28, Tryz.ntmps28
  go_wp2_with fail
  refine (HX.out _).mono ?_
  rintro e w1 ⟨rfl, b1⟩
  have B1 := Lib.hid (BV.out.trans (b1.mono (by simp)))
  clear b1
  go_wp2_with fail
  go_ret
  exact ⟨rfl, B1.out⟩

set_option maxHeartbeats 2000000 in
theorem writeNN_any (v : Nat) (o x y n a l : Int) (hv : v ≤ 4294967295) (w : World) : Calls Tryz.prog 32 #[.agg #[.int .i64 o, .int .i64 x, .int .i64 y, .int .i64 n, .int .i64 (v : Int), .int .i64 a, .int .i64 l]] w fun e w' => e = .returned (.string (hexS v 2)) ∧ Below w.heap.size w w' := by
  have HX := Lib.hid (fun w => hex_yes v 2 w hv (by decide) (by decide))
  have BV := Lib.hid (below_new' w (.cells #[.int .i64 o, .int .i64 x, .int .i64 y, .int .i64 n, .int .i64 (v : Int), .int .i64 a, .int .i64 l] 33))
  generalize hexS v 2 = X at *
  clear hv
  go_enter Tryz.func32, Tryz.ntmps32
  go_wp2_with fail
  refine (HX.out _).mono ?_
  rintro e w1 ⟨rfl, b1⟩
  have B1 := Lib.hid (BV.out.trans (b1.mono (by simp)))
  clear b1
  go_wp2_with fail
  go_ret
  exact ⟨rfl, B1.out⟩

set_option maxHeartbeats 2000000 in
theorem writeAddr_any (v : Nat) (o x y n nn l : Int) (hv : v ≤ 4294967295) (w : World) : Calls Tryz.prog 30 #[.agg #[.int .i64 o, .int .i64 x, .int .i64 y, .int .i64 n, .int .i64 nn, .int .i64 (v : Int), .int .i64 l]] w fun e w' => e = .returned (.string (hexS v 3)) ∧ Below w.heap.size w w' := by
  have HX := Lib.hid (fun w => hex_yes v 3 w hv (by decide) (by decide))
  have BV := Lib.hid (below_new' w (.cells #[.int .i64 o, .int .i64 x, .int .i64 y, .int .i64 n, .int .i64 nn, .int .i64 (v : Int), .int .i64 l] 33))
  generalize hexS v 3 = X at *
  clear hv
  go_enter Tryz.func30, Tryz.ntmps30
  go_wp2_with fail
  refine (HX.out _).mono ?_
  rintro e w1 ⟨rfl, b1⟩
  have B1 := Lib.hid (BV.out.trans (b1.mono (by simp)))
  clear b1
  go_wp2_with fail
  go_ret
  exact ⟨rfl, B1.out⟩

set_option maxHeartbeats 2000000 in
theorem writeLongAddr_any (v : Nat) (o x y n nn l : Int) (hv : v ≤ 4294967295) (w : World) : Calls Tryz.prog 35 #[.agg #[.int .i64 o, .int .i64 x, .int .i64 y, .int .i64 n, .int .i64 nn, .int .i64 (v : Int), .int .i64 l]] w fun e w' => e = .returned (.string (hexS v 4)) ∧ Below w.heap.size w w' := by
  have HX := Lib.hid (fun w => hex_yes v 4 w hv (by decide) (by decide))
  have BV := Lib.hid (below_new' w (.cells #[.int .i64 o, .int .i64 x, .int .i64 y, .int .i64 n, .int .i64 nn, .int .i64 (v : Int), .int .i64 l] 33))
  generalize hexS v 4 = X at *
  clear hv
  go_enter Tryz.func35, Tryz.ntmps35
  go_wp2_with fail
  refine (HX.out _).mono ?_
  rintro e w1 ⟨rfl, b1⟩
  have B1 := Lib.hid (BV.out.trans (b1.mono (by simp)))
  clear b1
  go_wp2_with fail
  go_ret
  exact ⟨rfl, B1.out⟩

/-- The number that is stored. -/
def nz : Option Nat → Int
  | some n => (n : Int)
  | none => 0
theorem numV_eq (o : Option Nat) : numV o = .tuple #[.int .i64 (nz o), .bool o.isSome] := by cases o <;> rfl

set_option maxHeartbeats 2000000 in
theorem readX_any (t : ByteArray) (b : Nat) (cs : Array Value) (hlim : t.size ≤ 281474976710656) (hcs : cs.size = 7) (w : World) (hL : AL w) (hb : Blk b 33 cs w) : Calls Tryz.prog 25 #[.string t, .pointer (some ⟨b, 0, none⟩)] w fun e w' => e = .returned (.bool (regO t.data.toList).isSome) ∧ Blk b 33 (cs.setIfInBounds 1 (.int .i64 (nz (regO t.data.toList)))) w' ∧ Apart b none w w' := by
  have NU := Lib.hid (register_any t hlim w hL)
  rw [numV_eq] at NU
  generalize regO t.data.toList = o at NU ⊢
  obtain ⟨z, hz⟩ : ∃ z, nz o = z := ⟨_, rfl⟩
  rw [hz] at NU ⊢
  generalize o.isSome = q at NU ⊢
  have HB := Lib.hid hb
  have HS := Lib.hid hcs
  clear hL hb hcs hlim
  go_enter Tryz.func25, Tryz.ntmps25
  go_wp2_with fail
  refine NU.out.mono ?_
  rintro e w1 ⟨rfl, b1⟩
  have X1 := Lib.hid (HB.out.step b1)
  have B1 := Lib.hid (Apart.of_below (p := b) (g := none) b1)
  clear b1 HB NU
  have f0 := X1.out.frozen 1
  have c0 : ∃ v0, w1.cell? ⟨b, 1, none⟩ = some v0 := ⟨_, (X1.out.cell 1).trans (Array.getElem?_eq_getElem (by have := HS.out; omega))⟩
  obtain ⟨v0, c0⟩ := c0
  go_wp2_with fail
  have X2 := Lib.hid (X1.out.put 1 (.int .i64 z))
  have B2 := Lib.hid (B1.out.trans (Apart.setCell 1 (.int .i64 z)))
  go_returns
  exact ⟨rfl, X2.out, B2.out⟩

set_option maxHeartbeats 2000000 in
theorem readY_any (t : ByteArray) (b : Nat) (cs : Array Value) (hlim : t.size ≤ 281474976710656) (hcs : cs.size = 7) (w : World) (hL : AL w) (hb : Blk b 33 cs w) : Calls Tryz.prog 27 #[.string t, .pointer (some ⟨b, 0, none⟩)] w fun e w' => e = .returned (.bool (regO t.data.toList).isSome) ∧ Blk b 33 (cs.setIfInBounds 2 (.int .i64 (nz (regO t.data.toList)))) w' ∧ Apart b none w w' := by
  have NU := Lib.hid (register_any t hlim w hL)
  rw [numV_eq] at NU
  generalize regO t.data.toList = o at NU ⊢
  obtain ⟨z, hz⟩ : ∃ z, nz o = z := ⟨_, rfl⟩
  rw [hz] at NU ⊢
  generalize o.isSome = q at NU ⊢
  have HB := Lib.hid hb
  have HS := Lib.hid hcs
  clear hL hb hcs hlim
  go_enter Tryz.func27, Tryz.ntmps27
  go_wp2_with fail
  refine NU.out.mono ?_
  rintro e w1 ⟨rfl, b1⟩
  have X1 := Lib.hid (HB.out.step b1)
  have B1 := Lib.hid (Apart.of_below (p := b) (g := none) b1)
  clear b1 HB NU
  have f0 := X1.out.frozen 2
  have c0 : ∃ v0, w1.cell? ⟨b, 2, none⟩ = some v0 := ⟨_, (X1.out.cell 2).trans (Array.getElem?_eq_getElem (by have := HS.out; omega))⟩
  obtain ⟨v0, c0⟩ := c0
  go_wp2_with fail
  have X2 := Lib.hid (X1.out.put 2 (.int .i64 z))
  have B2 := Lib.hid (B1.out.trans (Apart.setCell 2 (.int .i64 z)))
  go_returns
  exact ⟨rfl, X2.out, B2.out⟩

set_option maxHeartbeats 2000000 in
theorem readN_any (t : ByteArray) (b : Nat) (cs : Array Value) (hlim : t.size ≤ 281474976710656) (hcs : cs.size = 7) (w : World) (hL : AL w) (hb : Blk b 33 cs w) : Calls Tryz.prog 29 #[.string t, .pointer (some ⟨b, 0, none⟩)] w fun e w' => e = .returned (.bool (numO t.data.toList 1).isSome) ∧ Blk b 33 (cs.setIfInBounds 3 (.int .i64 (nz (numO t.data.toList 1)))) w' ∧ Apart b none w w' := by
  have NU := Lib.hid (number_any' t 1 (by decide) (by decide) hlim w hL)
  rw [numV_eq] at NU
  generalize numO t.data.toList 1 = o at NU ⊢
  obtain ⟨z, hz⟩ : ∃ z, nz o = z := ⟨_, rfl⟩
  rw [hz] at NU ⊢
  generalize o.isSome = q at NU ⊢
  have HB := Lib.hid hb
  have HS := Lib.hid hcs
  clear hL hb hcs hlim
  go_enter Tryz.func29, Tryz.ntmps29
  go_wp2_with fail
  refine NU.out.mono ?_
  rintro e w1 ⟨rfl, b1⟩
  have X1 := Lib.hid (HB.out.step b1)
  have B1 := Lib.hid (Apart.of_below (p := b) (g := none) b1)
  clear b1 HB NU
  have f0 := X1.out.frozen 3
  have c0 : ∃ v0, w1.cell? ⟨b, 3, none⟩ = some v0 := ⟨_, (X1.out.cell 3).trans (Array.getElem?_eq_getElem (by have := HS.out; omega))⟩
  obtain ⟨v0, c0⟩ := c0
  go_wp2_with fail
  have X2 := Lib.hid (X1.out.put 3 (.int .i64 z))
  have B2 := Lib.hid (B1.out.trans (Apart.setCell 3 (.int .i64 z)))
  go_returns
  exact ⟨rfl, X2.out, B2.out⟩

set_option maxHeartbeats 2000000 in
theorem readNN_any (t : ByteArray) (b : Nat) (cs : Array Value) (hlim : t.size ≤ 281474976710656) (hcs : cs.size = 7) (w : World) (hL : AL w) (hb : Blk b 33 cs w) : Calls Tryz.prog 33 #[.string t, .pointer (some ⟨b, 0, none⟩)] w fun e w' => e = .returned (.bool (numO t.data.toList 2).isSome) ∧ Blk b 33 (cs.setIfInBounds 4 (.int .i64 (nz (numO t.data.toList 2)))) w' ∧ Apart b none w w' := by
  have NU := Lib.hid (number_any' t 2 (by decide) (by decide) hlim w hL)
  rw [numV_eq] at NU
  generalize numO t.data.toList 2 = o at NU ⊢
  obtain ⟨z, hz⟩ : ∃ z, nz o = z := ⟨_, rfl⟩
  rw [hz] at NU ⊢
  generalize o.isSome = q at NU ⊢
  have HB := Lib.hid hb
  have HS := Lib.hid hcs
  clear hL hb hcs hlim
  go_enter Tryz.func33, Tryz.ntmps33
  go_wp2_with fail
  refine NU.out.mono ?_
  rintro e w1 ⟨rfl, b1⟩
  have X1 := Lib.hid (HB.out.step b1)
  have B1 := Lib.hid (Apart.of_below (p := b) (g := none) b1)
  clear b1 HB NU
  have f0 := X1.out.frozen 4
  have c0 : ∃ v0, w1.cell? ⟨b, 4, none⟩ = some v0 := ⟨_, (X1.out.cell 4).trans (Array.getElem?_eq_getElem (by have := HS.out; omega))⟩
  obtain ⟨v0, c0⟩ := c0
  go_wp2_with fail
  have X2 := Lib.hid (X1.out.put 4 (.int .i64 z))
  have B2 := Lib.hid (B1.out.trans (Apart.setCell 4 (.int .i64 z)))
  go_returns
  exact ⟨rfl, X2.out, B2.out⟩

set_option maxHeartbeats 2000000 in
theorem readAddr_any (t : ByteArray) (b : Nat) (cs : Array Value) (hlim : t.size ≤ 281474976710656) (hcs : cs.size = 7) (w : World) (hL : AL w) (hb : Blk b 33 cs w) : Calls Tryz.prog 31 #[.string t, .pointer (some ⟨b, 0, none⟩)] w fun e w' => e = .returned (.bool (numO t.data.toList 3).isSome) ∧ Blk b 33 (cs.setIfInBounds 5 (.int .i64 (nz (numO t.data.toList 3)))) w' ∧ Apart b none w w' := by
  have NU := Lib.hid (number_any' t 3 (by decide) (by decide) hlim w hL)
  rw [numV_eq] at NU
  generalize numO t.data.toList 3 = o at NU ⊢
  obtain ⟨z, hz⟩ : ∃ z, nz o = z := ⟨_, rfl⟩
  rw [hz] at NU ⊢
  generalize o.isSome = q at NU ⊢
  have HB := Lib.hid hb
  have HS := Lib.hid hcs
  clear hL hb hcs hlim
  go_enter Tryz.func31, Tryz.ntmps31
  go_wp2_with fail
  refine NU.out.mono ?_
  rintro e w1 ⟨rfl, b1⟩
  have X1 := Lib.hid (HB.out.step b1)
  have B1 := Lib.hid (Apart.of_below (p := b) (g := none) b1)
  clear b1 HB NU
  have f0 := X1.out.frozen 5
  have c0 : ∃ v0, w1.cell? ⟨b, 5, none⟩ = some v0 := ⟨_, (X1.out.cell 5).trans (Array.getElem?_eq_getElem (by have := HS.out; omega))⟩
  obtain ⟨v0, c0⟩ := c0
  go_wp2_with fail
  have X2 := Lib.hid (X1.out.put 5 (.int .i64 z))
  have B2 := Lib.hid (B1.out.trans (Apart.setCell 5 (.int .i64 z)))
  go_returns
  exact ⟨rfl, X2.out, B2.out⟩

set_option maxHeartbeats 2000000 in
theorem readJumpAddr_any (t : ByteArray) (b : Nat) (c0 c1 c2 c3 c4 c5 c6 : Value) (hlim : t.size ≤ 281474976710656) (w : World) (hL : AL w) (hb : Blk b 33 #[c0, c1, c2, c3, c4, c5, c6] w) : Calls Tryz.prog 34 #[.string t, .pointer (some ⟨b, 0, none⟩)] w fun e w' => e = .returned (.bool (numO t.data.toList 3).isSome) ∧ Blk b 33 #[c0, .int .i64 (nz (numO t.data.toList 3) / 256), c2, c3, c4, .int .i64 (nz (numO t.data.toList 3)), c6] w' ∧ Apart b none w w' := by
  have NU := Lib.hid (readAddr_any t b #[c0, c1, c2, c3, c4, c5, c6] hlim rfl w hL hb)
  generalize numO t.data.toList 3 = o at NU ⊢
  obtain ⟨z, hz⟩ : ∃ z, nz o = z := ⟨_, rfl⟩
  rw [hz] at NU ⊢
  generalize o.isSome = q at NU ⊢
  clear hL hb hlim
  go_enter Tryz.func34, Tryz.ntmps34
  go_wp2_with fail
  refine NU.out.mono ?_
  rintro e w1 ⟨rfl, x1, b1⟩
  have X1 := Lib.hid x1
  have B1 := Lib.hid b1
  have f1 := x1.frozen 1
  have d1 : w1.cell? ⟨b, 1, none⟩ = some c1 := (x1.cell 1).trans rfl
  have d5 : w1.cell? ⟨b, 5, none⟩ = some (.int .i64 z) := (x1.cell 5).trans rfl
  clear x1 b1 NU
  go_wp2_with fail
  have X2 := Lib.hid (X1.out.put 1 (.int .i64 (z / 256)))
  have B2 := Lib.hid (B1.out.trans (Apart.setCell 1 (.int .i64 (z / 256))))
  go_returns
  exact ⟨rfl, X2.out, B2.out⟩
set_option maxHeartbeats 2000000 in
theorem readLongAddr_any (t : ByteArray) (b : Nat) (c0 c1 c2 c3 c4 c5 c6 : Value) (hlim : t.size ≤ 281474976710656) (w : World) (hL : AL w) (hb : Blk b 33 #[c0, c1, c2, c3, c4, c5, c6] w) : Calls Tryz.prog 36 #[.string t, .pointer (some ⟨b, 0, none⟩)] w fun e w' => e = .returned (.bool (numO t.data.toList 4).isSome) ∧ Blk b 33 #[c0, c1, c2, c3, c4, .int .i64 (nz (numO t.data.toList 4)), .int .i64 4] w' ∧ Apart b none w w' := by
  have NU := Lib.hid (number_any' t 4 (by decide) (by decide) hlim w hL)
  rw [numV_eq] at NU
  generalize numO t.data.toList 4 = o at NU ⊢
  obtain ⟨z, hz⟩ : ∃ z, nz o = z := ⟨_, rfl⟩
  rw [hz] at NU ⊢
  generalize o.isSome = q at NU ⊢
  have HB := Lib.hid hb
  clear hL hb hlim
  go_enter Tryz.func36, Tryz.ntmps36
  go_wp2_with fail
  refine NU.out.mono ?_
  rintro e w1 ⟨rfl, b1⟩
  have X1 := Lib.hid (HB.out.step b1)
  have B1 := Lib.hid (Apart.of_below (p := b) (g := none) b1)
  clear b1 HB NU
  have f5 := X1.out.frozen 5
  have f6 := X1.out.frozen 6
  have d5 : w1.cell? ⟨b, 5, none⟩ = some c5 := (X1.out.cell 5).trans rfl
  have d6 : w1.cell? ⟨b, 6, none⟩ = some c6 := (X1.out.cell 6).trans rfl
  go_wp2_with fail
  have X2 := Lib.hid ((X1.out.put 5 (.int .i64 z)).put 6 (.int .i64 4))
  have B2 := Lib.hid ((B1.out.trans (Apart.setCell 5 (.int .i64 z))).trans (Apart.setCell 6 (.int .i64 4)))
  go_returns
  exact ⟨rfl, X2.out, B2.out⟩
/-- What a part says for an operand, and the instruction with it. -/
noncomputable def kdO : Kd → List UInt8 → Option Nat
  | .kx, p => regO p
  | .ky, p => regO p
  | .kn, p => numO p 1
  | .knn, p => numO p 2
  | .ka, p => numO p 3
  | .kj, p => numO p 3
  | .kl, p => numO p 4
def kdSet (k : Kd) (v : Int) (i : Ins) : Ins := match k with
  | .kx => ⟨i.op, v, i.y, i.n, i.nn, i.addr, i.len⟩
  | .ky => ⟨i.op, i.x, v, i.n, i.nn, i.addr, i.len⟩
  | .kn => ⟨i.op, i.x, i.y, v, i.nn, i.addr, i.len⟩
  | .knn => ⟨i.op, i.x, i.y, i.n, v, i.addr, i.len⟩
  | .ka => ⟨i.op, i.x, i.y, i.n, i.nn, v, i.len⟩
  | .kj => ⟨i.op, v / 256, i.y, i.n, i.nn, v, i.len⟩
  | .kl => ⟨i.op, i.x, i.y, i.n, i.nn, v, 4⟩
theorem rd_any (k : Kd) (t : ByteArray) (b : Nat) (i : Ins) (hlim : t.size ≤ 281474976710656) (w : World) (hL : AL w) (hb : Blk b 33 (icells i) w) : Calls Tryz.prog k.rd #[.string t, .pointer (some ⟨b, 0, none⟩)] w fun e w' => e = .returned (.bool (kdO k t.data.toList).isSome) ∧ Blk b 33 (icells (kdSet k (nz (kdO k t.data.toList)) i)) w' ∧ Apart b none w w' := by
  cases k
  · exact readX_any t b _ hlim rfl w hL hb
  · exact readY_any t b _ hlim rfl w hL hb
  · exact readN_any t b _ hlim rfl w hL hb
  · exact readNN_any t b _ hlim rfl w hL hb
  · exact readAddr_any t b _ hlim rfl w hL hb
  · exact readJumpAddr_any t b _ _ _ _ _ _ _ hlim w hL hb
  · exact readLongAddr_any t b _ _ _ _ _ _ _ hlim w hL hb
/-- The text of an operand. -/
def kdTxt (k : Kd) (i : Ins) : List UInt8 := match k with
  | .kx => 86 :: hexL i.x.toNat 1
  | .ky => 86 :: hexL i.y.toNat 1
  | .kn => hexL i.n.toNat 1
  | .knn => hexL i.nn.toNat 2
  | .ka => hexL i.addr.toNat 3
  | .kj => hexL i.addr.toNat 3
  | .kl => hexL i.addr.toNat 4
/-- The fields of an instruction that has a text. -/
def Rg (i : Ins) : Prop := 0 ≤ i.x ∧ i.x ≤ 65535 ∧ 0 ≤ i.y ∧ i.y ≤ 65535 ∧ 0 ≤ i.n ∧ i.n ≤ 65535 ∧ 0 ≤ i.nn ∧ i.nn ≤ 65535 ∧ 0 ≤ i.addr ∧ i.addr ≤ 65535
theorem wr_any (k : Kd) (i : Ins) (h : Rg i) (w : World) : Calls Tryz.prog k.wr #[.agg (icells i)] w fun e w' => e = .returned (.string ⟨(kdTxt k i).toArray⟩) ∧ Below w.heap.size w w' := by
  obtain ⟨op, x, y, n, nn, a, len⟩ := i
  obtain ⟨hx, hx2, hy, hy2, hn, hn2, hnn, hnn2, ha, ha2⟩ := h
  simp only at hx hx2 hy hy2 hn hn2 hnn hnn2 ha ha2
  obtain ⟨x, rfl⟩ := Int.eq_ofNat_of_zero_le hx
  obtain ⟨y, rfl⟩ := Int.eq_ofNat_of_zero_le hy
  obtain ⟨n, rfl⟩ := Int.eq_ofNat_of_zero_le hn
  obtain ⟨nn, rfl⟩ := Int.eq_ofNat_of_zero_le hnn
  obtain ⟨a, rfl⟩ := Int.eq_ofNat_of_zero_le ha
  cases k
  · exact writeX_any x op y n nn a len (by omega) w
  · exact writeY_any y op x n nn a len (by omega) w
  · exact writeN_any n op x y nn a len (by omega) w
  · exact writeNN_any nn op x y n a len (by omega) w
  · exact writeAddr_any a op x y n nn len (by omega) w
  · exact writeAddr_any a op x y n nn len (by omega) w
  · exact writeLongAddr_any a op x y n nn len (by omega) w
/-- A text is its word and its operands. -/
theorem txt_kds (i : Ins) : txtL i = wdL i.op.toNat ++ (kds i.op.toNat).flatMap (fun k => 32 :: kdTxt k i) := by
  unfold txtL kds
  cases (ruleOf i.op.toNat).pk <;> simp [opsL, kdsP, kdTxt, vL, dL]
end Go.Proofs.YthfiaemdpfffcaaGreatDoor
/- find: the Op of a word. -/
namespace Go.Proofs.YthfiaemdpfffcaaGreatDoor
open Go.RowKit Num Dec
set_option linter.unusedVariables false
set_option linter.unusedSimpArgs false

/-- The load of a whole array of cells that are known. -/
theorem list_load_cells {P : Program} {ops : Array Oper} {rest : List Oper} {o : Oper} {a : Act} {w : World} {Q : Exit → Act → World → Prop} (hgd : o.guard = none) (ty : TypeId) (x : Operand) (ho : o.op = .load ty x)
    (ad : Addr) (hx : a.eval x = .pointer (some ad)) (L : List Value) (d : TypeDesc) (hc : ∀ j (h : j < L.length), w.cell? (ad.add j) = some L[j])
    (hu : P.underlying ty = some d) (hd : (match d with | .struct _ | .array _ _ => true | _ => false) = true) (hi : (P.info? ty).map (·.size) = some L.length)
    (h : wpList P ops Q rest (a.put o.dst (.agg L.toArray)) w) : wpList P ops Q (o :: rest) a w := by
  have hl : (loadCells ad L.length).run P w = .ok L.toArray w :=
    run_loadCells_list (P := P) w ad L (fun j v hv => by
      by_cases hj : j < L.length
      · rw [List.getElem?_eq_getElem hj] at hv
        rw [hc j hj]
        exact hv
      · rw [List.getElem?_eq_none (Nat.le_of_not_lt hj)] at hv
        cases hv)
  refine wpList_plain hgd fun K hK => ?_
  have hlv : (loadVar ty ad).run P w = .ok (.agg L.toArray) w := by
    cases hq : P.info? ty with
    | none => simp [hq] at hi
    | some i =>
      have hs : i.size = L.length := by simpa [hq] using hi
      have hagg : (isAgg ty).run P w = .ok true w := by
        unfold isAgg
        rw [Sem.run_bind, run_underlying hu w]
        cases d <;> simp_all
      simp [loadVar, Sem.run_bind, hagg, sizeOf, typeInfo, hq, hs, hl]
  unfold Oper.wp execOp
  simp only [ho, hx, Instr.loadAt, Instr.sureAddr, Sem.run_bind, Sem.run_pure, Result.andThen_ok, hlv]
  exact hK _ _ h
def wordV : List Value := wds.map strV
theorem wordV_len : wordV.length = 52 := by decide +kernel
theorem wordV_get (j : Nat) (h : j < wordV.length) : wordV[j] = strV (wdL j) := by
  have hj : j < wds.length := by simpa [wordV] using h
  show (wds.map strV)[j]'(by simpa using hj) = _
  rw [List.getElem_map]
  unfold wdL
  rw [List.getD_eq_getElem?_getD, List.getElem?_eq_getElem hj]
  rfl
theorem word_at : ∀ (k : Nat), k < 52 → ∀ w : World, (Instr.index 82 (.agg wordV.toArray) (.int .i64 (k : Int))).run Tryz.prog w = .ok (strV (wdL k)) w
  | 0, _ => fun _ => by kernel_rfl
  | 1, _ => fun _ => by kernel_rfl
  | 2, _ => fun _ => by kernel_rfl
  | 3, _ => fun _ => by kernel_rfl
  | 4, _ => fun _ => by kernel_rfl
  | 5, _ => fun _ => by kernel_rfl
  | 6, _ => fun _ => by kernel_rfl
  | 7, _ => fun _ => by kernel_rfl
  | 8, _ => fun _ => by kernel_rfl
  | 9, _ => fun _ => by kernel_rfl
  | 10, _ => fun _ => by kernel_rfl
  | 11, _ => fun _ => by kernel_rfl
  | 12, _ => fun _ => by kernel_rfl
  | 13, _ => fun _ => by kernel_rfl
  | 14, _ => fun _ => by kernel_rfl
  | 15, _ => fun _ => by kernel_rfl
  | 16, _ => fun _ => by kernel_rfl
  | 17, _ => fun _ => by kernel_rfl
  | 18, _ => fun _ => by kernel_rfl
  | 19, _ => fun _ => by kernel_rfl
  | 20, _ => fun _ => by kernel_rfl
  | 21, _ => fun _ => by kernel_rfl
  | 22, _ => fun _ => by kernel_rfl
  | 23, _ => fun _ => by kernel_rfl
  | 24, _ => fun _ => by kernel_rfl
  | 25, _ => fun _ => by kernel_rfl
  | 26, _ => fun _ => by kernel_rfl
  | 27, _ => fun _ => by kernel_rfl
  | 28, _ => fun _ => by kernel_rfl
  | 29, _ => fun _ => by kernel_rfl
  | 30, _ => fun _ => by kernel_rfl
  | 31, _ => fun _ => by kernel_rfl
  | 32, _ => fun _ => by kernel_rfl
  | 33, _ => fun _ => by kernel_rfl
  | 34, _ => fun _ => by kernel_rfl
  | 35, _ => fun _ => by kernel_rfl
  | 36, _ => fun _ => by kernel_rfl
  | 37, _ => fun _ => by kernel_rfl
  | 38, _ => fun _ => by kernel_rfl
  | 39, _ => fun _ => by kernel_rfl
  | 40, _ => fun _ => by kernel_rfl
  | 41, _ => fun _ => by kernel_rfl
  | 42, _ => fun _ => by kernel_rfl
  | 43, _ => fun _ => by kernel_rfl
  | 44, _ => fun _ => by kernel_rfl
  | 45, _ => fun _ => by kernel_rfl
  | 46, _ => fun _ => by kernel_rfl
  | 47, _ => fun _ => by kernel_rfl
  | 48, _ => fun _ => by kernel_rfl
  | 49, _ => fun _ => by kernel_rfl
  | 50, _ => fun _ => by kernel_rfl
  | 51, _ => fun _ => by kernel_rfl
  | n + 52, h => absurd h (by omega)
open Classical in
/-- The Op of a word, 0 if it is none. -/
noncomputable def fndN (s : List UInt8) : Nat := if h : ∃ op, op < 52 ∧ wdL op = s then h.choose else 0
theorem fnd_yes {s : List UInt8} {op : Nat} (h : op < 52) (e : wdL op = s) : fndN s = op := by
  have hx : ∃ op, op < 52 ∧ wdL op = s := ⟨op, h, e⟩
  unfold fndN
  rw [dif_pos hx]
  have hs := hx.choose_spec
  have := wd_inj ⟨hx.choose, hs.1⟩ ⟨op, h⟩ (hs.2.trans e.symm)
  simpa using this
theorem fnd_no {s : List UInt8} (h : ∀ op, op < 52 → wdL op ≠ s) : fndN s = 0 := by
  unfold fndN
  rw [dif_neg (fun ⟨op, h1, h2⟩ => h op h1 h2)]
theorem fnd_lt (s : List UInt8) : fndN s < 52 := by
  by_cases h : ∃ op, op < 52 ∧ wdL op = s
  · obtain ⟨op, h1, h2⟩ := h
    rw [fnd_yes h1 h2]
    exact h1
  · rw [fnd_no (fun op h1 h2 => h ⟨op, h1, h2⟩)]
    omega
theorem fnd_is (s : List UInt8) (h : fndN s ≠ 0) : wdL (fndN s) = s := by
  by_cases hx : ∃ op, op < 52 ∧ wdL op = s
  · obtain ⟨op, h1, h2⟩ := hx
    rw [fnd_yes h1 h2]
    exact h2
  · exact absurd (fnd_no (fun op h1 h2 => hx ⟨op, h1, h2⟩)) h
theorem strV_eq (l : List UInt8) (s : ByteArray) : ((⟨l.toArray⟩ : ByteArray).toList == s.toList) = decide (l = s.data.toList) := by
  rw [ByteArray.toList_eq, ByteArray.toList_eq]
  by_cases h : l = s.data.toList <;> simp [h]
set_option maxRecDepth 100000 in
set_option maxHeartbeats 4000000 in
theorem find_op (s : ByteArray) (w : World) (hL : AL w) : Calls Tryz.prog 59 #[.string s] w fun e w' => e = .returned (.int .i64 (fndN s.data.toList : Int)) ∧ w = w' := by
  have WA := Lib.hid word_at
  go_enter Tryz.func59, Tryz.ntmps59
  go_upto_region 1 with fail
  refine wp_region_lit ?_
  refine list_load_cells rfl 82 (.global 1) rfl ⟨1, 0, none⟩ rfl wordV _ (fun j h => by rw [show (⟨1, 0, none⟩ : Addr).add j = ⟨1, j, none⟩ by unfold Addr.add; split <;> simp_all, wordV_get j h]; exact hL.words j (by rw [wordV_len] at h; exact h)) Tryz.underlying82 rfl (by rw [wordV_len]; kernel_rfl) ?_
  generalize hV : wordV.toArray = V at WA ⊢
  clear hV
  go_wp2
  go_loop [6] (fun i => ∃ k : Nat, k ≤ 52 ∧ i = .int .i64 (k : Int) ∧ ∀ op, op < k → wdL op ≠ s.data.toList) (fun i => 52 - (intOf i).toNat)
  case atStart => exact ⟨0, by omega, rfl, fun op h => absurd h (by omega)⟩
  case round =>
    obtain ⟨k, hk, rfl, hno⟩ := hrel
    have HN := Lib.hid hno
    clear hno
    by_cases hlt : k < 52
    · have ha := WA.out k hlt
      have E := strV_eq (wdL k) s
      have i52 : (k : Int) < 52 := by omega
      have HL := Lib.hid hlt
      unfold strV at ha
      by_cases h : wdL k = s.data.toList
      · have F := Lib.hid (fnd_yes hlt h)
        rw [decide_eq_true h] at E
        clear h hk hlt
        generalize (⟨(wdL k).toArray⟩ : ByteArray) = X at ha E
        go_wp2
        go_returns
        exact ⟨by rw [F.out]; rfl, rfl⟩
      · have F := Lib.hid (show ∀ op, op < k + 1 → wdL op ≠ s.data.toList from fun op ho => by
          rcases Nat.lt_or_ge op k with h2 | h2
          · exact HN.out op h2
          · obtain rfl : op = k := by omega
            exact h)
        rw [decide_eq_false h] at E
        clear h hk hlt
        generalize (⟨(wdL k).toArray⟩ : ByteArray) = X at ha E
        go_wp2
        exact ⟨⟨k + 1, HL.out, rfl, F.out⟩, by have := HL.out; simp [intOf]; omega⟩
    · obtain rfl : k = 52 := by omega
      have F := Lib.hid (fnd_no HN.out)
      clear hk hlt
      go_wp2
      go_returns
      exact ⟨by rw [F.out]; rfl, rfl⟩
end Go.Proofs.YthfiaemdpfffcaaGreatDoor
/- text: the text of an instruction. -/
namespace Go.Proofs.YthfiaemdpfffcaaGreatDoor
open Go.RowKit Num Dec
set_option linter.unusedVariables false
set_option linter.unusedSimpArgs false

theorem kdL_len : ∀ L : List Kd, (kdL L).length = 2 * L.length
  | [] => rfl
  | k :: ks => by simp only [kdL, List.length_cons, kdL_len ks]; omega
theorem kdL_at : ∀ (L : List Kd) (j : Nat) (h : j < L.length), (kdL L)[2 * j]? = some (fnV L[j].wr) ∧ (kdL L)[2 * j + 1]? = some (fnV L[j].rd)
  | k :: ks, 0, _ => ⟨rfl, rfl⟩
  | k :: ks, j + 1, h => by
    have := kdL_at ks j (by simpa using h)
    exact ⟨this.1, this.2⟩
theorem SLn.form {L : List Kd} {s : Value} {w : World} (h : SLn L s w) : ∃ A, s = .slice A L.length L.length ∧ ∀ j (h : j < L.length), ∃ b, A = some ⟨b, 0, none⟩ ∧ b < w.heap.size ∧ w.cell? ⟨b, 2 * j, none⟩ = some (fnV L[j].wr) ∧ w.cell? ⟨b, 2 * j + 1, none⟩ = some (fnV L[j].rd) := by
  rcases h with ⟨rfl, rfl⟩ | ⟨_, b, rfl, k⟩
  · exact ⟨none, rfl, fun j h => absurd h (by simp)⟩
  · refine ⟨_, rfl, fun j h => ⟨b, rfl, k.lt, ?_, ?_⟩⟩
    · rw [k.cell]; show (kdL L).toArray[2 * j]? = _; rw [List.getElem?_toArray]; exact (kdL_at L j h).1
    · rw [k.cell]; show (kdL L).toArray[2 * j + 1]? = _; rw [List.getElem?_toArray]; exact (kdL_at L j h).2
theorem wr_enters (k : Kd) : ∀ args w, (callFunc k.wr args).run Tryz.prog w = .ok (.enter k.wr args) w := by
  cases k
  · exact enters_of Tryz.func24 (by kernel_rfl) rfl
  · exact enters_of Tryz.func26 (by kernel_rfl) rfl
  · exact enters_of Tryz.func28 (by kernel_rfl) rfl
  · exact enters_of Tryz.func32 (by kernel_rfl) rfl
  · exact enters_of Tryz.func30 (by kernel_rfl) rfl
  · exact enters_of Tryz.func30 (by kernel_rfl) rfl
  · exact enters_of Tryz.func35 (by kernel_rfl) rfl
theorem rd_enters (k : Kd) : ∀ args w, (callFunc k.rd args).run Tryz.prog w = .ok (.enter k.rd args) w := by
  cases k
  · exact enters_of Tryz.func25 (by kernel_rfl) rfl
  · exact enters_of Tryz.func27 (by kernel_rfl) rfl
  · exact enters_of Tryz.func29 (by kernel_rfl) rfl
  · exact enters_of Tryz.func33 (by kernel_rfl) rfl
  · exact enters_of Tryz.func31 (by kernel_rfl) rfl
  · exact enters_of Tryz.func34 (by kernel_rfl) rfl
  · exact enters_of Tryz.func36 (by kernel_rfl) rfl
/-- The operands of an Op are looked up, in whatever world behind. -/
theorem Syn.look2 {v : Value} {w : World} (h : Syn v w) (l : Int) (hl : (Lit.int .i64 l).wf = true) : ∃ s, SLn (kdsI l) s w ∧ ∀ w', Below w.heap.size w w' → (Instr.lookup 40 v (.int .i64 l) false).run Tryz.prog w' = .ok s w' := by
  obtain ⟨m, rfl, n, D, ho, h2⟩ := h
  obtain ⟨s, h3, h4⟩ := h2 l
  refine ⟨s, h4, fun w' hb => ?_⟩
  have hlt := ho.lt
  obtain ⟨es, clock, g1, g3⟩ := ho
  have ho : w'.ownsMap Tryz.prog 3 rHeld m n D := ⟨es, clock, (hb.block m hlt).trans g1, g3⟩
  obtain ⟨u, ps, hr, hu⟩ := ho.lookup intKeyed Tryz.underlying40 (zeroOps w') (zd := .held (.slice none 0 0)) (zp := []) rfl (int_key l hl)
  rw [h3] at hu
  unfold rHeld at hu
  simp only [Option.some.injEq, Prod.mk.injEq, DataW.held.injEq] at hu
  exact hu.1 ▸ hr
/-- The text behind j operands. -/
def preL (i : Ins) (j : Nat) : List UInt8 := wdL i.op.toNat ++ ((kds i.op.toNat).take j).flatMap (fun k => 32 :: kdTxt k i)
def preS (i : Ins) (j : Nat) : ByteArray := ⟨(preL i j).toArray⟩
theorem pre_all (i : Ins) : preS i (kds i.op.toNat).length = txtS i := by
  unfold preS preL txtS
  rw [List.take_length, ← txt_kds]
theorem pre_step (i : Ins) (j : Nat) (h : j < (kds i.op.toNat).length) : preS i j ++ ((⟨#[32]⟩ : ByteArray) ++ ⟨(kdTxt (kds i.op.toNat)[j] i).toArray⟩) = preS i (j + 1) := by
  unfold preS preL
  apply ByteArray.ext
  rw [ByteArray.data_append, ByteArray.data_append]
  apply Array.ext'
  rw [← List.take_append_getElem h, List.flatMap_append]
  simp
theorem wf_small (l : Int) (h0 : 0 ≤ l) (h1 : l < 65536) : (Lit.int .i64 l).wf = true := by
  have a : IntKind.i64.min = -9223372036854775808 := by decide
  have b : IntKind.i64.max = 9223372036854775807 := by decide
  simp [Lit.wf, a, b]
  omega
theorem kdTxt_len (k : Kd) (i : Ins) : (kdTxt k i).length ≤ 4 := by cases k <;> simp [kdTxt, hexL_len]
theorem kds_len (op : Nat) : (kds op).length ≤ 3 := by unfold kds; cases (ruleOf op).pk <;> simp [kdsP]
theorem flat_len (i : Ins) : ∀ L : List Kd, (L.flatMap (fun k => 32 :: kdTxt k i)).length ≤ 5 * L.length
  | [] => by simp
  | k :: ks => by
    have := flat_len i ks
    have h2 := kdTxt_len k i
    simp only [List.flatMap_cons, List.length_append, List.length_cons]
    omega
theorem pre_size (i : Ins) (j : Nat) (h : i.op.toNat < 52) : (preS i j).size ≤ 100 := by
  have h1 := wdL_size ⟨i.op.toNat, h⟩
  have h2 := flat_len i ((kds i.op.toNat).take j)
  have h3 := kds_len i.op.toNat
  have h4 : ((kds i.op.toNat).take j).length ≤ 3 := by simp; omega
  simp only at h1
  simp only [preS, preL, ByteArray.size, List.size_toArray, List.length_append]
  omega

set_option maxRecDepth 100000 in
set_option maxHeartbeats 4000000 in
theorem text_any' (v : Value) (o : Nat) (i : Ins) (ho : i.op = (o : Int)) (h1 : o < 52) (hr : Rg i) (w : World) (hL : AL w) (hS : Syn v w) : Calls Tryz.prog 23 #[v, .agg (icells i)] w fun e w' => e = .returned (.string (txtS i)) ∧ Below w.heap.size w w' := by
  obtain ⟨m, rfl⟩ : ∃ m, v = .map (some m) := ⟨hS.choose, hS.choose_spec.1⟩
  have hot : i.op.toNat = o := by omega
  have BX := Lib.hid (Blk.new w 33 (icells i))
  have BV := Lib.hid (below_new' w (.cells (icells i) 33))
  obtain ⟨s, hs, hlk⟩ := hS.look2 (o : Int) (wf_small _ (by omega) (by omega))
  have hlk := hlk _ BV.out
  have hk : kdsI (o : Int) = kds i.op.toNat := by unfold kdsI; rw [if_pos (by omega), hot]; rfl
  rw [hk] at hs
  obtain ⟨A, rfl, hcs⟩ := (show SLn _ _ _ from hs).form
  have WR := Lib.hid (fun (k : Kd) (w : World) => wr_any k i hr w)
  have P0 := Lib.hid (show preS i 0 = ⟨(wdL o).toArray⟩ by unfold preS preL; rw [List.take_zero, hot]; simp)
  have PA := Lib.hid (pre_all i)
  have PS := Lib.hid (pre_step i)
  have PZ := Lib.hid (fun j => pre_size i j (by omega))
  have hg := hL.words o h1
  have hlt := hL.lt.2.1
  have hn3 := kds_len i.op.toNat
  have hcs := Lib.hid hcs
  rw [← P0.out] at hg
  clear hS hs hk hr hL P0 hot
  obtain ⟨op, x, y, n, nn, a, len⟩ := i
  simp only at ho
  subst ho
  unfold icells at *
  simp only at *
  generalize kds (Int.toNat (o : Int)) = L at *
  generalize txtS ⟨(o : Int), x, y, n, nn, a, len⟩ = T at *
  obtain ⟨ln, hln⟩ : ∃ ln, L.length = ln := ⟨_, rfl⟩
  rw [hln] at hlk hn3
  have i1 : (o : Int) < 52 := by omega
  go_enter Tryz.func23, Tryz.ntmps23
  go_wp2_with fail
  go_loopw [5, 17] (fun v5 v17 wr => ∃ j : Nat, j ≤ ln ∧ v17 = .int .i64 (j : Int) ∧ v5 = .string (preS ⟨(o : Int), x, y, n, nn, a, len⟩ j) ∧ Below w.heap.size w wr ∧ Blk w.heap.size 33 #[.int .i64 (o : Int), .int .i64 x, .int .i64 y, .int .i64 n, .int .i64 nn, .int .i64 a, .int .i64 len] wr) (fun _ v17 _ => ln - (intOf v17).toNat)
  case atStart => exact ⟨0, Nat.zero_le _, rfl, rfl, BV.out, BX.out⟩
  case round =>
    obtain ⟨j, hj, rfl, rfl, hb, hx⟩ := hrel
    have HB := Lib.hid hb
    have HX := Lib.hid hx
    clear hb hx
    by_cases hlt : j < ln
    · obtain ⟨b, rfl, hbl, c0, c1⟩ := hcs.out j (by omega)
      have PJ := Lib.hid (PS.out j (by omega))
      have HJ := Lib.hid hlt
      have s0 := PZ.out j
      generalize L[j]'(by omega) = k at c0 c1 PJ
      have cx0 := (HB.out.cell (p := ⟨b, 2 * j, none⟩) hbl).trans c0
      have cx1 := (HB.out.cell (p := ⟨b, 2 * j + 1, none⟩) hbl).trans c1
      have WK := Lib.hid (WR.out k)
      have HE := wr_enters k
      rw [Nat.mul_comm 2 j] at cx0 cx1
      unfold fnV at cx0 cx1
      have sx : (⟨(kdTxt k ⟨(o : Int), x, y, n, nn, a, len⟩).toArray⟩ : ByteArray).size ≤ 4 := kdTxt_len k _
      generalize (⟨(kdTxt k ⟨(o : Int), x, y, n, nn, a, len⟩).toArray⟩ : ByteArray) = X at PJ WK sx
      generalize preS ⟨(o : Int), x, y, n, nn, a, len⟩ j = T0 at PJ s0 ⊢
      generalize Kd.wr k = fw at cx0 WK HE
      generalize Kd.rd k = fr at cx1
      have hblw : b < wr.heap.size := Nat.lt_of_lt_of_le hbl HB.out.size
      obtain ⟨x0, x1, x2, x3, x4, x5, x6⟩ := And.intro ((HX.out.cell 0).trans rfl) (And.intro ((HX.out.cell 1).trans rfl) (And.intro ((HX.out.cell 2).trans rfl) (And.intro ((HX.out.cell 3).trans rfl) (And.intro ((HX.out.cell 4).trans rfl) (And.intro ((HX.out.cell 5).trans rfl) ((HX.out.cell 6).trans rfl))))))
      have hxw := HX.out.lt
      clear c0 c1 hj
      go_wp2_with fail
      refine (WK.out _).mono ?_
      rintro e w3 ⟨rfl, b3⟩
      have B3 := Lib.hid (HB.out.trans ((((Below.refl wr.heap.size wr).alloc (Nat.le_refl _) (.cells #[.func (.func fw) #[] #[], .func (.func fr) #[] #[]] 55)).trans (b3.mono (by simp))).mono HB.out.size))
      have X3 := Lib.hid (HX.out.below ((((Below.refl wr.heap.size wr).alloc (Nat.le_refl _) (.cells #[.func (.func fw) #[] #[], .func (.func fr) #[] #[]] 55)).trans (b3.mono (by simp)))) hxw)
      clear b3
      go_wp2_with fail
      exact ⟨⟨j + 1, HJ.out, rfl, by rw [← PJ.out], B3.out, X3.out⟩, by have := HJ.out; simp [intOf]; omega⟩
    · obtain rfl : j = ln := by omega
      subst hln
      rw [PA.out]
      clear hlt hj
      go_wp2_with fail
      go_returns
      exact ⟨rfl, HB.out⟩
end Go.Proofs.YthfiaemdpfffcaaGreatDoor
