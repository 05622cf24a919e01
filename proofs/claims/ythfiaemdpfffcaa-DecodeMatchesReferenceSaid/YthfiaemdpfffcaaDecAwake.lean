/- The contract of 'awake' of layer 14. -/
import Derived.Test.YthfiaemdpfffcaaDecLevel
import Derived.Test.YthfiaemdpfffcaaDecRef6
import Derived.Test.YthfiaemdpfffcaaDecOpen
namespace Go.Proofs.Ythfiaemdpfffcaa
open Go.RowKit Num Dec
set_option linter.unusedVariables false
set_option linter.unusedSimpArgs false

/-- An instruction by value. -/
def iv (i : Ins) : Value := .agg (icells i)
theorem decode_iv (b0 b1 b2 b3 : Nat) (l : Int) (i : Ins) (w : World) (h0 : b0 < 256) (h1 : b1 < 256) (h2 : b2 < 256) (h3 : b3 < 256) (hl : (Lit.int .i64 l).wf = true) (hi : dec b0 b1 b2 b3 l = i) :
    Calls Try.prog 9 #[.agg #[.int .u8 (b0 : Int), .int .u8 (b1 : Int), .int .u8 (b2 : Int), .int .u8 (b3 : Int)], .int .i64 l] w fun e w' => e = .returned (.agg #[.int .i64 i.op, .int .i64 i.x, .int .i64 i.y, .int .i64 i.n, .int .i64 i.nn, .int .i64 i.addr, .int .i64 i.len]) ∧ Below w.heap.size w w' :=
  hi ▸ decode_any b0 b1 b2 b3 l w h0 h1 h2 h3 hl

set_option maxRecDepth 100000 in
set_option maxHeartbeats 4000000 in
theorem awake14 (w : World) : Calls Try.prog 8 #[] w fun e w' => e = .returned (.bool true) ∧ Below w.heap.size w w' := by
  have D1 := Lib.hid fun w : World => decode_iv 209 35 0 0 1 ⟨23, 1, 2, 3, 0, 0, 2⟩ w (by decide) (by decide) (by decide) (by decide) (by decide) (by decide +kernel)
  have D2 := Lib.hid fun w : World => decode_iv 240 0 18 52 2 ⟨0, 0, 0, 0, 0, 0, 2⟩ w (by decide) (by decide) (by decide) (by decide) (by decide) (by decide +kernel)
  have D3 := Lib.hid fun w : World => decode_iv 240 0 18 52 3 ⟨48, 0, 0, 0, 0, 4660, 4⟩ w (by decide) (by decide) (by decide) (by decide) (by decide) (by decide +kernel)
  have S3 := Lib.hid fun w : World => (show skl 240 0 3 = 4 by decide) ▸ skip_any 240 0 3 w
  have S2 := Lib.hid fun w : World => (show skl 240 0 2 = 2 by decide) ▸ skip_any 240 0 2 w
  have L38 := Lib.hid fun w : World => (show lv 38 = 2 by decide) ▸ level_any 38 w
  have B34 := Lib.hid fun w : World => (show (lv 34 == 1) = true by decide) ▸ base_any 34 w
  have B0 := Lib.hid fun w : World => (show (lv 0 == 1) = false by decide) ▸ base_any 0 w
  go_enter Try.func8, Try.ntmps8
  go_wp2_with fail
  refine (D1.out _).mono ?_
  rintro e w1 ⟨rfl, b1⟩
  have C0 := Lib.hid ((show Blk w.heap.size 22 #[.int .u8 240, .int .u8 0, .int .u8 18, .int .u8 52] _ from Blk.new w _ _).step b1)
  have BV := Lib.hid ((below_new' w (.cells #[.int .u8 240, .int .u8 0, .int .u8 18, .int .u8 52] 22)).trans (b1.mono (by simp)))
  have c0 := C0.out.cell 0
  have c1 := C0.out.cell 1
  have c2 := C0.out.cell 2
  have c3 := C0.out.cell 3
  simp only [List.getElem?_toArray, List.getElem?_cons_succ, List.getElem?_cons_zero] at c0 c1 c2 c3
  clear b1 D1
  go_wp2_with fail
  refine (D2.out _).mono ?_
  rintro e w2 ⟨rfl, b1⟩
  have C0 := Lib.hid (C0.out.step b1)
  have BV := Lib.hid (BV.out.trans (b1.mono BV.out.size))
  clear c0 c1 c2 c3
  have c0 := C0.out.cell 0
  have c1 := C0.out.cell 1
  have c2 := C0.out.cell 2
  have c3 := C0.out.cell 3
  simp only [List.getElem?_toArray, List.getElem?_cons_succ, List.getElem?_cons_zero] at c0 c1 c2 c3
  clear b1 D2
  go_wp2_with fail
  refine (D3.out _).mono ?_
  rintro e w3 ⟨rfl, b1⟩
  have BV := Lib.hid (BV.out.trans (b1.mono BV.out.size))
  clear c0 c1 c2 c3 b1 D3 C0
  go_wp2_with fail
  refine (S3.out _).mono ?_
  rintro e w4 ⟨rfl, rfl⟩
  go_wp2_with fail
  refine (S2.out _).mono ?_
  rintro e w5 ⟨rfl, rfl⟩
  go_wp2_with fail
  refine (L38.out _).mono ?_
  rintro e w6 ⟨rfl, b1⟩
  have BV := Lib.hid (BV.out.trans (b1.mono BV.out.size))
  clear b1
  go_wp2_with fail
  refine (B34.out _).mono ?_
  rintro e w7 ⟨rfl, b1⟩
  have BV := Lib.hid (BV.out.trans (b1.mono BV.out.size))
  clear b1
  go_wp2_with fail
  refine (B0.out _).mono ?_
  rintro e w8 ⟨rfl, b1⟩
  have BV := Lib.hid (BV.out.trans (b1.mono BV.out.size))
  clear b1
  go_wp2_with fail
  go_ret
  exact ⟨rfl, BV.out⟩
end Go.Proofs.Ythfiaemdpfffcaa
