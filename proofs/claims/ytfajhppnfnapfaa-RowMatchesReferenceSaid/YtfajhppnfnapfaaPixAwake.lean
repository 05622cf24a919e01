/- 'awake' of the law package of layer 6 returns true. -/
import Derived.Test.YtfajhppnfnapfaaPixLaw
import Derived.Test.YtfajhppnfnapfaaCalm
namespace Go.Proofs.Ytfajhppnfnapfaa
open Go.RowKit Num
set_option linter.unusedVariables false
set_option linter.unusedSimpArgs false

theorem rv_lit {r : BitVec 128} {h l : BitVec 64} {a b : Int} (e : r = h ++ l) (ha : (h.toNat : Int) = a) (hb : (l.toNat : Int) = b) : rv r = .agg #[.int .u64 a, .int .u64 b] := by
  rw [e, rv_append, ha, hb]

set_option maxRecDepth 100000 in
set_option maxHeartbeats 4000000 in
theorem awake6 (w : World) : Calls Try.prog 8 #[] w fun e w' => e = .returned (.bool true) ∧ Below w.heap.size w w' := by
  have l0 : rv (1#64 ++ 0#64) = .agg #[.int .u64 1, .int .u64 0] := rv_lit rfl rfl rfl
  have l1 : rv (9223372036854775809#64 ++ 0#64) = .agg #[.int .u64 9223372036854775809, .int .u64 0] := rv_lit rfl rfl rfl
  have l2 : rv (0#64 ++ 0#64) = .agg #[.int .u64 0, .int .u64 0] := rv_lit rfl rfl rfl
  have l3 : rv (0#64 ++ 9223372036854775808#64) = .agg #[.int .u64 0, .int .u64 9223372036854775808] := rv_lit rfl rfl rfl
  have l4 : rv (9223372036854775808#64 ++ 0#64) = .agg #[.int .u64 9223372036854775808, .int .u64 0] := rv_lit rfl rfl rfl
  have S1 := Lib.hid fun w => sprite_any 128 8 63 64 false w (.inl rfl) (by omega) (by omega) (by omega)
  have S2 := Lib.hid fun w => sprite_any 192 8 63 64 false w (.inl rfl) (by omega) (by omega) (by omega)
  have S3 := Lib.hid fun w => sprite_any 192 8 63 64 true w (.inl rfl) (by omega) (by omega) (by omega)
  rw [show sprite 128 8 63 64 false = 1#64 ++ 0#64 by decide +kernel, l0] at S1
  rw [show sprite 192 8 63 64 false = 9223372036854775809#64 ++ 0#64 by decide +kernel, l1] at S2
  rw [show sprite 192 8 63 64 true = 1#64 ++ 0#64 by decide +kernel, l0] at S3
  have G1 := Lib.hid fun w => get_any (1#64 ++ 0#64) 63 w (by decide) (by decide)
  rw [show pxi (1#64 ++ 0#64) 63 = true by decide +kernel, l0] at G1
  have G2 := Lib.hid fun w => get_any (1#64 ++ 0#64) 62 w (by decide) (by decide)
  rw [show pxi (1#64 ++ 0#64) 62 = false by decide +kernel, l0] at G2
  have H1 := Lib.hid fun w => shift_any (1#64 ++ 0#64) 1 64 w (by decide) (by decide) (by decide) (by decide)
  rw [show shift (1#64 ++ 0#64) 1 64 = 0#64 ++ 0#64 by decide +kernel, l0, l2] at H1
  have H2 := Lib.hid fun w => shift_any (1#64 ++ 0#64) 1 128 w (by decide) (by decide) (by decide) (by decide)
  rw [show shift (1#64 ++ 0#64) 1 128 = 0#64 ++ 9223372036854775808#64 by decide +kernel, l0, l3] at H2
  have H3 := Lib.hid fun w => shift_any (1#64 ++ 0#64) (-63) 64 w (by decide) (by decide) (by decide) (by decide)
  rw [show shift (1#64 ++ 0#64) (-63) 64 = 9223372036854775808#64 ++ 0#64 by decide +kernel, l0, l4] at H3
  have C1 := Lib.hid fun w => count_any (9223372036854775809#64 ++ 0#64) w
  rw [show cnt (9223372036854775809#64 ++ 0#64) = 2 by decide +kernel, l1] at C1
  have E1 := Lib.hid fun w => empty_any (0#64 ++ 0#64) w
  rw [show decide ((0#64 ++ 0#64 : BitVec 128) = 0#128) = true by decide +kernel, l2] at E1
  clear l0 l1 l2 l3 l4
  go_enter Try.func8, Try.ntmps8
  go_wp2_with fail
  refine (S1.out _).mono ?_
  rintro e w1 ⟨rfl, b1⟩
  have BB := Lib.hid b1
  clear b1
  go_wp2_with fail
  have A1 : Box w1.heap.size 1#64 0#64 (w1.alloc (.cells #[.int .u64 1, .int .u64 0] 27)) := Box.new w1 1#64 0#64 27
  have BB := Lib.hid (BB.out.alloc BB.out.size (.cells #[.int .u64 1, .int .u64 0] 27))
  obtain ⟨a, ha⟩ : ∃ a, a = w1.heap.size := ⟨_, rfl⟩
  generalize w1.alloc (.cells #[.int .u64 1, .int .u64 0] 27) = w2 at *
  rw [← ha] at A1 ⊢
  have A1 := Lib.hid A1
  clear ha
  refine (S2.out _).mono ?_
  rintro e w3 ⟨rfl, b1⟩
  have A1 := Lib.hid (A1.out.step b1)
  have BB := Lib.hid (BB.out.trans (b1.mono BB.out.size))
  clear b1
  go_wp2_with fail
  have A2 : Box w3.heap.size 9223372036854775809#64 0#64 (w3.alloc (.cells #[.int .u64 9223372036854775809, .int .u64 0] 27)) := Box.new w3 9223372036854775809#64 0#64 27
  have A1 := Lib.hid (A1.out.alloc (.cells #[.int .u64 9223372036854775809, .int .u64 0] 27))
  have BB := Lib.hid (BB.out.alloc BB.out.size (.cells #[.int .u64 9223372036854775809, .int .u64 0] 27))
  obtain ⟨b, hb⟩ : ∃ a, a = w3.heap.size := ⟨_, rfl⟩
  generalize w3.alloc (.cells #[.int .u64 9223372036854775809, .int .u64 0] 27) = w4 at *
  rw [← hb] at A2 ⊢
  have A2 := Lib.hid A2
  clear hb
  refine (S3.out _).mono ?_
  rintro e w5 ⟨rfl, b1⟩
  have A1 := Lib.hid (A1.out.step b1)
  have A2 := Lib.hid (A2.out.step b1)
  have BB := Lib.hid (BB.out.trans (b1.mono BB.out.size))
  clear b1
  obtain ⟨x1, x2, x3, x4, x5⟩ := A1.out
  obtain ⟨y1, y2, y3, y4, y5⟩ := A2.out
  go_wp2_with fail
  have A1 := Lib.hid (A1.out.alloc (.cells #[.int .u64 1, .int .u64 0] 27))
  have A2 := Lib.hid (A2.out.alloc (.cells #[.int .u64 1, .int .u64 0] 27))
  have BB := Lib.hid (BB.out.alloc BB.out.size (.cells #[.int .u64 1, .int .u64 0] 27))
  refine (G1.out _).mono ?_
  rintro e w6 ⟨rfl, b1⟩
  have A1 := Lib.hid (A1.out.step b1)
  have A2 := Lib.hid (A2.out.step b1)
  have BB := Lib.hid (BB.out.trans (b1.mono BB.out.size))
  clear b1 x1 x2 x3 x4 x5 y1 y2 y3 y4 y5
  obtain ⟨x1, x2, x3, x4, x5⟩ := A1.out
  obtain ⟨y1, y2, y3, y4, y5⟩ := A2.out
  go_wp2_with fail
  refine (G2.out _).mono ?_
  rintro e w6 ⟨rfl, b1⟩
  have A1 := Lib.hid (A1.out.step b1)
  have A2 := Lib.hid (A2.out.step b1)
  have BB := Lib.hid (BB.out.trans (b1.mono BB.out.size))
  clear b1 x1 x2 x3 x4 x5 y1 y2 y3 y4 y5
  obtain ⟨x1, x2, x3, x4, x5⟩ := A1.out
  obtain ⟨y1, y2, y3, y4, y5⟩ := A2.out
  go_wp2_with fail
  refine (H1.out _).mono ?_
  rintro e w6 ⟨rfl, b1⟩
  have A1 := Lib.hid (A1.out.step b1)
  have A2 := Lib.hid (A2.out.step b1)
  have BB := Lib.hid (BB.out.trans (b1.mono BB.out.size))
  clear b1 x1 x2 x3 x4 x5 y1 y2 y3 y4 y5
  obtain ⟨x1, x2, x3, x4, x5⟩ := A1.out
  obtain ⟨y1, y2, y3, y4, y5⟩ := A2.out
  go_wp2_with fail
  refine (H2.out _).mono ?_
  rintro e w6 ⟨rfl, b1⟩
  have A1 := Lib.hid (A1.out.step b1)
  have A2 := Lib.hid (A2.out.step b1)
  have BB := Lib.hid (BB.out.trans (b1.mono BB.out.size))
  clear b1 x1 x2 x3 x4 x5 y1 y2 y3 y4 y5
  obtain ⟨x1, x2, x3, x4, x5⟩ := A1.out
  obtain ⟨y1, y2, y3, y4, y5⟩ := A2.out
  go_wp2_with fail
  refine (H3.out _).mono ?_
  rintro e w6 ⟨rfl, b1⟩
  have A1 := Lib.hid (A1.out.step b1)
  have A2 := Lib.hid (A2.out.step b1)
  have BB := Lib.hid (BB.out.trans (b1.mono BB.out.size))
  clear b1 x1 x2 x3 x4 x5 y1 y2 y3 y4 y5
  obtain ⟨x1, x2, x3, x4, x5⟩ := A1.out
  obtain ⟨y1, y2, y3, y4, y5⟩ := A2.out
  go_wp2_with fail
  refine (C1.out _).mono ?_
  rintro e w6 ⟨rfl, b1⟩
  have A1 := Lib.hid (A1.out.step b1)
  have A2 := Lib.hid (A2.out.step b1)
  have BB := Lib.hid (BB.out.trans (b1.mono BB.out.size))
  clear b1 x1 x2 x3 x4 x5 y1 y2 y3 y4 y5
  obtain ⟨x1, x2, x3, x4, x5⟩ := A1.out
  obtain ⟨y1, y2, y3, y4, y5⟩ := A2.out
  go_wp2_with fail
  refine (E1.out _).mono ?_
  rintro e w6 ⟨rfl, b1⟩
  have A1 := Lib.hid (A1.out.step b1)
  have A2 := Lib.hid (A2.out.step b1)
  have BB := Lib.hid (BB.out.trans (b1.mono BB.out.size))
  clear b1 x1 x2 x3 x4 x5 y1 y2 y3 y4 y5
  obtain ⟨x1, x2, x3, x4, x5⟩ := A1.out
  obtain ⟨y1, y2, y3, y4, y5⟩ := A2.out
  go_wp2
  go_ret
  exact ⟨rfl, BB.out⟩
end Go.Proofs.Ytfajhppnfnapfaa
