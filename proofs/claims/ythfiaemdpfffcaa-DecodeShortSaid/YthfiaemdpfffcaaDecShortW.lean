/- The walk of DecodeShort. -/
import Derived.Test.YthfiaemdpfffcaaDecAwake
import Derived.Test.YthfiaemdpfffcaaDecLaw
import Derived.Test.YthfiaemdpfffcaaPlain
import Derived.Deep.Cut
import Derived.IntWalk
namespace Go.Proofs.Ythfiaemdpfffcaa
open Go.RowKit Num Dec
set_option linter.unusedVariables false
set_option linter.unusedSimpArgs false

set_option maxRecDepth 100000 in
set_option maxHeartbeats 8000000 in
theorem decodeShort_walk (b0 b1 b2 b3 : Nat) (c d l : Int) (h0 : b0 < 256) (h1 : b1 < 256) (h2 : b2 < 256) (h3 : b3 < 256) (wc : (Lit.int .u8 c).wf = true) (wd : (Lit.int .u8 d).wf = true) (wl : (Lit.int .u8 l).wf = true) (w : World) :
    Calls Try.prog 5 #[b4V b0 b1 b2 b3, .int .u8 c, .int .u8 d, .int .u8 l] w fun e w' => e = .returned (.bool true) ∧ Below w.heap.size w w' := by
  obtain ⟨u0, u1⟩ := bd_u8 wl
  obtain ⟨k, hk⟩ : ∃ k, 1 + l % 3 = k := ⟨_, rfl⟩
  have hk1 : 1 ≤ k := by omega
  have hk3 : k ≤ 3 := by omega
  have wk : (Lit.int .i64 k).wf = true := by simp [Lit.wf, IntKind.min, IntKind.max, IntKind.signed, IntKind.bits]; omega
  obtain ⟨c0, c1⟩ := bd_u8 wc
  obtain ⟨d0, d1⟩ := bd_u8 wd
  obtain ⟨c, rfl⟩ := Int.eq_ofNat_of_zero_le c0
  obtain ⟨d, rfl⟩ := Int.eq_ofNat_of_zero_le d0
  have DT := dec_tail b0 b1 b2 b3 c d k h0 h1
  obtain ⟨i, hi⟩ : ∃ i, dec b0 b1 b2 b3 k = i := ⟨_, rfl⟩
  obtain ⟨i2, hi2⟩ : ∃ i2, dec b0 b1 c d k = i2 := ⟨_, rfl⟩
  have D1 := fun w => decode_iv b0 b1 b2 b3 k i w h0 h1 h2 h3 wk hi
  have D2 := fun w => decode_iv b0 b1 c d k i2 w h0 h1 (by omega) (by omega) wk hi2
  have S1 := fun w => skip_any b0 b1 k w
  rw [hi, hi2] at DT
  generalize skl b0 b1 k = sk at *
  clear h0 h1 h2 h3 wl wc wd wk hi hi2
  rcases DT with DT | DT
  · skip
    obtain ⟨io, ix, iy, iN, inn, ia, il⟩ := i
    obtain ⟨jo, jx, jy, jN, jnn, ja, jl⟩ := i2
    obtain ⟨e1, e2, e3, e4⟩ := DT
    simp only at e1 e2 e3 e4 D1 D2
    subst e1 e2 e3 e4
    have D1 := Lib.hid D1
    have D2 := Lib.hid D2
    have S1 := Lib.hid S1
    unfold b4V
    go_enter Try.func5, Try.ntmps5
    go_wp2_with fail
    have C0 := Lib.hid (Blk.new w 22 #[.int .u8 (b0 : Int), .int .u8 (b1 : Int), .int .u8 (b2 : Int), .int .u8 (b3 : Int)])
    have BV := Lib.hid (below_new' w (.cells #[.int .u8 (b0 : Int), .int .u8 (b1 : Int), .int .u8 (b2 : Int), .int .u8 (b3 : Int)] 22))
    refine (awake14 _).mono ?_
    rintro e w1 ⟨rfl, ba⟩
    have C1 := Lib.hid (C0.out.step ba)
    have BV := Lib.hid (BV.out.trans (ba.mono (by simp)))
    clear ba C0
    have c0 := C1.out.cell 0
    have c1 := C1.out.cell 1
    have c2 := C1.out.cell 2
    have c3 := C1.out.cell 3
    simp only [List.getElem?_toArray, List.getElem?_cons_succ, List.getElem?_cons_zero] at c0 c1 c2 c3
    have hw1 : w.heap.size < w1.heap.size := C1.out.lt
    go_wp2_with fail
    try rw [hk]
    refine (D1.out _).mono ?_
    rintro e w2 ⟨rfl, b1'⟩
    have C1 := Lib.hid (C1.out.step b1')
    have BV := Lib.hid (BV.out.trans (b1'.mono BV.out.size))
    have X2 := Lib.hid (Blk.new w2 25 #[.int .i64 48, .int .i64 ix, .int .i64 iy, .int .i64 iN, .int .i64 inn, .int .i64 ia, .int .i64 il])
    have C2 := Lib.hid (C1.out.alloc (.cells #[.int .i64 48, .int .i64 ix, .int .i64 iy, .int .i64 iN, .int .i64 inn, .int .i64 ia, .int .i64 il] 25))
    have BV := Lib.hid (BV.out.alloc BV.out.size (.cells #[.int .i64 48, .int .i64 ix, .int .i64 iy, .int .i64 iN, .int .i64 inn, .int .i64 ia, .int .i64 il] 25))
    have hw2 : w.heap.size < w2.heap.size := C1.out.lt
    clear b1' c0 c1 c2 c3 hw1
    have c0 := C1.out.cell 0
    have c1 := C1.out.cell 1
    have c2 := C1.out.cell 2
    have c3 := C1.out.cell 3
    simp only [List.getElem?_toArray, List.getElem?_cons_succ, List.getElem?_cons_zero] at c0 c1 c2 c3
    go_wp2_with fail
    refine (D2.out _).mono ?_
    rintro e w3 ⟨rfl, b1'⟩
    have C3 := Lib.hid (C2.out.step b1')
    have X3 := Lib.hid (X2.out.step b1')
    have BV := Lib.hid (BV.out.trans (b1'.mono BV.out.size))
    clear b1' c0 c1 c2 c3 hw2 C2 X2 C1
    have Y4 := Lib.hid (Blk.new w3 25 #[.int .i64 48, .int .i64 jx, .int .i64 jy, .int .i64 jN, .int .i64 jnn, .int .i64 ((c : Int) * 256 + (d : Int)), .int .i64 jl])
    have C4 := Lib.hid (C3.out.alloc (.cells #[.int .i64 48, .int .i64 jx, .int .i64 jy, .int .i64 jN, .int .i64 jnn, .int .i64 ((c : Int) * 256 + (d : Int)), .int .i64 jl] 25))
    have X4 := Lib.hid (X3.out.alloc (.cells #[.int .i64 48, .int .i64 jx, .int .i64 jy, .int .i64 jN, .int .i64 jnn, .int .i64 ((c : Int) * 256 + (d : Int)), .int .i64 jl] 25))
    have BV := Lib.hid (BV.out.alloc BV.out.size (.cells #[.int .i64 48, .int .i64 jx, .int .i64 jy, .int .i64 jN, .int .i64 jnn, .int .i64 ((c : Int) * 256 + (d : Int)), .int .i64 jl] 25))
    obtain ⟨g2, hg2⟩ : ∃ g, w2.heap.size = g := ⟨_, rfl⟩
    rw [hg2] at X3 X4 ⊢
    have hg3 : g2 < w3.heap.size := X3.out.lt
    have xo := X3.out.cell 0
    simp only [List.getElem?_toArray, List.getElem?_cons_succ, List.getElem?_cons_zero] at xo
    clear C3 X3 hg2
    go_upto_region 7 with fail
    clear xo hg3
    obtain ⟨g3, hg3⟩ : ∃ g, w3.heap.size = g := ⟨_, rfl⟩
    rw [hg3] at Y4 ⊢
    generalize World.alloc _ _ = w4 at C4 X4 Y4 BV ⊢
    clear hg3
    have k0 := Calm.cell ((C4.out.cell 0).trans rfl) C4.out.lt
    have k1 := Calm.cell ((C4.out.cell 1).trans rfl) C4.out.lt
    have k2 := Calm.cell ((C4.out.cell 2).trans rfl) C4.out.lt
    have k3 := Calm.cell ((C4.out.cell 3).trans rfl) C4.out.lt
    have x0 := Calm.cell ((X4.out.cell 0).trans rfl) X4.out.lt
    have y0 := Calm.cell ((Y4.out.cell 0).trans rfl) Y4.out.lt
    have x1 := Calm.cell ((X4.out.cell 1).trans rfl) X4.out.lt
    have y1 := Calm.cell ((Y4.out.cell 1).trans rfl) Y4.out.lt
    have x2 := Calm.cell ((X4.out.cell 2).trans rfl) X4.out.lt
    have y2 := Calm.cell ((Y4.out.cell 2).trans rfl) Y4.out.lt
    have x3 := Calm.cell ((X4.out.cell 3).trans rfl) X4.out.lt
    have y3 := Calm.cell ((Y4.out.cell 3).trans rfl) Y4.out.lt
    have x4 := Calm.cell ((X4.out.cell 4).trans rfl) X4.out.lt
    have y4 := Calm.cell ((Y4.out.cell 4).trans rfl) Y4.out.lt
    have x5 := Calm.cell ((X4.out.cell 5).trans rfl) X4.out.lt
    have y5 := Calm.cell ((Y4.out.cell 5).trans rfl) Y4.out.lt
    have x6 := Calm.cell ((X4.out.cell 6).trans rfl) X4.out.lt
    have y6 := Calm.cell ((Y4.out.cell 6).trans rfl) Y4.out.lt
    refine calm_region (by kernel_rfl) (by kernel_rfl) ?_
    repeat (go_big_quiet_step ((go_at_call 11; exact calm_same (S1.out _))))
    refine wpQuiet_nil ?_
    intro _ hw'
    obtain ⟨x, rfl⟩ := hw'
    have hb := x.below
    generalize x.w = wc at *
    have BB := Lib.hid (BV.out.trans (hb.mono BV.out.size))
    go_wp2_with fail
    go_ret
    exact ⟨by simp, BB.out⟩
  · skip
    obtain ⟨e1, e2, e3⟩ := DT
    subst e2
    obtain ⟨io, ix, iy, iN, inn, ia, il⟩ := i2
    simp only at e1 e3 D1 D2
    subst e3
    have n48 : (io == 48) = false := by simpa using e1
    clear e1
    have D1 := Lib.hid D1
    have D2 := Lib.hid D2
    have S1 := Lib.hid S1
    unfold b4V
    go_enter Try.func5, Try.ntmps5
    go_wp2_with fail
    have C0 := Lib.hid (Blk.new w 22 #[.int .u8 (b0 : Int), .int .u8 (b1 : Int), .int .u8 (b2 : Int), .int .u8 (b3 : Int)])
    have BV := Lib.hid (below_new' w (.cells #[.int .u8 (b0 : Int), .int .u8 (b1 : Int), .int .u8 (b2 : Int), .int .u8 (b3 : Int)] 22))
    refine (awake14 _).mono ?_
    rintro e w1 ⟨rfl, ba⟩
    have C1 := Lib.hid (C0.out.step ba)
    have BV := Lib.hid (BV.out.trans (ba.mono (by simp)))
    clear ba C0
    have c0 := C1.out.cell 0
    have c1 := C1.out.cell 1
    have c2 := C1.out.cell 2
    have c3 := C1.out.cell 3
    simp only [List.getElem?_toArray, List.getElem?_cons_succ, List.getElem?_cons_zero] at c0 c1 c2 c3
    have hw1 : w.heap.size < w1.heap.size := C1.out.lt
    go_wp2_with fail
    try rw [hk]
    refine (D1.out _).mono ?_
    rintro e w2 ⟨rfl, b1'⟩
    have C1 := Lib.hid (C1.out.step b1')
    have BV := Lib.hid (BV.out.trans (b1'.mono BV.out.size))
    have X2 := Lib.hid (Blk.new w2 25 #[.int .i64 io, .int .i64 ix, .int .i64 iy, .int .i64 iN, .int .i64 inn, .int .i64 ia, .int .i64 il])
    have C2 := Lib.hid (C1.out.alloc (.cells #[.int .i64 io, .int .i64 ix, .int .i64 iy, .int .i64 iN, .int .i64 inn, .int .i64 ia, .int .i64 il] 25))
    have BV := Lib.hid (BV.out.alloc BV.out.size (.cells #[.int .i64 io, .int .i64 ix, .int .i64 iy, .int .i64 iN, .int .i64 inn, .int .i64 ia, .int .i64 il] 25))
    have hw2 : w.heap.size < w2.heap.size := C1.out.lt
    clear b1' c0 c1 c2 c3 hw1
    have c0 := C1.out.cell 0
    have c1 := C1.out.cell 1
    have c2 := C1.out.cell 2
    have c3 := C1.out.cell 3
    simp only [List.getElem?_toArray, List.getElem?_cons_succ, List.getElem?_cons_zero] at c0 c1 c2 c3
    go_wp2_with fail
    refine (D2.out _).mono ?_
    rintro e w3 ⟨rfl, b1'⟩
    have C3 := Lib.hid (C2.out.step b1')
    have X3 := Lib.hid (X2.out.step b1')
    have BV := Lib.hid (BV.out.trans (b1'.mono BV.out.size))
    clear b1' c0 c1 c2 c3 hw2 C2 X2 C1
    have Y4 := Lib.hid (Blk.new w3 25 #[.int .i64 io, .int .i64 ix, .int .i64 iy, .int .i64 iN, .int .i64 inn, .int .i64 ia, .int .i64 il])
    have C4 := Lib.hid (C3.out.alloc (.cells #[.int .i64 io, .int .i64 ix, .int .i64 iy, .int .i64 iN, .int .i64 inn, .int .i64 ia, .int .i64 il] 25))
    have X4 := Lib.hid (X3.out.alloc (.cells #[.int .i64 io, .int .i64 ix, .int .i64 iy, .int .i64 iN, .int .i64 inn, .int .i64 ia, .int .i64 il] 25))
    have BV := Lib.hid (BV.out.alloc BV.out.size (.cells #[.int .i64 io, .int .i64 ix, .int .i64 iy, .int .i64 iN, .int .i64 inn, .int .i64 ia, .int .i64 il] 25))
    obtain ⟨g2, hg2⟩ : ∃ g, w2.heap.size = g := ⟨_, rfl⟩
    rw [hg2] at X3 X4 ⊢
    have hg3 : g2 < w3.heap.size := X3.out.lt
    have xo := X3.out.cell 0
    simp only [List.getElem?_toArray, List.getElem?_cons_succ, List.getElem?_cons_zero] at xo
    clear C3 X3 hg2
    go_upto_region 8 with fail
    clear xo hg3
    obtain ⟨g3, hg3⟩ : ∃ g, w3.heap.size = g := ⟨_, rfl⟩
    rw [hg3] at Y4 ⊢
    generalize World.alloc _ _ = w4 at C4 X4 Y4 BV ⊢
    clear hg3
    have k0 := Calm.cell ((C4.out.cell 0).trans rfl) C4.out.lt
    have k1 := Calm.cell ((C4.out.cell 1).trans rfl) C4.out.lt
    have k2 := Calm.cell ((C4.out.cell 2).trans rfl) C4.out.lt
    have k3 := Calm.cell ((C4.out.cell 3).trans rfl) C4.out.lt
    have x0 := Calm.cell ((X4.out.cell 0).trans rfl) X4.out.lt
    have y0 := Calm.cell ((Y4.out.cell 0).trans rfl) Y4.out.lt
    have x1 := Calm.cell ((X4.out.cell 1).trans rfl) X4.out.lt
    have y1 := Calm.cell ((Y4.out.cell 1).trans rfl) Y4.out.lt
    have x2 := Calm.cell ((X4.out.cell 2).trans rfl) X4.out.lt
    have y2 := Calm.cell ((Y4.out.cell 2).trans rfl) Y4.out.lt
    have x3 := Calm.cell ((X4.out.cell 3).trans rfl) X4.out.lt
    have y3 := Calm.cell ((Y4.out.cell 3).trans rfl) Y4.out.lt
    have x4 := Calm.cell ((X4.out.cell 4).trans rfl) X4.out.lt
    have y4 := Calm.cell ((Y4.out.cell 4).trans rfl) Y4.out.lt
    have x5 := Calm.cell ((X4.out.cell 5).trans rfl) X4.out.lt
    have y5 := Calm.cell ((Y4.out.cell 5).trans rfl) Y4.out.lt
    have x6 := Calm.cell ((X4.out.cell 6).trans rfl) X4.out.lt
    have y6 := Calm.cell ((Y4.out.cell 6).trans rfl) Y4.out.lt
    refine calm_region (by kernel_rfl) (by kernel_rfl) ?_
    repeat (go_big_quiet_step ((go_at_call 11; exact calm_same (S1.out _))))
    refine wpQuiet_nil ?_
    intro _ hw'
    obtain ⟨x, rfl⟩ := hw'
    have hb := x.below
    generalize x.w = wc at *
    have BB := Lib.hid (BV.out.trans (hb.mono BV.out.size))
    go_wp2_with fail
    go_ret
    exact ⟨by simp, BB.out⟩
end Go.Proofs.Ythfiaemdpfffcaa
