/- The walk of DecodeFields, part 3. -/
import Derived.Test.YthfiaemdpfffcaaDecAwake
import Derived.Test.YthfiaemdpfffcaaDecLaw
import Derived.Test.YthfiaemdpfffcaaPlain
import Derived.Deep.Cut
import Derived.IntWalk
namespace Go.Proofs.Ythfiaemdpfffcaa
open Go.RowKit Num Dec
set_option linter.unusedVariables false
set_option linter.unusedSimpArgs false

set_option maxRecDepth 100000 in
set_option maxHeartbeats 8000000 in
theorem fieldsXNN (b0 b1 b2 b3 o : Nat) (l il : Int) (h0 : b0 < 256) (h1 : b1 < 256) (h2 : b2 < 256) (h3 : b3 < 256) (wl : (Lit.int .u8 l).wf = true) (ho : ¬ (o : Int) = 0) (h49 : ((o : Int) == 49) = false) (h48 : ((o : Int) == 48) = false) (w : World)
    (D1 : Hid (∀ w : World, Calls Try.prog 9 #[.agg #[.int .u8 (b0 : Int), .int .u8 (b1 : Int), .int .u8 (b2 : Int), .int .u8 (b3 : Int)], .int .i64 (1 + l % 3)] w fun e w' => e = .returned (.agg #[.int .i64 (o : Int), .int .i64 ((b0 : Int) % 16), .int .i64 0, .int .i64 0, .int .i64 (b1 : Int), .int .i64 0, .int .i64 il]) ∧ Below w.heap.size w w')) :
    Calls Try.prog 7 #[b4V b0 b1 b2 b3, .int .u8 l] w fun e w' => e = .returned (.bool true) ∧ Below w.heap.size w w' := by
  obtain ⟨u0, u1⟩ := bd_u8 wl
  obtain ⟨k, hk⟩ : ∃ k, 1 + l % 3 = k := ⟨_, rfl⟩
  rw [hk] at D1
  have n0 : ((o : Int) == 0) = false := by simpa using ho
  clear ho wl
  by_cases ht0 : ((b0 : Int) % 16) = 0
  · have t0 : (((b0 : Int) % 16) == 0) = true := by simpa using ht0
    clear ht0
    by_cases ht1 : (b1 : Int) = 0
    · have t1 : ((b1 : Int) == 0) = true := by simpa using ht1
      clear ht1
      unfold b4V
      go_enter Try.func7, Try.ntmps7
      go_wp2_with fail
      have C0 := Lib.hid (Blk.new w 22 #[.int .u8 (b0 : Int), .int .u8 (b1 : Int), .int .u8 (b2 : Int), .int .u8 (b3 : Int)])
      have BV := Lib.hid (below_new' w (.cells #[.int .u8 (b0 : Int), .int .u8 (b1 : Int), .int .u8 (b2 : Int), .int .u8 (b3 : Int)] 22))
      refine (awake14 _).mono ?_
      rintro e w1 ⟨rfl, ba⟩
      have C1 := Lib.hid (C0.out.step ba)
      have BV := Lib.hid (BV.out.trans (ba.mono (by simp)))
      clear ba C0
      have c0 := C1.out.cell 0
      have c1 := C1.out.cell 1
      have c2 := C1.out.cell 2
      have c3 := C1.out.cell 3
      simp only [List.getElem?_toArray, List.getElem?_cons_succ, List.getElem?_cons_zero] at c0 c1 c2 c3
      have hw1 : w.heap.size < w1.heap.size := C1.out.lt
      go_wp2_with fail
      try rw [hk]
      refine (D1.out _).mono ?_
      rintro e w2 ⟨rfl, b1'⟩
      have C1 := Lib.hid (C1.out.step b1')
      have BV := Lib.hid (BV.out.trans (b1'.mono BV.out.size))
      have C2 := Lib.hid (C1.out.alloc (.cells #[.int .i64 (o : Int), .int .i64 ((b0 : Int) % 16), .int .i64 0, .int .i64 0, .int .i64 (b1 : Int), .int .i64 0, .int .i64 il] 25))
      have X2 := Lib.hid (Blk.new w2 25 #[.int .i64 (o : Int), .int .i64 ((b0 : Int) % 16), .int .i64 0, .int .i64 0, .int .i64 (b1 : Int), .int .i64 0, .int .i64 il])
      have BV := Lib.hid (BV.out.alloc BV.out.size (.cells #[.int .i64 (o : Int), .int .i64 ((b0 : Int) % 16), .int .i64 0, .int .i64 0, .int .i64 (b1 : Int), .int .i64 0, .int .i64 il] 25))
      have hw2 : w.heap.size < w2.heap.size := C1.out.lt
      clear b1' c0 c1 c2 c3 hw1
      have c0 := C1.out.cell 0
      have c1 := C1.out.cell 1
      have c2 := C1.out.cell 2
      have c3 := C1.out.cell 3
      simp only [List.getElem?_toArray, List.getElem?_cons_succ, List.getElem?_cons_zero] at c0 c1 c2 c3
      clear C1 hk
      go_upto_region 10 with fail
      generalize World.alloc _ _ = w4 at C2 X2 BV ⊢
      clear c0 c1 c2 c3 hw2
      have k0 := Calm.cell ((C2.out.cell 0).trans rfl) C2.out.lt
      have k1 := Calm.cell ((C2.out.cell 1).trans rfl) C2.out.lt
      have k2 := Calm.cell ((C2.out.cell 2).trans rfl) C2.out.lt
      have k3 := Calm.cell ((C2.out.cell 3).trans rfl) C2.out.lt
      have x0 := Calm.cell ((X2.out.cell 0).trans rfl) X2.out.lt
      have x1 := Calm.cell ((X2.out.cell 1).trans rfl) X2.out.lt
      have x2 := Calm.cell ((X2.out.cell 2).trans rfl) X2.out.lt
      have x3 := Calm.cell ((X2.out.cell 3).trans rfl) X2.out.lt
      have x4 := Calm.cell ((X2.out.cell 4).trans rfl) X2.out.lt
      have x5 := Calm.cell ((X2.out.cell 5).trans rfl) X2.out.lt
      refine calm_plain ?_
      simp only [List.append_eq, List.cons_append, List.nil_append]
      repeat (go_big_quiet_step (rfl))
      refine wpQuiet_nil ?_
      intro _ hw'
      obtain ⟨x, rfl⟩ := hw'
      have hb := x.below
      generalize x.w = wc at *
      have BB := Lib.hid (BV.out.trans (hb.mono BV.out.size))
      go_wp2_with fail
      go_ret
      exact ⟨by simp, BB.out⟩
    · have t1 : ((b1 : Int) == 0) = false := by simpa using ht1
      clear ht1
      unfold b4V
      go_enter Try.func7, Try.ntmps7
      go_wp2_with fail
      have C0 := Lib.hid (Blk.new w 22 #[.int .u8 (b0 : Int), .int .u8 (b1 : Int), .int .u8 (b2 : Int), .int .u8 (b3 : Int)])
      have BV := Lib.hid (below_new' w (.cells #[.int .u8 (b0 : Int), .int .u8 (b1 : Int), .int .u8 (b2 : Int), .int .u8 (b3 : Int)] 22))
      refine (awake14 _).mono ?_
      rintro e w1 ⟨rfl, ba⟩
      have C1 := Lib.hid (C0.out.step ba)
      have BV := Lib.hid (BV.out.trans (ba.mono (by simp)))
      clear ba C0
      have c0 := C1.out.cell 0
      have c1 := C1.out.cell 1
      have c2 := C1.out.cell 2
      have c3 := C1.out.cell 3
      simp only [List.getElem?_toArray, List.getElem?_cons_succ, List.getElem?_cons_zero] at c0 c1 c2 c3
      have hw1 : w.heap.size < w1.heap.size := C1.out.lt
      go_wp2_with fail
      try rw [hk]
      refine (D1.out _).mono ?_
      rintro e w2 ⟨rfl, b1'⟩
      have C1 := Lib.hid (C1.out.step b1')
      have BV := Lib.hid (BV.out.trans (b1'.mono BV.out.size))
      have C2 := Lib.hid (C1.out.alloc (.cells #[.int .i64 (o : Int), .int .i64 ((b0 : Int) % 16), .int .i64 0, .int .i64 0, .int .i64 (b1 : Int), .int .i64 0, .int .i64 il] 25))
      have X2 := Lib.hid (Blk.new w2 25 #[.int .i64 (o : Int), .int .i64 ((b0 : Int) % 16), .int .i64 0, .int .i64 0, .int .i64 (b1 : Int), .int .i64 0, .int .i64 il])
      have BV := Lib.hid (BV.out.alloc BV.out.size (.cells #[.int .i64 (o : Int), .int .i64 ((b0 : Int) % 16), .int .i64 0, .int .i64 0, .int .i64 (b1 : Int), .int .i64 0, .int .i64 il] 25))
      have hw2 : w.heap.size < w2.heap.size := C1.out.lt
      clear b1' c0 c1 c2 c3 hw1
      have c0 := C1.out.cell 0
      have c1 := C1.out.cell 1
      have c2 := C1.out.cell 2
      have c3 := C1.out.cell 3
      simp only [List.getElem?_toArray, List.getElem?_cons_succ, List.getElem?_cons_zero] at c0 c1 c2 c3
      clear C1 hk
      go_upto_region 10 with fail
      generalize World.alloc _ _ = w4 at C2 X2 BV ⊢
      clear c0 c1 c2 c3 hw2
      have k0 := Calm.cell ((C2.out.cell 0).trans rfl) C2.out.lt
      have k1 := Calm.cell ((C2.out.cell 1).trans rfl) C2.out.lt
      have k2 := Calm.cell ((C2.out.cell 2).trans rfl) C2.out.lt
      have k3 := Calm.cell ((C2.out.cell 3).trans rfl) C2.out.lt
      have x0 := Calm.cell ((X2.out.cell 0).trans rfl) X2.out.lt
      have x1 := Calm.cell ((X2.out.cell 1).trans rfl) X2.out.lt
      have x2 := Calm.cell ((X2.out.cell 2).trans rfl) X2.out.lt
      have x3 := Calm.cell ((X2.out.cell 3).trans rfl) X2.out.lt
      have x4 := Calm.cell ((X2.out.cell 4).trans rfl) X2.out.lt
      have x5 := Calm.cell ((X2.out.cell 5).trans rfl) X2.out.lt
      refine calm_plain ?_
      simp only [List.append_eq, List.cons_append, List.nil_append]
      repeat (go_big_quiet_step (rfl))
      refine wpQuiet_nil ?_
      intro _ hw'
      obtain ⟨x, rfl⟩ := hw'
      have hb := x.below
      generalize x.w = wc at *
      have BB := Lib.hid (BV.out.trans (hb.mono BV.out.size))
      go_wp2_with fail
      go_ret
      exact ⟨by simp, BB.out⟩
  · have t0 : (((b0 : Int) % 16) == 0) = false := by simpa using ht0
    clear ht0
    by_cases ht1 : (b1 : Int) = 0
    · have t1 : ((b1 : Int) == 0) = true := by simpa using ht1
      clear ht1
      unfold b4V
      go_enter Try.func7, Try.ntmps7
      go_wp2_with fail
      have C0 := Lib.hid (Blk.new w 22 #[.int .u8 (b0 : Int), .int .u8 (b1 : Int), .int .u8 (b2 : Int), .int .u8 (b3 : Int)])
      have BV := Lib.hid (below_new' w (.cells #[.int .u8 (b0 : Int), .int .u8 (b1 : Int), .int .u8 (b2 : Int), .int .u8 (b3 : Int)] 22))
      refine (awake14 _).mono ?_
      rintro e w1 ⟨rfl, ba⟩
      have C1 := Lib.hid (C0.out.step ba)
      have BV := Lib.hid (BV.out.trans (ba.mono (by simp)))
      clear ba C0
      have c0 := C1.out.cell 0
      have c1 := C1.out.cell 1
      have c2 := C1.out.cell 2
      have c3 := C1.out.cell 3
      simp only [List.getElem?_toArray, List.getElem?_cons_succ, List.getElem?_cons_zero] at c0 c1 c2 c3
      have hw1 : w.heap.size < w1.heap.size := C1.out.lt
      go_wp2_with fail
      try rw [hk]
      refine (D1.out _).mono ?_
      rintro e w2 ⟨rfl, b1'⟩
      have C1 := Lib.hid (C1.out.step b1')
      have BV := Lib.hid (BV.out.trans (b1'.mono BV.out.size))
      have C2 := Lib.hid (C1.out.alloc (.cells #[.int .i64 (o : Int), .int .i64 ((b0 : Int) % 16), .int .i64 0, .int .i64 0, .int .i64 (b1 : Int), .int .i64 0, .int .i64 il] 25))
      have X2 := Lib.hid (Blk.new w2 25 #[.int .i64 (o : Int), .int .i64 ((b0 : Int) % 16), .int .i64 0, .int .i64 0, .int .i64 (b1 : Int), .int .i64 0, .int .i64 il])
      have BV := Lib.hid (BV.out.alloc BV.out.size (.cells #[.int .i64 (o : Int), .int .i64 ((b0 : Int) % 16), .int .i64 0, .int .i64 0, .int .i64 (b1 : Int), .int .i64 0, .int .i64 il] 25))
      have hw2 : w.heap.size < w2.heap.size := C1.out.lt
      clear b1' c0 c1 c2 c3 hw1
      have c0 := C1.out.cell 0
      have c1 := C1.out.cell 1
      have c2 := C1.out.cell 2
      have c3 := C1.out.cell 3
      simp only [List.getElem?_toArray, List.getElem?_cons_succ, List.getElem?_cons_zero] at c0 c1 c2 c3
      clear C1 hk
      go_upto_region 10 with fail
      generalize World.alloc _ _ = w4 at C2 X2 BV ⊢
      clear c0 c1 c2 c3 hw2
      have k0 := Calm.cell ((C2.out.cell 0).trans rfl) C2.out.lt
      have k1 := Calm.cell ((C2.out.cell 1).trans rfl) C2.out.lt
      have k2 := Calm.cell ((C2.out.cell 2).trans rfl) C2.out.lt
      have k3 := Calm.cell ((C2.out.cell 3).trans rfl) C2.out.lt
      have x0 := Calm.cell ((X2.out.cell 0).trans rfl) X2.out.lt
      have x1 := Calm.cell ((X2.out.cell 1).trans rfl) X2.out.lt
      have x2 := Calm.cell ((X2.out.cell 2).trans rfl) X2.out.lt
      have x3 := Calm.cell ((X2.out.cell 3).trans rfl) X2.out.lt
      have x4 := Calm.cell ((X2.out.cell 4).trans rfl) X2.out.lt
      have x5 := Calm.cell ((X2.out.cell 5).trans rfl) X2.out.lt
      refine calm_plain ?_
      simp only [List.append_eq, List.cons_append, List.nil_append]
      repeat (go_big_quiet_step (rfl))
      refine wpQuiet_nil ?_
      intro _ hw'
      obtain ⟨x, rfl⟩ := hw'
      have hb := x.below
      generalize x.w = wc at *
      have BB := Lib.hid (BV.out.trans (hb.mono BV.out.size))
      go_wp2_with fail
      go_ret
      exact ⟨by simp, BB.out⟩
    · have t1 : ((b1 : Int) == 0) = false := by simpa using ht1
      clear ht1
      unfold b4V
      go_enter Try.func7, Try.ntmps7
      go_wp2_with fail
      have C0 := Lib.hid (Blk.new w 22 #[.int .u8 (b0 : Int), .int .u8 (b1 : Int), .int .u8 (b2 : Int), .int .u8 (b3 : Int)])
      have BV := Lib.hid (below_new' w (.cells #[.int .u8 (b0 : Int), .int .u8 (b1 : Int), .int .u8 (b2 : Int), .int .u8 (b3 : Int)] 22))
      refine (awake14 _).mono ?_
      rintro e w1 ⟨rfl, ba⟩
      have C1 := Lib.hid (C0.out.step ba)
      have BV := Lib.hid (BV.out.trans (ba.mono (by simp)))
      clear ba C0
      have c0 := C1.out.cell 0
      have c1 := C1.out.cell 1
      have c2 := C1.out.cell 2
      have c3 := C1.out.cell 3
      simp only [List.getElem?_toArray, List.getElem?_cons_succ, List.getElem?_cons_zero] at c0 c1 c2 c3
      have hw1 : w.heap.size < w1.heap.size := C1.out.lt
      go_wp2_with fail
      try rw [hk]
      refine (D1.out _).mono ?_
      rintro e w2 ⟨rfl, b1'⟩
      have C1 := Lib.hid (C1.out.step b1')
      have BV := Lib.hid (BV.out.trans (b1'.mono BV.out.size))
      have C2 := Lib.hid (C1.out.alloc (.cells #[.int .i64 (o : Int), .int .i64 ((b0 : Int) % 16), .int .i64 0, .int .i64 0, .int .i64 (b1 : Int), .int .i64 0, .int .i64 il] 25))
      have X2 := Lib.hid (Blk.new w2 25 #[.int .i64 (o : Int), .int .i64 ((b0 : Int) % 16), .int .i64 0, .int .i64 0, .int .i64 (b1 : Int), .int .i64 0, .int .i64 il])
      have BV := Lib.hid (BV.out.alloc BV.out.size (.cells #[.int .i64 (o : Int), .int .i64 ((b0 : Int) % 16), .int .i64 0, .int .i64 0, .int .i64 (b1 : Int), .int .i64 0, .int .i64 il] 25))
      have hw2 : w.heap.size < w2.heap.size := C1.out.lt
      clear b1' c0 c1 c2 c3 hw1
      have c0 := C1.out.cell 0
      have c1 := C1.out.cell 1
      have c2 := C1.out.cell 2
      have c3 := C1.out.cell 3
      simp only [List.getElem?_toArray, List.getElem?_cons_succ, List.getElem?_cons_zero] at c0 c1 c2 c3
      clear C1 hk
      go_upto_region 10 with fail
      generalize World.alloc _ _ = w4 at C2 X2 BV ⊢
      clear c0 c1 c2 c3 hw2
      have k0 := Calm.cell ((C2.out.cell 0).trans rfl) C2.out.lt
      have k1 := Calm.cell ((C2.out.cell 1).trans rfl) C2.out.lt
      have k2 := Calm.cell ((C2.out.cell 2).trans rfl) C2.out.lt
      have k3 := Calm.cell ((C2.out.cell 3).trans rfl) C2.out.lt
      have x0 := Calm.cell ((X2.out.cell 0).trans rfl) X2.out.lt
      have x1 := Calm.cell ((X2.out.cell 1).trans rfl) X2.out.lt
      have x2 := Calm.cell ((X2.out.cell 2).trans rfl) X2.out.lt
      have x3 := Calm.cell ((X2.out.cell 3).trans rfl) X2.out.lt
      have x4 := Calm.cell ((X2.out.cell 4).trans rfl) X2.out.lt
      have x5 := Calm.cell ((X2.out.cell 5).trans rfl) X2.out.lt
      refine calm_plain ?_
      simp only [List.append_eq, List.cons_append, List.nil_append]
      repeat (go_big_quiet_step (rfl))
      refine wpQuiet_nil ?_
      intro _ hw'
      obtain ⟨x, rfl⟩ := hw'
      have hb := x.below
      generalize x.w = wc at *
      have BB := Lib.hid (BV.out.trans (hb.mono BV.out.size))
      go_wp2_with fail
      go_ret
      exact ⟨by simp, BB.out⟩

set_option maxRecDepth 100000 in
set_option maxHeartbeats 8000000 in
theorem fieldsXAddr (b0 b1 b2 b3 o : Nat) (l il : Int) (h0 : b0 < 256) (h1 : b1 < 256) (h2 : b2 < 256) (h3 : b3 < 256) (wl : (Lit.int .u8 l).wf = true) (ho : ¬ (o : Int) = 0) (h49 : ((o : Int) == 49) = false) (h48 : ((o : Int) == 48) = false) (w : World)
    (D1 : Hid (∀ w : World, Calls Try.prog 9 #[.agg #[.int .u8 (b0 : Int), .int .u8 (b1 : Int), .int .u8 (b2 : Int), .int .u8 (b3 : Int)], .int .i64 (1 + l % 3)] w fun e w' => e = .returned (.agg #[.int .i64 (o : Int), .int .i64 ((b0 : Int) % 16), .int .i64 0, .int .i64 0, .int .i64 0, .int .i64 ((b0 : Int) % 16 * 256 + (b1 : Int)), .int .i64 il]) ∧ Below w.heap.size w w')) :
    Calls Try.prog 7 #[b4V b0 b1 b2 b3, .int .u8 l] w fun e w' => e = .returned (.bool true) ∧ Below w.heap.size w w' := by
  obtain ⟨u0, u1⟩ := bd_u8 wl
  obtain ⟨k, hk⟩ : ∃ k, 1 + l % 3 = k := ⟨_, rfl⟩
  rw [hk] at D1
  have n0 : ((o : Int) == 0) = false := by simpa using ho
  clear ho wl
  by_cases ht0 : ((b0 : Int) % 16) = 0
  · have t0 : (((b0 : Int) % 16) == 0) = true := by simpa using ht0
    clear ht0
    by_cases ht1 : ((b0 : Int) % 16 * 256 + (b1 : Int)) = 0
    · have t1 : (((b0 : Int) % 16 * 256 + (b1 : Int)) == 0) = true := by simpa using ht1
      clear ht1
      unfold b4V
      go_enter Try.func7, Try.ntmps7
      go_wp2_with fail
      have C0 := Lib.hid (Blk.new w 22 #[.int .u8 (b0 : Int), .int .u8 (b1 : Int), .int .u8 (b2 : Int), .int .u8 (b3 : Int)])
      have BV := Lib.hid (below_new' w (.cells #[.int .u8 (b0 : Int), .int .u8 (b1 : Int), .int .u8 (b2 : Int), .int .u8 (b3 : Int)] 22))
      refine (awake14 _).mono ?_
      rintro e w1 ⟨rfl, ba⟩
      have C1 := Lib.hid (C0.out.step ba)
      have BV := Lib.hid (BV.out.trans (ba.mono (by simp)))
      clear ba C0
      have c0 := C1.out.cell 0
      have c1 := C1.out.cell 1
      have c2 := C1.out.cell 2
      have c3 := C1.out.cell 3
      simp only [List.getElem?_toArray, List.getElem?_cons_succ, List.getElem?_cons_zero] at c0 c1 c2 c3
      have hw1 : w.heap.size < w1.heap.size := C1.out.lt
      go_wp2_with fail
      try rw [hk]
      refine (D1.out _).mono ?_
      rintro e w2 ⟨rfl, b1'⟩
      have C1 := Lib.hid (C1.out.step b1')
      have BV := Lib.hid (BV.out.trans (b1'.mono BV.out.size))
      have C2 := Lib.hid (C1.out.alloc (.cells #[.int .i64 (o : Int), .int .i64 ((b0 : Int) % 16), .int .i64 0, .int .i64 0, .int .i64 0, .int .i64 ((b0 : Int) % 16 * 256 + (b1 : Int)), .int .i64 il] 25))
      have X2 := Lib.hid (Blk.new w2 25 #[.int .i64 (o : Int), .int .i64 ((b0 : Int) % 16), .int .i64 0, .int .i64 0, .int .i64 0, .int .i64 ((b0 : Int) % 16 * 256 + (b1 : Int)), .int .i64 il])
      have BV := Lib.hid (BV.out.alloc BV.out.size (.cells #[.int .i64 (o : Int), .int .i64 ((b0 : Int) % 16), .int .i64 0, .int .i64 0, .int .i64 0, .int .i64 ((b0 : Int) % 16 * 256 + (b1 : Int)), .int .i64 il] 25))
      have hw2 : w.heap.size < w2.heap.size := C1.out.lt
      clear b1' c0 c1 c2 c3 hw1
      have c0 := C1.out.cell 0
      have c1 := C1.out.cell 1
      have c2 := C1.out.cell 2
      have c3 := C1.out.cell 3
      simp only [List.getElem?_toArray, List.getElem?_cons_succ, List.getElem?_cons_zero] at c0 c1 c2 c3
      clear C1 hk
      go_upto_region 10 with fail
      generalize World.alloc _ _ = w4 at C2 X2 BV ⊢
      clear c0 c1 c2 c3 hw2
      have k0 := Calm.cell ((C2.out.cell 0).trans rfl) C2.out.lt
      have k1 := Calm.cell ((C2.out.cell 1).trans rfl) C2.out.lt
      have k2 := Calm.cell ((C2.out.cell 2).trans rfl) C2.out.lt
      have k3 := Calm.cell ((C2.out.cell 3).trans rfl) C2.out.lt
      have x0 := Calm.cell ((X2.out.cell 0).trans rfl) X2.out.lt
      have x1 := Calm.cell ((X2.out.cell 1).trans rfl) X2.out.lt
      have x2 := Calm.cell ((X2.out.cell 2).trans rfl) X2.out.lt
      have x3 := Calm.cell ((X2.out.cell 3).trans rfl) X2.out.lt
      have x4 := Calm.cell ((X2.out.cell 4).trans rfl) X2.out.lt
      have x5 := Calm.cell ((X2.out.cell 5).trans rfl) X2.out.lt
      refine calm_plain ?_
      simp only [List.append_eq, List.cons_append, List.nil_append]
      repeat (go_big_quiet_step (rfl))
      refine wpQuiet_nil ?_
      intro _ hw'
      obtain ⟨x, rfl⟩ := hw'
      have hb := x.below
      generalize x.w = wc at *
      have BB := Lib.hid (BV.out.trans (hb.mono BV.out.size))
      go_wp2_with fail
      go_ret
      exact ⟨by simp, BB.out⟩
    · have t1 : (((b0 : Int) % 16 * 256 + (b1 : Int)) == 0) = false := by simpa using ht1
      clear ht1
      unfold b4V
      go_enter Try.func7, Try.ntmps7
      go_wp2_with fail
      have C0 := Lib.hid (Blk.new w 22 #[.int .u8 (b0 : Int), .int .u8 (b1 : Int), .int .u8 (b2 : Int), .int .u8 (b3 : Int)])
      have BV := Lib.hid (below_new' w (.cells #[.int .u8 (b0 : Int), .int .u8 (b1 : Int), .int .u8 (b2 : Int), .int .u8 (b3 : Int)] 22))
      refine (awake14 _).mono ?_
      rintro e w1 ⟨rfl, ba⟩
      have C1 := Lib.hid (C0.out.step ba)
      have BV := Lib.hid (BV.out.trans (ba.mono (by simp)))
      clear ba C0
      have c0 := C1.out.cell 0
      have c1 := C1.out.cell 1
      have c2 := C1.out.cell 2
      have c3 := C1.out.cell 3
      simp only [List.getElem?_toArray, List.getElem?_cons_succ, List.getElem?_cons_zero] at c0 c1 c2 c3
      have hw1 : w.heap.size < w1.heap.size := C1.out.lt
      go_wp2_with fail
      try rw [hk]
      refine (D1.out _).mono ?_
      rintro e w2 ⟨rfl, b1'⟩
      have C1 := Lib.hid (C1.out.step b1')
      have BV := Lib.hid (BV.out.trans (b1'.mono BV.out.size))
      have C2 := Lib.hid (C1.out.alloc (.cells #[.int .i64 (o : Int), .int .i64 ((b0 : Int) % 16), .int .i64 0, .int .i64 0, .int .i64 0, .int .i64 ((b0 : Int) % 16 * 256 + (b1 : Int)), .int .i64 il] 25))
      have X2 := Lib.hid (Blk.new w2 25 #[.int .i64 (o : Int), .int .i64 ((b0 : Int) % 16), .int .i64 0, .int .i64 0, .int .i64 0, .int .i64 ((b0 : Int) % 16 * 256 + (b1 : Int)), .int .i64 il])
      have BV := Lib.hid (BV.out.alloc BV.out.size (.cells #[.int .i64 (o : Int), .int .i64 ((b0 : Int) % 16), .int .i64 0, .int .i64 0, .int .i64 0, .int .i64 ((b0 : Int) % 16 * 256 + (b1 : Int)), .int .i64 il] 25))
      have hw2 : w.heap.size < w2.heap.size := C1.out.lt
      clear b1' c0 c1 c2 c3 hw1
      have c0 := C1.out.cell 0
      have c1 := C1.out.cell 1
      have c2 := C1.out.cell 2
      have c3 := C1.out.cell 3
      simp only [List.getElem?_toArray, List.getElem?_cons_succ, List.getElem?_cons_zero] at c0 c1 c2 c3
      clear C1 hk
      go_upto_region 10 with fail
      generalize World.alloc _ _ = w4 at C2 X2 BV ⊢
      clear c0 c1 c2 c3 hw2
      have k0 := Calm.cell ((C2.out.cell 0).trans rfl) C2.out.lt
      have k1 := Calm.cell ((C2.out.cell 1).trans rfl) C2.out.lt
      have k2 := Calm.cell ((C2.out.cell 2).trans rfl) C2.out.lt
      have k3 := Calm.cell ((C2.out.cell 3).trans rfl) C2.out.lt
      have x0 := Calm.cell ((X2.out.cell 0).trans rfl) X2.out.lt
      have x1 := Calm.cell ((X2.out.cell 1).trans rfl) X2.out.lt
      have x2 := Calm.cell ((X2.out.cell 2).trans rfl) X2.out.lt
      have x3 := Calm.cell ((X2.out.cell 3).trans rfl) X2.out.lt
      have x4 := Calm.cell ((X2.out.cell 4).trans rfl) X2.out.lt
      have x5 := Calm.cell ((X2.out.cell 5).trans rfl) X2.out.lt
      refine calm_plain ?_
      simp only [List.append_eq, List.cons_append, List.nil_append]
      repeat (go_big_quiet_step (rfl))
      refine wpQuiet_nil ?_
      intro _ hw'
      obtain ⟨x, rfl⟩ := hw'
      have hb := x.below
      generalize x.w = wc at *
      have BB := Lib.hid (BV.out.trans (hb.mono BV.out.size))
      go_wp2_with fail
      go_ret
      exact ⟨by simp, BB.out⟩
  · have t0 : (((b0 : Int) % 16) == 0) = false := by simpa using ht0
    clear ht0
    by_cases ht1 : ((b0 : Int) % 16 * 256 + (b1 : Int)) = 0
    · have t1 : (((b0 : Int) % 16 * 256 + (b1 : Int)) == 0) = true := by simpa using ht1
      clear ht1
      unfold b4V
      go_enter Try.func7, Try.ntmps7
      go_wp2_with fail
      have C0 := Lib.hid (Blk.new w 22 #[.int .u8 (b0 : Int), .int .u8 (b1 : Int), .int .u8 (b2 : Int), .int .u8 (b3 : Int)])
      have BV := Lib.hid (below_new' w (.cells #[.int .u8 (b0 : Int), .int .u8 (b1 : Int), .int .u8 (b2 : Int), .int .u8 (b3 : Int)] 22))
      refine (awake14 _).mono ?_
      rintro e w1 ⟨rfl, ba⟩
      have C1 := Lib.hid (C0.out.step ba)
      have BV := Lib.hid (BV.out.trans (ba.mono (by simp)))
      clear ba C0
      have c0 := C1.out.cell 0
      have c1 := C1.out.cell 1
      have c2 := C1.out.cell 2
      have c3 := C1.out.cell 3
      simp only [List.getElem?_toArray, List.getElem?_cons_succ, List.getElem?_cons_zero] at c0 c1 c2 c3
      have hw1 : w.heap.size < w1.heap.size := C1.out.lt
      go_wp2_with fail
      try rw [hk]
      refine (D1.out _).mono ?_
      rintro e w2 ⟨rfl, b1'⟩
      have C1 := Lib.hid (C1.out.step b1')
      have BV := Lib.hid (BV.out.trans (b1'.mono BV.out.size))
      have C2 := Lib.hid (C1.out.alloc (.cells #[.int .i64 (o : Int), .int .i64 ((b0 : Int) % 16), .int .i64 0, .int .i64 0, .int .i64 0, .int .i64 ((b0 : Int) % 16 * 256 + (b1 : Int)), .int .i64 il] 25))
      have X2 := Lib.hid (Blk.new w2 25 #[.int .i64 (o : Int), .int .i64 ((b0 : Int) % 16), .int .i64 0, .int .i64 0, .int .i64 0, .int .i64 ((b0 : Int) % 16 * 256 + (b1 : Int)), .int .i64 il])
      have BV := Lib.hid (BV.out.alloc BV.out.size (.cells #[.int .i64 (o : Int), .int .i64 ((b0 : Int) % 16), .int .i64 0, .int .i64 0, .int .i64 0, .int .i64 ((b0 : Int) % 16 * 256 + (b1 : Int)), .int .i64 il] 25))
      have hw2 : w.heap.size < w2.heap.size := C1.out.lt
      clear b1' c0 c1 c2 c3 hw1
      have c0 := C1.out.cell 0
      have c1 := C1.out.cell 1
      have c2 := C1.out.cell 2
      have c3 := C1.out.cell 3
      simp only [List.getElem?_toArray, List.getElem?_cons_succ, List.getElem?_cons_zero] at c0 c1 c2 c3
      clear C1 hk
      go_upto_region 10 with fail
      generalize World.alloc _ _ = w4 at C2 X2 BV ⊢
      clear c0 c1 c2 c3 hw2
      have k0 := Calm.cell ((C2.out.cell 0).trans rfl) C2.out.lt
      have k1 := Calm.cell ((C2.out.cell 1).trans rfl) C2.out.lt
      have k2 := Calm.cell ((C2.out.cell 2).trans rfl) C2.out.lt
      have k3 := Calm.cell ((C2.out.cell 3).trans rfl) C2.out.lt
      have x0 := Calm.cell ((X2.out.cell 0).trans rfl) X2.out.lt
      have x1 := Calm.cell ((X2.out.cell 1).trans rfl) X2.out.lt
      have x2 := Calm.cell ((X2.out.cell 2).trans rfl) X2.out.lt
      have x3 := Calm.cell ((X2.out.cell 3).trans rfl) X2.out.lt
      have x4 := Calm.cell ((X2.out.cell 4).trans rfl) X2.out.lt
      have x5 := Calm.cell ((X2.out.cell 5).trans rfl) X2.out.lt
      refine calm_plain ?_
      simp only [List.append_eq, List.cons_append, List.nil_append]
      repeat (go_big_quiet_step (rfl))
      refine wpQuiet_nil ?_
      intro _ hw'
      obtain ⟨x, rfl⟩ := hw'
      have hb := x.below
      generalize x.w = wc at *
      have BB := Lib.hid (BV.out.trans (hb.mono BV.out.size))
      go_wp2_with fail
      go_ret
      exact ⟨by simp, BB.out⟩
    · have t1 : (((b0 : Int) % 16 * 256 + (b1 : Int)) == 0) = false := by simpa using ht1
      clear ht1
      unfold b4V
      go_enter Try.func7, Try.ntmps7
      go_wp2_with fail
      have C0 := Lib.hid (Blk.new w 22 #[.int .u8 (b0 : Int), .int .u8 (b1 : Int), .int .u8 (b2 : Int), .int .u8 (b3 : Int)])
      have BV := Lib.hid (below_new' w (.cells #[.int .u8 (b0 : Int), .int .u8 (b1 : Int), .int .u8 (b2 : Int), .int .u8 (b3 : Int)] 22))
      refine (awake14 _).mono ?_
      rintro e w1 ⟨rfl, ba⟩
      have C1 := Lib.hid (C0.out.step ba)
      have BV := Lib.hid (BV.out.trans (ba.mono (by simp)))
      clear ba C0
      have c0 := C1.out.cell 0
      have c1 := C1.out.cell 1
      have c2 := C1.out.cell 2
      have c3 := C1.out.cell 3
      simp only [List.getElem?_toArray, List.getElem?_cons_succ, List.getElem?_cons_zero] at c0 c1 c2 c3
      have hw1 : w.heap.size < w1.heap.size := C1.out.lt
      go_wp2_with fail
      try rw [hk]
      refine (D1.out _).mono ?_
      rintro e w2 ⟨rfl, b1'⟩
      have C1 := Lib.hid (C1.out.step b1')
      have BV := Lib.hid (BV.out.trans (b1'.mono BV.out.size))
      have C2 := Lib.hid (C1.out.alloc (.cells #[.int .i64 (o : Int), .int .i64 ((b0 : Int) % 16), .int .i64 0, .int .i64 0, .int .i64 0, .int .i64 ((b0 : Int) % 16 * 256 + (b1 : Int)), .int .i64 il] 25))
      have X2 := Lib.hid (Blk.new w2 25 #[.int .i64 (o : Int), .int .i64 ((b0 : Int) % 16), .int .i64 0, .int .i64 0, .int .i64 0, .int .i64 ((b0 : Int) % 16 * 256 + (b1 : Int)), .int .i64 il])
      have BV := Lib.hid (BV.out.alloc BV.out.size (.cells #[.int .i64 (o : Int), .int .i64 ((b0 : Int) % 16), .int .i64 0, .int .i64 0, .int .i64 0, .int .i64 ((b0 : Int) % 16 * 256 + (b1 : Int)), .int .i64 il] 25))
      have hw2 : w.heap.size < w2.heap.size := C1.out.lt
      clear b1' c0 c1 c2 c3 hw1
      have c0 := C1.out.cell 0
      have c1 := C1.out.cell 1
      have c2 := C1.out.cell 2
      have c3 := C1.out.cell 3
      simp only [List.getElem?_toArray, List.getElem?_cons_succ, List.getElem?_cons_zero] at c0 c1 c2 c3
      clear C1 hk
      go_upto_region 10 with fail
      generalize World.alloc _ _ = w4 at C2 X2 BV ⊢
      clear c0 c1 c2 c3 hw2
      have k0 := Calm.cell ((C2.out.cell 0).trans rfl) C2.out.lt
      have k1 := Calm.cell ((C2.out.cell 1).trans rfl) C2.out.lt
      have k2 := Calm.cell ((C2.out.cell 2).trans rfl) C2.out.lt
      have k3 := Calm.cell ((C2.out.cell 3).trans rfl) C2.out.lt
      have x0 := Calm.cell ((X2.out.cell 0).trans rfl) X2.out.lt
      have x1 := Calm.cell ((X2.out.cell 1).trans rfl) X2.out.lt
      have x2 := Calm.cell ((X2.out.cell 2).trans rfl) X2.out.lt
      have x3 := Calm.cell ((X2.out.cell 3).trans rfl) X2.out.lt
      have x4 := Calm.cell ((X2.out.cell 4).trans rfl) X2.out.lt
      have x5 := Calm.cell ((X2.out.cell 5).trans rfl) X2.out.lt
      refine calm_plain ?_
      simp only [List.append_eq, List.cons_append, List.nil_append]
      repeat (go_big_quiet_step (rfl))
      refine wpQuiet_nil ?_
      intro _ hw'
      obtain ⟨x, rfl⟩ := hw'
      have hb := x.below
      generalize x.w = wc at *
      have BB := Lib.hid (BV.out.trans (hb.mono BV.out.size))
      go_wp2_with fail
      go_ret
      exact ⟨by simp, BB.out⟩

set_option maxRecDepth 100000 in
set_option maxHeartbeats 8000000 in
theorem fieldsPlanes (b0 b1 b2 b3 o : Nat) (l il : Int) (h0 : b0 < 256) (h1 : b1 < 256) (h2 : b2 < 256) (h3 : b3 < 256) (wl : (Lit.int .u8 l).wf = true) (ho : ¬ (o : Int) = 0) (h49 : ((o : Int) == 49) = true) (h48 : ((o : Int) == 48) = false) (w : World)
    (D1 : Hid (∀ w : World, Calls Try.prog 9 #[.agg #[.int .u8 (b0 : Int), .int .u8 (b1 : Int), .int .u8 (b2 : Int), .int .u8 (b3 : Int)], .int .i64 (1 + l % 3)] w fun e w' => e = .returned (.agg #[.int .i64 (o : Int), .int .i64 0, .int .i64 0, .int .i64 ((b0 : Int) % 16), .int .i64 0, .int .i64 0, .int .i64 il]) ∧ Below w.heap.size w w')) :
    Calls Try.prog 7 #[b4V b0 b1 b2 b3, .int .u8 l] w fun e w' => e = .returned (.bool true) ∧ Below w.heap.size w w' := by
  obtain ⟨u0, u1⟩ := bd_u8 wl
  obtain ⟨k, hk⟩ : ∃ k, 1 + l % 3 = k := ⟨_, rfl⟩
  rw [hk] at D1
  have n0 : ((o : Int) == 0) = false := by simpa using ho
  clear ho wl
  by_cases ht0 : ((b0 : Int) % 16) = 0
  · have t0 : (((b0 : Int) % 16) == 0) = true := by simpa using ht0
    clear ht0
    unfold b4V
    go_enter Try.func7, Try.ntmps7
    go_wp2_with fail
    have C0 := Lib.hid (Blk.new w 22 #[.int .u8 (b0 : Int), .int .u8 (b1 : Int), .int .u8 (b2 : Int), .int .u8 (b3 : Int)])
    have BV := Lib.hid (below_new' w (.cells #[.int .u8 (b0 : Int), .int .u8 (b1 : Int), .int .u8 (b2 : Int), .int .u8 (b3 : Int)] 22))
    refine (awake14 _).mono ?_
    rintro e w1 ⟨rfl, ba⟩
    have C1 := Lib.hid (C0.out.step ba)
    have BV := Lib.hid (BV.out.trans (ba.mono (by simp)))
    clear ba C0
    have c0 := C1.out.cell 0
    have c1 := C1.out.cell 1
    have c2 := C1.out.cell 2
    have c3 := C1.out.cell 3
    simp only [List.getElem?_toArray, List.getElem?_cons_succ, List.getElem?_cons_zero] at c0 c1 c2 c3
    have hw1 : w.heap.size < w1.heap.size := C1.out.lt
    go_wp2_with fail
    try rw [hk]
    refine (D1.out _).mono ?_
    rintro e w2 ⟨rfl, b1'⟩
    have C1 := Lib.hid (C1.out.step b1')
    have BV := Lib.hid (BV.out.trans (b1'.mono BV.out.size))
    have C2 := Lib.hid (C1.out.alloc (.cells #[.int .i64 (o : Int), .int .i64 0, .int .i64 0, .int .i64 ((b0 : Int) % 16), .int .i64 0, .int .i64 0, .int .i64 il] 25))
    have X2 := Lib.hid (Blk.new w2 25 #[.int .i64 (o : Int), .int .i64 0, .int .i64 0, .int .i64 ((b0 : Int) % 16), .int .i64 0, .int .i64 0, .int .i64 il])
    have BV := Lib.hid (BV.out.alloc BV.out.size (.cells #[.int .i64 (o : Int), .int .i64 0, .int .i64 0, .int .i64 ((b0 : Int) % 16), .int .i64 0, .int .i64 0, .int .i64 il] 25))
    have hw2 : w.heap.size < w2.heap.size := C1.out.lt
    clear b1' c0 c1 c2 c3 hw1
    have c0 := C1.out.cell 0
    have c1 := C1.out.cell 1
    have c2 := C1.out.cell 2
    have c3 := C1.out.cell 3
    simp only [List.getElem?_toArray, List.getElem?_cons_succ, List.getElem?_cons_zero] at c0 c1 c2 c3
    clear C1 hk
    go_upto_region 10 with fail
    generalize World.alloc _ _ = w4 at C2 X2 BV ⊢
    clear c0 c1 c2 c3 hw2
    have k0 := Calm.cell ((C2.out.cell 0).trans rfl) C2.out.lt
    have k1 := Calm.cell ((C2.out.cell 1).trans rfl) C2.out.lt
    have k2 := Calm.cell ((C2.out.cell 2).trans rfl) C2.out.lt
    have k3 := Calm.cell ((C2.out.cell 3).trans rfl) C2.out.lt
    have x0 := Calm.cell ((X2.out.cell 0).trans rfl) X2.out.lt
    have x1 := Calm.cell ((X2.out.cell 1).trans rfl) X2.out.lt
    have x2 := Calm.cell ((X2.out.cell 2).trans rfl) X2.out.lt
    have x3 := Calm.cell ((X2.out.cell 3).trans rfl) X2.out.lt
    have x4 := Calm.cell ((X2.out.cell 4).trans rfl) X2.out.lt
    have x5 := Calm.cell ((X2.out.cell 5).trans rfl) X2.out.lt
    refine calm_plain ?_
    simp only [List.append_eq, List.cons_append, List.nil_append]
    repeat (go_big_quiet_step (rfl))
    refine wpQuiet_nil ?_
    intro _ hw'
    obtain ⟨x, rfl⟩ := hw'
    have hb := x.below
    generalize x.w = wc at *
    have BB := Lib.hid (BV.out.trans (hb.mono BV.out.size))
    go_wp2_with fail
    go_ret
    exact ⟨by simp, BB.out⟩
  · have t0 : (((b0 : Int) % 16) == 0) = false := by simpa using ht0
    clear ht0
    by_cases ht1 : ((b0 : Int) % 16) = ((b1 : Int) % 16)
    · have t1 : (((b0 : Int) % 16) == ((b1 : Int) % 16)) = true := by simpa using ht1
      clear ht1
      unfold b4V
      go_enter Try.func7, Try.ntmps7
      go_wp2_with fail
      have C0 := Lib.hid (Blk.new w 22 #[.int .u8 (b0 : Int), .int .u8 (b1 : Int), .int .u8 (b2 : Int), .int .u8 (b3 : Int)])
      have BV := Lib.hid (below_new' w (.cells #[.int .u8 (b0 : Int), .int .u8 (b1 : Int), .int .u8 (b2 : Int), .int .u8 (b3 : Int)] 22))
      refine (awake14 _).mono ?_
      rintro e w1 ⟨rfl, ba⟩
      have C1 := Lib.hid (C0.out.step ba)
      have BV := Lib.hid (BV.out.trans (ba.mono (by simp)))
      clear ba C0
      have c0 := C1.out.cell 0
      have c1 := C1.out.cell 1
      have c2 := C1.out.cell 2
      have c3 := C1.out.cell 3
      simp only [List.getElem?_toArray, List.getElem?_cons_succ, List.getElem?_cons_zero] at c0 c1 c2 c3
      have hw1 : w.heap.size < w1.heap.size := C1.out.lt
      go_wp2_with fail
      try rw [hk]
      refine (D1.out _).mono ?_
      rintro e w2 ⟨rfl, b1'⟩
      have C1 := Lib.hid (C1.out.step b1')
      have BV := Lib.hid (BV.out.trans (b1'.mono BV.out.size))
      have C2 := Lib.hid (C1.out.alloc (.cells #[.int .i64 (o : Int), .int .i64 0, .int .i64 0, .int .i64 ((b0 : Int) % 16), .int .i64 0, .int .i64 0, .int .i64 il] 25))
      have X2 := Lib.hid (Blk.new w2 25 #[.int .i64 (o : Int), .int .i64 0, .int .i64 0, .int .i64 ((b0 : Int) % 16), .int .i64 0, .int .i64 0, .int .i64 il])
      have BV := Lib.hid (BV.out.alloc BV.out.size (.cells #[.int .i64 (o : Int), .int .i64 0, .int .i64 0, .int .i64 ((b0 : Int) % 16), .int .i64 0, .int .i64 0, .int .i64 il] 25))
      have hw2 : w.heap.size < w2.heap.size := C1.out.lt
      clear b1' c0 c1 c2 c3 hw1
      have c0 := C1.out.cell 0
      have c1 := C1.out.cell 1
      have c2 := C1.out.cell 2
      have c3 := C1.out.cell 3
      simp only [List.getElem?_toArray, List.getElem?_cons_succ, List.getElem?_cons_zero] at c0 c1 c2 c3
      clear C1 hk
      go_upto_region 10 with fail
      generalize World.alloc _ _ = w4 at C2 X2 BV ⊢
      clear c0 c1 c2 c3 hw2
      have k0 := Calm.cell ((C2.out.cell 0).trans rfl) C2.out.lt
      have k1 := Calm.cell ((C2.out.cell 1).trans rfl) C2.out.lt
      have k2 := Calm.cell ((C2.out.cell 2).trans rfl) C2.out.lt
      have k3 := Calm.cell ((C2.out.cell 3).trans rfl) C2.out.lt
      have x0 := Calm.cell ((X2.out.cell 0).trans rfl) X2.out.lt
      have x1 := Calm.cell ((X2.out.cell 1).trans rfl) X2.out.lt
      have x2 := Calm.cell ((X2.out.cell 2).trans rfl) X2.out.lt
      have x3 := Calm.cell ((X2.out.cell 3).trans rfl) X2.out.lt
      have x4 := Calm.cell ((X2.out.cell 4).trans rfl) X2.out.lt
      have x5 := Calm.cell ((X2.out.cell 5).trans rfl) X2.out.lt
      refine calm_plain ?_
      simp only [List.append_eq, List.cons_append, List.nil_append]
      repeat (go_big_quiet_step (rfl))
      refine wpQuiet_nil ?_
      intro _ hw'
      obtain ⟨x, rfl⟩ := hw'
      have hb := x.below
      generalize x.w = wc at *
      have BB := Lib.hid (BV.out.trans (hb.mono BV.out.size))
      go_wp2_with fail
      go_ret
      exact ⟨by simp, BB.out⟩
    · have t1 : (((b0 : Int) % 16) == ((b1 : Int) % 16)) = false := by simpa using ht1
      clear ht1
      unfold b4V
      go_enter Try.func7, Try.ntmps7
      go_wp2_with fail
      have C0 := Lib.hid (Blk.new w 22 #[.int .u8 (b0 : Int), .int .u8 (b1 : Int), .int .u8 (b2 : Int), .int .u8 (b3 : Int)])
      have BV := Lib.hid (below_new' w (.cells #[.int .u8 (b0 : Int), .int .u8 (b1 : Int), .int .u8 (b2 : Int), .int .u8 (b3 : Int)] 22))
      refine (awake14 _).mono ?_
      rintro e w1 ⟨rfl, ba⟩
      have C1 := Lib.hid (C0.out.step ba)
      have BV := Lib.hid (BV.out.trans (ba.mono (by simp)))
      clear ba C0
      have c0 := C1.out.cell 0
      have c1 := C1.out.cell 1
      have c2 := C1.out.cell 2
      have c3 := C1.out.cell 3
      simp only [List.getElem?_toArray, List.getElem?_cons_succ, List.getElem?_cons_zero] at c0 c1 c2 c3
      have hw1 : w.heap.size < w1.heap.size := C1.out.lt
      go_wp2_with fail
      try rw [hk]
      refine (D1.out _).mono ?_
      rintro e w2 ⟨rfl, b1'⟩
      have C1 := Lib.hid (C1.out.step b1')
      have BV := Lib.hid (BV.out.trans (b1'.mono BV.out.size))
      have C2 := Lib.hid (C1.out.alloc (.cells #[.int .i64 (o : Int), .int .i64 0, .int .i64 0, .int .i64 ((b0 : Int) % 16), .int .i64 0, .int .i64 0, .int .i64 il] 25))
      have X2 := Lib.hid (Blk.new w2 25 #[.int .i64 (o : Int), .int .i64 0, .int .i64 0, .int .i64 ((b0 : Int) % 16), .int .i64 0, .int .i64 0, .int .i64 il])
      have BV := Lib.hid (BV.out.alloc BV.out.size (.cells #[.int .i64 (o : Int), .int .i64 0, .int .i64 0, .int .i64 ((b0 : Int) % 16), .int .i64 0, .int .i64 0, .int .i64 il] 25))
      have hw2 : w.heap.size < w2.heap.size := C1.out.lt
      clear b1' c0 c1 c2 c3 hw1
      have c0 := C1.out.cell 0
      have c1 := C1.out.cell 1
      have c2 := C1.out.cell 2
      have c3 := C1.out.cell 3
      simp only [List.getElem?_toArray, List.getElem?_cons_succ, List.getElem?_cons_zero] at c0 c1 c2 c3
      clear C1 hk
      go_upto_region 10 with fail
      generalize World.alloc _ _ = w4 at C2 X2 BV ⊢
      clear c0 c1 c2 c3 hw2
      have k0 := Calm.cell ((C2.out.cell 0).trans rfl) C2.out.lt
      have k1 := Calm.cell ((C2.out.cell 1).trans rfl) C2.out.lt
      have k2 := Calm.cell ((C2.out.cell 2).trans rfl) C2.out.lt
      have k3 := Calm.cell ((C2.out.cell 3).trans rfl) C2.out.lt
      have x0 := Calm.cell ((X2.out.cell 0).trans rfl) X2.out.lt
      have x1 := Calm.cell ((X2.out.cell 1).trans rfl) X2.out.lt
      have x2 := Calm.cell ((X2.out.cell 2).trans rfl) X2.out.lt
      have x3 := Calm.cell ((X2.out.cell 3).trans rfl) X2.out.lt
      have x4 := Calm.cell ((X2.out.cell 4).trans rfl) X2.out.lt
      have x5 := Calm.cell ((X2.out.cell 5).trans rfl) X2.out.lt
      refine calm_plain ?_
      simp only [List.append_eq, List.cons_append, List.nil_append]
      repeat (go_big_quiet_step (rfl))
      refine wpQuiet_nil ?_
      intro _ hw'
      obtain ⟨x, rfl⟩ := hw'
      have hb := x.below
      generalize x.w = wc at *
      have BB := Lib.hid (BV.out.trans (hb.mono BV.out.size))
      go_wp2_with fail
      go_ret
      exact ⟨by simp, BB.out⟩

set_option maxRecDepth 100000 in
set_option maxHeartbeats 8000000 in
theorem fieldsNext (b0 b1 b2 b3 o : Nat) (l il : Int) (h0 : b0 < 256) (h1 : b1 < 256) (h2 : b2 < 256) (h3 : b3 < 256) (wl : (Lit.int .u8 l).wf = true) (ho : ¬ (o : Int) = 0) (h49 : ((o : Int) == 49) = false) (h48 : ((o : Int) == 48) = true) (w : World)
    (D1 : Hid (∀ w : World, Calls Try.prog 9 #[.agg #[.int .u8 (b0 : Int), .int .u8 (b1 : Int), .int .u8 (b2 : Int), .int .u8 (b3 : Int)], .int .i64 (1 + l % 3)] w fun e w' => e = .returned (.agg #[.int .i64 (o : Int), .int .i64 0, .int .i64 0, .int .i64 0, .int .i64 0, .int .i64 ((b2 : Int) * 256 + (b3 : Int)), .int .i64 il]) ∧ Below w.heap.size w w')) :
    Calls Try.prog 7 #[b4V b0 b1 b2 b3, .int .u8 l] w fun e w' => e = .returned (.bool true) ∧ Below w.heap.size w w' := by
  obtain ⟨u0, u1⟩ := bd_u8 wl
  obtain ⟨k, hk⟩ : ∃ k, 1 + l % 3 = k := ⟨_, rfl⟩
  rw [hk] at D1
  have n0 : ((o : Int) == 0) = false := by simpa using ho
  clear ho wl
  by_cases ht0 : ((b2 : Int) * 256 + (b3 : Int)) = 0
  · have t0 : (((b2 : Int) * 256 + (b3 : Int)) == 0) = true := by simpa using ht0
    clear ht0
    unfold b4V
    go_enter Try.func7, Try.ntmps7
    go_wp2_with fail
    have C0 := Lib.hid (Blk.new w 22 #[.int .u8 (b0 : Int), .int .u8 (b1 : Int), .int .u8 (b2 : Int), .int .u8 (b3 : Int)])
    have BV := Lib.hid (below_new' w (.cells #[.int .u8 (b0 : Int), .int .u8 (b1 : Int), .int .u8 (b2 : Int), .int .u8 (b3 : Int)] 22))
    refine (awake14 _).mono ?_
    rintro e w1 ⟨rfl, ba⟩
    have C1 := Lib.hid (C0.out.step ba)
    have BV := Lib.hid (BV.out.trans (ba.mono (by simp)))
    clear ba C0
    have c0 := C1.out.cell 0
    have c1 := C1.out.cell 1
    have c2 := C1.out.cell 2
    have c3 := C1.out.cell 3
    simp only [List.getElem?_toArray, List.getElem?_cons_succ, List.getElem?_cons_zero] at c0 c1 c2 c3
    have hw1 : w.heap.size < w1.heap.size := C1.out.lt
    go_wp2_with fail
    try rw [hk]
    refine (D1.out _).mono ?_
    rintro e w2 ⟨rfl, b1'⟩
    have C1 := Lib.hid (C1.out.step b1')
    have BV := Lib.hid (BV.out.trans (b1'.mono BV.out.size))
    have C2 := Lib.hid (C1.out.alloc (.cells #[.int .i64 (o : Int), .int .i64 0, .int .i64 0, .int .i64 0, .int .i64 0, .int .i64 ((b2 : Int) * 256 + (b3 : Int)), .int .i64 il] 25))
    have X2 := Lib.hid (Blk.new w2 25 #[.int .i64 (o : Int), .int .i64 0, .int .i64 0, .int .i64 0, .int .i64 0, .int .i64 ((b2 : Int) * 256 + (b3 : Int)), .int .i64 il])
    have BV := Lib.hid (BV.out.alloc BV.out.size (.cells #[.int .i64 (o : Int), .int .i64 0, .int .i64 0, .int .i64 0, .int .i64 0, .int .i64 ((b2 : Int) * 256 + (b3 : Int)), .int .i64 il] 25))
    have hw2 : w.heap.size < w2.heap.size := C1.out.lt
    clear b1' c0 c1 c2 c3 hw1
    have c0 := C1.out.cell 0
    have c1 := C1.out.cell 1
    have c2 := C1.out.cell 2
    have c3 := C1.out.cell 3
    simp only [List.getElem?_toArray, List.getElem?_cons_succ, List.getElem?_cons_zero] at c0 c1 c2 c3
    clear C1 hk
    go_upto_region 10 with fail
    generalize World.alloc _ _ = w4 at C2 X2 BV ⊢
    clear c0 c1 c2 c3 hw2
    have k0 := Calm.cell ((C2.out.cell 0).trans rfl) C2.out.lt
    have k1 := Calm.cell ((C2.out.cell 1).trans rfl) C2.out.lt
    have k2 := Calm.cell ((C2.out.cell 2).trans rfl) C2.out.lt
    have k3 := Calm.cell ((C2.out.cell 3).trans rfl) C2.out.lt
    have x0 := Calm.cell ((X2.out.cell 0).trans rfl) X2.out.lt
    have x1 := Calm.cell ((X2.out.cell 1).trans rfl) X2.out.lt
    have x2 := Calm.cell ((X2.out.cell 2).trans rfl) X2.out.lt
    have x3 := Calm.cell ((X2.out.cell 3).trans rfl) X2.out.lt
    have x4 := Calm.cell ((X2.out.cell 4).trans rfl) X2.out.lt
    have x5 := Calm.cell ((X2.out.cell 5).trans rfl) X2.out.lt
    refine calm_plain ?_
    simp only [List.append_eq, List.cons_append, List.nil_append]
    repeat (go_big_quiet_step (rfl))
    refine wpQuiet_nil ?_
    intro _ hw'
    obtain ⟨x, rfl⟩ := hw'
    have hb := x.below
    generalize x.w = wc at *
    have BB := Lib.hid (BV.out.trans (hb.mono BV.out.size))
    go_wp2_with fail
    go_ret
    exact ⟨by simp, BB.out⟩
  · have t0 : (((b2 : Int) * 256 + (b3 : Int)) == 0) = false := by simpa using ht0
    clear ht0
    by_cases ht1 : ((b2 : Int) * 256 + (b3 : Int)) = ((b0 : Int) % 16 * 256 + (b1 : Int))
    · have t1 : (((b2 : Int) * 256 + (b3 : Int)) == ((b0 : Int) % 16 * 256 + (b1 : Int))) = true := by simpa using ht1
      clear ht1
      unfold b4V
      go_enter Try.func7, Try.ntmps7
      go_wp2_with fail
      have C0 := Lib.hid (Blk.new w 22 #[.int .u8 (b0 : Int), .int .u8 (b1 : Int), .int .u8 (b2 : Int), .int .u8 (b3 : Int)])
      have BV := Lib.hid (below_new' w (.cells #[.int .u8 (b0 : Int), .int .u8 (b1 : Int), .int .u8 (b2 : Int), .int .u8 (b3 : Int)] 22))
      refine (awake14 _).mono ?_
      rintro e w1 ⟨rfl, ba⟩
      have C1 := Lib.hid (C0.out.step ba)
      have BV := Lib.hid (BV.out.trans (ba.mono (by simp)))
      clear ba C0
      have c0 := C1.out.cell 0
      have c1 := C1.out.cell 1
      have c2 := C1.out.cell 2
      have c3 := C1.out.cell 3
      simp only [List.getElem?_toArray, List.getElem?_cons_succ, List.getElem?_cons_zero] at c0 c1 c2 c3
      have hw1 : w.heap.size < w1.heap.size := C1.out.lt
      go_wp2_with fail
      try rw [hk]
      refine (D1.out _).mono ?_
      rintro e w2 ⟨rfl, b1'⟩
      have C1 := Lib.hid (C1.out.step b1')
      have BV := Lib.hid (BV.out.trans (b1'.mono BV.out.size))
      have C2 := Lib.hid (C1.out.alloc (.cells #[.int .i64 (o : Int), .int .i64 0, .int .i64 0, .int .i64 0, .int .i64 0, .int .i64 ((b2 : Int) * 256 + (b3 : Int)), .int .i64 il] 25))
      have X2 := Lib.hid (Blk.new w2 25 #[.int .i64 (o : Int), .int .i64 0, .int .i64 0, .int .i64 0, .int .i64 0, .int .i64 ((b2 : Int) * 256 + (b3 : Int)), .int .i64 il])
      have BV := Lib.hid (BV.out.alloc BV.out.size (.cells #[.int .i64 (o : Int), .int .i64 0, .int .i64 0, .int .i64 0, .int .i64 0, .int .i64 ((b2 : Int) * 256 + (b3 : Int)), .int .i64 il] 25))
      have hw2 : w.heap.size < w2.heap.size := C1.out.lt
      clear b1' c0 c1 c2 c3 hw1
      have c0 := C1.out.cell 0
      have c1 := C1.out.cell 1
      have c2 := C1.out.cell 2
      have c3 := C1.out.cell 3
      simp only [List.getElem?_toArray, List.getElem?_cons_succ, List.getElem?_cons_zero] at c0 c1 c2 c3
      clear C1 hk
      go_upto_region 10 with fail
      generalize World.alloc _ _ = w4 at C2 X2 BV ⊢
      clear c0 c1 c2 c3 hw2
      have k0 := Calm.cell ((C2.out.cell 0).trans rfl) C2.out.lt
      have k1 := Calm.cell ((C2.out.cell 1).trans rfl) C2.out.lt
      have k2 := Calm.cell ((C2.out.cell 2).trans rfl) C2.out.lt
      have k3 := Calm.cell ((C2.out.cell 3).trans rfl) C2.out.lt
      have x0 := Calm.cell ((X2.out.cell 0).trans rfl) X2.out.lt
      have x1 := Calm.cell ((X2.out.cell 1).trans rfl) X2.out.lt
      have x2 := Calm.cell ((X2.out.cell 2).trans rfl) X2.out.lt
      have x3 := Calm.cell ((X2.out.cell 3).trans rfl) X2.out.lt
      have x4 := Calm.cell ((X2.out.cell 4).trans rfl) X2.out.lt
      have x5 := Calm.cell ((X2.out.cell 5).trans rfl) X2.out.lt
      refine calm_plain ?_
      simp only [List.append_eq, List.cons_append, List.nil_append]
      repeat (go_big_quiet_step (rfl))
      refine wpQuiet_nil ?_
      intro _ hw'
      obtain ⟨x, rfl⟩ := hw'
      have hb := x.below
      generalize x.w = wc at *
      have BB := Lib.hid (BV.out.trans (hb.mono BV.out.size))
      go_wp2_with fail
      go_ret
      exact ⟨by simp, BB.out⟩
    · have t1 : (((b2 : Int) * 256 + (b3 : Int)) == ((b0 : Int) % 16 * 256 + (b1 : Int))) = false := by simpa using ht1
      clear ht1
      unfold b4V
      go_enter Try.func7, Try.ntmps7
      go_wp2_with fail
      have C0 := Lib.hid (Blk.new w 22 #[.int .u8 (b0 : Int), .int .u8 (b1 : Int), .int .u8 (b2 : Int), .int .u8 (b3 : Int)])
      have BV := Lib.hid (below_new' w (.cells #[.int .u8 (b0 : Int), .int .u8 (b1 : Int), .int .u8 (b2 : Int), .int .u8 (b3 : Int)] 22))
      refine (awake14 _).mono ?_
      rintro e w1 ⟨rfl, ba⟩
      have C1 := Lib.hid (C0.out.step ba)
      have BV := Lib.hid (BV.out.trans (ba.mono (by simp)))
      clear ba C0
      have c0 := C1.out.cell 0
      have c1 := C1.out.cell 1
      have c2 := C1.out.cell 2
      have c3 := C1.out.cell 3
      simp only [List.getElem?_toArray, List.getElem?_cons_succ, List.getElem?_cons_zero] at c0 c1 c2 c3
      have hw1 : w.heap.size < w1.heap.size := C1.out.lt
      go_wp2_with fail
      try rw [hk]
      refine (D1.out _).mono ?_
      rintro e w2 ⟨rfl, b1'⟩
      have C1 := Lib.hid (C1.out.step b1')
      have BV := Lib.hid (BV.out.trans (b1'.mono BV.out.size))
      have C2 := Lib.hid (C1.out.alloc (.cells #[.int .i64 (o : Int), .int .i64 0, .int .i64 0, .int .i64 0, .int .i64 0, .int .i64 ((b2 : Int) * 256 + (b3 : Int)), .int .i64 il] 25))
      have X2 := Lib.hid (Blk.new w2 25 #[.int .i64 (o : Int), .int .i64 0, .int .i64 0, .int .i64 0, .int .i64 0, .int .i64 ((b2 : Int) * 256 + (b3 : Int)), .int .i64 il])
      have BV := Lib.hid (BV.out.alloc BV.out.size (.cells #[.int .i64 (o : Int), .int .i64 0, .int .i64 0, .int .i64 0, .int .i64 0, .int .i64 ((b2 : Int) * 256 + (b3 : Int)), .int .i64 il] 25))
      have hw2 : w.heap.size < w2.heap.size := C1.out.lt
      clear b1' c0 c1 c2 c3 hw1
      have c0 := C1.out.cell 0
      have c1 := C1.out.cell 1
      have c2 := C1.out.cell 2
      have c3 := C1.out.cell 3
      simp only [List.getElem?_toArray, List.getElem?_cons_succ, List.getElem?_cons_zero] at c0 c1 c2 c3
      clear C1 hk
      go_upto_region 10 with fail
      generalize World.alloc _ _ = w4 at C2 X2 BV ⊢
      clear c0 c1 c2 c3 hw2
      have k0 := Calm.cell ((C2.out.cell 0).trans rfl) C2.out.lt
      have k1 := Calm.cell ((C2.out.cell 1).trans rfl) C2.out.lt
      have k2 := Calm.cell ((C2.out.cell 2).trans rfl) C2.out.lt
      have k3 := Calm.cell ((C2.out.cell 3).trans rfl) C2.out.lt
      have x0 := Calm.cell ((X2.out.cell 0).trans rfl) X2.out.lt
      have x1 := Calm.cell ((X2.out.cell 1).trans rfl) X2.out.lt
      have x2 := Calm.cell ((X2.out.cell 2).trans rfl) X2.out.lt
      have x3 := Calm.cell ((X2.out.cell 3).trans rfl) X2.out.lt
      have x4 := Calm.cell ((X2.out.cell 4).trans rfl) X2.out.lt
      have x5 := Calm.cell ((X2.out.cell 5).trans rfl) X2.out.lt
      refine calm_plain ?_
      simp only [List.append_eq, List.cons_append, List.nil_append]
      repeat (go_big_quiet_step (rfl))
      refine wpQuiet_nil ?_
      intro _ hw'
      obtain ⟨x, rfl⟩ := hw'
      have hb := x.below
      generalize x.w = wc at *
      have BB := Lib.hid (BV.out.trans (hb.mono BV.out.size))
      go_wp2_with fail
      go_ret
      exact ⟨by simp, BB.out⟩

end Go.Proofs.Ythfiaemdpfffcaa
