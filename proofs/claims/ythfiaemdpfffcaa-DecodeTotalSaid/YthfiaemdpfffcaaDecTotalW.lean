/- The walk of DecodeTotal. -/
import Derived.Test.YthfiaemdpfffcaaDecAwake
import Derived.Test.YthfiaemdpfffcaaDecLaw
import Derived.Test.YthfiaemdpfffcaaPlain
import Derived.Deep.Cut
import Derived.IntWalk
namespace Go.Proofs.Ythfiaemdpfffcaa
open Go.RowKit Num Dec
set_option linter.unusedVariables false
set_option linter.unusedSimpArgs false

set_option maxRecDepth 100000 in
set_option maxHeartbeats 8000000 in
theorem decodeTotal_walk (b0 b1 b2 b3 : Nat) (l : Int) (h0 : b0 < 256) (h1 : b1 < 256) (h2 : b2 < 256) (h3 : b3 < 256) (wl : (Lit.int .u8 l).wf = true) (w : World) :
    Calls Try.prog 4 #[b4V b0 b1 b2 b3, .int .u8 l] w fun e w' => e = .returned (.bool true) ∧ Below w.heap.size w w' := by
  obtain ⟨u0, u1⟩ := bd_u8 wl
  obtain ⟨k, hk⟩ : ∃ k, 1 + l % 3 = k := ⟨_, rfl⟩
  have hk1 : 1 ≤ k := by omega
  have hk3 : k ≤ 3 := by omega
  have wk : (Lit.int .i64 k).wf = true := by simp [Lit.wf, IntKind.min, IntKind.max, IntKind.signed, IntKind.bits]; omega
  have DT := dec_total b0 b1 b2 b3 k h0 h1 ⟨hk1, hk3⟩
  obtain ⟨i, hi⟩ : ∃ i, dec b0 b1 b2 b3 k = i := ⟨_, rfl⟩
  have RG := dec_range b0 b1 b2 b3 k h0 h1 h2 h3 hi
  have D1 := fun w => decode_iv b0 b1 b2 b3 k i w h0 h1 h2 h3 wk hi
  rw [hi] at DT
  rcases DT with rfl | ⟨ho, hm, hv1, hvk, hlen⟩
  · simp only at D1
    have D1 := Lib.hid D1
    clear h0 h1 h2 h3 wl wk hi RG
    unfold b4V
    go_enter Try.func4, Try.ntmps4
    go_wp2_with fail
    have C0 := Lib.hid (Blk.new w 22 #[.int .u8 (b0 : Int), .int .u8 (b1 : Int), .int .u8 (b2 : Int), .int .u8 (b3 : Int)])
    have BV := Lib.hid (below_new' w (.cells #[.int .u8 (b0 : Int), .int .u8 (b1 : Int), .int .u8 (b2 : Int), .int .u8 (b3 : Int)] 22))
    refine (awake14 _).mono ?_
    rintro e w1 ⟨rfl, ba⟩
    have C1 := Lib.hid (C0.out.step ba)
    have BV := Lib.hid (BV.out.trans (ba.mono (by simp)))
    clear ba C0
    have c0 := C1.out.cell 0
    have c1 := C1.out.cell 1
    have c2 := C1.out.cell 2
    have c3 := C1.out.cell 3
    simp only [List.getElem?_toArray, List.getElem?_cons_succ, List.getElem?_cons_zero] at c0 c1 c2 c3
    have hw1 : w.heap.size < w1.heap.size := C1.out.lt
    go_wp2_with fail
    try rw [hk]
    refine (D1.out _).mono ?_
    rintro e w2 ⟨rfl, b1'⟩
    have BV := Lib.hid ((BV.out.trans (b1'.mono BV.out.size)).alloc (BV.out.trans (b1'.mono BV.out.size)).size (.cells #[.int .i64 0, .int .i64 0, .int .i64 0, .int .i64 0, .int .i64 0, .int .i64 0, .int .i64 2] 25))
    clear b1' c0 c1 c2 c3 hw1 C1
    go_wp2
    go_ret
    exact ⟨by simp, BV.out⟩
  · have DM := Lib.hid fun (m : Int) (w : World) (m1 : k ≤ m) (m2 : m ≤ 3) => decode_iv b0 b1 b2 b3 m i w h0 h1 h2 h3 (by simp [Lit.wf, IntKind.min, IntKind.max, IntKind.signed, IntKind.bits]; omega) (hm m m1 m2)
    obtain ⟨io, ix, iy, iN, inn, ia, il⟩ := i
    simp only at RG ho hv1 hvk hlen D1 DM
    have D1 := Lib.hid D1
    obtain ⟨⟨ro1, ro2⟩, ⟨rx1, rx2⟩, ⟨ry1, ry2⟩, ⟨rn1, rn2⟩, ⟨rnn1, rnn2⟩, ⟨ra1, ra2⟩⟩ := RG
    have LVC := Lib.hid fun w => level_any io w
    generalize lv io = v at *
    have q1 : decide (io < 0) = false := decide_eq_false (by omega)
    have q2 : decide ((51 : Int) < io) = false := decide_eq_false (by omega)
    have q3 : decide (ix < 0) = false := decide_eq_false (by omega)
    have q4 : decide ((15 : Int) < ix) = false := decide_eq_false (by omega)
    have q5 : decide (iy < 0) = false := decide_eq_false (by omega)
    have q6 : decide ((15 : Int) < iy) = false := decide_eq_false (by omega)
    have q7 : decide (iN < 0) = false := decide_eq_false (by omega)
    have q8 : decide ((15 : Int) < iN) = false := decide_eq_false (by omega)
    have q9 : decide (inn < 0) = false := decide_eq_false (by omega)
    have qa : decide ((255 : Int) < inn) = false := decide_eq_false (by omega)
    have qb : decide (ia < 0) = false := decide_eq_false (by omega)
    have qc : decide ((65535 : Int) < ia) = false := decide_eq_false (by omega)
    have qd : (io == 0) = false := by simpa using ho
    have V1 := Lib.hid hv1
    have VK := Lib.hid hvk
    have HL := Lib.hid hlen
    have K1 := Lib.hid (And.intro hk1 hk3)
    clear h0 h1 h2 h3 wl wk hi hm ho hv1 hvk hlen ro1 ro2 rx1 rx2 ry1 ry2 rn1 rn2 rnn1 rnn2 ra1 ra2
    unfold b4V
    go_enter Try.func4, Try.ntmps4
    go_wp2_with fail
    have C0 := Lib.hid (Blk.new w 22 #[.int .u8 (b0 : Int), .int .u8 (b1 : Int), .int .u8 (b2 : Int), .int .u8 (b3 : Int)])
    have BV := Lib.hid (below_new' w (.cells #[.int .u8 (b0 : Int), .int .u8 (b1 : Int), .int .u8 (b2 : Int), .int .u8 (b3 : Int)] 22))
    refine (awake14 _).mono ?_
    rintro e w1 ⟨rfl, ba⟩
    have C1 := Lib.hid (C0.out.step ba)
    have BV := Lib.hid (BV.out.trans (ba.mono (by simp)))
    clear ba C0
    have c0 := C1.out.cell 0
    have c1 := C1.out.cell 1
    have c2 := C1.out.cell 2
    have c3 := C1.out.cell 3
    simp only [List.getElem?_toArray, List.getElem?_cons_succ, List.getElem?_cons_zero] at c0 c1 c2 c3
    have hw1 : w.heap.size < w1.heap.size := C1.out.lt
    go_wp2_with fail
    try rw [hk]
    refine (D1.out _).mono ?_
    rintro e w2 ⟨rfl, b1'⟩
    have C1 := Lib.hid (C1.out.step b1')
    have BV := Lib.hid (BV.out.trans (b1'.mono BV.out.size))
    have X2 := Lib.hid (Blk.new w2 25 #[.int .i64 io, .int .i64 ix, .int .i64 iy, .int .i64 iN, .int .i64 inn, .int .i64 ia, .int .i64 il])
    have C2 := Lib.hid (C1.out.alloc (.cells #[.int .i64 io, .int .i64 ix, .int .i64 iy, .int .i64 iN, .int .i64 inn, .int .i64 ia, .int .i64 il] 25))
    have BV := Lib.hid (BV.out.alloc BV.out.size (.cells #[.int .i64 io, .int .i64 ix, .int .i64 iy, .int .i64 iN, .int .i64 inn, .int .i64 ia, .int .i64 il] 25))
    clear b1' c0 c1 c2 c3 hw1 C1
    go_upto_region 9 with fail
    clear q1 q2 q3 q4 q5 q6 q7 q8 q9 qa qb qc qd
    obtain ⟨g, hg⟩ : ∃ g, w2.heap.size = g := ⟨_, rfl⟩
    rw [hg] at X2 ⊢
    generalize World.alloc _ _ = w3 at C2 X2 BV ⊢
    clear hg
    have HKH := Lib.hid hk
    clear hk u0 u1
    go_wp2_with fail
    go_loopw [7] (fun j wr => ∃ m : Int, k ≤ m ∧ m ≤ 4 ∧ j = .int .i64 m ∧ Below w3.heap.size w3 wr) (fun j _ => (4 - intOf j).toNat)
    case atStart => exact ⟨k, Int.le_refl _, by have := K1.out; omega, rfl, Below.refl _ _⟩
    case round =>
      obtain ⟨m, hm1, hm2, rfl, hb⟩ := hrel
      have HB := Lib.hid hb
      have C3 := Lib.hid (C2.out.below hb C2.out.lt)
      have X3 := Lib.hid (X2.out.below hb X2.out.lt)
      clear hb
      by_cases hlt : m ≤ 3
      · have D3 := Lib.hid fun w => DM.out m w hm1 hlt
        have M1 := Lib.hid hm1
        clear hm1 hm2
        have k0 := Calm.cell ((C3.out.cell 0).trans rfl) C3.out.lt
        have k1 := Calm.cell ((C3.out.cell 1).trans rfl) C3.out.lt
        have k2 := Calm.cell ((C3.out.cell 2).trans rfl) C3.out.lt
        have k3 := Calm.cell ((C3.out.cell 3).trans rfl) C3.out.lt
        have x0 := Calm.cell ((X3.out.cell 0).trans rfl) X3.out.lt
        have x1 := Calm.cell ((X3.out.cell 1).trans rfl) X3.out.lt
        have x2 := Calm.cell ((X3.out.cell 2).trans rfl) X3.out.lt
        have x3 := Calm.cell ((X3.out.cell 3).trans rfl) X3.out.lt
        have x4 := Calm.cell ((X3.out.cell 4).trans rfl) X3.out.lt
        have x5 := Calm.cell ((X3.out.cell 5).trans rfl) X3.out.lt
        have x6 := Calm.cell ((X3.out.cell 6).trans rfl) X3.out.lt
        go_upto_region 12 with fail
        refine calm_region (by kernel_rfl) (by kernel_rfl) ?_
        repeat (go_big_quiet_step ((go_at_call 9; exact calm_call (D3.out _))))
        refine wpQuiet_nil ?_
        intro _ hw'
        obtain ⟨x, rfl⟩ := hw'
        have hb := x.below
        generalize x.w = wc at *
        have BB := Lib.hid (HB.out.trans (hb.mono HB.out.size))
        clear hb k0 k1 k2 k3 x0 x1 x2 x3 x4 x5 x6
        have hm0 : 1 ≤ m := by have := M1.out; have := K1.out; omega
        go_wp2_with fail
        exact ⟨⟨m + 1, by have := M1.out; omega, by omega, rfl, BB.out⟩, by simp [intOf]; omega⟩
      · have hlt' : ¬ m ≤ 3 := hlt
        clear hm1 hm2
        have r1 : decide ((1 : Int) ≤ v) = true := decide_eq_true V1.out
        have r2 : decide (v ≤ k) = true := decide_eq_true VK.out
        have BV := Lib.hid (BV.out.trans (HB.out.mono BV.out.size))
        have x0 := Calm.cell ((X3.out.cell 0).trans rfl) X3.out.lt
        have x1 := Calm.cell ((X3.out.cell 1).trans rfl) X3.out.lt
        have x2 := Calm.cell ((X3.out.cell 2).trans rfl) X3.out.lt
        have x3 := Calm.cell ((X3.out.cell 3).trans rfl) X3.out.lt
        have x4 := Calm.cell ((X3.out.cell 4).trans rfl) X3.out.lt
        have x5 := Calm.cell ((X3.out.cell 5).trans rfl) X3.out.lt
        have x6 := Calm.cell ((X3.out.cell 6).trans rfl) X3.out.lt
        have hl := HL.out
        clear K1
        rcases hl with ⟨e1, e2⟩ | ⟨e1, e2⟩
        · subst e1 e2
          go_upto_region 14 with fail
          refine calm_plain ?_
          repeat (go_big_quiet_step ((go_at_call 13; exact calm_call (LVC.out _))))
          refine wpQuiet_nil ?_
          intro _ hw'
          obtain ⟨x, rfl⟩ := hw'
          have hb := x.below
          generalize x.w = wc at *
          have BB := Lib.hid (BV.out.trans (hb.mono BV.out.size))
          go_wp2_with fail
          go_ret
          exact ⟨by simp, BB.out⟩
        · have n48 : (io == 48) = false := by simpa using e1
          subst e2
          clear e1
          go_upto_region 14 with fail
          refine calm_plain ?_
          repeat (go_big_quiet_step ((go_at_call 13; exact calm_call (LVC.out _))))
          refine wpQuiet_nil ?_
          intro _ hw'
          obtain ⟨x, rfl⟩ := hw'
          have hb := x.below
          generalize x.w = wc at *
          have BB := Lib.hid (BV.out.trans (hb.mono BV.out.size))
          go_wp2_with fail
          go_ret
          exact ⟨by simp, BB.out⟩
end Go.Proofs.Ythfiaemdpfffcaa
