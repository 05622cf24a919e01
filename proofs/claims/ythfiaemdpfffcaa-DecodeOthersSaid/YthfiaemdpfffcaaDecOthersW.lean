/- The walk of DecodeOthers. -/
import Derived.Test.YthfiaemdpfffcaaDecAwake
import Derived.Test.YthfiaemdpfffcaaDecLaw
import Derived.Test.YthfiaemdpfffcaaPlain
import Derived.Deep.Cut
import Derived.IntWalk
namespace Go.Proofs.Ythfiaemdpfffcaa
open Go.RowKit Num Dec
set_option linter.unusedVariables false
set_option linter.unusedSimpArgs false

set_option maxRecDepth 100000 in
set_option maxHeartbeats 8000000 in
theorem decodeOthers_walk (b0 b1 b2 b3 : Nat) (l : Int) (h0 : b0 < 256) (h1 : b1 < 256) (h2 : b2 < 256) (h3 : b3 < 256) (wl : (Lit.int .i64 l).wf = true) (w : World) :
    Calls Try.prog 6 #[b4V b0 b1 b2 b3, .int .i64 l] w fun e w' => e = .returned (.bool true) ∧ Below w.heap.size w w' := by
  have hp : (1 ≤ l ∧ l ≤ 3) ∨ l < 1 ∨ (1 ≤ l ∧ 3 < l) := by omega
  rcases hp with ⟨l1, l3⟩ | hp
  · clear h0 h1 h2 h3 wl
    unfold b4V
    go_enter Try.func6, Try.ntmps6
    go_wp2_with fail
    have C0 := Lib.hid (Blk.new w 22 #[.int .u8 (b0 : Int), .int .u8 (b1 : Int), .int .u8 (b2 : Int), .int .u8 (b3 : Int)])
    have BV := Lib.hid (below_new' w (.cells #[.int .u8 (b0 : Int), .int .u8 (b1 : Int), .int .u8 (b2 : Int), .int .u8 (b3 : Int)] 22))
    refine (awake14 _).mono ?_
    rintro e w1 ⟨rfl, ba⟩
    have C1 := Lib.hid (C0.out.step ba)
    have BV := Lib.hid (BV.out.trans (ba.mono (by simp)))
    clear ba C0
    go_wp2_with fail
    refine (awake14 _).mono ?_
    rintro e w2 ⟨rfl, ba⟩
    have BV := Lib.hid (BV.out.trans (ba.mono BV.out.size))
    clear ba
    go_wp2_with fail
    go_ret
    exact ⟨rfl, BV.out⟩
  · have DO := dec_other (b0 := b0) (b1 := b1) (b2 := b2) (b3 := b3) (l := l) h0 h1 (by omega)
    have D1 := Lib.hid fun w => decode_iv b0 b1 b2 b3 l ⟨0, 0, 0, 0, 0, 0, 2⟩ w h0 h1 h2 h3 wl DO.1
    have S1 := Lib.hid fun w => DO.2 ▸ skip_any b0 b1 l w
    clear DO h0 h1 h2 h3 wl
    rcases hp with hp | ⟨hp, hq⟩
    · skip
      unfold b4V
      go_enter Try.func6, Try.ntmps6
      go_wp2_with fail
      have C0 := Lib.hid (Blk.new w 22 #[.int .u8 (b0 : Int), .int .u8 (b1 : Int), .int .u8 (b2 : Int), .int .u8 (b3 : Int)])
      have BV := Lib.hid (below_new' w (.cells #[.int .u8 (b0 : Int), .int .u8 (b1 : Int), .int .u8 (b2 : Int), .int .u8 (b3 : Int)] 22))
      refine (awake14 _).mono ?_
      rintro e w1 ⟨rfl, ba⟩
      have C1 := Lib.hid (C0.out.step ba)
      have BV := Lib.hid (BV.out.trans (ba.mono (by simp)))
      clear ba C0
      have k0 := Calm.cell ((C1.out.cell 0).trans rfl) C1.out.lt
      have k1 := Calm.cell ((C1.out.cell 1).trans rfl) C1.out.lt
      have k2 := Calm.cell ((C1.out.cell 2).trans rfl) C1.out.lt
      have k3 := Calm.cell ((C1.out.cell 3).trans rfl) C1.out.lt
      go_upto_region 3 with fail
      refine calm_plain ?_
      repeat (go_big_quiet_step ((first
        | (go_at_call 9; exact calm_call (D1.out _))
        | (go_at_call 11; exact calm_same (S1.out _)))))
      refine wpQuiet_nil ?_
      intro _ hw'
      obtain ⟨x, rfl⟩ := hw'
      have hb := x.below
      generalize x.w = wc at *
      have BB := Lib.hid (BV.out.trans (hb.mono BV.out.size))
      go_wp2_with fail
      go_ret
      exact ⟨by simp, BB.out⟩
    · skip
      unfold b4V
      go_enter Try.func6, Try.ntmps6
      go_wp2_with fail
      have C0 := Lib.hid (Blk.new w 22 #[.int .u8 (b0 : Int), .int .u8 (b1 : Int), .int .u8 (b2 : Int), .int .u8 (b3 : Int)])
      have BV := Lib.hid (below_new' w (.cells #[.int .u8 (b0 : Int), .int .u8 (b1 : Int), .int .u8 (b2 : Int), .int .u8 (b3 : Int)] 22))
      refine (awake14 _).mono ?_
      rintro e w1 ⟨rfl, ba⟩
      have C1 := Lib.hid (C0.out.step ba)
      have BV := Lib.hid (BV.out.trans (ba.mono (by simp)))
      clear ba C0
      have k0 := Calm.cell ((C1.out.cell 0).trans rfl) C1.out.lt
      have k1 := Calm.cell ((C1.out.cell 1).trans rfl) C1.out.lt
      have k2 := Calm.cell ((C1.out.cell 2).trans rfl) C1.out.lt
      have k3 := Calm.cell ((C1.out.cell 3).trans rfl) C1.out.lt
      go_upto_region 3 with fail
      refine calm_plain ?_
      repeat (go_big_quiet_step ((first
        | (go_at_call 9; exact calm_call (D1.out _))
        | (go_at_call 11; exact calm_same (S1.out _)))))
      refine wpQuiet_nil ?_
      intro _ hw'
      obtain ⟨x, rfl⟩ := hw'
      have hb := x.below
      generalize x.w = wc at *
      have BB := Lib.hid (BV.out.trans (hb.mono BV.out.size))
      go_wp2_with fail
      go_ret
      exact ⟨by simp, BB.out⟩
end Go.Proofs.Ythfiaemdpfffcaa
