/- The walk of DecodeMatchesReference. -/
import Derived.Test.YthfiaemdpfffcaaDecAwake
import Derived.Test.YthfiaemdpfffcaaPlain
import Derived.Deep.Cut
namespace Go.Proofs.Ythfiaemdpfffcaa
open Go.RowKit Num Dec
set_option linter.unusedVariables false
set_option linter.unusedSimpArgs false

set_option maxRecDepth 100000 in
set_option maxHeartbeats 8000000 in
theorem decodeMatchesReference_walk (b0 b1 b2 b3 : Nat) (l op : Int) (h0 : b0 < 256) (h1 : b1 < 256) (h2 : b2 < 256) (h3 : b3 < 256) (wl : (Lit.int .i64 l).wf = true) (wo : (Lit.int .i64 op).wf = true) (w : World) :
    Calls Try.prog 3 #[b4V b0 b1 b2 b3, .int .i64 l, .int .i64 op] w fun e w' => e = .returned (.bool true) ∧ Below w.heap.size w w' := by
  obtain ⟨i, hi⟩ : ∃ i, dec b0 b1 b2 b3 l = i := ⟨_, rfl⟩
  have D1 := Lib.hid fun w => decode_iv b0 b1 b2 b3 l i w h0 h1 h2 h3 wl hi
  have D2 := Lib.hid fun w => hi ▸ rdecode_any b0 b1 b2 b3 l w h0 h1 h2 h3
  have S1 := Lib.hid fun w => skip_any b0 b1 l w
  have S2 := Lib.hid fun w => rskip_any b0 b1 l w
  have L1 := Lib.hid fun w => level_any op w
  have L2 := Lib.hid fun w => (lv_eq op).symm ▸ rlevel_any op w
  have BS := Lib.hid fun w => base_any op w
  clear h0 h1 h2 h3 wl wo hi
  obtain ⟨io, ix, iy, iN, inn, ia, il⟩ := i
  unfold icells at D2
  simp only at D1 D2
  generalize skl b0 b1 l = sk at *
  obtain ⟨v, hv⟩ : ∃ v, lv op = v := ⟨_, rfl⟩
  rw [hv] at L1 L2 BS
  clear hv
  unfold b4V
  go_enter Try.func3, Try.ntmps3
  go_wp2_with fail
  have C0 := Lib.hid (Blk.new w 22 #[.int .u8 (b0 : Int), .int .u8 (b1 : Int), .int .u8 (b2 : Int), .int .u8 (b3 : Int)])
  have BV := Lib.hid (below_new' w (.cells #[.int .u8 (b0 : Int), .int .u8 (b1 : Int), .int .u8 (b2 : Int), .int .u8 (b3 : Int)] 22))
  refine (awake14 _).mono ?_
  rintro e w1 ⟨rfl, ba⟩
  have C1 := Lib.hid (C0.out.step ba)
  have BV := Lib.hid (BV.out.trans (ba.mono (by simp)))
  clear ba C0
  have k0 := Calm.cell ((C1.out.cell 0).trans rfl) C1.out.lt
  have k1 := Calm.cell ((C1.out.cell 1).trans rfl) C1.out.lt
  have k2 := Calm.cell ((C1.out.cell 2).trans rfl) C1.out.lt
  have k3 := Calm.cell ((C1.out.cell 3).trans rfl) C1.out.lt
  go_upto_region 3 with fail
  refine calm_region (by kernel_rfl) (by kernel_rfl) ?_
  repeat (go_big_quiet_step ((first
    | (go_at_call 9; exact calm_call (D1.out _))
    | (go_at_call 10; exact calm_call (D2.out _))
    | (go_at_call 11; exact calm_same (S1.out _))
    | (go_at_call 12; exact calm_same (S2.out _))
    | (go_at_call 13; exact calm_call (L1.out _))
    | (go_at_call 14; exact calm_same (L2.out _))
    | (go_at_call 15; exact calm_call (BS.out _)))))
  refine wpQuiet_nil ?_
  intro _ hw'
  obtain ⟨x, rfl⟩ := hw'
  have hb := x.below
  generalize x.w = wc at *
  have BB := Lib.hid (BV.out.trans (hb.mono BV.out.size))
  go_wp2_with fail
  go_ret
  exact ⟨by simp, BB.out⟩
end Go.Proofs.Ythfiaemdpfffcaa
