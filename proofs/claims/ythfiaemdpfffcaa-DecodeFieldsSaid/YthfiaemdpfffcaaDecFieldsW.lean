/- The walk of DecodeFields. -/
import Derived.Test.YthfiaemdpfffcaaDecAwake
import Derived.Test.YthfiaemdpfffcaaDecLaw
import Derived.Test.YthfiaemdpfffcaaDecFields1W
import Derived.Test.YthfiaemdpfffcaaDecFields2W
import Derived.Test.YthfiaemdpfffcaaDecFields3W
import Derived.Test.YthfiaemdpfffcaaPlain
import Derived.Deep.Cut
import Derived.IntWalk
namespace Go.Proofs.Ythfiaemdpfffcaa
open Go.RowKit Num Dec
set_option linter.unusedVariables false
set_option linter.unusedSimpArgs false

set_option maxRecDepth 100000 in
set_option maxHeartbeats 8000000 in
theorem fieldsIllegal (b0 b1 b2 b3 : Nat) (l : Int) (h0 : b0 < 256) (h1 : b1 < 256) (h2 : b2 < 256) (h3 : b3 < 256) (wl : (Lit.int .u8 l).wf = true) (w : World)
    (D1 : Hid (∀ w : World, Calls Try.prog 9 #[.agg #[.int .u8 (b0 : Int), .int .u8 (b1 : Int), .int .u8 (b2 : Int), .int .u8 (b3 : Int)], .int .i64 (1 + l % 3)] w fun e w' => e = .returned (.agg #[.int .i64 0, .int .i64 0, .int .i64 0, .int .i64 0, .int .i64 0, .int .i64 0, .int .i64 2]) ∧ Below w.heap.size w w')) :
    Calls Try.prog 7 #[b4V b0 b1 b2 b3, .int .u8 l] w fun e w' => e = .returned (.bool true) ∧ Below w.heap.size w w' := by
  obtain ⟨u0, u1⟩ := bd_u8 wl
  obtain ⟨k, hk⟩ : ∃ k, 1 + l % 3 = k := ⟨_, rfl⟩
  rw [hk] at D1
  clear wl
  unfold b4V
  go_enter Try.func7, Try.ntmps7
  go_wp2_with fail
  have C0 := Lib.hid (Blk.new w 22 #[.int .u8 (b0 : Int), .int .u8 (b1 : Int), .int .u8 (b2 : Int), .int .u8 (b3 : Int)])
  have BV := Lib.hid (below_new' w (.cells #[.int .u8 (b0 : Int), .int .u8 (b1 : Int), .int .u8 (b2 : Int), .int .u8 (b3 : Int)] 22))
  refine (awake14 _).mono ?_
  rintro e w1 ⟨rfl, ba⟩
  have C1 := Lib.hid (C0.out.step ba)
  have BV := Lib.hid (BV.out.trans (ba.mono (by simp)))
  clear ba C0
  have c0 := C1.out.cell 0
  have c1 := C1.out.cell 1
  have c2 := C1.out.cell 2
  have c3 := C1.out.cell 3
  simp only [List.getElem?_toArray, List.getElem?_cons_succ, List.getElem?_cons_zero] at c0 c1 c2 c3
  have hw1 : w.heap.size < w1.heap.size := C1.out.lt
  go_wp2_with fail
  try rw [hk]
  refine (D1.out _).mono ?_
  rintro e w2 ⟨rfl, b1'⟩
  have BV := Lib.hid ((BV.out.trans (b1'.mono BV.out.size)).alloc (BV.out.trans (b1'.mono BV.out.size)).size (.cells #[.int .i64 0, .int .i64 0, .int .i64 0, .int .i64 0, .int .i64 0, .int .i64 0, .int .i64 2] 25))
  clear b1' c0 c1 c2 c3 hw1 C1 hk
  go_wp2
  go_ret
  exact ⟨by simp, BV.out⟩

theorem decodeFields_walk (b0 b1 b2 b3 : Nat) (l : Int) (h0 : b0 < 256) (h1 : b1 < 256) (h2 : b2 < 256) (h3 : b3 < 256) (wl : (Lit.int .u8 l).wf = true) (w : World) :
    Calls Try.prog 7 #[b4V b0 b1 b2 b3, .int .u8 l] w fun e w' => e = .returned (.bool true) ∧ Below w.heap.size w w' := by
  obtain ⟨u0, u1⟩ := bd_u8 wl
  have wk : (Lit.int .i64 (1 + l % 3)).wf = true := by simp [Lit.wf, IntKind.min, IntKind.max, IntKind.signed, IntKind.bits]; omega
  rcases dec_cases b0 b1 b2 b3 (1 + l % 3) h0 h1 with ⟨_, e, _⟩ | ⟨_, r, _, kr, ho, _, e⟩
  · exact fieldsIllegal b0 b1 b2 b3 l h0 h1 h2 h3 wl w (Lib.hid fun w => decode_iv b0 b1 b2 b3 _ _ w h0 h1 h2 h3 wk e)
  · have D := Lib.hid fun w => decode_iv b0 b1 b2 b3 _ _ w h0 h1 h2 h3 wk e
    have ho' : ¬ (r.op : Int) = 0 := by omega
    obtain ⟨_, _, _, _, _, h49, h48, _⟩ := kr
    obtain ⟨m, c, o, lv, p⟩ := r
    cases p
    · exact fieldsNone b0 b1 b2 b3 o l _ h0 h1 h2 h3 wl ho' h49 h48 w D
    · exact fieldsX b0 b1 b2 b3 o l _ h0 h1 h2 h3 wl ho' h49 h48 w D
    · exact fieldsN b0 b1 b2 b3 o l _ h0 h1 h2 h3 wl ho' h49 h48 w D
    · exact fieldsXY b0 b1 b2 b3 o l _ h0 h1 h2 h3 wl ho' h49 h48 w D
    · exact fieldsXYN b0 b1 b2 b3 o l _ h0 h1 h2 h3 wl ho' h49 h48 w D
    · exact fieldsXNN b0 b1 b2 b3 o l _ h0 h1 h2 h3 wl ho' h49 h48 w D
    · exact fieldsAddr b0 b1 b2 b3 o l _ h0 h1 h2 h3 wl ho' h49 h48 w D
    · exact fieldsXAddr b0 b1 b2 b3 o l _ h0 h1 h2 h3 wl ho' h49 h48 w D
    · exact fieldsPlanes b0 b1 b2 b3 o l _ h0 h1 h2 h3 wl ho' h49 h48 w D
    · exact fieldsNext b0 b1 b2 b3 o l _ h0 h1 h2 h3 wl ho' h49 h48 w D
end Go.Proofs.Ythfiaemdpfffcaa
