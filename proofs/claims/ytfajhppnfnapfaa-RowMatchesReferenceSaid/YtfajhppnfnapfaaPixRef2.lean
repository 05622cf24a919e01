/- Contracts of the reference of layer 6: the pattern of a sprite row; the rows and lists of the laws. -/
import Derived.Test.YtfajhppnfnapfaaPixRef
namespace Go.Proofs.Ytfajhppnfnapfaa
open Go.RowKit Num
set_option linter.unusedVariables false
set_option linter.unusedSimpArgs false

/-- The pixels of a pattern that are drawn behind k rounds. -/
def spF (b c x m : Nat) (clip : Bool) (k j : Nat) : Bool :=
  (decide (x ≤ j ∧ j < x + c ∧ j < m ∧ c + x ≤ j + k) && b.testBit (c - 1 - (j - x))) || (!clip && (decide (j + m < x + c ∧ c + x ≤ j + m + k) && b.testBit (c - 1 - (j + m - x))))
theorem spF_zero (b c x m : Nat) (clip : Bool) (j : Nat) (hc : 0 < c) : spF b c x m clip 0 j = false := by
  unfold spF
  rw [decide_eq_false (by omega), decide_eq_false (by omega)]
  cases clip <;> rfl
/-- One round more: the pixel of the bit k, if it is drawn. -/
theorem spF_in (b c x m : Nat) (clip : Bool) (k j : Nat) (hk : k < c) (hm : c ≤ m) (hx : x < m) (h : x + (c - 1 - k) < m) :
    spF b c x m clip (k + 1) j = if j = x + (c - 1 - k) then b.testBit k else spF b c x m clip k j := by
  by_cases e : j = x + (c - 1 - k)
  · rw [if_pos e]
    unfold spF
    rw [decide_eq_true (by omega), decide_eq_false (p := j + m < x + c ∧ _) (by omega), show c - 1 - (j - x) = k by omega]
    cases clip <;> simp
  · rw [if_neg e]
    unfold spF
    rw [show decide (x ≤ j ∧ j < x + c ∧ j < m ∧ c + x ≤ j + (k + 1)) = decide (x ≤ j ∧ j < x + c ∧ j < m ∧ c + x ≤ j + k) by congr 1; simp; omega,
      show decide (j + m < x + c ∧ c + x ≤ j + m + (k + 1)) = decide (j + m < x + c ∧ c + x ≤ j + m + k) by congr 1; simp; omega]
theorem spF_out (b c x m : Nat) (k j : Nat) (hk : k < c) (hm : c ≤ m) (hx : x < m) (h : m ≤ x + (c - 1 - k)) :
    spF b c x m false (k + 1) j = if j = x + (c - 1 - k) - m then b.testBit k else spF b c x m false k j := by
  by_cases e : j = x + (c - 1 - k) - m
  · rw [if_pos e]
    unfold spF
    rw [decide_eq_false (p := x ≤ j ∧ _) (by omega), decide_eq_true (by omega), show c - 1 - (j + m - x) = k by omega]
    simp
  · rw [if_neg e]
    unfold spF
    rw [show decide (x ≤ j ∧ j < x + c ∧ j < m ∧ c + x ≤ j + (k + 1)) = decide (x ≤ j ∧ j < x + c ∧ j < m ∧ c + x ≤ j + k) by congr 1; simp; omega,
      show decide (j + m < x + c ∧ c + x ≤ j + m + (k + 1)) = decide (j + m < x + c ∧ c + x ≤ j + m + k) by congr 1; simp; omega]
theorem spF_lost (b c x m : Nat) (k j : Nat) (hk : k < c) (hm : c ≤ m) (hx : x < m) (h : m ≤ x + (c - 1 - k)) :
    spF b c x m true (k + 1) j = spF b c x m true k j := by
  unfold spF
  rw [show decide (x ≤ j ∧ j < x + c ∧ j < m ∧ c + x ≤ j + (k + 1)) = decide (x ≤ j ∧ j < x + c ∧ j < m ∧ c + x ≤ j + k) by congr 1; simp; omega]
  rfl
theorem spF_off (b c x m : Nat) (clip : Bool) (k j : Nat) (hk : k < c) (hm : c ≤ m) (hx : x < m) (hb : b.testBit k = false) : spF b c x m clip (k + 1) j = spF b c x m clip k j := by
  by_cases h : x + (c - 1 - k) < m
  · rw [spF_in b c x m clip k j hk hm hx h]
    split
    · rename_i e
      rw [hb]
      unfold spF
      rw [decide_eq_false (by omega), decide_eq_false (by omega)]
      cases clip <;> rfl
    · rfl
  · cases clip
    · rw [spF_out b c x m k j hk hm hx (by omega)]
      split
      · rename_i e
        rw [hb]
        unfold spF
        rw [decide_eq_false (by omega), decide_eq_false (by omega)]
        rfl
      · rfl
    · exact spF_lost b c x m k j hk hm hx (by omega)

set_option maxRecDepth 100000 in
set_option maxHeartbeats 4000000 in
theorem rsprite_any (b c x m : Nat) (clip : Bool) (w : World) (b1 : b ≤ 65535) (c0 : 0 < c) (c1 : c ≤ 16) (hm : c ≤ m) (hx : x < m) (m1 : m ≤ 128) :
    Calls Try.prog 17 #[.int .u16 (b : Int), .int .i64 (c : Int), .int .i64 (x : Int), .int .i64 (m : Int), .bool clip] w (Drawn (spF b c x m clip c) w) := by
  have mk := make_blank
  go_enter Try.func17, Try.ntmps17
  go_wp2
  have N := Lib.hid (Pix.new w 4)
  have B := Lib.hid (below_new w (.cells blank 4))
  generalize w.alloc (.cells blank 4) = w1 at *
  clear mk
  go_loopw [12, 13] (fun a i wr => ∃ k X : Nat, ∃ q : Int, k ≤ c ∧ a = .int .i64 (X : Int) ∧ i = .int .i64 q ∧ q = (c : Int) - 1 - (k : Int) ∧ X = b / 2 ^ k ∧ Pix w.heap.size (spF b c x m clip k) wr ∧ Below w.heap.size w wr) (fun _ i _ => (intOf i + 1).toNat)
  case atStart => exact ⟨0, b, _, by omega, rfl, rfl, by omega, by simp, N.out.congr fun j hj => (spF_zero b c x m clip j c0).symm, B.out⟩
  case round =>
    clear N B
    obtain ⟨k, X, q, hk, rfl, rfl, hq, hX, hP, hB⟩ := hrel
    have X1 : (X : Int) ≤ 65535 := by
      have := Nat.div_le_self b (2 ^ k)
      rw [← hX] at this
      omega
    have XX := Lib.hid hX
    have PP := Lib.hid hP
    have BB := Lib.hid hB
    have hbit := bit_of b k X hX
    clear hX hP hB
    by_cases hlt : k < c
    · obtain ⟨d, hd⟩ : ∃ d : Nat, q = (d : Int) := ⟨q.toNat, by omega⟩
      have hdk : d = c - 1 - k := by omega
      subst hd
      have d0 : d < 16 := by omega
      have DK := Lib.hid hdk
      by_cases hodd : X % 2 = 1
      · have TT := Lib.hid (show b.testBit k = true by rw [hbit, decide_eq_true hodd])
        have ho : ((X : Int) % 2 == 1) = true := by simp; omega
        obtain ⟨y, hy⟩ : ∃ y : Nat, y = x + d := ⟨_, rfl⟩
        have eix : (x : Int) + (d : Int) = (y : Int) := by omega
        have HY := Lib.hid hy
        by_cases hin : y < m
        · have a1 := PP.out.at_ y (by omega)
          have a2 := PP.out.fz y (by omega)
          have hin2 : (y : Int) < (m : Int) := by omega
          have hy1 : y < 128 := by omega
          clear hbit hq hdk hy
          go_wp2
          go_roundw
          case rel =>
            refine ⟨k + 1, X / 2, (d : Int) - 1, by omega, by go_num, by go_num, by have := DK.out; omega, by rw [XX.out, div_step], (PP.out.set (k := y) hy1 true).congr fun j hj => ?_, BB.out.setCell (p := ⟨w.heap.size, y, none⟩) (Nat.le_refl _) _⟩
            rw [spF_in b c x m clip k j hlt hm hx (by have := DK.out; have := HY.out; omega), TT.out, show x + (c - 1 - k) = y by have := DK.out; have := HY.out; omega]
          case measure => simp [intOf]
        · have hin2 : ¬ (y : Int) < (m : Int) := by omega
          have hin3 : (m : Int) ≤ (y : Int) := by omega
          cases clip
          · obtain ⟨z, hz⟩ : ∃ z : Nat, z = y - m := ⟨_, rfl⟩
            have eiz : (y : Int) - (m : Int) = (z : Int) := by omega
            have a1 := PP.out.at_ z (by omega)
            have a2 := PP.out.fz z (by omega)
            have hz1 : z < 128 := by omega
            have HZ := Lib.hid hz
            clear hbit hq hdk hy hz hin
            go_wp2
            go_roundw
            case rel =>
              refine ⟨k + 1, X / 2, (d : Int) - 1, by omega, by go_num, by go_num, by have := DK.out; omega, by rw [XX.out, div_step], (PP.out.set (k := z) hz1 true).congr fun j hj => ?_, BB.out.setCell (p := ⟨w.heap.size, z, none⟩) (Nat.le_refl _) _⟩
              rw [spF_out b c x m k j hlt hm hx (by have := DK.out; have := HY.out; omega), TT.out, show x + (c - 1 - k) - m = z by have := DK.out; have := HY.out; have := HZ.out; omega]
            case measure => simp [intOf]
          · clear hbit hq hdk hy hin
            go_wp2
            go_roundw
            case rel =>
              refine ⟨k + 1, X / 2, (d : Int) - 1, by omega, by go_num, by go_num, by have := DK.out; omega, by rw [XX.out, div_step], PP.out.congr fun j hj => ?_, BB.out⟩
              rw [spF_lost b c x m k j hlt hm hx (by have := DK.out; have := HY.out; omega)]
            case measure => simp [intOf]
      · have TT := Lib.hid (show b.testBit k = false by rw [hbit, decide_eq_false hodd])
        have ho : ((X : Int) % 2 == 1) = false := by simp; omega
        clear hbit hq hdk
        go_wp2
        go_roundw
        case rel =>
          refine ⟨k + 1, X / 2, (d : Int) - 1, by omega, by go_num, by go_num, by have := DK.out; omega, by rw [XX.out, div_step], PP.out.congr fun j hj => ?_, BB.out⟩
          rw [spF_off b c x m clip k j hlt hm hx TT.out]
        case measure => simp [intOf]
    · have hkc : k = c := by omega
      subst hkc
      have hneg : q < 0 := by omega
      clear hlt hbit hq
      go_wp2
      go_ret
      exact ⟨_, rfl, Nat.le_refl _, PP.out, BB.out⟩

/-- A row of a width, as the laws make it. -/
def wideOf (h l : BitVec 64) (b : Bool) : BitVec 128 := if b then h ++ l else h ++ 0#64
set_option maxHeartbeats 1000000 in
theorem make_any (h l : BitVec 64) (b : Bool) (w : World) : Calls Try.prog 9 #[.int .u64 (h.toNat : Int), .int .u64 (l.toNat : Int), .bool b] w fun e w' => e = .returned (rv (wideOf h l b)) ∧ Below w.heap.size w w' := by
  cases b
  · rw [wideOf, if_neg (by simp), rv_append]
    go_enter Try.func9, Try.ntmps9
    go_wp2
    go_returns
    exact ⟨rfl, by go_grown⟩
  · rw [wideOf, if_pos rfl, rv_append]
    go_enter Try.func9, Try.ntmps9
    go_wp2
    go_returns
    exact ⟨rfl, by go_grown⟩
set_option maxHeartbeats 1000000 in
theorem pixels_any (r : BitVec 128) (w : World) : Calls Try.prog 10 #[rv r] w (Drawn (px r) w) := by
  obtain ⟨h, l, e⟩ := words r
  rw [e, rv_append]
  have O := Lib.hid (rpixels_any h l)
  generalize px (h ++ l) = F at *
  clear e
  go_enter Try.func10, Try.ntmps10
  go_wp2_with fail
  refine (O.out _).mono ?_
  rintro e w1 ⟨g, rfl, hg, hP, hb⟩
  go_wp2
  go_ret
  exact ⟨g, rfl, Nat.le_trans (by simp) hg, hP, (below_new w (.cells #[.int .u64 (h.toNat : Int), .int .u64 (l.toNat : Int)] 27)).trans (hb.mono (by simp))⟩
end Go.Proofs.Ytfajhppnfnapfaa
