/- Contracts of the reference of layer 6: Width, Sprite. -/
import Derived.Test.YtplmmfgmbfcjpaaPixRef
namespace Go.Proofs.Ytplmmfgmbfcjpaa
open Go.RowKit Num
set_option linter.unusedVariables false
set_option linter.unusedSimpArgs false

theorem rwidth_any (b : Bool) (w : World) : Calls Try.prog 49 #[.bool b] w fun e w' => e = .returned (.int .i64 (if b then 128 else 64)) ∧ w = w' := by
  cases b
  all_goals
    go_enter Try.func49, Try.ntmps49
    go_wp2
    go_ret
    exact ⟨rfl, rfl⟩

set_option maxRecDepth 100000 in
set_option maxHeartbeats 4000000 in
theorem rsprite_any (b c x m : Nat) (clip : Bool) (w : World) (b1 : b ≤ 65535) (c0 : 0 < c) (c1 : c ≤ 16) (hm : c ≤ m) (hx : x < m) (m1 : m ≤ 128) :
    Calls Try.prog 63 #[.int .u16 (b : Int), .int .i64 (c : Int), .int .i64 (x : Int), .int .i64 (m : Int), .bool clip] w (Drawn (spF b c x m clip c) w) := by
  have mk := make_blank
  go_enter Try.func63, Try.ntmps63
  go_wp2
  have N := Lib.hid (Pix.new w 4)
  have B := Lib.hid (below_new w (.cells blank 4))
  generalize w.alloc (.cells blank 4) = w1 at *
  clear mk
  go_loopw [12, 13] (fun a i wr => ∃ k X : Nat, ∃ q : Int, k ≤ c ∧ a = .int .i64 (X : Int) ∧ i = .int .i64 q ∧ q = (c : Int) - 1 - (k : Int) ∧ X = b / 2 ^ k ∧ Pix w.heap.size (spF b c x m clip k) wr ∧ Below w.heap.size w wr) (fun _ i _ => (intOf i + 1).toNat)
  case atStart => exact ⟨0, b, _, by omega, rfl, rfl, by omega, by simp, N.out.congr fun j hj => (spF_zero b c x m clip j c0).symm, B.out⟩
  case round =>
    clear N B
    obtain ⟨k, X, q, hk, rfl, rfl, hq, hX, hP, hB⟩ := hrel
    have X1 : (X : Int) ≤ 65535 := by
      have := Nat.div_le_self b (2 ^ k)
      rw [← hX] at this
      omega
    have XX := Lib.hid hX
    have PP := Lib.hid hP
    have BB := Lib.hid hB
    have hbit := bit_of b k X hX
    clear hX hP hB
    by_cases hlt : k < c
    · obtain ⟨d, hd⟩ : ∃ d : Nat, q = (d : Int) := ⟨q.toNat, by omega⟩
      have hdk : d = c - 1 - k := by omega
      subst hd
      have d0 : d < 16 := by omega
      have DK := Lib.hid hdk
      by_cases hodd : X % 2 = 1
      · have TT := Lib.hid (show b.testBit k = true by rw [hbit, decide_eq_true hodd])
        have ho : ((X : Int) % 2 == 1) = true := by simp; omega
        obtain ⟨y, hy⟩ : ∃ y : Nat, y = x + d := ⟨_, rfl⟩
        have eix : (x : Int) + (d : Int) = (y : Int) := by omega
        have HY := Lib.hid hy
        by_cases hin : y < m
        · have a1 := PP.out.at_ y (by omega)
          have a2 := PP.out.fz y (by omega)
          have hin2 : (y : Int) < (m : Int) := by omega
          have hy1 : y < 128 := by omega
          clear hbit hq hdk hy
          go_wp2
          go_roundw
          case rel =>
            refine ⟨k + 1, X / 2, (d : Int) - 1, by omega, by go_num, by go_num, by have := DK.out; omega, by rw [XX.out, div_step], (PP.out.set (k := y) hy1 true).congr fun j hj => ?_, BB.out.setCell (p := ⟨w.heap.size, y, none⟩) (Nat.le_refl _) _⟩
            rw [spF_in b c x m clip k j hlt hm hx (by have := DK.out; have := HY.out; omega), TT.out, show x + (c - 1 - k) = y by have := DK.out; have := HY.out; omega]
          case measure => simp [intOf]
        · have hin2 : ¬ (y : Int) < (m : Int) := by omega
          have hin3 : (m : Int) ≤ (y : Int) := by omega
          cases clip
          · obtain ⟨z, hz⟩ : ∃ z : Nat, z = y - m := ⟨_, rfl⟩
            have eiz : (y : Int) - (m : Int) = (z : Int) := by omega
            have a1 := PP.out.at_ z (by omega)
            have a2 := PP.out.fz z (by omega)
            have hz1 : z < 128 := by omega
            have HZ := Lib.hid hz
            clear hbit hq hdk hy hz hin
            go_wp2
            go_roundw
            case rel =>
              refine ⟨k + 1, X / 2, (d : Int) - 1, by omega, by go_num, by go_num, by have := DK.out; omega, by rw [XX.out, div_step], (PP.out.set (k := z) hz1 true).congr fun j hj => ?_, BB.out.setCell (p := ⟨w.heap.size, z, none⟩) (Nat.le_refl _) _⟩
              rw [spF_out b c x m k j hlt hm hx (by have := DK.out; have := HY.out; omega), TT.out, show x + (c - 1 - k) - m = z by have := DK.out; have := HY.out; have := HZ.out; omega]
            case measure => simp [intOf]
          · clear hbit hq hdk hy hin
            go_wp2
            go_roundw
            case rel =>
              refine ⟨k + 1, X / 2, (d : Int) - 1, by omega, by go_num, by go_num, by have := DK.out; omega, by rw [XX.out, div_step], PP.out.congr fun j hj => ?_, BB.out⟩
              rw [spF_lost b c x m k j hlt hm hx (by have := DK.out; have := HY.out; omega)]
            case measure => simp [intOf]
      · have TT := Lib.hid (show b.testBit k = false by rw [hbit, decide_eq_false hodd])
        have ho : ((X : Int) % 2 == 1) = false := by simp; omega
        clear hbit hq hdk
        go_wp2
        go_roundw
        case rel =>
          refine ⟨k + 1, X / 2, (d : Int) - 1, by omega, by go_num, by go_num, by have := DK.out; omega, by rw [XX.out, div_step], PP.out.congr fun j hj => ?_, BB.out⟩
          rw [spF_off b c x m clip k j hlt hm hx TT.out]
        case measure => simp [intOf]
    · have hkc : k = c := by omega
      subst hkc
      have hneg : q < 0 := by omega
      clear hlt hbit hq
      go_wp2
      go_ret
      exact ⟨_, rfl, Nat.le_refl _, PP.out, BB.out⟩
end Go.Proofs.Ytplmmfgmbfcjpaa
