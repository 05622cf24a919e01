/- The walk of RandomClones. -/
import Derived.Test.YtiebbbfhbggmaaaRanLaw
import Derived.Deep.Cut
import Derived.IntWalk
namespace Go.Proofs.Ytiebbbfhbggmaaa
open Go.RowKit Num
set_option linter.unusedVariables false
set_option linter.unusedSimpArgs false

set_option maxRecDepth 100000 in
set_option maxHeartbeats 8000000 in
theorem randomClones_walk (A : Option Addr) (n c : Nat) (L : List Int) (a d : Int) (w : World) (H : ArgB w A n c L) (w1 : (Lit.int .u8 a).wf = true) (w2 : (Lit.int .u8 d).wf = true) :
    Calls Try.prog 5 #[.slice A n c, .int .u8 a, .int .u8 d] w fun e w' => e = .returned (.bool true) ∧ Below w.heap.size w w' := by
  have HA := Lib.hid H
  clear H
  obtain ⟨q, hq, hq9⟩ : ∃ q : Nat, a = (q : Int) ∧ q ≤ 255 := by
    obtain ⟨m0, m1⟩ := bd_u8 w1
    exact ⟨a.toNat, by omega, by omega⟩
  subst hq
  have Q9 := Lib.hid hq9
  have qI : (q : Int) ≤ 255 := by omega
  have q0 : (0 : Int) ≤ (q : Int) := by omega
  clear w1 hq9
  obtain ⟨r, hr, hr9⟩ : ∃ q : Nat, d = (q : Int) ∧ q ≤ 255 := by
    obtain ⟨m0, m1⟩ := bd_u8 w2
    exact ⟨d.toNat, by omega, by omega⟩
  subst hr
  have R9 := Lib.hid hr9
  have rI : (r : Int) ≤ 255 := by omega
  have r0 : (0 : Int) ≤ (r : Int) := by omega
  clear w2 hr9
  obtain ⟨v0, hv0⟩ : ∃ v0, v0 = w := ⟨_, rfl⟩
  subst hv0
  go_enter Try.func5, Try.ntmps5
  go_wp2_with fail
  refine (awake13 _).mono ?_
  rintro e v1 ⟨rfl, b1⟩
  have BV := Lib.hid b1
  clear b1
  by_cases hlen0 : 1000 < n
  · have k0 : (1000 : Int) < (n : Int) := by omega
    go_wp2_with fail
    refine (awake13 _).mono ?_
    rintro e v2 ⟨rfl, b1⟩
    have BV := Lib.hid (BV.out.trans (b1.mono BV.out.size))
    clear b1
    go_wp2
    go_ret
    exact ⟨rfl, BV.out⟩
  have k0 : ¬ (1000 : Int) < (n : Int) := by omega
  have N0 := Lib.hid (show ¬ 1000 < n from hlen0)
  clear hlen0
  have N0 := Lib.hid (show n ≤ 1000 by have := N0.out; omega)
  have BV0 := Lib.hid BV.out.size
  go_wp2_with fail
  refine (new_any A n c L v1 (HA.out.rd.below BV.out) HA.out.len (by have := N0.out; omega)).mono ?_
  rintro e v5 ⟨g, rfl, s1, b1⟩
  have S := Lib.hid s1
  clear s1
  have BV := Lib.hid (BV.out.trans (b1.mono BV.out.size))
  clear b1
  go_wp2
  go_loopw [8] (fun i wr => ∃ k : Nat, k ≤ q ∧ i = .int .i64 (k : Int) ∧ St v1.heap.size g L (k) wr ∧ Below v0.heap.size v0 wr) (fun i _ => q - (intOf i).toNat)
  case atStart => exact ⟨0, Nat.zero_le _, rfl, S.out, BV.out⟩
  case round =>
    clear S BV
    obtain ⟨k, hk, rfl, hS, hV⟩ := hrel
    have S := Lib.hid hS
    have BV := Lib.hid hV
    clear hS hV
    by_cases hlt : k < q
    · have kI : (k : Int) < (q : Int) := by omega
      have KL := Lib.hid (And.intro hlt (show k ≤ 255 by have := Q9.out; omega))
      clear hlt hk
      go_wp2_with fail
      refine (next_any S.out (by have := KL.out.2; have := Q9.out; omega) (by rw [HA.out.len]; have := N0.out; omega)).mono ?_
      rintro e v6 ⟨rfl, s1, a1⟩

      have BV := Lib.hid (BV.out.trans (a1.below BV.out.size (Nat.le_trans BV0.out S.out.low) (fun _ e => by cases e)))
      have S := Lib.hid s1
      clear s1 a1
      go_wp2
      go_roundw
      case rel => exact ⟨k + 1, by have := KL.out.1; omega, by go_num, S.out, BV.out⟩
      case measure => simp [intOf]; have := KL.out.1; omega
    · have kI : ¬ (k : Int) < (q : Int) := by omega
      obtain rfl : q = k := by omega
      clear hlt hk
      obtain ⟨v7, hvv7⟩ : ∃ v, v = wr := ⟨_, rfl⟩
      subst hvv7
      have GC := Lib.hid S.out.lt
      have BV2 := Lib.hid BV.out.size
      go_wp2_with fail
      refine (sclone_any S.out (by rw [HA.out.len]; have := N0.out; omega)).mono ?_
      rintro e v71 ⟨h, rfl, s1, b1⟩
      have C := Lib.hid s1
      clear s1
      have S := Lib.hid (S.out.step b1)
      have BV := Lib.hid (BV.out.trans (b1.mono BV.out.size))
      clear b1
      go_wp2
      go_loopw [10] (fun i wr => ∃ l : Nat, l ≤ r ∧ i = .int .i64 (l : Int) ∧ St v1.heap.size g L (q + l) wr ∧ St v7.heap.size h L q wr ∧ Below v0.heap.size v0 wr) (fun i _ => r - (intOf i).toNat)
      case atStart => exact ⟨0, Nat.zero_le _, rfl, S.out, C.out, BV.out⟩
      case round =>
        clear S BV C
        obtain ⟨l, hl, rfl, hS, hC, hV⟩ := hrel
        have S := Lib.hid hS
        have BV := Lib.hid hV
        have C := Lib.hid hC
        clear hS hV hC
        by_cases hlt : l < r
        · have lI : (l : Int) < (r : Int) := by omega
          have KL := Lib.hid (And.intro hlt (show l ≤ 255 by have := R9.out; omega))
          clear hlt hl
          go_wp2_with fail
          refine (next_any S.out (by have := KL.out.2; have := Q9.out; omega) (by rw [HA.out.len]; have := N0.out; omega)).mono ?_
          rintro e v8 ⟨rfl, s1, a1⟩
          have C := Lib.hid (C.out.under a1 GC.out)
          have BV := Lib.hid (BV.out.trans (a1.below BV.out.size (Nat.le_trans BV0.out S.out.low) (fun _ e => by cases e)))
          have S := Lib.hid s1
          clear s1 a1
          go_wp2
          go_roundw
          case rel => exact ⟨l + 1, by have := KL.out.1; omega, by go_num, S.out, C.out, BV.out⟩
          case measure => simp [intOf]; have := KL.out.1; omega
        · have lI : ¬ (l : Int) < (r : Int) := by omega
          obtain rfl : r = l := by omega
          clear hlt hl
          go_wp2
          go_loopw [11] (fun i wr => ∃ j : Nat, j ≤ 5 ∧ i = .int .i64 (j : Int) ∧ St v7.heap.size h L (q + j) wr ∧ St v1.heap.size g L (q + r + j) wr ∧ Below v0.heap.size v0 wr) (fun i _ => 5 - (intOf i).toNat)
          case atStart => exact ⟨0, Nat.zero_le _, rfl, C.out, S.out, BV.out⟩
          case round =>
            clear C S BV
            obtain ⟨j, hj, rfl, hC, hS, hV⟩ := hrel
            have S := Lib.hid hS
            have C := Lib.hid hC
            have BV := Lib.hid hV
            clear hS hV hC
            by_cases hlt : j < 5
            · have jI : (j : Int) < 5 := by omega
              have KL := Lib.hid hlt
              have E1 := Lib.hid (show ((q + j : Nat) : Int) = (q : Int) + (j : Int) by omega)
              have E2 := Lib.hid (show rat L ((q : Int) + (j : Int)) = nxt L (q + j) by rw [← E1.out, rat_nat])
              have E3 := Lib.hid (show rat L ((q : Int) + (r : Int) + (j : Int)) = nxt L (q + r + j) by rw [show (q : Int) + (r : Int) + (j : Int) = ((q + r + j : Nat) : Int) by omega, rat_nat])
              clear hlt hj
              go_wp2_with fail
              refine (count_any C.out (by have := KL.out; have := Q9.out; omega)).mono ?_
              rintro e w' ⟨rfl, rfl⟩
              rw [E1.out]
              go_wp2_with fail
              refine (next_any C.out (by have := KL.out; have := Q9.out; omega) (by rw [HA.out.len]; have := N0.out; omega)).mono ?_
              rintro e v9 ⟨rfl, s1, a1⟩
              have S := Lib.hid (S.out.other a1 (by have := GC.out; have := C.out.low; omega) C.out)
              have BV := Lib.hid (BV.out.trans (a1.below BV.out.size (Nat.le_trans BV2.out C.out.low) (fun _ e => by cases e)))
              have C := Lib.hid s1
              clear s1 a1
              go_wp2_with fail
              refine (rat_any A n c L ((q : Int) + (j : Int)) v9 (HA.out.rd.below BV.out) HA.out.len (by have := N0.out; omega) (by have := KL.out; have := Q9.out; omega)).mono ?_
              rintro e w' ⟨rfl, rfl⟩
              rw [E2.out]
              generalize nxt L (q + j) = x at *
              go_wp2_with fail
              refine (next_any S.out (by have := KL.out; have := Q9.out; have := R9.out; omega) (by rw [HA.out.len]; have := N0.out; omega)).mono ?_
              rintro e v10 ⟨rfl, s1, a1⟩
              have C := Lib.hid (C.out.under a1 GC.out)
              have BV := Lib.hid (BV.out.trans (a1.below BV.out.size (Nat.le_trans BV0.out S.out.low) (fun _ e => by cases e)))
              have S := Lib.hid s1
              clear s1 a1
              go_wp2_with fail
              refine (rat_any A n c L ((q : Int) + (r : Int) + (j : Int)) v10 (HA.out.rd.below BV.out) HA.out.len (by have := N0.out; omega) (by have := KL.out; have := Q9.out; have := R9.out; omega)).mono ?_
              rintro e w' ⟨rfl, rfl⟩
              rw [E3.out]
              generalize nxt L (q + r + j) = y at *
              go_wp2
              go_roundw
              case rel => exact ⟨j + 1, by have := KL.out; omega, by go_num, C.out, S.out, BV.out⟩
              case measure => simp [intOf]; have := KL.out; omega
            · have jI : ¬ (j : Int) < 5 := by omega
              clear hlt hj
              go_wp2_with fail
              go_ret
              exact ⟨rfl, BV.out⟩
end Go.Proofs.Ytiebbbfhbggmaaa
