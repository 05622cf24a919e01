/- The walk of RandomMatchesReference. -/
import Derived.Test.YtiebbbfhbggmaaaRanLaw
import Derived.Deep.Cut
import Derived.IntWalk
namespace Go.Proofs.Ytiebbbfhbggmaaa
open Go.RowKit Num
set_option linter.unusedVariables false
set_option linter.unusedSimpArgs false

set_option maxRecDepth 100000 in
set_option maxHeartbeats 8000000 in
theorem randomMatchesReference_walk (A : Option Addr) (n c : Nat) (L : List Int) (a i : Int) (w : World) (H : ArgB w A n c L) (w1 : (Lit.int .u8 a).wf = true) (w2 : (Lit.int .i64 i).wf = true) :
    Calls Try.prog 3 #[.slice A n c, .int .u8 a, .int .i64 i] w fun e w' => e = .returned (.bool true) ∧ Below w.heap.size w w' := by
  have HA := Lib.hid H
  clear H
  obtain ⟨q, hq, hq9⟩ : ∃ q : Nat, a = (q : Int) ∧ q ≤ 255 := by
    obtain ⟨m0, m1⟩ := bd_u8 w1
    exact ⟨a.toNat, by omega, by omega⟩
  subst hq
  have Q9 := Lib.hid hq9
  have I9 := Lib.hid (bd_i64 w2)
  have qI : (q : Int) ≤ 255 := by omega
  have q0 : (0 : Int) ≤ (q : Int) := by omega
  clear w1 w2 hq9
  obtain ⟨v0, hv0⟩ : ∃ v0, v0 = w := ⟨_, rfl⟩
  subst hv0
  go_enter Try.func3, Try.ntmps3
  go_wp2_with fail
  refine (awake13 _).mono ?_
  rintro e v1 ⟨rfl, b1⟩
  have BV := Lib.hid b1
  clear b1
  by_cases hlen0 : 1000 < n
  · have k0 : (1000 : Int) < (n : Int) := by omega
    go_wp2_with fail
    refine (awake13 _).mono ?_
    rintro e v2 ⟨rfl, b1⟩
    have BV := Lib.hid (BV.out.trans (b1.mono BV.out.size))
    clear b1
    go_wp2
    go_ret
    exact ⟨rfl, BV.out⟩
  have k0 : ¬ (1000 : Int) < (n : Int) := by omega
  have N0 := Lib.hid (show ¬ 1000 < n from hlen0)
  clear hlen0
  have N0 := Lib.hid (show n ≤ 1000 by have := N0.out; omega)
  have BV1 := Lib.hid BV.out.size
  have hown0 : (v1.alloc (.cells #[] 5)).ownsRow v1.heap.size 5 1 (.slice (some ⟨v1.heap.size, 0, none⟩) 0 0) 0 (([] : List Int).map (Value.int .u8)) := World.ownsRow_made v1 #[] 0 (Nat.le_refl _) (by unfold maxLen; omega) rfl
  have Q0 := Lib.hid (And.intro hown0 (below_newS v1 (.cells #[] 5)))
  clear hown0
  go_upto_region 4 with (first
    | (at_builtin; refine wpList_append_rd rfl (.tmp 19) (.tmp 20) rfl v1.heap.size _ 0 [] rfl Q0.out.1 A n c L rfl (HA.out.rd.below (BV.out.trans (Q0.out.2.mono BV.out.size))) HA.out.len (by have := N0.out; omega) (by simp) ?_; intro u4 v4 o4 g4; have P4 := Lib.hid (And.intro o4 (Q0.out.2.grown g4 (by simp) fun j ej => (Q0.out.1.lt j ej).1)); clear o4 g4))
  obtain ⟨X, c4, hX⟩ := own_form P4.out.1
  subst hX
  have OW := Lib.hid (show v4.ownsRow v1.heap.size 5 1 (.slice X (0 + n) c4) (0 + n) (L.map (Value.int .u8)) from P4.out.1)
  rw [Nat.zero_add] at OW ⊢
  have BV := Lib.hid (BV.out.trans (P4.out.2.mono BV.out.size))
  have XB := Lib.hid (show ∀ g, X = some ⟨g, 0, none⟩ → g < v4.heap.size from fun g e => (OW.out.lt g (by rw [e]; rfl)).2)
  clear P4 Q0
  have BV0 := Lib.hid BV.out.size
  have RO := Lib.hid (RowD.start OW.out HA.out.len)
  go_wp2_with fail
  refine (new_any X n c4 L v4 (own_rd OW.out) HA.out.len (by have := N0.out; omega)).mono ?_
  rintro e v5 ⟨g, rfl, s1, b1⟩
  have S := Lib.hid s1
  clear s1
  have RO := Lib.hid (RO.out.step b1)
  have BV := Lib.hid (BV.out.trans (b1.mono BV.out.size))
  clear b1
  clear OW
  go_wp2
  go_loopw [9] (fun i wr => ∃ k : Nat, k ≤ n ∧ i = .int .i64 (k : Int) ∧ RowD v1.heap.size (.slice X n c4) n L k wr ∧ St v4.heap.size g L 0 wr ∧ Below v0.heap.size v0 wr) (fun i _ => n - (intOf i).toNat)
  case atStart => exact ⟨0, Nat.zero_le _, rfl, RO.out, S.out, BV.out⟩
  case round =>
    clear RO S BV
    obtain ⟨k, hk, rfl, hR, hS, hV⟩ := hrel
    have RR := Lib.hid hR
    have S := Lib.hid hS
    have BV := Lib.hid hV
    clear hR hS hV
    by_cases hlt : k < n
    · obtain ⟨g3, hX, hgb, cc, cf⟩ := RR.out.opened hlt (by have := HA.out.len; omega)
      subst hX
      have kI : (k : Int) < (n : Int) := by omega
      have KL := Lib.hid hlt
      have HN := Lib.hid hgb
      obtain ⟨x, hx⟩ : ∃ x, L[k]'(by have := HA.out.len; omega) = x := ⟨_, rfl⟩
      rw [hx] at cc
      clear hgb hlt hk hx
      go_wp2
      go_roundw
      case rel => exact ⟨k + 1, by have := KL.out; omega, by go_num, RR.out.stored _, S.out.under (Apart.setCell _ _) (XB.out g3 rfl), BV.out.setCell (p := ⟨g3, k, none⟩) (Nat.le_trans BV1.out HN.out) _⟩
      case measure => simp [intOf]; have := KL.out; omega
    · have kI : ¬ (k : Int) < (n : Int) := by omega
      clear hlt hk RR
      obtain ⟨wo, hwo⟩ : ∃ v, v = wr := ⟨_, rfl⟩
      subst hwo
      go_wp2
      go_loopw [10] (fun i wr => ∃ k : Nat, k ≤ q ∧ i = .int .i64 (k : Int) ∧ St v4.heap.size g L k wr ∧ Below v0.heap.size v0 wr) (fun i _ => q - (intOf i).toNat)
      case atStart => exact ⟨0, Nat.zero_le _, rfl, S.out, BV.out⟩
      case round =>
        clear S BV
        obtain ⟨k, hk, rfl, hS, hV⟩ := hrel
        have S := Lib.hid hS
        have BV := Lib.hid hV
        clear hS hV
        by_cases hlt : k < q
        · have kI : (k : Int) < (q : Int) := by omega
          have KL := Lib.hid (And.intro hlt (show k ≤ 255 by have := Q9.out; omega))
          have E := Lib.hid (rat_nat L k)
          clear hlt hk
          go_wp2_with fail
          refine (count_any S.out (by have := KL.out.2; omega)).mono ?_
          rintro e w' ⟨rfl, rfl⟩
          go_wp2_with fail
          refine (next_any S.out (by have := KL.out.2; omega) (by rw [HA.out.len]; have := N0.out; omega)).mono ?_
          rintro e v6 ⟨rfl, s1, a1⟩
          have BV := Lib.hid (BV.out.trans (a1.below BV.out.size (Nat.le_trans BV0.out S.out.low) (fun _ e => by cases e)))
          have S := Lib.hid s1
          clear s1 a1
          go_wp2_with fail
          refine (rat_any A n c L (k : Int) v6 (HA.out.rd.below BV.out) HA.out.len (by have := N0.out; omega) (by have := KL.out.2; omega)).mono ?_
          rintro e w' ⟨rfl, rfl⟩
          rw [E.out]
          generalize nxt L k = x at *
          go_wp2
          go_roundw
          case rel => exact ⟨k + 1, by have := KL.out.1; omega, by go_num, S.out, BV.out⟩
          case measure => simp [intOf]; have := KL.out.1; omega
        · have kI : ¬ (k : Int) < (q : Int) := by omega
          obtain rfl : k = q := by omega
          clear hlt hk
          go_wp2_with fail
          refine (count_any S.out (by have := Q9.out; omega)).mono ?_
          rintro e w' ⟨rfl, rfl⟩
          go_wp2_with fail
          obtain ⟨v7, hv⟩ : ∃ v, v = wr := ⟨_, rfl⟩
          subst hv
          refine (at_any A n c L i v7 (HA.out.rd.below BV.out) HA.out.len (by have := N0.out; omega) I9.out.2).mono ?_
          rintro e v8 ⟨rfl, b1⟩
          have BV := Lib.hid (BV.out.trans (b1.mono BV.out.size))
          clear b1
          go_wp2_with fail
          refine (rat_any A n c L i v8 (HA.out.rd.below BV.out) HA.out.len (by have := N0.out; omega) I9.out.2).mono ?_
          rintro e w' ⟨rfl, rfl⟩
          generalize rat L i = x at *
          go_wp2_with fail
          go_ret
          exact ⟨by simp, BV.out⟩
end Go.Proofs.Ytiebbbfhbggmaaa
