/- The walk of RandomResumes. -/
import Derived.Test.YtiebbbfhbggmaaaRanLaw
import Derived.Deep.Cut
import Derived.IntWalk
import Derived.BigQuiet
import Derived.Lib.MinMax
namespace Go.Proofs.Ytiebbbfhbggmaaa
open Go.RowKit Num
set_option linter.unusedVariables false
set_option linter.unusedSimpArgs false

set_option maxRecDepth 100000 in
set_option maxHeartbeats 8000000 in
theorem randomResumes_walk (A : Option Addr) (n c : Nat) (L : List Int) (a i : Int) (w : World) (H : ArgB w A n c L) (w1 : (Lit.int .u8 a).wf = true) (w2 : (Lit.int .i64 i).wf = true) :
    Calls Try.prog 6 #[.slice A n c, .int .u8 a, .int .i64 i] w fun e w' => e = .returned (.bool true) ∧ Below w.heap.size w w' := by
  have HA := Lib.hid H
  clear H
  obtain ⟨q, hq, hq9⟩ : ∃ q : Nat, a = (q : Int) ∧ q ≤ 255 := by
    obtain ⟨m0, m1⟩ := bd_u8 w1
    exact ⟨a.toNat, by omega, by omega⟩
  subst hq
  have Q9 := Lib.hid hq9
  have qI : (q : Int) ≤ 255 := by omega
  have q0 : (0 : Int) ≤ (q : Int) := by omega
  clear w1 hq9
  have I9 := Lib.hid (bd_i64 w2)
  clear w2
  obtain ⟨v0, hv0⟩ : ∃ v0, v0 = w := ⟨_, rfl⟩
  subst hv0
  go_enter Try.func6, Try.ntmps6
  go_wp2_with fail
  refine (awake13 _).mono ?_
  rintro e v1 ⟨rfl, b1⟩
  have BV := Lib.hid b1
  clear b1
  by_cases hlen0 : 1000 < n
  · have k0 : (1000 : Int) < (n : Int) := by omega
    go_wp2_with fail
    refine (awake13 _).mono ?_
    rintro e v2 ⟨rfl, b1⟩
    have BV := Lib.hid (BV.out.trans (b1.mono BV.out.size))
    clear b1
    go_wp2
    go_ret
    exact ⟨rfl, BV.out⟩
  have k0 : ¬ (1000 : Int) < (n : Int) := by omega
  have N0 := Lib.hid (show ¬ 1000 < n from hlen0)
  clear hlen0
  have N0 := Lib.hid (show n ≤ 1000 by have := N0.out; omega)
  have BV0 := Lib.hid BV.out.size
  obtain ⟨p, hp⟩ : ∃ p : Nat, max i 0 = (p : Int) := ⟨(max i 0).toNat, by omega⟩
  have HP := Lib.hid hp
  have P9 := Lib.hid (show p ≤ 9223372036854775807 by have := I9.out; omega)
  clear hp
  go_wp2_with fail
  refine (new_any A n c L v1 (HA.out.rd.below BV.out) HA.out.len (by have := N0.out; omega)).mono ?_
  rintro e v5 ⟨g, rfl, s1, b1⟩
  have S := Lib.hid s1
  clear s1
  have BV := Lib.hid (BV.out.trans (b1.mono BV.out.size))
  clear b1
  go_wp2
  go_loopw [8] (fun i wr => ∃ k : Nat, k ≤ q ∧ i = .int .i64 (k : Int) ∧ St v1.heap.size g L (k) wr ∧ Below v0.heap.size v0 wr) (fun i _ => q - (intOf i).toNat)
  case atStart => exact ⟨0, Nat.zero_le _, rfl, S.out, BV.out⟩
  case round =>
    clear S BV
    obtain ⟨k, hk, rfl, hS, hV⟩ := hrel
    have S := Lib.hid hS
    have BV := Lib.hid hV
    clear hS hV
    by_cases hlt : k < q
    · have kI : (k : Int) < (q : Int) := by omega
      have KL := Lib.hid (And.intro hlt (show k ≤ 255 by have := Q9.out; omega))
      clear hlt hk
      go_wp2_with fail
      refine (next_any S.out (by have := KL.out.2; have := Q9.out; omega) (by rw [HA.out.len]; have := N0.out; omega)).mono ?_
      rintro e v6 ⟨rfl, s1, a1⟩

      have BV := Lib.hid (BV.out.trans (a1.below BV.out.size (Nat.le_trans BV0.out S.out.low) (fun _ e => by cases e)))
      have S := Lib.hid s1
      clear s1 a1
      go_wp2
      go_roundw
      case rel => exact ⟨k + 1, by have := KL.out.1; omega, by go_num, S.out, BV.out⟩
      case measure => simp [intOf]; have := KL.out.1; omega
    · have kI : ¬ (k : Int) < (q : Int) := by omega
      obtain rfl : q = k := by omega
      clear hlt hk
      obtain ⟨v7, hvv7⟩ : ∃ v, v = wr := ⟨_, rfl⟩
      subst hvv7
      have BV7 := Lib.hid BV.out.size
      go_wp2_with fail
      refine (list_any S.out (by rw [HA.out.len]; have := N0.out; omega)).mono ?_
      rintro e v8 ⟨u, rfl, ho, b1⟩
      rw [HA.out.len] at ho
      obtain ⟨X, c8, rfl⟩ := own_form ho
      have OW := Lib.hid ho
      have XB := Lib.hid (show ∀ g, X = some ⟨g, 0, none⟩ → g < v8.heap.size from fun g e => (ho.lt g (by rw [e]; rfl)).2)
      have S := Lib.hid (S.out.step b1)
      clear ho
      have BV := Lib.hid (BV.out.trans (b1.mono BV.out.size))
      clear b1
      have BV8 := Lib.hid BV.out.size
      have RO := Lib.hid (RowD.start OW.out HA.out.len)
      go_wp2_with fail
      refine (count_any S.out (by have := Q9.out; omega)).mono ?_
      rintro e w' ⟨rfl, rfl⟩
      clear S
      go_wp2_with fail
      refine (resume_any X n c8 L (q : Int) q v8 (own_rd OW.out) HA.out.len (by have := N0.out; omega) (by omega) (by have := Q9.out; omega)).mono ?_
      rintro e v9 ⟨h, rfl, s1, b1⟩
      have T := Lib.hid s1
      clear s1
      have RO := Lib.hid (RO.out.step b1)
      have BV := Lib.hid (BV.out.trans (b1.mono BV.out.size))
      clear b1
      clear OW
      have B89 := Lib.hid (show v8.heap.size ≤ v9.heap.size from Nat.le_trans T.out.low (Nat.le_of_lt T.out.lt))
      have GT := Lib.hid T.out.lt
      have BV9 := Lib.hid BV.out.size
      go_wp2_with fail
      refine (resume_any A n c L i p v9 (HA.out.rd.below BV.out) HA.out.len (by have := N0.out; omega) HP.out I9.out.2).mono ?_
      rintro e v10 ⟨h2, rfl, s1, b1⟩
      have U := Lib.hid s1
      clear s1
      have RO := Lib.hid (RO.out.step b1)
      have T := Lib.hid (T.out.step b1)
      have BV := Lib.hid (BV.out.trans (b1.mono BV.out.size))
      clear b1
      go_wp2
      go_loopw [12] (fun i wr => ∃ l : Nat, l ≤ n ∧ i = .int .i64 (l : Int) ∧ RowD v7.heap.size (.slice X n c8) n L l wr ∧ St v8.heap.size h L q wr ∧ St v9.heap.size h2 L p wr ∧ Below v0.heap.size v0 wr) (fun i _ => n - (intOf i).toNat)
      case atStart => exact ⟨0, Nat.zero_le _, rfl, RO.out, T.out, U.out, BV.out⟩
      case round =>
        clear RO T U BV
        obtain ⟨l, hl, rfl, hR, hT, hU, hV⟩ := hrel
        have RR := Lib.hid hR
        have T := Lib.hid hT
        have U := Lib.hid hU
        have BV := Lib.hid hV
        clear hR hT hU hV
        by_cases hlt : l < n
        · obtain ⟨g3, hX, hgb, cc, cf⟩ := RR.out.opened hlt (by have := HA.out.len; omega)
          subst hX
          obtain ⟨ad, hA, hab, ca⟩ := (HA.out.rd.below BV.out).at_ (k := l) (by have := HA.out.len; omega)
          subst hA
          have lI : (l : Int) < (n : Int) := by omega
          have KL := Lib.hid hlt
          have HN := Lib.hid hgb
          obtain ⟨x, hx⟩ : ∃ x, L[l]'(by have := HA.out.len; omega) = x := ⟨_, rfl⟩
          rw [hx] at cc ca
          clear hgb hlt hl hx hab
          go_wp2
          go_quiet (fail)
          go_wp2
          go_roundw
          case rel => exact ⟨l + 1, by have := KL.out; omega, by go_num, RR.out.stored _, T.out.under (Apart.trans (w := wr.drewN nq) ⟨rfl, rfl, rfl, Nat.le_refl _, fun _ _ _ _ => rfl⟩ (Apart.setCell _ _)) (XB.out g3 rfl), U.out.under (Apart.trans (w := wr.drewN nq) ⟨rfl, rfl, rfl, Nat.le_refl _, fun _ _ _ _ => rfl⟩ (Apart.setCell _ _)) (Nat.lt_of_lt_of_le (XB.out g3 rfl) B89.out), Below.setCell (w := wr.drewN nq) (BV.out.trans ⟨rfl, rfl, rfl, Nat.le_refl _, fun _ _ => rfl⟩) (p := ⟨g3, l, none⟩) (Nat.le_trans BV7.out HN.out) _⟩
          case measure => simp [intOf]; have := KL.out; omega
        · have lI : ¬ (l : Int) < (n : Int) := by omega
          clear hlt hl RR
          obtain ⟨wo, hwo⟩ : ∃ v, v = wr := ⟨_, rfl⟩
          subst hwo
          go_wp2
          go_loopw [13] (fun i wr => ∃ j : Nat, j ≤ 5 ∧ i = .int .i64 (j : Int) ∧ St v8.heap.size h L (q + j) wr ∧ St v9.heap.size h2 L p wr ∧ Below v0.heap.size v0 wr) (fun i _ => 5 - (intOf i).toNat)
          case atStart => exact ⟨0, Nat.zero_le _, rfl, T.out, U.out, BV.out⟩
          case round =>
            clear T U BV
            obtain ⟨j, hj, rfl, hT, hU, hV⟩ := hrel
            have T := Lib.hid hT
            have U := Lib.hid hU
            have BV := Lib.hid hV
            clear hT hV hU
            by_cases hlt : j < 5
            · have jI : (j : Int) < 5 := by omega
              have KL := Lib.hid hlt
              have E1 := Lib.hid (show ((q + j : Nat) : Int) = (q : Int) + (j : Int) by omega)
              have E2 := Lib.hid (show rat L ((q : Int) + (j : Int)) = nxt L (q + j) by rw [← E1.out, rat_nat])
              clear hlt hj
              go_wp2_with fail
              refine (count_any T.out (by have := KL.out; have := Q9.out; omega)).mono ?_
              rintro e w' ⟨rfl, rfl⟩
              rw [E1.out]
              go_wp2_with fail
              refine (next_any T.out (by have := KL.out; have := Q9.out; omega) (by rw [HA.out.len]; have := N0.out; omega)).mono ?_
              rintro e v11 ⟨rfl, s1, a1⟩
              have U := Lib.hid (U.out.under a1 GT.out)
              have BV := Lib.hid (BV.out.trans (a1.below BV.out.size (Nat.le_trans BV8.out T.out.low) (fun _ e => by cases e)))
              have T := Lib.hid s1
              clear s1 a1
              go_wp2_with fail
              refine (rat_any A n c L ((q : Int) + (j : Int)) v11 (HA.out.rd.below BV.out) HA.out.len (by have := N0.out; omega) (by have := KL.out; have := Q9.out; omega)).mono ?_
              rintro e w' ⟨rfl, rfl⟩
              rw [E2.out]
              generalize nxt L (q + j) = x at *
              go_wp2
              go_roundw
              case rel => exact ⟨j + 1, by have := KL.out; omega, by go_num, T.out, U.out, BV.out⟩
              case measure => simp [intOf]; have := KL.out; omega
            · have jI : ¬ (j : Int) < 5 := by omega
              clear hlt hj
              obtain ⟨v12, hv12⟩ : ∃ v, v = wr := ⟨_, rfl⟩
              subst hv12
              clear T
              have mx : max i 0 = (p : Int) := HP.out
              by_cases hi : 9223372036854775807 ≤ i
              · have iI : (9223372036854775807 : Int) ≤ i := hi
                clear hi
                go_wp2_with fail
                refine (count_any U.out P9.out).mono ?_
                rintro e w' ⟨rfl, rfl⟩
                go_wp2_with fail
                go_ret
                exact ⟨by simp, BV.out⟩
              · have iI : ¬ (9223372036854775807 : Int) ≤ i := hi
                clear hi
                go_wp2_with fail
                refine (count_any U.out P9.out).mono ?_
                rintro e w' ⟨rfl, rfl⟩
                go_wp2_with fail
                refine (next_any U.out P9.out (by rw [HA.out.len]; have := N0.out; omega)).mono ?_
                rintro e v13 ⟨rfl, s1, a1⟩
                have BV := Lib.hid (BV.out.trans (a1.below BV.out.size (Nat.le_trans BV9.out U.out.low) (fun _ e => by cases e)))
                clear s1 a1 U
                go_wp2_with fail
                refine (rat_any A n c L (p : Int) v13 (HA.out.rd.below BV.out) HA.out.len (by have := N0.out; omega) (by have := P9.out; omega)).mono ?_
                rintro e w' ⟨rfl, rfl⟩
                rw [rat_nat]
                generalize nxt L p = x at *
                go_wp2_with fail
                go_ret
                exact ⟨by simp, BV.out⟩
end Go.Proofs.Ytiebbbfhbggmaaa
