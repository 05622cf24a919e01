/- The walk of RowMatchesReference. -/
import Derived.Test.YtfajhppnfnapfaaPixW
import Derived.Test.YtfajhppnfnapfaaRowShiftsW
import Derived.Test.YtfajhppnfnapfaaRowSetsW
namespace Go.Proofs.Ytfajhppnfnapfaa
open Go.RowKit Num
set_option linter.unusedVariables false
set_option linter.unusedSimpArgs false

theorem shift_same (r : BitVec 128) (n : Int) (m : Nat) (hm : m ≤ 128) (hr : OfWidth r m) (j : Nat) (hj : j < 128) : px (shift r n m) j = shF (px r) n m m j := by
  rw [px_shift _ _ _ _ hj (by omega)]
  unfold shF
  by_cases h1 : j < m
  · rw [decide_eq_true (p := (j : Int) < (m : Int)) (by omega), decide_eq_true h1, Bool.and_true, Bool.true_and]
    by_cases h2 : (j : Int) - n < (m : Int)
    · rw [decide_eq_true h2, Bool.true_and]
      rfl
    · rw [decide_eq_false h2, Bool.false_and, Bool.and_false, hr _ (by omega)]
  · rw [decide_eq_false (p := (j : Int) < (m : Int)) (by omega), decide_eq_false h1, Bool.and_false, Bool.false_and]
theorem empty_count {r : BitVec 128} {K : Nat} (h : cnt r = K) : decide (r = 0#128) = decide (K = 0) := by
  rw [Bool.eq_iff_iff, decide_eq_true_eq, decide_eq_true_eq, ← cnt_zero, h]

set_option maxRecDepth 100000 in
set_option maxHeartbeats 8000000 in
theorem rowRef_go (h l r1 r2 : BitVec 64) (x n : Int) (b m : Nat) (wide big : Bool) (w : World) (er : wideOf h l wide = r1 ++ r2) (hr : OfWidth (r1 ++ r2) m) (hm : m = 64 ∨ m = 128) (hw : ∀ w, Calls Try.prog 11 #[.bool wide] w fun e w' => e = .returned (.int .i64 (m : Int)) ∧ w = w')
    (x0 : -9223372036854775808 ≤ x) (x1 : x ≤ 9223372036854775807) (n0 : -128 ≤ n) (n1 : n ≤ 127) (b1 : b ≤ 65535) :
    Calls Try.prog 3 #[.int .u64 (h.toNat : Int), .int .u64 (l.toNat : Int), .bool wide, .int .i64 x, .int .i8 n, .int .u16 (b : Int), .bool big] w fun e w' => e = .returned (.bool true) ∧ Below w.heap.size w w' := by
  obtain ⟨c, hc, hcb⟩ : ∃ c : Nat, (c = 8 ∨ c = 16) ∧ c = (if big then 16 else 8) := by
    cases big
    · exact ⟨8, .inl rfl, rfl⟩
    · exact ⟨16, .inr rfl, rfl⟩
  have m0 : (64 : Int) ≤ (m : Int) := by omega
  have m1 : (m : Int) ≤ 128 := by omega
  obtain ⟨q, hq⟩ : ∃ q : Nat, (q : Int) = max (min x ((m : Int) - 1)) 0 := ⟨(max (min x ((m : Int) - 1)) 0).toNat, by omega⟩
  have hqm : q < m := by omega
  obtain ⟨u, hu⟩ : ∃ u, pxi (r1 ++ r2) x = u := ⟨_, rfl⟩
  obtain ⟨s1, s2, es⟩ := words (shift (r1 ++ r2) n m)
  obtain ⟨f1, f2, ef⟩ := words (sprite b c q m false)
  obtain ⟨g1, g2, eg⟩ := words (sprite b c q m true)
  obtain ⟨K, hK⟩ : ∃ K, cnt (r1 ++ r2) = K := ⟨_, rfl⟩
  have hz := empty_count hK
  have J1 := shift_same (r1 ++ r2) n m (by omega) hr
  have J2 := px_sprite b c q m false (by omega) (by omega) (by omega) hqm
  have J3 := px_sprite b c q m true (by omega) (by omega) (by omega) hqm
  rw [es] at J1
  rw [ef] at J2
  rw [eg] at J3
  have W := Lib.hid hw
  have M := Lib.hid fun w => makeW er w
  have G := Lib.hid fun w => getW hu x0 x1 w
  have S := Lib.hid fun w => shiftW es (by omega) (by omega) (by omega) (by omega) w
  have P1 : ∀ ci qi : Int, ci = (c : Int) → qi = (q : Int) → ∀ w, _ := fun ci qi h h2 w => spriteW (bi := b) (ci := ci) (xi := qi) (mi := m) ef rfl h h2 rfl hc b1 (by omega) (by omega) w
  have P2 : ∀ ci qi : Int, ci = (c : Int) → qi = (q : Int) → ∀ w, _ := fun ci qi h h2 w => spriteW (bi := b) (ci := ci) (xi := qi) (mi := m) eg rfl h h2 rfl hc b1 (by omega) (by omega) w
  have RS : ∀ (clip : Bool) (ci qi : Int), ci = (c : Int) → qi = (q : Int) → ∀ w, Calls Try.prog 17 #[.int .u16 (b : Int), .int .i64 ci, .int .i64 qi, .int .i64 (m : Int), .bool clip] w (Drawn (spF b c q m clip c) w) := fun clip ci qi h h2 w => by
    subst h
    subst h2
    exact rsprite_any b c q m clip w b1 (by omega) (by omega) (by omega) hqm (by omega)
  have CN := Lib.hid fun w => countW hK w
  have EM := Lib.hid fun w => emptyW hz w
  have O1 := Lib.hid (pixelsW r1 r2)
  have O2 := Lib.hid (pixelsW s1 s2)
  have O3 := Lib.hid (pixelsW f1 f2)
  have O4 := Lib.hid (pixelsW g1 g2)
  have hin : ∀ k : Nat, x = (k : Int) → px (r1 ++ r2) k = u := fun k hk => by rw [← hu, hk, pxi_nat]
  have hout : (x < 0 ∨ 128 ≤ x) → u = false := fun h => by rw [← hu]; exact get_out _ _ h
  have hKc : pcn (px (r1 ++ r2)) 128 = K := hK
  obtain ⟨F, hF⟩ : ∃ F, px (r1 ++ r2) = F := ⟨_, rfl⟩
  obtain ⟨F2, hF2⟩ : ∃ F, px (s1 ++ s2) = F := ⟨_, rfl⟩
  obtain ⟨F3, hF3⟩ : ∃ F, px (f1 ++ f2) = F := ⟨_, rfl⟩
  obtain ⟨F4, hF4⟩ : ∃ F, px (g1 ++ g2) = F := ⟨_, rfl⟩
  rw [hF] at O1 J1 hin hKc
  rw [hF2] at O2 J1
  rw [hF3] at O3 J2
  rw [hF4] at O4 J3
  have V := Lib.hid (And.intro hcb (And.intro P1 (And.intro P2 (And.intro RS (And.intro J1 (And.intro J2 (And.intro J3 (And.intro hin (And.intro hout (And.intro hKc hq))))))))))
  clear hr er hw es ef eg hu hK hz hF hF2 hF3 hF4 J1 J2 J3 P1 P2 RS hin hout hKc hcb hq hc
  have hx : x < 0 ∨ (0 ≤ x ∧ 127 < x) ∨ (0 ≤ x ∧ x ≤ 127) := by omega
  have nn : -1000 ≤ n ∧ n ≤ 1000 := by omega
  go_enter Try.func3, Try.ntmps3
  go_wp2_with fail
  have BB := Lib.hid (Below.refl w.heap.size w)
  refine (awake6 _).mono ?_
  rintro e v1 ⟨rfl, b1⟩
  have BB := Lib.hid (BB.out.trans (b1.mono BB.out.size))
  clear b1
  go_wp2_with fail
  refine (M.out _).mono ?_
  rintro e v2 ⟨rfl, b1⟩
  have BB := Lib.hid (BB.out.trans (b1.mono BB.out.size))
  clear b1
  go_wp2_with fail
  have A1 := Lib.hid (Box.new v2 r1 r2 27)
  have BB := Lib.hid (BB.out.alloc BB.out.size (.cells #[.int .u64 (r1.toNat : Int), .int .u64 (r2.toNat : Int)] 27))
  obtain ⟨p1, hq⟩ : ∃ a, a = v2.heap.size := ⟨_, rfl⟩
  generalize v2.alloc (.cells #[.int .u64 (r1.toNat : Int), .int .u64 (r2.toNat : Int)] 27) = v3 at *
  rw [← hq] at A1 ⊢
  clear hq
  refine (O1.out _).mono ?_
  rintro e v4 ⟨g, rfl, hg, P, b1⟩
  have P := Lib.hid P
  clear hg
  have A1 := Lib.hid (A1.out.step b1)
  have BB := Lib.hid (BB.out.trans (b1.mono BB.out.size))
  clear b1
  go_wp2_with fail
  refine (W.out _).mono ?_
  rintro e w' ⟨rfl, rfl⟩
  obtain ⟨A1x1, A1x2, A1x3, A1x4, A1x5⟩ := A1.out
  have hu : (∃ k : Nat, x = (k : Int) ∧ k < 128) ∨ (x < 0 ∧ u = false) ∨ (0 ≤ x ∧ 127 < x ∧ u = false) := by
    rcases hx with h | ⟨h, h2⟩ | ⟨h, h2⟩
    · exact .inr (.inl ⟨h, V.out.2.2.2.2.2.2.2.2.1 (.inl h)⟩)
    · exact .inr (.inr ⟨h, h2, V.out.2.2.2.2.2.2.2.2.1 (.inr (by omega))⟩)
    · exact .inl ⟨x.toNat, by omega, by omega⟩
  rcases hu with ⟨k, hk, hk2⟩ | ⟨hx1, hu⟩ | ⟨hx1, hx2, hu⟩
  · by_cases hkm : (k : Int) ≤ (m : Int) - 1
    · skip
      have HA := Lib.hid (show (k : Int) = (q : Int) by have := V.out.2.2.2.2.2.2.2.2.2.2; omega)
      have ck := P.out.at_ k hk2
      rw [V.out.2.2.2.2.2.2.2.1 k hk] at ck
      subst hk
      go_wp2_with fail
      clear ck
      clear A1x1 A1x2 A1x3 A1x4 A1x5
      refine (G.out _).mono ?_
      rintro e v5 ⟨rfl, b1⟩
      have A1 := Lib.hid (A1.out.step b1)
      have P := Lib.hid (P.out.step b1)
      have BB := Lib.hid (BB.out.trans (b1.mono BB.out.size))
      clear b1
      obtain ⟨A1x1, A1x2, A1x3, A1x4, A1x5⟩ := A1.out
      go_wp2_with fail
      clear A1x1 A1x2 A1x3 A1x4 A1x5
      refine (S.out _).mono ?_
      rintro e v6 ⟨rfl, b1⟩
      have A1 := Lib.hid (A1.out.step b1)
      have P := Lib.hid (P.out.step b1)
      have BB := Lib.hid (BB.out.trans (b1.mono BB.out.size))
      clear b1
      go_wp2_with fail
      refine (O2.out _).mono ?_
      rintro e v7 ⟨g2, rfl, hg, P2, b1⟩
      have P2 := Lib.hid P2
      clear hg
      have A1 := Lib.hid (A1.out.step b1)
      have P := Lib.hid (P.out.step b1)
      have BB := Lib.hid (BB.out.trans (b1.mono BB.out.size))
      clear b1
      go_wp2_with fail
      refine (rshift_any g F n m _ P.out nn.1 nn.2 (by omega)).mono ?_
      rintro e v8 ⟨g3, rfl, hg, P3, b1⟩
      have P3 := Lib.hid P3
      clear hg
      have A1 := Lib.hid (A1.out.step b1)
      have P := Lib.hid (P.out.step b1)
      have P2 := Lib.hid (P2.out.step b1)
      have BB := Lib.hid (BB.out.trans (b1.mono BB.out.size))
      clear b1
      go_wp2_with fail
      refine (rsame_any g2 g3 _ _ _ P2.out P3.out V.out.2.2.2.2.1).mono ?_
      rintro e v9 ⟨rfl, b1⟩
      have A1 := Lib.hid (A1.out.step b1)
      have P := Lib.hid (P.out.step b1)
      have P2 := Lib.hid (P2.out.step b1)
      have P3 := Lib.hid (P3.out.step b1)
      have BB := Lib.hid (BB.out.trans (b1.mono BB.out.size))
      clear b1
      clear P2 P3
      cases big
      all_goals
        go_wp2
        go_loopw [21] (fun i wr => ∃ k : Nat, k ≤ 2 ∧ i = .int .i64 (k : Int) ∧ Below v9.heap.size v9 wr) (fun i _ => 2 - (intOf i).toNat)
        case atStart => exact ⟨0, by omega, rfl, Below.refl _ _⟩
        case round =>
          obtain ⟨j, hj, rfl, hb⟩ := hrel
          have A1 := Lib.hid (A1.out.step hb)
          have P := Lib.hid (P.out.step hb)
          have KB := Lib.hid hb
          have BB := Lib.hid (BB.out.trans (hb.mono BB.out.size))
          clear hb
          rcases (show j = 0 ∨ j = 1 ∨ j = 2 by omega) with rfl | rfl | rfl
          · skip
            go_wp2_with fail
            refine (V.out.2.1 _ _ (by rw [V.out.1]; rfl) HA.out _).mono ?_
            rintro e v10 ⟨rfl, b1⟩
            have A1 := Lib.hid (A1.out.step b1)
            have P := Lib.hid (P.out.step b1)
            have BB := Lib.hid (BB.out.trans (b1.mono BB.out.size))
            have KB := Lib.hid (KB.out.trans (b1.mono KB.out.size))
            clear b1
            go_wp2_with fail
            refine (O3.out _).mono ?_
            rintro e v11 ⟨g2, rfl, hg, P2, b1⟩
            have P2 := Lib.hid P2
            clear hg
            have A1 := Lib.hid (A1.out.step b1)
            have P := Lib.hid (P.out.step b1)
            have BB := Lib.hid (BB.out.trans (b1.mono BB.out.size))
            have KB := Lib.hid (KB.out.trans (b1.mono KB.out.size))
            clear b1
            go_wp2_with fail
            refine (V.out.2.2.2.1 false _ _ (by rw [V.out.1]; rfl) HA.out _).mono ?_
            rintro e v12 ⟨g3, rfl, hg, P3, b1⟩
            have P3 := Lib.hid P3
            clear hg
            have A1 := Lib.hid (A1.out.step b1)
            have P := Lib.hid (P.out.step b1)
            have P2 := Lib.hid (P2.out.step b1)
            have BB := Lib.hid (BB.out.trans (b1.mono BB.out.size))
            have KB := Lib.hid (KB.out.trans (b1.mono KB.out.size))
            clear b1
            go_wp2_with fail
            refine (rsame_any g2 g3 _ _ _ P2.out P3.out V.out.2.2.2.2.2.1).mono ?_
            rintro e v13 ⟨rfl, b1⟩
            have A1 := Lib.hid (A1.out.step b1)
            have P := Lib.hid (P.out.step b1)
            have P2 := Lib.hid (P2.out.step b1)
            have P3 := Lib.hid (P3.out.step b1)
            have BB := Lib.hid (BB.out.trans (b1.mono BB.out.size))
            have KB := Lib.hid (KB.out.trans (b1.mono KB.out.size))
            clear b1
            clear P2 P3
            go_wp2
            go_roundw
            case rel => exact ⟨1, by omega, by go_num, KB.out⟩
            case measure => simp [intOf]
          · skip
            go_wp2_with fail
            refine (V.out.2.2.1 _ _ (by rw [V.out.1]; rfl) HA.out _).mono ?_
            rintro e v10 ⟨rfl, b1⟩
            have A1 := Lib.hid (A1.out.step b1)
            have P := Lib.hid (P.out.step b1)
            have BB := Lib.hid (BB.out.trans (b1.mono BB.out.size))
            have KB := Lib.hid (KB.out.trans (b1.mono KB.out.size))
            clear b1
            go_wp2_with fail
            refine (O4.out _).mono ?_
            rintro e v11 ⟨g2, rfl, hg, P2, b1⟩
            have P2 := Lib.hid P2
            clear hg
            have A1 := Lib.hid (A1.out.step b1)
            have P := Lib.hid (P.out.step b1)
            have BB := Lib.hid (BB.out.trans (b1.mono BB.out.size))
            have KB := Lib.hid (KB.out.trans (b1.mono KB.out.size))
            clear b1
            go_wp2_with fail
            refine (V.out.2.2.2.1 true _ _ (by rw [V.out.1]; rfl) HA.out _).mono ?_
            rintro e v12 ⟨g3, rfl, hg, P3, b1⟩
            have P3 := Lib.hid P3
            clear hg
            have A1 := Lib.hid (A1.out.step b1)
            have P := Lib.hid (P.out.step b1)
            have P2 := Lib.hid (P2.out.step b1)
            have BB := Lib.hid (BB.out.trans (b1.mono BB.out.size))
            have KB := Lib.hid (KB.out.trans (b1.mono KB.out.size))
            clear b1
            go_wp2_with fail
            refine (rsame_any g2 g3 _ _ _ P2.out P3.out V.out.2.2.2.2.2.2.1).mono ?_
            rintro e v13 ⟨rfl, b1⟩
            have A1 := Lib.hid (A1.out.step b1)
            have P := Lib.hid (P.out.step b1)
            have P2 := Lib.hid (P2.out.step b1)
            have P3 := Lib.hid (P3.out.step b1)
            have BB := Lib.hid (BB.out.trans (b1.mono BB.out.size))
            have KB := Lib.hid (KB.out.trans (b1.mono KB.out.size))
            clear b1
            clear P2 P3
            go_wp2
            go_roundw
            case rel => exact ⟨2, by omega, by go_num, KB.out⟩
            case measure => simp [intOf]
          · skip
            clear KB hj
            go_wp2
            go_loopw [22, 23] (fun s i wx => ∃ k c : Nat, k ≤ 128 ∧ s = .int .i64 (c : Int) ∧ i = .int .i64 (k : Int) ∧ c = pcn F k ∧ Below wr.heap.size wr wx) (fun _ i _ => 128 - (intOf i).toNat)
            case atStart => exact ⟨0, 0, by omega, rfl, rfl, rfl, Below.refl _ _⟩
            case round =>
              obtain ⟨j, s, hj, rfl, rfl, hs, hb⟩ := hrel
              have A1 := Lib.hid (A1.out.step hb)
              have P := Lib.hid (P.out.step hb)
              have KB := Lib.hid hb
              have BB := Lib.hid (BB.out.trans (hb.mono BB.out.size))
              clear hb
              have hs0 : s ≤ 128 := by rw [hs]; exact Nat.le_trans (pcn_le _ _) hj
              have HS := Lib.hid hs
              clear hs
              by_cases hlt : j < 128
              · skip
                have cj := P.out.at_ j hlt
                obtain ⟨t, ht⟩ : ∃ t, F j = t := ⟨_, rfl⟩
                rw [ht] at cj
                have HT := Lib.hid ht
                clear ht
                cases t
                all_goals
                  go_wp2
                  go_roundw
                  case rel => exact ⟨j + 1, _, by omega, by first | exact rfl | go_num, by go_num, by rw [pcn, ← HS.out, HT.out]; rfl, KB.out⟩
                  case measure => simp [intOf]; omega
              · skip
                have hj128 : j = 128 := by omega
                subst hj128
                have hsK : s = K := by rw [HS.out]; exact V.out.2.2.2.2.2.2.2.2.2.1
                subst hsK
                clear hlt KB HS
                have CN := Lib.hid (CN.out)
                obtain ⟨x1, x2, x3, x4, x5⟩ := A1.out
                by_cases h0 : s = 0
                · skip
                  have EM2 := EM.out
                  rw [decide_eq_true h0] at EM2
                  have EM2 := Lib.hid EM2
                  have hz : ((s : Int) == 0) = true := by simp; omega
                  clear h0
                  go_wp2_with fail
                  refine (CN.out _).mono ?_
                  rintro e va ⟨rfl, b1⟩
                  have A1 := Lib.hid (A1.out.step b1)
                  have BB := Lib.hid (BB.out.trans (b1.mono BB.out.size))
                  clear b1 x1 x2 x3 x4 x5
                  obtain ⟨x1, x2, x3, x4, x5⟩ := A1.out
                  go_wp2_with fail
                  refine (EM2.out _).mono ?_
                  rintro e vb ⟨rfl, b1⟩
                  have BB := Lib.hid (BB.out.trans (b1.mono BB.out.size))
                  clear b1
                  go_wp2
                  go_ret
                  exact ⟨by simp [hz], BB.out⟩
                · skip
                  have EM2 := EM.out
                  rw [decide_eq_false h0] at EM2
                  have EM2 := Lib.hid EM2
                  have hz : ((s : Int) == 0) = false := by simp; omega
                  clear h0
                  go_wp2_with fail
                  refine (CN.out _).mono ?_
                  rintro e va ⟨rfl, b1⟩
                  have A1 := Lib.hid (A1.out.step b1)
                  have BB := Lib.hid (BB.out.trans (b1.mono BB.out.size))
                  clear b1 x1 x2 x3 x4 x5
                  obtain ⟨x1, x2, x3, x4, x5⟩ := A1.out
                  go_wp2_with fail
                  refine (EM2.out _).mono ?_
                  rintro e vb ⟨rfl, b1⟩
                  have BB := Lib.hid (BB.out.trans (b1.mono BB.out.size))
                  clear b1
                  go_wp2
                  go_ret
                  exact ⟨by simp [hz], BB.out⟩
    · skip
      have HA := Lib.hid (show (m : Int) - 1 = (q : Int) by have := V.out.2.2.2.2.2.2.2.2.2.2; omega)
      have hkm2 : (m : Int) - 1 < (k : Int) := by omega
      have ck := P.out.at_ k hk2
      rw [V.out.2.2.2.2.2.2.2.1 k hk] at ck
      subst hk
      go_wp2_with fail
      clear ck
      clear A1x1 A1x2 A1x3 A1x4 A1x5
      refine (G.out _).mono ?_
      rintro e v5 ⟨rfl, b1⟩
      have A1 := Lib.hid (A1.out.step b1)
      have P := Lib.hid (P.out.step b1)
      have BB := Lib.hid (BB.out.trans (b1.mono BB.out.size))
      clear b1
      obtain ⟨A1x1, A1x2, A1x3, A1x4, A1x5⟩ := A1.out
      go_wp2_with fail
      clear A1x1 A1x2 A1x3 A1x4 A1x5
      refine (S.out _).mono ?_
      rintro e v6 ⟨rfl, b1⟩
      have A1 := Lib.hid (A1.out.step b1)
      have P := Lib.hid (P.out.step b1)
      have BB := Lib.hid (BB.out.trans (b1.mono BB.out.size))
      clear b1
      go_wp2_with fail
      refine (O2.out _).mono ?_
      rintro e v7 ⟨g2, rfl, hg, P2, b1⟩
      have P2 := Lib.hid P2
      clear hg
      have A1 := Lib.hid (A1.out.step b1)
      have P := Lib.hid (P.out.step b1)
      have BB := Lib.hid (BB.out.trans (b1.mono BB.out.size))
      clear b1
      go_wp2_with fail
      refine (rshift_any g F n m _ P.out nn.1 nn.2 (by omega)).mono ?_
      rintro e v8 ⟨g3, rfl, hg, P3, b1⟩
      have P3 := Lib.hid P3
      clear hg
      have A1 := Lib.hid (A1.out.step b1)
      have P := Lib.hid (P.out.step b1)
      have P2 := Lib.hid (P2.out.step b1)
      have BB := Lib.hid (BB.out.trans (b1.mono BB.out.size))
      clear b1
      go_wp2_with fail
      refine (rsame_any g2 g3 _ _ _ P2.out P3.out V.out.2.2.2.2.1).mono ?_
      rintro e v9 ⟨rfl, b1⟩
      have A1 := Lib.hid (A1.out.step b1)
      have P := Lib.hid (P.out.step b1)
      have P2 := Lib.hid (P2.out.step b1)
      have P3 := Lib.hid (P3.out.step b1)
      have BB := Lib.hid (BB.out.trans (b1.mono BB.out.size))
      clear b1
      clear P2 P3
      cases big
      all_goals
        go_wp2
        go_loopw [21] (fun i wr => ∃ k : Nat, k ≤ 2 ∧ i = .int .i64 (k : Int) ∧ Below v9.heap.size v9 wr) (fun i _ => 2 - (intOf i).toNat)
        case atStart => exact ⟨0, by omega, rfl, Below.refl _ _⟩
        case round =>
          obtain ⟨j, hj, rfl, hb⟩ := hrel
          have A1 := Lib.hid (A1.out.step hb)
          have P := Lib.hid (P.out.step hb)
          have KB := Lib.hid hb
          have BB := Lib.hid (BB.out.trans (hb.mono BB.out.size))
          clear hb
          rcases (show j = 0 ∨ j = 1 ∨ j = 2 by omega) with rfl | rfl | rfl
          · skip
            go_wp2_with fail
            refine (V.out.2.1 _ _ (by rw [V.out.1]; rfl) HA.out _).mono ?_
            rintro e v10 ⟨rfl, b1⟩
            have A1 := Lib.hid (A1.out.step b1)
            have P := Lib.hid (P.out.step b1)
            have BB := Lib.hid (BB.out.trans (b1.mono BB.out.size))
            have KB := Lib.hid (KB.out.trans (b1.mono KB.out.size))
            clear b1
            go_wp2_with fail
            refine (O3.out _).mono ?_
            rintro e v11 ⟨g2, rfl, hg, P2, b1⟩
            have P2 := Lib.hid P2
            clear hg
            have A1 := Lib.hid (A1.out.step b1)
            have P := Lib.hid (P.out.step b1)
            have BB := Lib.hid (BB.out.trans (b1.mono BB.out.size))
            have KB := Lib.hid (KB.out.trans (b1.mono KB.out.size))
            clear b1
            go_wp2_with fail
            refine (V.out.2.2.2.1 false _ _ (by rw [V.out.1]; rfl) HA.out _).mono ?_
            rintro e v12 ⟨g3, rfl, hg, P3, b1⟩
            have P3 := Lib.hid P3
            clear hg
            have A1 := Lib.hid (A1.out.step b1)
            have P := Lib.hid (P.out.step b1)
            have P2 := Lib.hid (P2.out.step b1)
            have BB := Lib.hid (BB.out.trans (b1.mono BB.out.size))
            have KB := Lib.hid (KB.out.trans (b1.mono KB.out.size))
            clear b1
            go_wp2_with fail
            refine (rsame_any g2 g3 _ _ _ P2.out P3.out V.out.2.2.2.2.2.1).mono ?_
            rintro e v13 ⟨rfl, b1⟩
            have A1 := Lib.hid (A1.out.step b1)
            have P := Lib.hid (P.out.step b1)
            have P2 := Lib.hid (P2.out.step b1)
            have P3 := Lib.hid (P3.out.step b1)
            have BB := Lib.hid (BB.out.trans (b1.mono BB.out.size))
            have KB := Lib.hid (KB.out.trans (b1.mono KB.out.size))
            clear b1
            clear P2 P3
            go_wp2
            go_roundw
            case rel => exact ⟨1, by omega, by go_num, KB.out⟩
            case measure => simp [intOf]
          · skip
            go_wp2_with fail
            refine (V.out.2.2.1 _ _ (by rw [V.out.1]; rfl) HA.out _).mono ?_
            rintro e v10 ⟨rfl, b1⟩
            have A1 := Lib.hid (A1.out.step b1)
            have P := Lib.hid (P.out.step b1)
            have BB := Lib.hid (BB.out.trans (b1.mono BB.out.size))
            have KB := Lib.hid (KB.out.trans (b1.mono KB.out.size))
            clear b1
            go_wp2_with fail
            refine (O4.out _).mono ?_
            rintro e v11 ⟨g2, rfl, hg, P2, b1⟩
            have P2 := Lib.hid P2
            clear hg
            have A1 := Lib.hid (A1.out.step b1)
            have P := Lib.hid (P.out.step b1)
            have BB := Lib.hid (BB.out.trans (b1.mono BB.out.size))
            have KB := Lib.hid (KB.out.trans (b1.mono KB.out.size))
            clear b1
            go_wp2_with fail
            refine (V.out.2.2.2.1 true _ _ (by rw [V.out.1]; rfl) HA.out _).mono ?_
            rintro e v12 ⟨g3, rfl, hg, P3, b1⟩
            have P3 := Lib.hid P3
            clear hg
            have A1 := Lib.hid (A1.out.step b1)
            have P := Lib.hid (P.out.step b1)
            have P2 := Lib.hid (P2.out.step b1)
            have BB := Lib.hid (BB.out.trans (b1.mono BB.out.size))
            have KB := Lib.hid (KB.out.trans (b1.mono KB.out.size))
            clear b1
            go_wp2_with fail
            refine (rsame_any g2 g3 _ _ _ P2.out P3.out V.out.2.2.2.2.2.2.1).mono ?_
            rintro e v13 ⟨rfl, b1⟩
            have A1 := Lib.hid (A1.out.step b1)
            have P := Lib.hid (P.out.step b1)
            have P2 := Lib.hid (P2.out.step b1)
            have P3 := Lib.hid (P3.out.step b1)
            have BB := Lib.hid (BB.out.trans (b1.mono BB.out.size))
            have KB := Lib.hid (KB.out.trans (b1.mono KB.out.size))
            clear b1
            clear P2 P3
            go_wp2
            go_roundw
            case rel => exact ⟨2, by omega, by go_num, KB.out⟩
            case measure => simp [intOf]
          · skip
            clear KB hj
            go_wp2
            go_loopw [22, 23] (fun s i wx => ∃ k c : Nat, k ≤ 128 ∧ s = .int .i64 (c : Int) ∧ i = .int .i64 (k : Int) ∧ c = pcn F k ∧ Below wr.heap.size wr wx) (fun _ i _ => 128 - (intOf i).toNat)
            case atStart => exact ⟨0, 0, by omega, rfl, rfl, rfl, Below.refl _ _⟩
            case round =>
              obtain ⟨j, s, hj, rfl, rfl, hs, hb⟩ := hrel
              have A1 := Lib.hid (A1.out.step hb)
              have P := Lib.hid (P.out.step hb)
              have KB := Lib.hid hb
              have BB := Lib.hid (BB.out.trans (hb.mono BB.out.size))
              clear hb
              have hs0 : s ≤ 128 := by rw [hs]; exact Nat.le_trans (pcn_le _ _) hj
              have HS := Lib.hid hs
              clear hs
              by_cases hlt : j < 128
              · skip
                have cj := P.out.at_ j hlt
                obtain ⟨t, ht⟩ : ∃ t, F j = t := ⟨_, rfl⟩
                rw [ht] at cj
                have HT := Lib.hid ht
                clear ht
                cases t
                all_goals
                  go_wp2
                  go_roundw
                  case rel => exact ⟨j + 1, _, by omega, by first | exact rfl | go_num, by go_num, by rw [pcn, ← HS.out, HT.out]; rfl, KB.out⟩
                  case measure => simp [intOf]; omega
              · skip
                have hj128 : j = 128 := by omega
                subst hj128
                have hsK : s = K := by rw [HS.out]; exact V.out.2.2.2.2.2.2.2.2.2.1
                subst hsK
                clear hlt KB HS
                have CN := Lib.hid (CN.out)
                obtain ⟨x1, x2, x3, x4, x5⟩ := A1.out
                by_cases h0 : s = 0
                · skip
                  have EM2 := EM.out
                  rw [decide_eq_true h0] at EM2
                  have EM2 := Lib.hid EM2
                  have hz : ((s : Int) == 0) = true := by simp; omega
                  clear h0
                  go_wp2_with fail
                  refine (CN.out _).mono ?_
                  rintro e va ⟨rfl, b1⟩
                  have A1 := Lib.hid (A1.out.step b1)
                  have BB := Lib.hid (BB.out.trans (b1.mono BB.out.size))
                  clear b1 x1 x2 x3 x4 x5
                  obtain ⟨x1, x2, x3, x4, x5⟩ := A1.out
                  go_wp2_with fail
                  refine (EM2.out _).mono ?_
                  rintro e vb ⟨rfl, b1⟩
                  have BB := Lib.hid (BB.out.trans (b1.mono BB.out.size))
                  clear b1
                  go_wp2
                  go_ret
                  exact ⟨by simp [hz], BB.out⟩
                · skip
                  have EM2 := EM.out
                  rw [decide_eq_false h0] at EM2
                  have EM2 := Lib.hid EM2
                  have hz : ((s : Int) == 0) = false := by simp; omega
                  clear h0
                  go_wp2_with fail
                  refine (CN.out _).mono ?_
                  rintro e va ⟨rfl, b1⟩
                  have A1 := Lib.hid (A1.out.step b1)
                  have BB := Lib.hid (BB.out.trans (b1.mono BB.out.size))
                  clear b1 x1 x2 x3 x4 x5
                  obtain ⟨x1, x2, x3, x4, x5⟩ := A1.out
                  go_wp2_with fail
                  refine (EM2.out _).mono ?_
                  rintro e vb ⟨rfl, b1⟩
                  have BB := Lib.hid (BB.out.trans (b1.mono BB.out.size))
                  clear b1
                  go_wp2
                  go_ret
                  exact ⟨by simp [hz], BB.out⟩
  · skip
    have HA := Lib.hid (show (0 : Int) = (q : Int) by have := V.out.2.2.2.2.2.2.2.2.2.2; omega)
    subst hu
    go_wp2_with fail
    clear A1x1 A1x2 A1x3 A1x4 A1x5
    refine (G.out _).mono ?_
    rintro e v5 ⟨rfl, b1⟩
    have A1 := Lib.hid (A1.out.step b1)
    have P := Lib.hid (P.out.step b1)
    have BB := Lib.hid (BB.out.trans (b1.mono BB.out.size))
    clear b1
    obtain ⟨A1x1, A1x2, A1x3, A1x4, A1x5⟩ := A1.out
    go_wp2_with fail
    clear A1x1 A1x2 A1x3 A1x4 A1x5
    refine (S.out _).mono ?_
    rintro e v6 ⟨rfl, b1⟩
    have A1 := Lib.hid (A1.out.step b1)
    have P := Lib.hid (P.out.step b1)
    have BB := Lib.hid (BB.out.trans (b1.mono BB.out.size))
    clear b1
    go_wp2_with fail
    refine (O2.out _).mono ?_
    rintro e v7 ⟨g2, rfl, hg, P2, b1⟩
    have P2 := Lib.hid P2
    clear hg
    have A1 := Lib.hid (A1.out.step b1)
    have P := Lib.hid (P.out.step b1)
    have BB := Lib.hid (BB.out.trans (b1.mono BB.out.size))
    clear b1
    go_wp2_with fail
    refine (rshift_any g F n m _ P.out nn.1 nn.2 (by omega)).mono ?_
    rintro e v8 ⟨g3, rfl, hg, P3, b1⟩
    have P3 := Lib.hid P3
    clear hg
    have A1 := Lib.hid (A1.out.step b1)
    have P := Lib.hid (P.out.step b1)
    have P2 := Lib.hid (P2.out.step b1)
    have BB := Lib.hid (BB.out.trans (b1.mono BB.out.size))
    clear b1
    go_wp2_with fail
    refine (rsame_any g2 g3 _ _ _ P2.out P3.out V.out.2.2.2.2.1).mono ?_
    rintro e v9 ⟨rfl, b1⟩
    have A1 := Lib.hid (A1.out.step b1)
    have P := Lib.hid (P.out.step b1)
    have P2 := Lib.hid (P2.out.step b1)
    have P3 := Lib.hid (P3.out.step b1)
    have BB := Lib.hid (BB.out.trans (b1.mono BB.out.size))
    clear b1
    clear P2 P3
    cases big
    all_goals
      go_wp2
      go_loopw [21] (fun i wr => ∃ k : Nat, k ≤ 2 ∧ i = .int .i64 (k : Int) ∧ Below v9.heap.size v9 wr) (fun i _ => 2 - (intOf i).toNat)
      case atStart => exact ⟨0, by omega, rfl, Below.refl _ _⟩
      case round =>
        obtain ⟨j, hj, rfl, hb⟩ := hrel
        have A1 := Lib.hid (A1.out.step hb)
        have P := Lib.hid (P.out.step hb)
        have KB := Lib.hid hb
        have BB := Lib.hid (BB.out.trans (hb.mono BB.out.size))
        clear hb
        rcases (show j = 0 ∨ j = 1 ∨ j = 2 by omega) with rfl | rfl | rfl
        · skip
          go_wp2_with fail
          refine (V.out.2.1 _ _ (by rw [V.out.1]; rfl) HA.out _).mono ?_
          rintro e v10 ⟨rfl, b1⟩
          have A1 := Lib.hid (A1.out.step b1)
          have P := Lib.hid (P.out.step b1)
          have BB := Lib.hid (BB.out.trans (b1.mono BB.out.size))
          have KB := Lib.hid (KB.out.trans (b1.mono KB.out.size))
          clear b1
          go_wp2_with fail
          refine (O3.out _).mono ?_
          rintro e v11 ⟨g2, rfl, hg, P2, b1⟩
          have P2 := Lib.hid P2
          clear hg
          have A1 := Lib.hid (A1.out.step b1)
          have P := Lib.hid (P.out.step b1)
          have BB := Lib.hid (BB.out.trans (b1.mono BB.out.size))
          have KB := Lib.hid (KB.out.trans (b1.mono KB.out.size))
          clear b1
          go_wp2_with fail
          refine (V.out.2.2.2.1 false _ _ (by rw [V.out.1]; rfl) HA.out _).mono ?_
          rintro e v12 ⟨g3, rfl, hg, P3, b1⟩
          have P3 := Lib.hid P3
          clear hg
          have A1 := Lib.hid (A1.out.step b1)
          have P := Lib.hid (P.out.step b1)
          have P2 := Lib.hid (P2.out.step b1)
          have BB := Lib.hid (BB.out.trans (b1.mono BB.out.size))
          have KB := Lib.hid (KB.out.trans (b1.mono KB.out.size))
          clear b1
          go_wp2_with fail
          refine (rsame_any g2 g3 _ _ _ P2.out P3.out V.out.2.2.2.2.2.1).mono ?_
          rintro e v13 ⟨rfl, b1⟩
          have A1 := Lib.hid (A1.out.step b1)
          have P := Lib.hid (P.out.step b1)
          have P2 := Lib.hid (P2.out.step b1)
          have P3 := Lib.hid (P3.out.step b1)
          have BB := Lib.hid (BB.out.trans (b1.mono BB.out.size))
          have KB := Lib.hid (KB.out.trans (b1.mono KB.out.size))
          clear b1
          clear P2 P3
          go_wp2
          go_roundw
          case rel => exact ⟨1, by omega, by go_num, KB.out⟩
          case measure => simp [intOf]
        · skip
          go_wp2_with fail
          refine (V.out.2.2.1 _ _ (by rw [V.out.1]; rfl) HA.out _).mono ?_
          rintro e v10 ⟨rfl, b1⟩
          have A1 := Lib.hid (A1.out.step b1)
          have P := Lib.hid (P.out.step b1)
          have BB := Lib.hid (BB.out.trans (b1.mono BB.out.size))
          have KB := Lib.hid (KB.out.trans (b1.mono KB.out.size))
          clear b1
          go_wp2_with fail
          refine (O4.out _).mono ?_
          rintro e v11 ⟨g2, rfl, hg, P2, b1⟩
          have P2 := Lib.hid P2
          clear hg
          have A1 := Lib.hid (A1.out.step b1)
          have P := Lib.hid (P.out.step b1)
          have BB := Lib.hid (BB.out.trans (b1.mono BB.out.size))
          have KB := Lib.hid (KB.out.trans (b1.mono KB.out.size))
          clear b1
          go_wp2_with fail
          refine (V.out.2.2.2.1 true _ _ (by rw [V.out.1]; rfl) HA.out _).mono ?_
          rintro e v12 ⟨g3, rfl, hg, P3, b1⟩
          have P3 := Lib.hid P3
          clear hg
          have A1 := Lib.hid (A1.out.step b1)
          have P := Lib.hid (P.out.step b1)
          have P2 := Lib.hid (P2.out.step b1)
          have BB := Lib.hid (BB.out.trans (b1.mono BB.out.size))
          have KB := Lib.hid (KB.out.trans (b1.mono KB.out.size))
          clear b1
          go_wp2_with fail
          refine (rsame_any g2 g3 _ _ _ P2.out P3.out V.out.2.2.2.2.2.2.1).mono ?_
          rintro e v13 ⟨rfl, b1⟩
          have A1 := Lib.hid (A1.out.step b1)
          have P := Lib.hid (P.out.step b1)
          have P2 := Lib.hid (P2.out.step b1)
          have P3 := Lib.hid (P3.out.step b1)
          have BB := Lib.hid (BB.out.trans (b1.mono BB.out.size))
          have KB := Lib.hid (KB.out.trans (b1.mono KB.out.size))
          clear b1
          clear P2 P3
          go_wp2
          go_roundw
          case rel => exact ⟨2, by omega, by go_num, KB.out⟩
          case measure => simp [intOf]
        · skip
          clear KB hj
          go_wp2
          go_loopw [22, 23] (fun s i wx => ∃ k c : Nat, k ≤ 128 ∧ s = .int .i64 (c : Int) ∧ i = .int .i64 (k : Int) ∧ c = pcn F k ∧ Below wr.heap.size wr wx) (fun _ i _ => 128 - (intOf i).toNat)
          case atStart => exact ⟨0, 0, by omega, rfl, rfl, rfl, Below.refl _ _⟩
          case round =>
            obtain ⟨j, s, hj, rfl, rfl, hs, hb⟩ := hrel
            have A1 := Lib.hid (A1.out.step hb)
            have P := Lib.hid (P.out.step hb)
            have KB := Lib.hid hb
            have BB := Lib.hid (BB.out.trans (hb.mono BB.out.size))
            clear hb
            have hs0 : s ≤ 128 := by rw [hs]; exact Nat.le_trans (pcn_le _ _) hj
            have HS := Lib.hid hs
            clear hs
            by_cases hlt : j < 128
            · skip
              have cj := P.out.at_ j hlt
              obtain ⟨t, ht⟩ : ∃ t, F j = t := ⟨_, rfl⟩
              rw [ht] at cj
              have HT := Lib.hid ht
              clear ht
              cases t
              all_goals
                go_wp2
                go_roundw
                case rel => exact ⟨j + 1, _, by omega, by first | exact rfl | go_num, by go_num, by rw [pcn, ← HS.out, HT.out]; rfl, KB.out⟩
                case measure => simp [intOf]; omega
            · skip
              have hj128 : j = 128 := by omega
              subst hj128
              have hsK : s = K := by rw [HS.out]; exact V.out.2.2.2.2.2.2.2.2.2.1
              subst hsK
              clear hlt KB HS
              have CN := Lib.hid (CN.out)
              obtain ⟨x1, x2, x3, x4, x5⟩ := A1.out
              by_cases h0 : s = 0
              · skip
                have EM2 := EM.out
                rw [decide_eq_true h0] at EM2
                have EM2 := Lib.hid EM2
                have hz : ((s : Int) == 0) = true := by simp; omega
                clear h0
                go_wp2_with fail
                refine (CN.out _).mono ?_
                rintro e va ⟨rfl, b1⟩
                have A1 := Lib.hid (A1.out.step b1)
                have BB := Lib.hid (BB.out.trans (b1.mono BB.out.size))
                clear b1 x1 x2 x3 x4 x5
                obtain ⟨x1, x2, x3, x4, x5⟩ := A1.out
                go_wp2_with fail
                refine (EM2.out _).mono ?_
                rintro e vb ⟨rfl, b1⟩
                have BB := Lib.hid (BB.out.trans (b1.mono BB.out.size))
                clear b1
                go_wp2
                go_ret
                exact ⟨by simp [hz], BB.out⟩
              · skip
                have EM2 := EM.out
                rw [decide_eq_false h0] at EM2
                have EM2 := Lib.hid EM2
                have hz : ((s : Int) == 0) = false := by simp; omega
                clear h0
                go_wp2_with fail
                refine (CN.out _).mono ?_
                rintro e va ⟨rfl, b1⟩
                have A1 := Lib.hid (A1.out.step b1)
                have BB := Lib.hid (BB.out.trans (b1.mono BB.out.size))
                clear b1 x1 x2 x3 x4 x5
                obtain ⟨x1, x2, x3, x4, x5⟩ := A1.out
                go_wp2_with fail
                refine (EM2.out _).mono ?_
                rintro e vb ⟨rfl, b1⟩
                have BB := Lib.hid (BB.out.trans (b1.mono BB.out.size))
                clear b1
                go_wp2
                go_ret
                exact ⟨by simp [hz], BB.out⟩
  · skip
    have HA := Lib.hid (show (m : Int) - 1 = (q : Int) by have := V.out.2.2.2.2.2.2.2.2.2.2; omega)
    have hkm2 : (m : Int) - 1 < x := by omega
    subst hu
    go_wp2_with fail
    clear A1x1 A1x2 A1x3 A1x4 A1x5
    refine (G.out _).mono ?_
    rintro e v5 ⟨rfl, b1⟩
    have A1 := Lib.hid (A1.out.step b1)
    have P := Lib.hid (P.out.step b1)
    have BB := Lib.hid (BB.out.trans (b1.mono BB.out.size))
    clear b1
    obtain ⟨A1x1, A1x2, A1x3, A1x4, A1x5⟩ := A1.out
    go_wp2_with fail
    clear A1x1 A1x2 A1x3 A1x4 A1x5
    refine (S.out _).mono ?_
    rintro e v6 ⟨rfl, b1⟩
    have A1 := Lib.hid (A1.out.step b1)
    have P := Lib.hid (P.out.step b1)
    have BB := Lib.hid (BB.out.trans (b1.mono BB.out.size))
    clear b1
    go_wp2_with fail
    refine (O2.out _).mono ?_
    rintro e v7 ⟨g2, rfl, hg, P2, b1⟩
    have P2 := Lib.hid P2
    clear hg
    have A1 := Lib.hid (A1.out.step b1)
    have P := Lib.hid (P.out.step b1)
    have BB := Lib.hid (BB.out.trans (b1.mono BB.out.size))
    clear b1
    go_wp2_with fail
    refine (rshift_any g F n m _ P.out nn.1 nn.2 (by omega)).mono ?_
    rintro e v8 ⟨g3, rfl, hg, P3, b1⟩
    have P3 := Lib.hid P3
    clear hg
    have A1 := Lib.hid (A1.out.step b1)
    have P := Lib.hid (P.out.step b1)
    have P2 := Lib.hid (P2.out.step b1)
    have BB := Lib.hid (BB.out.trans (b1.mono BB.out.size))
    clear b1
    go_wp2_with fail
    refine (rsame_any g2 g3 _ _ _ P2.out P3.out V.out.2.2.2.2.1).mono ?_
    rintro e v9 ⟨rfl, b1⟩
    have A1 := Lib.hid (A1.out.step b1)
    have P := Lib.hid (P.out.step b1)
    have P2 := Lib.hid (P2.out.step b1)
    have P3 := Lib.hid (P3.out.step b1)
    have BB := Lib.hid (BB.out.trans (b1.mono BB.out.size))
    clear b1
    clear P2 P3
    cases big
    all_goals
      go_wp2
      go_loopw [21] (fun i wr => ∃ k : Nat, k ≤ 2 ∧ i = .int .i64 (k : Int) ∧ Below v9.heap.size v9 wr) (fun i _ => 2 - (intOf i).toNat)
      case atStart => exact ⟨0, by omega, rfl, Below.refl _ _⟩
      case round =>
        obtain ⟨j, hj, rfl, hb⟩ := hrel
        have A1 := Lib.hid (A1.out.step hb)
        have P := Lib.hid (P.out.step hb)
        have KB := Lib.hid hb
        have BB := Lib.hid (BB.out.trans (hb.mono BB.out.size))
        clear hb
        rcases (show j = 0 ∨ j = 1 ∨ j = 2 by omega) with rfl | rfl | rfl
        · skip
          go_wp2_with fail
          refine (V.out.2.1 _ _ (by rw [V.out.1]; rfl) HA.out _).mono ?_
          rintro e v10 ⟨rfl, b1⟩
          have A1 := Lib.hid (A1.out.step b1)
          have P := Lib.hid (P.out.step b1)
          have BB := Lib.hid (BB.out.trans (b1.mono BB.out.size))
          have KB := Lib.hid (KB.out.trans (b1.mono KB.out.size))
          clear b1
          go_wp2_with fail
          refine (O3.out _).mono ?_
          rintro e v11 ⟨g2, rfl, hg, P2, b1⟩
          have P2 := Lib.hid P2
          clear hg
          have A1 := Lib.hid (A1.out.step b1)
          have P := Lib.hid (P.out.step b1)
          have BB := Lib.hid (BB.out.trans (b1.mono BB.out.size))
          have KB := Lib.hid (KB.out.trans (b1.mono KB.out.size))
          clear b1
          go_wp2_with fail
          refine (V.out.2.2.2.1 false _ _ (by rw [V.out.1]; rfl) HA.out _).mono ?_
          rintro e v12 ⟨g3, rfl, hg, P3, b1⟩
          have P3 := Lib.hid P3
          clear hg
          have A1 := Lib.hid (A1.out.step b1)
          have P := Lib.hid (P.out.step b1)
          have P2 := Lib.hid (P2.out.step b1)
          have BB := Lib.hid (BB.out.trans (b1.mono BB.out.size))
          have KB := Lib.hid (KB.out.trans (b1.mono KB.out.size))
          clear b1
          go_wp2_with fail
          refine (rsame_any g2 g3 _ _ _ P2.out P3.out V.out.2.2.2.2.2.1).mono ?_
          rintro e v13 ⟨rfl, b1⟩
          have A1 := Lib.hid (A1.out.step b1)
          have P := Lib.hid (P.out.step b1)
          have P2 := Lib.hid (P2.out.step b1)
          have P3 := Lib.hid (P3.out.step b1)
          have BB := Lib.hid (BB.out.trans (b1.mono BB.out.size))
          have KB := Lib.hid (KB.out.trans (b1.mono KB.out.size))
          clear b1
          clear P2 P3
          go_wp2
          go_roundw
          case rel => exact ⟨1, by omega, by go_num, KB.out⟩
          case measure => simp [intOf]
        · skip
          go_wp2_with fail
          refine (V.out.2.2.1 _ _ (by rw [V.out.1]; rfl) HA.out _).mono ?_
          rintro e v10 ⟨rfl, b1⟩
          have A1 := Lib.hid (A1.out.step b1)
          have P := Lib.hid (P.out.step b1)
          have BB := Lib.hid (BB.out.trans (b1.mono BB.out.size))
          have KB := Lib.hid (KB.out.trans (b1.mono KB.out.size))
          clear b1
          go_wp2_with fail
          refine (O4.out _).mono ?_
          rintro e v11 ⟨g2, rfl, hg, P2, b1⟩
          have P2 := Lib.hid P2
          clear hg
          have A1 := Lib.hid (A1.out.step b1)
          have P := Lib.hid (P.out.step b1)
          have BB := Lib.hid (BB.out.trans (b1.mono BB.out.size))
          have KB := Lib.hid (KB.out.trans (b1.mono KB.out.size))
          clear b1
          go_wp2_with fail
          refine (V.out.2.2.2.1 true _ _ (by rw [V.out.1]; rfl) HA.out _).mono ?_
          rintro e v12 ⟨g3, rfl, hg, P3, b1⟩
          have P3 := Lib.hid P3
          clear hg
          have A1 := Lib.hid (A1.out.step b1)
          have P := Lib.hid (P.out.step b1)
          have P2 := Lib.hid (P2.out.step b1)
          have BB := Lib.hid (BB.out.trans (b1.mono BB.out.size))
          have KB := Lib.hid (KB.out.trans (b1.mono KB.out.size))
          clear b1
          go_wp2_with fail
          refine (rsame_any g2 g3 _ _ _ P2.out P3.out V.out.2.2.2.2.2.2.1).mono ?_
          rintro e v13 ⟨rfl, b1⟩
          have A1 := Lib.hid (A1.out.step b1)
          have P := Lib.hid (P.out.step b1)
          have P2 := Lib.hid (P2.out.step b1)
          have P3 := Lib.hid (P3.out.step b1)
          have BB := Lib.hid (BB.out.trans (b1.mono BB.out.size))
          have KB := Lib.hid (KB.out.trans (b1.mono KB.out.size))
          clear b1
          clear P2 P3
          go_wp2
          go_roundw
          case rel => exact ⟨2, by omega, by go_num, KB.out⟩
          case measure => simp [intOf]
        · skip
          clear KB hj
          go_wp2
          go_loopw [22, 23] (fun s i wx => ∃ k c : Nat, k ≤ 128 ∧ s = .int .i64 (c : Int) ∧ i = .int .i64 (k : Int) ∧ c = pcn F k ∧ Below wr.heap.size wr wx) (fun _ i _ => 128 - (intOf i).toNat)
          case atStart => exact ⟨0, 0, by omega, rfl, rfl, rfl, Below.refl _ _⟩
          case round =>
            obtain ⟨j, s, hj, rfl, rfl, hs, hb⟩ := hrel
            have A1 := Lib.hid (A1.out.step hb)
            have P := Lib.hid (P.out.step hb)
            have KB := Lib.hid hb
            have BB := Lib.hid (BB.out.trans (hb.mono BB.out.size))
            clear hb
            have hs0 : s ≤ 128 := by rw [hs]; exact Nat.le_trans (pcn_le _ _) hj
            have HS := Lib.hid hs
            clear hs
            by_cases hlt : j < 128
            · skip
              have cj := P.out.at_ j hlt
              obtain ⟨t, ht⟩ : ∃ t, F j = t := ⟨_, rfl⟩
              rw [ht] at cj
              have HT := Lib.hid ht
              clear ht
              cases t
              all_goals
                go_wp2
                go_roundw
                case rel => exact ⟨j + 1, _, by omega, by first | exact rfl | go_num, by go_num, by rw [pcn, ← HS.out, HT.out]; rfl, KB.out⟩
                case measure => simp [intOf]; omega
            · skip
              have hj128 : j = 128 := by omega
              subst hj128
              have hsK : s = K := by rw [HS.out]; exact V.out.2.2.2.2.2.2.2.2.2.1
              subst hsK
              clear hlt KB HS
              have CN := Lib.hid (CN.out)
              obtain ⟨x1, x2, x3, x4, x5⟩ := A1.out
              by_cases h0 : s = 0
              · skip
                have EM2 := EM.out
                rw [decide_eq_true h0] at EM2
                have EM2 := Lib.hid EM2
                have hz : ((s : Int) == 0) = true := by simp; omega
                clear h0
                go_wp2_with fail
                refine (CN.out _).mono ?_
                rintro e va ⟨rfl, b1⟩
                have A1 := Lib.hid (A1.out.step b1)
                have BB := Lib.hid (BB.out.trans (b1.mono BB.out.size))
                clear b1 x1 x2 x3 x4 x5
                obtain ⟨x1, x2, x3, x4, x5⟩ := A1.out
                go_wp2_with fail
                refine (EM2.out _).mono ?_
                rintro e vb ⟨rfl, b1⟩
                have BB := Lib.hid (BB.out.trans (b1.mono BB.out.size))
                clear b1
                go_wp2
                go_ret
                exact ⟨by simp [hz], BB.out⟩
              · skip
                have EM2 := EM.out
                rw [decide_eq_false h0] at EM2
                have EM2 := Lib.hid EM2
                have hz : ((s : Int) == 0) = false := by simp; omega
                clear h0
                go_wp2_with fail
                refine (CN.out _).mono ?_
                rintro e va ⟨rfl, b1⟩
                have A1 := Lib.hid (A1.out.step b1)
                have BB := Lib.hid (BB.out.trans (b1.mono BB.out.size))
                clear b1 x1 x2 x3 x4 x5
                obtain ⟨x1, x2, x3, x4, x5⟩ := A1.out
                go_wp2_with fail
                refine (EM2.out _).mono ?_
                rintro e vb ⟨rfl, b1⟩
                have BB := Lib.hid (BB.out.trans (b1.mono BB.out.size))
                clear b1
                go_wp2
                go_ret
                exact ⟨by simp [hz], BB.out⟩

theorem rowMatchesReference_walk (a0 a1 : Int) (a2 : Bool) (a3 a4 a5 : Int) (a6 : Bool) (w0 : (Lit.int .u64 a0).wf = true) (w1 : (Lit.int .u64 a1).wf = true) (w3 : (Lit.int .i64 a3).wf = true) (w4 : (Lit.int .i8 a4).wf = true) (w5 : (Lit.int .u16 a5).wf = true) (w : World) :
    Calls Try.prog 3 #[.int .u64 a0, .int .u64 a1, .bool a2, .int .i64 a3, .int .i8 a4, .int .u16 a5, .bool a6] w fun e w' => e = .returned (.bool true) ∧ Below w.heap.size w w' := by
  obtain ⟨u0, rfl⟩ := word_of a0 (bd_u64 w0).1 (bd_u64 w0).2
  obtain ⟨u1, rfl⟩ := word_of a1 (bd_u64 w1).1 (bd_u64 w1).2
  obtain ⟨p2, p3⟩ := bd_i64 w3
  obtain ⟨p4, p5⟩ := bd_i8 w4
  obtain ⟨p6, p7⟩ := bd_u16 w5
  obtain ⟨b, rfl⟩ := Int.eq_ofNat_of_zero_le p6
  obtain ⟨r1, r2, er⟩ := words (wideOf u0 u1 a2)
  have hr := wide_of u0 u1 a2
  rw [er] at hr
  cases a2
  · exact rowRef_go u0 u1 r1 r2 a3 a4 b 64 false a6 w er hr (.inl rfl) (rwidth_any false) p2 p3 p4 p5 (by omega)
  · exact rowRef_go u0 u1 r1 r2 a3 a4 b 128 true a6 w er hr (.inr rfl) (rwidth_any true) p2 p3 p4 p5 (by omega)
end Go.Proofs.Ytfajhppnfnapfaa
