/- The walk of RowShifts. -/
import Derived.Test.YtfajhppnfnapfaaPixW
namespace Go.Proofs.Ytfajhppnfnapfaa
open Go.RowKit Num
set_option linter.unusedVariables false
set_option linter.unusedSimpArgs false

theorem pxi_neg (r : BitVec 128) (i : Int) (h : i < 0) : pxi r i = false := by
  rw [pxi, decide_eq_false (by omega), Bool.false_and]
theorem pxi_nat (r : BitVec 128) (i : Nat) : pxi r (i : Int) = px r i := by
  rw [pxi, decide_eq_true (by omega), Bool.true_and, Int.toNat_natCast]
theorem pxi_shift (r : BitVec 128) (n m i : Int) (hm : m ≤ 128) : pxi (shift r n m) i = (decide (0 ≤ i ∧ i < m) && pxi r (i - n)) := by
  by_cases h0 : 0 ≤ i
  · obtain ⟨k, rfl⟩ := Int.eq_ofNat_of_zero_le h0
    rw [pxi_nat]
    by_cases hk : k < 128
    · rw [px_shift _ _ _ _ hk hm]
      by_cases hlt : (k : Int) < m
      · rw [decide_eq_true hlt, decide_eq_true (p := 0 ≤ (k : Int) ∧ (k : Int) < m) (by omega), Bool.and_true, Bool.true_and]
      · rw [decide_eq_false hlt, decide_eq_false (p := 0 ≤ (k : Int) ∧ (k : Int) < m) (by omega), Bool.and_false, Bool.false_and]
    · rw [px_big _ _ (by omega), decide_eq_false (by omega), Bool.false_and]
  · rw [pxi_neg _ _ (by omega), decide_eq_false (by omega), Bool.false_and]
theorem pxi_ext {r s : BitVec 128} (h : ∀ i : Int, pxi r i = pxi s i) : r = s := px_ext fun x _ => by rw [← pxi_nat, ← pxi_nat]; exact h x
/-- A row of a width. -/
def OfWidth (r : BitVec 128) (m : Nat) : Prop := ∀ i : Int, m ≤ i → pxi r i = false
theorem twice_right (r : BitVec 128) (a b m : Nat) (hm : m ≤ 128) : shift (shift r a m) b m = shift r ((a : Int) + b) m := pxi_ext fun i => by
  rw [pxi_shift _ _ _ _ (by omega), pxi_shift _ _ _ _ (by omega), pxi_shift _ _ _ _ (by omega), show i - (b : Int) - (a : Int) = i - ((a : Int) + b) by omega]
  by_cases h : 0 ≤ i ∧ i < (m : Int)
  · by_cases h2 : 0 ≤ i - (b : Int) ∧ i - (b : Int) < (m : Int)
    · rw [decide_eq_true h2, Bool.true_and]
    · rw [decide_eq_false h2, Bool.false_and, pxi_neg _ (i - ((a : Int) + b)) (by omega)]
  · rw [decide_eq_false h, Bool.false_and, Bool.false_and]
theorem twice_left (r : BitVec 128) (a b m : Nat) (hm : m ≤ 128) (hr : OfWidth r m) : shift (shift r (-(a : Int)) m) (-(b : Int)) m = shift r (-(a : Int) - b) m := pxi_ext fun i => by
  rw [pxi_shift _ _ _ _ (by omega), pxi_shift _ _ _ _ (by omega), pxi_shift _ _ _ _ (by omega), show i - -(b : Int) - -(a : Int) = i - (-(a : Int) - b) by omega]
  by_cases h : 0 ≤ i ∧ i < (m : Int)
  · by_cases h2 : 0 ≤ i - -(b : Int) ∧ i - -(b : Int) < (m : Int)
    · rw [decide_eq_true h2, Bool.true_and]
    · rw [decide_eq_false h2, Bool.false_and, hr (i - (-(a : Int) - b)) (by omega)]
  · rw [decide_eq_false h, Bool.false_and, Bool.false_and]
theorem there_back (r : BitVec 128) (a m k : Nat) (hm : m ≤ 128) (hr : OfWidth r m) : pxi (shift (shift r a m) (-(a : Int)) m) k = (pxi r k && decide ((k : Int) + (a : Int) < (m : Int))) := by
  rw [pxi_shift _ _ _ _ (by omega), pxi_shift _ _ _ _ (by omega), show (k : Int) - -(a : Int) - (a : Int) = (k : Int) by omega]
  by_cases h2 : (k : Int) + (a : Int) < (m : Int)
  · rw [decide_eq_true h2, decide_eq_true (by omega), decide_eq_true (by omega), Bool.true_and, Bool.true_and, Bool.and_true]
  · rw [decide_eq_false h2, decide_eq_false (p := 0 ≤ (k : Int) - -(a : Int) ∧ _) (by omega), Bool.false_and, Bool.and_false, Bool.and_false]
theorem shift_zero (r : BitVec 128) (m : Nat) (hm : m ≤ 128) (hr : OfWidth r m) : shift r 0 m = r := pxi_ext fun i => by
  rw [pxi_shift _ _ _ _ (by omega), show i - 0 = i by omega]
  by_cases h : 0 ≤ i ∧ i < (m : Int)
  · rw [decide_eq_true h, Bool.true_and]
  · rw [decide_eq_false h, Bool.false_and]
    by_cases h0 : 0 ≤ i
    · rw [hr i (by omega)]
    · rw [pxi_neg _ _ (by omega)]
theorem pxi_zero (i : Int) : pxi 0#128 i = false := by rw [pxi, px_zero, Bool.and_false]
theorem shift_all (r : BitVec 128) (m : Nat) (hm : m ≤ 128) : shift r m m = 0#64 ++ 0#64 := by
  rw [zero_hi_lo]
  refine pxi_ext fun i => ?_
  rw [pxi_shift _ _ _ _ (by omega), pxi_zero]
  by_cases h : 0 ≤ i ∧ i < (m : Int)
  · rw [pxi_neg _ (i - (m : Int)) (by omega), Bool.and_false]
  · rw [decide_eq_false h, Bool.false_and]
theorem shift_all_left (r : BitVec 128) (m : Nat) (hm : m ≤ 128) (hr : OfWidth r m) : shift r (-(m : Int)) m = 0#64 ++ 0#64 := by
  rw [zero_hi_lo]
  refine pxi_ext fun i => ?_
  rw [pxi_shift _ _ _ _ (by omega), pxi_zero]
  by_cases h : 0 ≤ i ∧ i < (m : Int)
  · rw [hr (i - -(m : Int)) (by omega), Bool.and_false]
  · rw [decide_eq_false h, Bool.false_and]
theorem wide_of (h l : BitVec 64) (b : Bool) : OfWidth (wideOf h l b) (if b then 128 else 64) := fun i hi => by
  cases b
  · obtain ⟨k, rfl⟩ := Int.eq_ofNat_of_zero_le (show 0 ≤ i by simp at hi; omega)
    have hk : 64 ≤ k := by simp at hi; omega
    rw [pxi_nat, wideOf, if_neg (by simp), px, BitVec.getMsbD_append, if_pos hk, BitVec.getMsbD_zero]
  · obtain ⟨k, rfl⟩ := Int.eq_ofNat_of_zero_le (show 0 ≤ i by simp at hi; omega)
    have hk : 128 ≤ k := by simp at hi; omega
    rw [pxi_nat, px_big _ _ hk]
theorem sum_vars (a b m : Nat) (ha : a < 64) (hb : b < 64) (m1 : m ≤ 128) : ∃ ab na nb nab nm : Int, ab = (a : Int) + b ∧ na = -(a : Int) ∧ nb = -(b : Int) ∧ nab = -(a : Int) - b ∧ nm = -(m : Int) ∧
    (IntKind.i64.wrap ((a : Int) + b) = ab ∧ (a : Int) + b = ab) ∧ (wrap64 (-(a : Int)) = na ∧ -(a : Int) = na) ∧ (wrap64 (-(b : Int)) = nb ∧ -(b : Int) = nb) ∧ (IntKind.i64.wrap (na - (b : Int)) = nab ∧ na - (b : Int) = nab) ∧ (wrap64 (-(m : Int)) = nm ∧ -(m : Int) = nm) := by
  refine ⟨_, _, _, _, _, rfl, rfl, rfl, rfl, rfl, ⟨?_, rfl⟩, ⟨?_, rfl⟩, ⟨?_, rfl⟩, ⟨?_, rfl⟩, ⟨?_, rfl⟩⟩
  · rw [IntKind.wrap_i64]; omega
  · unfold wrap64; omega
  · unfold wrap64; omega
  · rw [IntKind.wrap_i64]; omega
  · unfold wrap64; omega

set_option maxRecDepth 100000 in
set_option maxHeartbeats 8000000 in
theorem rowShifts_go (h l r1 r2 : BitVec 64) (x y m : Nat) (wide : Bool) (w : World) (er : wideOf h l wide = r1 ++ r2) (hr : OfWidth (r1 ++ r2) m) (hm : m = 64 ∨ m = 128) (hw : ∀ w, Calls Try.prog 11 #[.bool wide] w fun e w' => e = .returned (.int .i64 (m : Int)) ∧ w = w') (x1 : x ≤ 255) (y1 : y ≤ 255) :
    Calls Try.prog 5 #[.int .u64 (h.toNat : Int), .int .u64 (l.toNat : Int), .bool wide, .int .u8 (x : Int), .int .u8 (y : Int)] w fun e w' => e = .returned (.bool true) ∧ Below w.heap.size w w' := by
  obtain ⟨a, ha⟩ : ∃ k : Nat, k = x % 64 := ⟨_, rfl⟩
  obtain ⟨b, hb⟩ : ∃ k : Nat, k = y % 64 := ⟨_, rfl⟩
  have a1 : a < 64 := by omega
  have b1 : b < 64 := by omega
  have m0 : (64 : Int) ≤ (m : Int) := by omega
  have m1 : m ≤ 128 := by omega
  have T : Hid (((x : Int) % 64 = (a : Int) ∧ (x : Int).tmod 64 = (a : Int)) ∧ ((y : Int) % 64 = (b : Int) ∧ (y : Int).tmod 64 = (b : Int))) := by
    have t1 : (x : Int) % 64 = (a : Int) := by omega
    have t2 : (y : Int) % 64 = (b : Int) := by omega
    exact ⟨⟨t1, by rw [tmod_pos _ _ (by omega)]; exact t1⟩, ⟨t2, by rw [tmod_pos _ _ (by omega)]; exact t2⟩⟩
  obtain ⟨ab, na, nb, nab, nm, eab, ena, enb, enab, enm, F⟩ := sum_vars a b m a1 b1 m1
  have F := Lib.hid F
  have iab : 0 ≤ ab ∧ ab ≤ 128 := by omega
  have ina : -64 ≤ na ∧ na ≤ 0 := by omega
  have inb : -64 ≤ nb ∧ nb ≤ 0 := by omega
  have inab : -128 ≤ nab ∧ nab ≤ 0 := by omega
  have inm : -128 ≤ nm ∧ nm ≤ 0 := by omega
  obtain ⟨u1, u2, eu⟩ := words (shift (r1 ++ r2) a m)
  obtain ⟨s1, s2, es⟩ := words (shift (r1 ++ r2) ab m)
  obtain ⟨c1, c2, ev⟩ := words (shift (r1 ++ r2) na m)
  obtain ⟨t1, t2, et⟩ := words (shift (r1 ++ r2) nab m)
  obtain ⟨k1, k2, ek⟩ := words (shift (u1 ++ u2) na m)
  have es2 : shift (u1 ++ u2) b m = s1 ++ s2 := by rw [← eu, ← es, eab]; exact twice_right _ a b m m1
  have et2 : shift (c1 ++ c2) nb m = t1 ++ t2 := by rw [← ev, ← et, ena, enb, enab]; exact twice_left _ a b m m1 hr
  have K : ∀ k : Nat, pxi (k1 ++ k2) k = (pxi (r1 ++ r2) k && decide ((k : Int) + (a : Int) < (m : Int))) := fun k => by rw [← ek, ← eu, ena]; exact there_back _ a m k m1 hr
  have e0 := shift_zero _ m m1 hr
  have ea := shift_all (r1 ++ r2) m m1
  have el := shift_all_left _ m m1 hr
  rw [← enm] at el
  have W := Lib.hid hw
  have M := Lib.hid fun w => makeW er w
  have S1 := Lib.hid fun w => shiftW eu (by omega) (by omega) (by omega) (by omega) w
  have S2 := Lib.hid fun w => shiftW es2 (by omega) (by omega) (by omega) (by omega) w
  have S3 := Lib.hid fun w => shiftW es (by omega) (by omega) (by omega) (by omega) w
  have S4 := Lib.hid fun w => shiftW ev (by omega) (by omega) (by omega) (by omega) w
  have S5 := Lib.hid fun w => shiftW et2 (by omega) (by omega) (by omega) (by omega) w
  have S6 := Lib.hid fun w => shiftW et (by omega) (by omega) (by omega) (by omega) w
  have S7 := Lib.hid fun w => shiftW ek (by omega) (by omega) (by omega) (by omega) w
  have S8 := Lib.hid fun w => shiftW e0 (by omega) (by omega) (by omega) (by omega) w
  have S9 := Lib.hid fun w => shiftW ea (by omega) (by omega) (by omega) (by omega) w
  have SA := Lib.hid fun w => shiftW el (by omega) (by omega) (by omega) (by omega) w
  have E := Lib.hid fun w => emptyW (h := 0#64) (l := 0#64) (f := true) (by decide) w
  have K := Lib.hid K
  clear hr er hw eu es ev et ek es2 et2 e0 ea el ha hb eab ena enb enab enm iab ina inb inab inm
  go_enter Try.func5, Try.ntmps5
  go_wp2_with fail
  have BB := Lib.hid (Below.refl w.heap.size w)
  refine (awake6 _).mono ?_
  rintro e v1 ⟨rfl, b1⟩
  have BB := Lib.hid (BB.out.trans (b1.mono BB.out.size))
  clear b1
  go_wp2_with fail
  refine (M.out _).mono ?_
  rintro e v2 ⟨rfl, b1⟩
  have BB := Lib.hid (BB.out.trans (b1.mono BB.out.size))
  clear b1
  go_wp2_with fail
  have A1 := Lib.hid (Box.new v2 r1 r2 27)
  have BB := Lib.hid (BB.out.alloc BB.out.size (.cells #[.int .u64 (r1.toNat : Int), .int .u64 (r2.toNat : Int)] 27))
  obtain ⟨p1, hq⟩ : ∃ a, a = v2.heap.size := ⟨_, rfl⟩
  generalize v2.alloc (.cells #[.int .u64 (r1.toNat : Int), .int .u64 (r2.toNat : Int)] 27) = v3 at *
  rw [← hq] at A1 ⊢
  clear hq
  refine (W.out _).mono ?_
  rintro e w' ⟨rfl, rfl⟩
  obtain ⟨⟨t1', t2'⟩, ⟨t3', t4'⟩⟩ := T.out
  go_wp2_with fail
  clear t1' t2' t3' t4'
  obtain ⟨⟨f1, f2⟩, ⟨f3, f4⟩, ⟨f5, f6⟩, ⟨f7, f8⟩, ⟨f9, fA⟩⟩ := F.out
  have y0 : ∀ x : Calm v3, x.w.cell? ⟨p1, 0, none⟩ = some (.int .u64 (r1.toNat : Int)) := fun x => Calm.cell A1.out.c0 A1.out.lt x
  have y1 : ∀ x : Calm v3, x.w.cell? ⟨p1, 1, none⟩ = some (.int .u64 (r2.toNat : Int)) := fun x => Calm.cell A1.out.c1 A1.out.lt x
  refine calm_region (by kernel_rfl) (by kernel_rfl) ?_
  repeat (go_big_quiet_step ((first
    | (go_at_call_of 14 ab; exact calm_call (S3.out _))
    | (go_at_call_of 14 na; exact calm_call (S4.out _))
    | (go_at_call_of 14 nab; exact calm_call (S6.out _))
    | (go_at_call_of 14 u1; exact calm_call (S2.out _))
    | (go_at_call_of 14 c1; exact calm_call (S5.out _))
    | (go_at_call_of 14 r1; exact calm_call (S1.out _)))))
  refine wpQuiet_nil ?_
  intro _ hw'
  obtain ⟨x, rfl⟩ := hw'
  have A1 := Lib.hid (A1.out.step x.below)
  have BB := Lib.hid (BB.out.trans (x.below.mono BB.out.size))
  clear y0 y1
  generalize x.w = v4 at *
  obtain ⟨A1x1, A1x2, A1x3, A1x4, A1x5⟩ := A1.out
  go_wp2_with fail
  clear A1x1 A1x2 A1x3 A1x4 A1x5
  refine (S1.out _).mono ?_
  rintro e v5 ⟨rfl, b1⟩
  have A1 := Lib.hid (A1.out.step b1)
  have BB := Lib.hid (BB.out.trans (b1.mono BB.out.size))
  clear b1
  go_wp2_with fail
  refine (S7.out _).mono ?_
  rintro e v6 ⟨rfl, b1⟩
  have A1 := Lib.hid (A1.out.step b1)
  have BB := Lib.hid (BB.out.trans (b1.mono BB.out.size))
  clear b1
  clear f1 f2 f3 f4 f5 f6 f7 f8 f9 fA
  go_wp2_with fail
  have A2 := Lib.hid (Box.new v6 k1 k2 27)
  have A1 := Lib.hid (A1.out.alloc (.cells #[.int .u64 (k1.toNat : Int), .int .u64 (k2.toNat : Int)] 27))
  have BB := Lib.hid (BB.out.alloc BB.out.size (.cells #[.int .u64 (k1.toNat : Int), .int .u64 (k2.toNat : Int)] 27))
  obtain ⟨p2, hq⟩ : ∃ a, a = v6.heap.size := ⟨_, rfl⟩
  generalize v6.alloc (.cells #[.int .u64 (k1.toNat : Int), .int .u64 (k2.toNat : Int)] 27) = v7 at *
  rw [← hq] at A2 ⊢
  clear hq
  go_loopw [16] (fun i wr => ∃ k : Nat, k ≤ 128 ∧ i = .int .i64 (k : Int) ∧ Below v7.heap.size v7 wr) (fun i _ => 128 - (intOf i).toNat)
  case atStart => exact ⟨0, by omega, rfl, Below.refl _ _⟩
  case round =>
    obtain ⟨k, hk, rfl, hb⟩ := hrel
    have A1 := Lib.hid (A1.out.step hb)
    have A2 := Lib.hid (A2.out.step hb)
    have KB := Lib.hid hb
    have BB := Lib.hid (BB.out.trans (hb.mono BB.out.size))
    clear hb
    by_cases hlt : k < 128
    · skip
      obtain ⟨u, hu⟩ : ∃ u, pxi (r1 ++ r2) (k : Int) = u := ⟨_, rfl⟩
      have g1' := K.out k
      rw [hu] at g1'
      have fka := IntWalk.i64_in ((k : Int) + (a : Int)) (by omega)
      by_cases hka : (k : Int) + (a : Int) < (m : Int)
      · skip
        rw [decide_eq_true hka] at g1'
        have Q1 := Lib.hid fun w => getW g1' (by omega) (by omega) w
        have Q2 := Lib.hid fun w => getW hu (by omega) (by omega) w
        clear g1' hu
        go_wp2_with fail
        cases u
        all_goals
          simp only [Bool.and_true, Bool.and_false, Bool.true_and, Bool.false_and] at Q1 Q2
          have y0 : ∀ x : Calm wr, x.w.cell? ⟨p1, 0, none⟩ = some (.int .u64 (r1.toNat : Int)) := fun x => Calm.cell A1.out.c0 A1.out.lt x
          have y1 : ∀ x : Calm wr, x.w.cell? ⟨p1, 1, none⟩ = some (.int .u64 (r2.toNat : Int)) := fun x => Calm.cell A1.out.c1 A1.out.lt x
          have y2 : ∀ x : Calm wr, x.w.cell? ⟨p2, 0, none⟩ = some (.int .u64 (k1.toNat : Int)) := fun x => Calm.cell A2.out.c0 A2.out.lt x
          have y3 : ∀ x : Calm wr, x.w.cell? ⟨p2, 1, none⟩ = some (.int .u64 (k2.toNat : Int)) := fun x => Calm.cell A2.out.c1 A2.out.lt x
          refine calm_region (by kernel_rfl) (by kernel_rfl) ?_
          repeat (go_big_quiet_step ((first
            | (go_at_call_of 12 k1; exact calm_call (Q1.out _))
            | (go_at_call_of 12 r1; exact calm_call (Q2.out _)))))
          refine wpQuiet_nil ?_
          intro _ hw'
          obtain ⟨x, rfl⟩ := hw'
          have A1 := Lib.hid (A1.out.step x.below)
          have A2 := Lib.hid (A2.out.step x.below)
          have BB := Lib.hid (BB.out.trans (x.below.mono BB.out.size))
          have KB := Lib.hid (KB.out.trans (x.below.mono KB.out.size))
          clear y0 y1 y2 y3
          generalize x.w = v8 at *
          clear fka
          go_wp2
          go_roundw
          case rel => exact ⟨k + 1, by omega, by go_num, KB.out⟩
          case measure => simp [intOf]; omega
      · skip
        rw [decide_eq_false hka] at g1'
        have Q1 := Lib.hid fun w => getW g1' (by omega) (by omega) w
        have Q2 := Lib.hid fun w => getW hu (by omega) (by omega) w
        clear g1' hu
        go_wp2_with fail
        cases u
        all_goals
          simp only [Bool.and_true, Bool.and_false, Bool.true_and, Bool.false_and] at Q1 Q2
          have y0 : ∀ x : Calm wr, x.w.cell? ⟨p1, 0, none⟩ = some (.int .u64 (r1.toNat : Int)) := fun x => Calm.cell A1.out.c0 A1.out.lt x
          have y1 : ∀ x : Calm wr, x.w.cell? ⟨p1, 1, none⟩ = some (.int .u64 (r2.toNat : Int)) := fun x => Calm.cell A1.out.c1 A1.out.lt x
          have y2 : ∀ x : Calm wr, x.w.cell? ⟨p2, 0, none⟩ = some (.int .u64 (k1.toNat : Int)) := fun x => Calm.cell A2.out.c0 A2.out.lt x
          have y3 : ∀ x : Calm wr, x.w.cell? ⟨p2, 1, none⟩ = some (.int .u64 (k2.toNat : Int)) := fun x => Calm.cell A2.out.c1 A2.out.lt x
          refine calm_region (by kernel_rfl) (by kernel_rfl) ?_
          repeat (go_big_quiet_step ((first
            | (go_at_call_of 12 k1; exact calm_call (Q1.out _))
            | (go_at_call_of 12 r1; exact calm_call (Q2.out _)))))
          refine wpQuiet_nil ?_
          intro _ hw'
          obtain ⟨x, rfl⟩ := hw'
          have A1 := Lib.hid (A1.out.step x.below)
          have A2 := Lib.hid (A2.out.step x.below)
          have BB := Lib.hid (BB.out.trans (x.below.mono BB.out.size))
          have KB := Lib.hid (KB.out.trans (x.below.mono KB.out.size))
          clear y0 y1 y2 y3
          generalize x.w = v8 at *
          clear fka
          go_wp2
          go_roundw
          case rel => exact ⟨k + 1, by omega, by go_num, KB.out⟩
          case measure => simp [intOf]; omega
    · skip
      have hk128 : k = 128 := by omega
      subst hk128
      clear hlt KB
      obtain ⟨_, _, _, _, ⟨f9, fA⟩⟩ := F.out
      go_wp2_with fail
      have y0 : ∀ x : Calm wr, x.w.cell? ⟨p1, 0, none⟩ = some (.int .u64 (r1.toNat : Int)) := fun x => Calm.cell A1.out.c0 A1.out.lt x
      have y1 : ∀ x : Calm wr, x.w.cell? ⟨p1, 1, none⟩ = some (.int .u64 (r2.toNat : Int)) := fun x => Calm.cell A1.out.c1 A1.out.lt x
      refine calm_region (by kernel_rfl) (by kernel_rfl) ?_
      repeat (go_big_quiet_step ((first
        | (go_at_call_of 14 nm; exact calm_call (SA.out _))
        | (go_at_call_of 14 (Value.int IntKind.i64 0); exact calm_call (S8.out _))
        | (go_at_call_of 14 r1; exact calm_call (S9.out _))
        | (go_at_call 19; exact calm_call (E.out _)))))
      refine wpQuiet_nil ?_
      intro _ hw'
      obtain ⟨x, rfl⟩ := hw'
      have A1 := Lib.hid (A1.out.step x.below)
      have A2 := Lib.hid (A2.out.step x.below)
      have BB := Lib.hid (BB.out.trans (x.below.mono BB.out.size))
      clear y0 y1
      generalize x.w = v8 at *
      clear f9 fA
      go_wp2
      go_ret
      exact ⟨rfl, BB.out⟩

theorem rowShifts_walk (a0 a1 : Int) (a2 : Bool) (a3 a4 : Int) (w0 : (Lit.int .u64 a0).wf = true) (w1 : (Lit.int .u64 a1).wf = true) (w3 : (Lit.int .u8 a3).wf = true) (w4 : (Lit.int .u8 a4).wf = true) (w : World) :
    Calls Try.prog 5 #[.int .u64 a0, .int .u64 a1, .bool a2, .int .u8 a3, .int .u8 a4] w fun e w' => e = .returned (.bool true) ∧ Below w.heap.size w w' := by
  obtain ⟨u0, rfl⟩ := word_of a0 (bd_u64 w0).1 (bd_u64 w0).2
  obtain ⟨u1, rfl⟩ := word_of a1 (bd_u64 w1).1 (bd_u64 w1).2
  obtain ⟨p2, p3⟩ := bd_u8 w3
  obtain ⟨p4, p5⟩ := bd_u8 w4
  obtain ⟨x, rfl⟩ := Int.eq_ofNat_of_zero_le p2
  obtain ⟨y, rfl⟩ := Int.eq_ofNat_of_zero_le p4
  obtain ⟨r1, r2, er⟩ := words (wideOf u0 u1 a2)
  have hr := wide_of u0 u1 a2
  rw [er] at hr
  cases a2
  · exact rowShifts_go u0 u1 r1 r2 x y 64 false w er hr (.inl rfl) (rwidth_any false) (by omega) (by omega)
  · exact rowShifts_go u0 u1 r1 r2 x y 128 true w er hr (.inr rfl) (rwidth_any true) (by omega) (by omega)
end Go.Proofs.Ytfajhppnfnapfaa
