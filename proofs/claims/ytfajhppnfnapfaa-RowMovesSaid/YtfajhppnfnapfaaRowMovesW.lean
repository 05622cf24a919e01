/- The walk of RowMoves. -/
import Derived.Test.YtfajhppnfnapfaaPixW
namespace Go.Proofs.Ytfajhppnfnapfaa
open Go.RowKit Num
set_option linter.unusedVariables false
set_option linter.unusedSimpArgs false

theorem px_start (b c m : Nat) (c1 : c ≤ 16) (hm : 16 ≤ m) (m1 : m ≤ 128) : sprite b c 0 m true = sp0 b c := by
  apply px_ext
  intro j hj
  rw [px_sprite b c 0 m true c1 hm m1 (by omega) j hj, px_sp0 b c j c1]
  unfold spF
  rw [show decide (0 ≤ j ∧ j < 0 + c ∧ j < m ∧ c + 0 ≤ j + c) = decide (j < c) by congr 1; simp; omega]
  simp
theorem moves_clip (b c x m : Nat) (c1 : c ≤ 16) (hm : 16 ≤ m) (m1 : m ≤ 128) : shift (sprite b c 0 m true) x m = sprite b c x m true := by
  rw [px_start b c m c1 hm m1]
  rfl
theorem moves_lost (b c x m : Nat) (c1 : c ≤ 16) (hm : 16 ≤ m) (m1 : m ≤ 128) (hx : x < m) : shift (sprite b c 0 m true) ((x : Int) - m) m = mv (sp0 b c) ((x : Int) - m) := by
  rw [px_start b c m c1 hm m1]
  apply px_ext
  intro j hj
  rw [px_shift _ _ _ _ hj (by omega), px_mv _ _ _ hj]
  by_cases h : (j : Int) < (m : Int)
  · rw [decide_eq_true h]; simp
  · rw [decide_eq_false h, pxi_sp0 b c _ c1, decide_eq_false (by omega)]; rfl
theorem moves_wrap (b c x m : Nat) (c1 : c ≤ 16) (hm : 16 ≤ m) (m1 : m ≤ 128) (hx : x < m) : sprite b c x m true ^^^ shift (sprite b c 0 m true) ((x : Int) - m) m = sprite b c x m false := by
  rw [moves_lost b c x m c1 hm m1 hx]
  rfl
theorem moves_and (b c x m : Nat) (c1 : c ≤ 16) (hm : 16 ≤ m) (m1 : m ≤ 128) (hx : x < m) : sprite b c x m true &&& shift (sprite b c 0 m true) ((x : Int) - m) m = 0#64 ++ 0#64 := by
  rw [moves_lost b c x m c1 hm m1 hx, zero_hi_lo]
  apply px_ext
  intro j hj
  rw [px_and, px_zero, px_sprite b c x m true c1 hm m1 hx j hj, px_mv _ _ _ hj, pxi_sp0 b c _ c1]
  unfold spF
  by_cases h : x ≤ j
  · rw [decide_eq_false (p := 0 ≤ (j : Int) - ((x : Int) - (m : Int)) ∧ _) (by omega)]
    simp
  · rw [decide_eq_false (p := x ≤ j ∧ _) (by omega)]
    simp

set_option maxRecDepth 100000 in
set_option maxHeartbeats 4000000 in
theorem rowMoves_go (b x m : Nat) (big wide : Bool) (w : World) (hm : m = 64 ∨ m = 128) (hw : ∀ w, Calls Try.prog 11 #[.bool wide] w fun e w' => e = .returned (.int .i64 (m : Int)) ∧ w = w') (b1 : b ≤ 65535) (x1 : x ≤ 255) :
    Calls Try.prog 7 #[.int .u16 (b : Int), .bool big, .int .u8 (x : Int), .bool wide] w fun e w' => e = .returned (.bool true) ∧ Below w.heap.size w w' := by
  obtain ⟨k, hk⟩ : ∃ k : Nat, k = x % m := ⟨_, rfl⟩
  have hkm : k < m := by rw [hk]; exact Nat.mod_lt _ (by omega)
  have ht : (x : Int) % (m : Int) = (k : Int) := by rw [hk]; rfl
  have ht2 : (x : Int).tmod (m : Int) = (k : Int) := by rw [tmod_pos _ _ (by omega)]; exact ht
  have m0 : (64 : Int) ≤ (m : Int) := by omega
  have m1 : (m : Int) ≤ 128 := by omega
  have W := Lib.hid hw
  have T := Lib.hid (And.intro ht ht2)
  have f1 := IntWalk.i64_in ((k : Int) - (m : Int)) (by omega)
  clear hk hw ht ht2
  obtain ⟨c, hc, hcb⟩ : ∃ c : Nat, (c = 8 ∨ c = 16) ∧ c = (if big then 16 else 8) := by
    cases big
    · exact ⟨8, .inl rfl, rfl⟩
    · exact ⟨16, .inr rfl, rfl⟩
  obtain ⟨a1, a2, ea⟩ := words (sprite b c 0 m true)
  obtain ⟨c1, c2, ec⟩ := words (sprite b c k m true)
  obtain ⟨w1, w2, ew⟩ := words (sprite b c k m false)
  obtain ⟨l1, l2, el⟩ := words (shift (sprite b c 0 m true) ((k : Int) - m) m)
  have e1 := moves_clip b c k m (by omega) (by omega) (by omega)
  have e2 := moves_wrap b c k m (by omega) (by omega) (by omega) hkm
  have e3 := moves_and b c k m (by omega) (by omega) (by omega) hkm
  rw [ea, ec] at e1
  rw [ec, el, ew] at e2
  rw [ec, el] at e3
  have el2 := el
  rw [ea] at el2
  have P1 := Lib.hid fun w => shiftW el2 (by omega) (by omega) (by omega) (by omega) w
  have P2 := Lib.hid fun w => shiftW e1 (by omega) (by omega) (by omega) (by omega) w
  have P3 := Lib.hid fun w => andW e3 w
  have P4 := Lib.hid fun w => emptyW (h := 0#64) (l := 0#64) (f := true) (by decide) w
  have P5 := Lib.hid fun w => xorW e2 w
  have S1 : ∀ ci : Int, ci = (c : Int) → ∀ w, _ := fun ci h w => spriteW (bi := b) (ci := ci) (xi := 0) (mi := m) ea rfl h rfl rfl hc b1 (by omega) (by omega) w
  have S2 : ∀ ci : Int, ci = (c : Int) → ∀ w, _ := fun ci h w => spriteW (bi := b) (ci := ci) (xi := k) (mi := m) ec rfl h rfl rfl hc b1 (by omega) (by omega) w
  have S3 : ∀ ci : Int, ci = (c : Int) → ∀ w, _ := fun ci h w => spriteW (bi := b) (ci := ci) (xi := k) (mi := m) ew rfl h rfl rfl hc b1 (by omega) (by omega) w
  have S := Lib.hid (And.intro hcb (And.intro S1 (And.intro S2 S3)))
  clear e1 e2 e3 ea ec ew el el2 S1 S2 S3 hcb
  have z0 : ((0#64).toNat : Int) = 0 := rfl
  cases big
  all_goals
    go_enter Try.func7, Try.ntmps7
    go_wp2_with fail
    refine (awake6 _).mono ?_
    rintro e v1 ⟨rfl, b1⟩
    have BB := Lib.hid b1
    clear b1
    go_wp2_with fail
    refine (W.out _).mono ?_
    rintro e w' ⟨rfl, rfl⟩
    have t1 := T.out.1
    have t2 := T.out.2
    go_wp2_with fail
    clear t1 t2
    refine (S.out.2.1 _ (by rw [S.out.1]; rfl) _).mono ?_
    rintro e v2 ⟨rfl, b1⟩
    have BB := Lib.hid (BB.out.trans (b1.mono BB.out.size))
    clear b1
    go_wp2_with fail
    have A1 := Lib.hid (Box.new v2 a1 a2 27)
    have BB := Lib.hid (BB.out.alloc BB.out.size (.cells #[.int .u64 (a1.toNat : Int), .int .u64 (a2.toNat : Int)] 27))
    obtain ⟨q1, hq⟩ : ∃ a, a = v2.heap.size := ⟨_, rfl⟩
    generalize v2.alloc (.cells #[.int .u64 (a1.toNat : Int), .int .u64 (a2.toNat : Int)] 27) = v3 at *
    rw [← hq] at A1 ⊢
    clear hq
    refine (S.out.2.2.1 _ (by rw [S.out.1]; rfl) _).mono ?_
    rintro e v4 ⟨rfl, b1⟩
    have A1 := Lib.hid (A1.out.step b1)
    have BB := Lib.hid (BB.out.trans (b1.mono BB.out.size))
    clear b1
    go_wp2_with fail
    have A2 := Lib.hid (Box.new v4 c1 c2 27)
    have A1 := Lib.hid (A1.out.alloc (.cells #[.int .u64 (c1.toNat : Int), .int .u64 (c2.toNat : Int)] 27))
    have BB := Lib.hid (BB.out.alloc BB.out.size (.cells #[.int .u64 (c1.toNat : Int), .int .u64 (c2.toNat : Int)] 27))
    obtain ⟨q2, hq⟩ : ∃ a, a = v4.heap.size := ⟨_, rfl⟩
    generalize v4.alloc (.cells #[.int .u64 (c1.toNat : Int), .int .u64 (c2.toNat : Int)] 27) = v5 at *
    rw [← hq] at A2 ⊢
    clear hq
    refine (S.out.2.2.2 _ (by rw [S.out.1]; rfl) _).mono ?_
    rintro e v6 ⟨rfl, b1⟩
    have A1 := Lib.hid (A1.out.step b1)
    have A2 := Lib.hid (A2.out.step b1)
    have BB := Lib.hid (BB.out.trans (b1.mono BB.out.size))
    clear b1
    obtain ⟨x1, x2, x3, x4, x5⟩ := A1.out
    go_wp2_with fail
    clear x1 x2 x3 x4 x5
    have A3 := Lib.hid (Box.new v6 w1 w2 27)
    have A1 := Lib.hid (A1.out.alloc (.cells #[.int .u64 (w1.toNat : Int), .int .u64 (w2.toNat : Int)] 27))
    have A2 := Lib.hid (A2.out.alloc (.cells #[.int .u64 (w1.toNat : Int), .int .u64 (w2.toNat : Int)] 27))
    have BB := Lib.hid (BB.out.alloc BB.out.size (.cells #[.int .u64 (w1.toNat : Int), .int .u64 (w2.toNat : Int)] 27))
    obtain ⟨q3, hq⟩ : ∃ a, a = v6.heap.size := ⟨_, rfl⟩
    generalize v6.alloc (.cells #[.int .u64 (w1.toNat : Int), .int .u64 (w2.toNat : Int)] 27) = v7 at *
    rw [← hq] at A3 ⊢
    clear hq
    refine (P1.out _).mono ?_
    rintro e v8 ⟨rfl, b1⟩
    have A1 := Lib.hid (A1.out.step b1)
    have A2 := Lib.hid (A2.out.step b1)
    have A3 := Lib.hid (A3.out.step b1)
    have BB := Lib.hid (BB.out.trans (b1.mono BB.out.size))
    clear b1
    go_wp2_with fail
    have A4 := Lib.hid (Box.new v8 l1 l2 27)
    have A1 := Lib.hid (A1.out.alloc (.cells #[.int .u64 (l1.toNat : Int), .int .u64 (l2.toNat : Int)] 27))
    have A2 := Lib.hid (A2.out.alloc (.cells #[.int .u64 (l1.toNat : Int), .int .u64 (l2.toNat : Int)] 27))
    have A3 := Lib.hid (A3.out.alloc (.cells #[.int .u64 (l1.toNat : Int), .int .u64 (l2.toNat : Int)] 27))
    have BB := Lib.hid (BB.out.alloc BB.out.size (.cells #[.int .u64 (l1.toNat : Int), .int .u64 (l2.toNat : Int)] 27))
    obtain ⟨q4, hq⟩ : ∃ a, a = v8.heap.size := ⟨_, rfl⟩
    generalize v8.alloc (.cells #[.int .u64 (l1.toNat : Int), .int .u64 (l2.toNat : Int)] 27) = v9 at *
    rw [← hq] at A4 ⊢
    clear hq f1
    have y0 : ∀ x : Calm v9, x.w.cell? ⟨q1, 0, none⟩ = some (.int .u64 (a1.toNat : Int)) := fun x => Calm.cell A1.out.c0 A1.out.lt x
    have y1 : ∀ x : Calm v9, x.w.cell? ⟨q1, 1, none⟩ = some (.int .u64 (a2.toNat : Int)) := fun x => Calm.cell A1.out.c1 A1.out.lt x
    have y2 : ∀ x : Calm v9, x.w.cell? ⟨q2, 0, none⟩ = some (.int .u64 (c1.toNat : Int)) := fun x => Calm.cell A2.out.c0 A2.out.lt x
    have y3 : ∀ x : Calm v9, x.w.cell? ⟨q2, 1, none⟩ = some (.int .u64 (c2.toNat : Int)) := fun x => Calm.cell A2.out.c1 A2.out.lt x
    have y4 : ∀ x : Calm v9, x.w.cell? ⟨q3, 0, none⟩ = some (.int .u64 (w1.toNat : Int)) := fun x => Calm.cell A3.out.c0 A3.out.lt x
    have y5 : ∀ x : Calm v9, x.w.cell? ⟨q3, 1, none⟩ = some (.int .u64 (w2.toNat : Int)) := fun x => Calm.cell A3.out.c1 A3.out.lt x
    have y6 : ∀ x : Calm v9, x.w.cell? ⟨q4, 0, none⟩ = some (.int .u64 (l1.toNat : Int)) := fun x => Calm.cell A4.out.c0 A4.out.lt x
    have y7 : ∀ x : Calm v9, x.w.cell? ⟨q4, 1, none⟩ = some (.int .u64 (l2.toNat : Int)) := fun x => Calm.cell A4.out.c1 A4.out.lt x
    refine calm_region (by kernel_rfl) (by kernel_rfl) ?_
    repeat (go_big_quiet_step ((first
      | (go_at_call 14; exact calm_call (P2.out _))
      | (go_at_call 22; exact calm_call (P3.out _))
      | (go_at_call 19; exact calm_call (P4.out _))
      | (go_at_call 21; exact calm_call (P5.out _)))))
    refine wpQuiet_nil ?_
    intro _ hw'
    obtain ⟨x, rfl⟩ := hw'
    have XB := Lib.hid (BB.out.trans (x.below.mono BB.out.size))
    clear y0 y1 y2 y3 y4 y5 y6 y7
    go_wp2
    go_ret
    exact ⟨rfl, XB.out⟩

theorem rowMoves_walk (a0 : Int) (a1 : Bool) (a2 : Int) (a3 : Bool) (w0 : (Lit.int .u16 a0).wf = true) (w2 : (Lit.int .u8 a2).wf = true) (w : World) :
    Calls Try.prog 7 #[.int .u16 a0, .bool a1, .int .u8 a2, .bool a3] w fun e w' => e = .returned (.bool true) ∧ Below w.heap.size w w' := by
  obtain ⟨p0, p1⟩ := bd_u16 w0
  obtain ⟨p2, p3⟩ := bd_u8 w2
  obtain ⟨b, rfl⟩ := Int.eq_ofNat_of_zero_le p0
  obtain ⟨x, rfl⟩ := Int.eq_ofNat_of_zero_le p2
  cases a3
  · exact rowMoves_go b x 64 a1 false w (.inl rfl) (rwidth_any false) (by omega) (by omega)
  · exact rowMoves_go b x 128 a1 true w (.inr rfl) (rwidth_any true) (by omega) (by omega)
end Go.Proofs.Ytfajhppnfnapfaa
