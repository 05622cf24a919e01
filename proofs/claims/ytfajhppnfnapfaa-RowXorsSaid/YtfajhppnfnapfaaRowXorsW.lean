/- The walk of RowXors. -/
import Derived.Test.YtfajhppnfnapfaaPixW
namespace Go.Proofs.Ytfajhppnfnapfaa
open Go.RowKit Num
set_option linter.unusedVariables false
set_option linter.unusedSimpArgs false

theorem Pix.alloc {g : Nat} {f : Nat → Bool} {w : World} (H : Pix g f w) (o : Obj) : Pix g f (w.alloc o) := H.step (below_new w o)

theorem count_vars {x y z m : BitVec 128} (hz : x ^^^ y = z) (hm : x &&& y = m) : ∃ n1 n2 n3 n4 : Nat, cnt z = n1 ∧ cnt x = n2 ∧ cnt y = n3 ∧ cnt m = n4 ∧ n1 + 2 * n4 = n2 + n3 ∧ n1 ≤ 128 ∧ n2 ≤ 128 ∧ n3 ≤ 128 ∧ n4 ≤ 128 := by
  subst hz
  subst hm
  exact ⟨_, _, _, _, rfl, rfl, rfl, rfl, cnt_xor x y, cnt_le _, cnt_le _, cnt_le _, cnt_le _⟩

theorem count_sums {n1 n2 n3 n4 : Nat} (h : n1 + 2 * n4 = n2 + n3) (q1 : n1 ≤ 128) (q2 : n2 ≤ 128) (q3 : n3 ≤ 128) (q4 : n4 ≤ 128) :
    ∃ s d : Int, IntKind.i64.wrap ((n2 : Int) + (n3 : Int)) = s ∧ IntKind.i64.wrap (2 * (n4 : Int)) = d ∧ IntKind.i64.wrap (s - d) = (n1 : Int) :=
  ⟨(n2 : Int) + n3, 2 * n4, by rw [IntKind.wrap_i64]; omega, by rw [IntKind.wrap_i64]; omega, by rw [IntKind.wrap_i64]; omega⟩

set_option maxRecDepth 100000 in
set_option maxHeartbeats 8000000 in
theorem rowXors_go (h1 l1 h2 l2 : BitVec 64) (w : World) :
    Calls Try.prog 6 #[.int .u64 (h1.toNat : Int), .int .u64 (l1.toNat : Int), .int .u64 (h2.toNat : Int), .int .u64 (l2.toNat : Int)] w fun e w' => e = .returned (.bool true) ∧ Below w.heap.size w w' := by
  obtain ⟨z1, z2, ez⟩ := words ((h1 ++ l1) ^^^ (h2 ++ l2))
  obtain ⟨m1, m2, em⟩ := words ((h1 ++ l1) &&& (h2 ++ l2))
  have back : (z1 ++ z2) ^^^ (h2 ++ l2) = h1 ++ l1 := by rw [← ez, BitVec.xor_assoc, BitVec.xor_self, BitVec.xor_zero]
  have self : (h1 ++ l1) ^^^ (h1 ++ l1) = 0#64 ++ 0#64 := by rw [BitVec.xor_self, zero_hi_lo]
  obtain ⟨n1, n2, n3, n4, en1, en2, en3, en4, hcount, q1, q2, q3, q4⟩ := count_vars ez em
  obtain ⟨s, d, hs, hd, hsd⟩ := count_sums hcount q1 q2 q3 q4
  have SD := Lib.hid (And.intro hs (And.intro hd hsd))
  have X1 := Lib.hid fun w => xorW ez w
  have X2 := Lib.hid fun w => andW em w
  have X3 := Lib.hid fun w => xorW back w
  have X4 := Lib.hid fun w => xorW self w
  have X5 := Lib.hid fun w => emptyW (h := 0#64) (l := 0#64) (f := true) (by decide) w
  have C1 := Lib.hid fun w => countW en1 w
  have C2 := Lib.hid fun w => countW en2 w
  have C3 := Lib.hid fun w => countW en3 w
  have C4 := Lib.hid fun w => countW en4 w
  have G1 : ∀ k : Nat, k < 128 → pxi (z1 ++ z2) (k : Int) = (px (h1 ++ l1) k ^^ px (h2 ++ l2) k) := fun k hk => by
    rw [pxi, decide_eq_true (by omega), ← ez, Int.toNat_natCast, px_xor, Bool.true_and]
  have G2 : ∀ k : Nat, k < 128 → pxi (m1 ++ m2) (k : Int) = (px (h1 ++ l1) k && px (h2 ++ l2) k) := fun k hk => by
    rw [pxi, decide_eq_true (by omega), ← em, Int.toNat_natCast, px_and, Bool.true_and]
  have G1 := Lib.hid G1
  have G2 := Lib.hid G2
  have O1 := Lib.hid (pixelsW h1 l1)
  have O2 := Lib.hid (pixelsW h2 l2)
  obtain ⟨F1, hF1⟩ : ∃ F, px (h1 ++ l1) = F := ⟨_, rfl⟩
  obtain ⟨F2, hF2⟩ : ∃ F, px (h2 ++ l2) = F := ⟨_, rfl⟩
  rw [hF1] at O1
  rw [hF2] at O2
  rw [hF1, hF2] at G1 G2
  clear hF1 hF2
  clear ez em back self hcount en1 en2 en3 en4 hs hd hsd q1 q2 q3 q4
  go_enter Try.func6, Try.ntmps6
  go_wp2_with fail
  have BB := Lib.hid (Below.refl w.heap.size w)
  refine (awake6 _).mono ?_
  rintro e v1 ⟨rfl, b1⟩
  have BB := Lib.hid (BB.out.trans (b1.mono BB.out.size))
  clear b1
  go_wp2_with fail
  have A1 := Lib.hid ((Box.new v1 h1 l1 27).alloc (.cells #[.int .u64 (h2.toNat : Int), .int .u64 (l2.toNat : Int)] 27))
  have A2 : Box (v1.heap.size + 1) h2 l2 ((v1.alloc (.cells #[.int .u64 (h1.toNat : Int), .int .u64 (l1.toNat : Int)] 27)).alloc (.cells #[.int .u64 (h2.toNat : Int), .int .u64 (l2.toNat : Int)] 27)) := by
    have := Box.new (v1.alloc (.cells #[.int .u64 (h1.toNat : Int), .int .u64 (l1.toNat : Int)] 27)) h2 l2 27
    rw [World.size_alloc] at this
    exact this
  have A2 := Lib.hid A2
  have BB := Lib.hid ((BB.out.alloc BB.out.size (.cells #[.int .u64 (h1.toNat : Int), .int .u64 (l1.toNat : Int)] 27)).alloc (Nat.le_trans BB.out.size (by simp)) (.cells #[.int .u64 (h2.toNat : Int), .int .u64 (l2.toNat : Int)] 27))
  obtain ⟨p1, hq⟩ : ∃ a, a = v1.heap.size := ⟨_, rfl⟩
  obtain ⟨p2, hq2⟩ : ∃ a, a = v1.heap.size + 1 := ⟨_, rfl⟩
  generalize (v1.alloc (.cells #[.int .u64 (h1.toNat : Int), .int .u64 (l1.toNat : Int)] 27)).alloc (.cells #[.int .u64 (h2.toNat : Int), .int .u64 (l2.toNat : Int)] 27) = va at *
  rw [← hq2] at A2 ⊢
  rw [← hq] at A1 ⊢
  clear hq hq2
  refine (X1.out _).mono ?_
  rintro e v2 ⟨rfl, b1⟩
  have A1 := Lib.hid (A1.out.step b1)
  have A2 := Lib.hid (A2.out.step b1)
  have BB := Lib.hid (BB.out.trans (b1.mono BB.out.size))
  clear b1
  obtain ⟨A1x1, A1x2, A1x3, A1x4, A1x5⟩ := A1.out
  obtain ⟨A2x1, A2x2, A2x3, A2x4, A2x5⟩ := A2.out
  go_wp2_with fail
  clear A1x1 A1x2 A1x3 A1x4 A1x5
  clear A2x1 A2x2 A2x3 A2x4 A2x5
  have A3 := Lib.hid (Box.new v2 z1 z2 27)
  have A1 := Lib.hid (A1.out.alloc (.cells #[.int .u64 (z1.toNat : Int), .int .u64 (z2.toNat : Int)] 27))
  have A2 := Lib.hid (A2.out.alloc (.cells #[.int .u64 (z1.toNat : Int), .int .u64 (z2.toNat : Int)] 27))
  have BB := Lib.hid (BB.out.alloc BB.out.size (.cells #[.int .u64 (z1.toNat : Int), .int .u64 (z2.toNat : Int)] 27))
  obtain ⟨p3, hq⟩ : ∃ a, a = v2.heap.size := ⟨_, rfl⟩
  generalize v2.alloc (.cells #[.int .u64 (z1.toNat : Int), .int .u64 (z2.toNat : Int)] 27) = v3 at *
  rw [← hq] at A3 ⊢
  clear hq
  refine (X2.out _).mono ?_
  rintro e v4 ⟨rfl, b1⟩
  have A1 := Lib.hid (A1.out.step b1)
  have A2 := Lib.hid (A2.out.step b1)
  have A3 := Lib.hid (A3.out.step b1)
  have BB := Lib.hid (BB.out.trans (b1.mono BB.out.size))
  clear b1
  obtain ⟨A1x1, A1x2, A1x3, A1x4, A1x5⟩ := A1.out
  go_wp2_with fail
  clear A1x1 A1x2 A1x3 A1x4 A1x5
  have A4 := Lib.hid (Box.new v4 m1 m2 27)
  have A1 := Lib.hid (A1.out.alloc (.cells #[.int .u64 (m1.toNat : Int), .int .u64 (m2.toNat : Int)] 27))
  have A2 := Lib.hid (A2.out.alloc (.cells #[.int .u64 (m1.toNat : Int), .int .u64 (m2.toNat : Int)] 27))
  have A3 := Lib.hid (A3.out.alloc (.cells #[.int .u64 (m1.toNat : Int), .int .u64 (m2.toNat : Int)] 27))
  have BB := Lib.hid (BB.out.alloc BB.out.size (.cells #[.int .u64 (m1.toNat : Int), .int .u64 (m2.toNat : Int)] 27))
  obtain ⟨p4, hq⟩ : ∃ a, a = v4.heap.size := ⟨_, rfl⟩
  generalize v4.alloc (.cells #[.int .u64 (m1.toNat : Int), .int .u64 (m2.toNat : Int)] 27) = v5 at *
  rw [← hq] at A4 ⊢
  clear hq
  refine (O1.out _).mono ?_
  rintro e v6 ⟨g1, rfl, hg, P1, b1⟩
  have P1 := Lib.hid P1
  clear hg
  have A1 := Lib.hid (A1.out.step b1)
  have A2 := Lib.hid (A2.out.step b1)
  have A3 := Lib.hid (A3.out.step b1)
  have A4 := Lib.hid (A4.out.step b1)
  have BB := Lib.hid (BB.out.trans (b1.mono BB.out.size))
  clear b1
  obtain ⟨A2x1, A2x2, A2x3, A2x4, A2x5⟩ := A2.out
  go_wp2_with fail
  clear A2x1 A2x2 A2x3 A2x4 A2x5
  refine (O2.out _).mono ?_
  rintro e v7 ⟨g2, rfl, hg, P2, b1⟩
  have P2 := Lib.hid P2
  clear hg
  have A1 := Lib.hid (A1.out.step b1)
  have A2 := Lib.hid (A2.out.step b1)
  have A3 := Lib.hid (A3.out.step b1)
  have A4 := Lib.hid (A4.out.step b1)
  have P1 := Lib.hid (P1.out.step b1)
  have BB := Lib.hid (BB.out.trans (b1.mono BB.out.size))
  clear b1
  go_wp2
  go_loopw [15] (fun i wr => ∃ k : Nat, k ≤ 128 ∧ i = .int .i64 (k : Int) ∧ Below v7.heap.size v7 wr) (fun i _ => 128 - (intOf i).toNat)
  case atStart => exact ⟨0, by omega, rfl, Below.refl _ _⟩
  case round =>
    obtain ⟨k, hk, rfl, hb⟩ := hrel
    have A1 := Lib.hid (A1.out.step hb)
    have A2 := Lib.hid (A2.out.step hb)
    have A3 := Lib.hid (A3.out.step hb)
    have A4 := Lib.hid (A4.out.step hb)
    have P1 := Lib.hid (P1.out.step hb)
    have P2 := Lib.hid (P2.out.step hb)
    have KB := Lib.hid hb
    have BB := Lib.hid (BB.out.trans (hb.mono BB.out.size))
    clear hb
    by_cases hlt : k < 128
    · skip
      have c1 := P1.out.at_ k hlt
      have c2 := P2.out.at_ k hlt
      have g1' := G1.out k hlt
      have g2' := G2.out k hlt
      generalize F1 k = u at *
      generalize F2 k = v at *
      have Q1 := Lib.hid fun w => getW g1' (by omega) (by omega) w
      have Q2 := Lib.hid fun w => getW g2' (by omega) (by omega) w
      have D1 := Lib.hid c1
      have D2 := Lib.hid c2
      clear c1 c2 g1' g2'
      go_wp2_with fail
      have y8 : ∀ x : Calm wr, x.w.cell? ⟨g1, k, none⟩ = some (.bool u) := fun x => Calm.cell D1.out P1.out.lt x
      have y9 : ∀ x : Calm wr, x.w.cell? ⟨g2, k, none⟩ = some (.bool v) := fun x => Calm.cell D2.out P2.out.lt x
      cases u <;> cases v
      all_goals
        simp only [Bool.xor_false, Bool.xor_true, Bool.false_xor, Bool.true_xor, Bool.not_false, Bool.not_true, Bool.and_true, Bool.and_false, Bool.true_and, Bool.false_and, Bool.xor_self] at Q1 Q2
        have y0 : ∀ x : Calm wr, x.w.cell? ⟨p3, 0, none⟩ = some (.int .u64 (z1.toNat : Int)) := fun x => Calm.cell A3.out.c0 A3.out.lt x
        have y1 : ∀ x : Calm wr, x.w.cell? ⟨p3, 1, none⟩ = some (.int .u64 (z2.toNat : Int)) := fun x => Calm.cell A3.out.c1 A3.out.lt x
        have y2 : ∀ x : Calm wr, x.w.cell? ⟨p4, 0, none⟩ = some (.int .u64 (m1.toNat : Int)) := fun x => Calm.cell A4.out.c0 A4.out.lt x
        have y3 : ∀ x : Calm wr, x.w.cell? ⟨p4, 1, none⟩ = some (.int .u64 (m2.toNat : Int)) := fun x => Calm.cell A4.out.c1 A4.out.lt x
        refine calm_region (by kernel_rfl) (by kernel_rfl) ?_
        repeat (go_big_quiet_step ((first
          | (go_at_call_of 12 z1; exact calm_call (Q1.out _))
          | (go_at_call_of 12 m1; exact calm_call (Q2.out _)))))
        refine wpQuiet_nil ?_
        intro _ hw'
        obtain ⟨x, rfl⟩ := hw'
        have A1 := Lib.hid (A1.out.step x.below)
        have A2 := Lib.hid (A2.out.step x.below)
        have A3 := Lib.hid (A3.out.step x.below)
        have A4 := Lib.hid (A4.out.step x.below)
        have P1 := Lib.hid (P1.out.step x.below)
        have P2 := Lib.hid (P2.out.step x.below)
        have BB := Lib.hid (BB.out.trans (x.below.mono BB.out.size))
        have KB := Lib.hid (KB.out.trans (x.below.mono KB.out.size))
        clear y0 y1 y2 y3
        generalize x.w = v8 at *
        clear y8 y9
        go_wp2
        go_roundw
        case rel => exact ⟨k + 1, by omega, by go_num, KB.out⟩
        case measure => simp [intOf]; omega
    · skip
      have hk128 : k = 128 := by omega
      subst hk128
      clear hlt KB
      have sd1 := SD.out.1
      have sd2 := SD.out.2.1
      have sd3 := SD.out.2.2
      go_wp2_with fail
      have y0 : ∀ x : Calm wr, x.w.cell? ⟨p1, 0, none⟩ = some (.int .u64 (h1.toNat : Int)) := fun x => Calm.cell A1.out.c0 A1.out.lt x
      have y1 : ∀ x : Calm wr, x.w.cell? ⟨p1, 1, none⟩ = some (.int .u64 (l1.toNat : Int)) := fun x => Calm.cell A1.out.c1 A1.out.lt x
      have y2 : ∀ x : Calm wr, x.w.cell? ⟨p2, 0, none⟩ = some (.int .u64 (h2.toNat : Int)) := fun x => Calm.cell A2.out.c0 A2.out.lt x
      have y3 : ∀ x : Calm wr, x.w.cell? ⟨p2, 1, none⟩ = some (.int .u64 (l2.toNat : Int)) := fun x => Calm.cell A2.out.c1 A2.out.lt x
      have y4 : ∀ x : Calm wr, x.w.cell? ⟨p3, 0, none⟩ = some (.int .u64 (z1.toNat : Int)) := fun x => Calm.cell A3.out.c0 A3.out.lt x
      have y5 : ∀ x : Calm wr, x.w.cell? ⟨p3, 1, none⟩ = some (.int .u64 (z2.toNat : Int)) := fun x => Calm.cell A3.out.c1 A3.out.lt x
      have y6 : ∀ x : Calm wr, x.w.cell? ⟨p4, 0, none⟩ = some (.int .u64 (m1.toNat : Int)) := fun x => Calm.cell A4.out.c0 A4.out.lt x
      have y7 : ∀ x : Calm wr, x.w.cell? ⟨p4, 1, none⟩ = some (.int .u64 (m2.toNat : Int)) := fun x => Calm.cell A4.out.c1 A4.out.lt x
      refine calm_region (by kernel_rfl) (by kernel_rfl) ?_
      repeat (go_big_quiet_step ((first
        | (go_at_call_of 21 z1; exact calm_call (X3.out _))
        | (go_at_call_of 21 h1; exact calm_call (X4.out _))
        | (go_at_call_of 18 z1; exact calm_call (C1.out _))
        | (go_at_call_of 18 h1; exact calm_call (C2.out _))
        | (go_at_call_of 18 h2; exact calm_call (C3.out _))
        | (go_at_call_of 18 m1; exact calm_call (C4.out _))
        | (go_at_call 19; exact calm_call (X5.out _)))))
      refine wpQuiet_nil ?_
      intro _ hw'
      obtain ⟨x, rfl⟩ := hw'
      have A1 := Lib.hid (A1.out.step x.below)
      have A2 := Lib.hid (A2.out.step x.below)
      have A3 := Lib.hid (A3.out.step x.below)
      have A4 := Lib.hid (A4.out.step x.below)
      have P1 := Lib.hid (P1.out.step x.below)
      have P2 := Lib.hid (P2.out.step x.below)
      have BB := Lib.hid (BB.out.trans (x.below.mono BB.out.size))
      clear y0 y1 y2 y3 y4 y5 y6 y7
      generalize x.w = v8 at *
      clear sd1 sd2 sd3
      go_wp2
      go_ret
      exact ⟨rfl, BB.out⟩

theorem rowXors_walk (a0 a1 a2 a3 : Int) (w0 : (Lit.int .u64 a0).wf = true) (w1 : (Lit.int .u64 a1).wf = true) (w2 : (Lit.int .u64 a2).wf = true) (w3 : (Lit.int .u64 a3).wf = true) (w : World) :
    Calls Try.prog 6 #[.int .u64 a0, .int .u64 a1, .int .u64 a2, .int .u64 a3] w fun e w' => e = .returned (.bool true) ∧ Below w.heap.size w w' := by
  obtain ⟨u0, rfl⟩ := word_of a0 (bd_u64 w0).1 (bd_u64 w0).2
  obtain ⟨u1, rfl⟩ := word_of a1 (bd_u64 w1).1 (bd_u64 w1).2
  obtain ⟨u2, rfl⟩ := word_of a2 (bd_u64 w2).1 (bd_u64 w2).2
  obtain ⟨u3, rfl⟩ := word_of a3 (bd_u64 w3).1 (bd_u64 w3).2
  exact rowXors_go u0 u1 u2 u3 w
end Go.Proofs.Ytfajhppnfnapfaa
