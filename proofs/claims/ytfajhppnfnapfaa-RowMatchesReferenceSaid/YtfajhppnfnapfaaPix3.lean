/- Contract of row.Set. -/
import Derived.Test.YtfajhppnfnapfaaPix2
import Derived.Deep.RegionWith
namespace Go.Proofs.Ytfajhppnfnapfaa
open Go.RowKit Num
set_option linter.unusedVariables false
set_option linter.unusedSimpArgs false

theorem xor_words {h l h' l' v1 v2 : BitVec 64} (e1 : h ^^^ h' = v1) (e2 : l ^^^ l' = v2) (w : World) : Calls Try.prog 21 #[.agg #[.int .u64 (h.toNat : Int), .int .u64 (l.toNat : Int)], .agg #[.int .u64 (h'.toNat : Int), .int .u64 (l'.toNat : Int)]] w fun e w' =>
    e = .returned (.agg #[.int .u64 (v1.toNat : Int), .int .u64 (v2.toNat : Int)]) ∧ Below w.heap.size w w' := by
  rw [← e1, ← e2, ← rv_append, ← rv_append, ← rv_append, ← app_xor]
  exact xor_any _ _ w
theorem find_words {h l h' l' v1 v2 : BitVec 64} (e1 : h &&& h' = v1) (e2 : l &&& l' = v2) (g : Nat) (w : World) (X : Box g h' l' w) :
    Calls Try.prog 28 #[.agg #[.int .u64 (h.toNat : Int), .int .u64 (l.toNat : Int)], .pointer (some ⟨g, 0, none⟩)] w fun e w' => e = .returned (.agg #[.int .u64 (v1.toNat : Int), .int .u64 (v2.toNat : Int)]) ∧ Below w.heap.size w w' := by
  subst e1
  subst e2
  exact find_any h l h' l' g w X

set_option maxRecDepth 100000 in
set_option maxHeartbeats 4000000 in
theorem set_any (r : BitVec 128) (x : Int) (b : Bool) (w : World) (x0 : -9223372036854775808 ≤ x) (x1 : x ≤ 9223372036854775807) :
    Calls Try.prog 20 #[rv r, .int .i64 x, .bool b] w fun e w' => e = .returned (rv (setPx r x b)) ∧ Below w.heap.size w w' := by
  obtain ⟨h, l, rfl⟩ := words r
  obtain ⟨h', l', e⟩ := words (pixel x)
  obtain ⟨f1, f2, ef⟩ := words (firsts 128)
  obtain ⟨v1, hv1⟩ : ∃ v, h &&& h' = v := ⟨_, rfl⟩
  obtain ⟨v2, hv2⟩ : ∃ v, l &&& l' = v := ⟨_, rfl⟩
  obtain ⟨u1, hu1⟩ : ∃ v, f1 &&& h' = v := ⟨_, rfl⟩
  obtain ⟨u2, hu2⟩ : ∃ v, f2 &&& l' = v := ⟨_, rfl⟩
  obtain ⟨s1, hs1⟩ : ∃ v, h ^^^ v1 = v := ⟨_, rfl⟩
  obtain ⟨s2, hs2⟩ : ∃ v, l ^^^ v2 = v := ⟨_, rfl⟩
  obtain ⟨q1, hq1⟩ : ∃ v, s1 ^^^ u1 = v := ⟨_, rfl⟩
  obtain ⟨q2, hq2⟩ : ∃ v, s2 ^^^ u2 = v := ⟨_, rfl⟩
  have hr : setPx (h ++ l) x b = if b then q1 ++ q2 else s1 ++ s2 := by
    unfold setPx
    rw [e, ef, app_and, app_and, app_xor, app_xor, hv1, hv2, hu1, hu2, hs1, hs2, hq1, hq2]
  have O1 := Lib.hid fun w => finder_any x h' l' e w x0 x1
  have O2 := Lib.hid (find_words hv1 hv2)
  have O3 := Lib.hid (xor_words hs1 hs2)
  have O4 := Lib.hid (firsts_words ef (by decide) (by decide))
  have O5 := Lib.hid (find_words hu1 hu2)
  have O6 := Lib.hid (xor_words hq1 hq2)
  rw [hr, rv_append]
  clear hr e ef hv1 hv2 hu1 hu2 hs1 hs2 hq1 hq2
  go_enter Try.func20, Try.ntmps20
  go_wp2_with fail
  refine (O1.out _).mono ?_
  rintro e w1 ⟨g, rfl, G, hg, b1⟩
  have X := ((Box.new w h l 27).alloc (.cells #[.int .u64 0, .int .u64 0] 27)).step b1
  have Y : Box (w.heap.size + 1) 0 0 w1 := by
    have := Box.new (w.alloc (.cells #[.int .u64 (h.toNat : Int), .int .u64 (l.toNat : Int)] 27)) 0 0 27
    rw [World.size_alloc] at this
    exact this.step b1
  have hg2 : w.heap.size + 2 ≤ g := by simpa using hg
  have BB := Lib.hid ((((Below.refl _ w).alloc (Nat.le_refl _) (.cells #[.int .u64 (h.toNat : Int), .int .u64 (l.toNat : Int)] 27)).alloc (by simp) (.cells #[.int .u64 0, .int .u64 0] 27)).trans (b1.mono (by simp; omega)))
  have XX := Lib.hid X
  have YY := Lib.hid Y
  have GG := Lib.hid G
  clear X Y G b1 hg O1
  go_wp2_with fail
  obtain ⟨x1, x2, x3, x4, x5⟩ := XX.out
  have XX := Lib.hid XX.out.drew
  have YY := Lib.hid YY.out.drew
  have GG := Lib.hid GG.out.drew
  have BB := Lib.hid BB.out.drew
  go_region_with ((first
    | (go_at_call 28; refine (O2.out _ _ GG.out).mono ?_; rintro e w3 ⟨rfl, b3⟩; clear x1 x2 x3 x4 x5; have XX := Lib.hid (XX.out.step b3); have YY := Lib.hid (YY.out.step b3); have GG := Lib.hid (GG.out.step b3); have BB := Lib.hid (BB.out.trans (b3.mono BB.out.size)); clear b3; obtain ⟨x1, x2, x3, x4, x5⟩ := XX.out)
    | (go_at_call 21; refine (O3.out _).mono ?_; rintro e w3 ⟨rfl, b3⟩; clear x1 x2 x3 x4 x5; have XX := Lib.hid (XX.out.step b3); have YY := Lib.hid (YY.out.step b3); have GG := Lib.hid (GG.out.step b3); have BB := Lib.hid (BB.out.trans (b3.mono BB.out.size)); clear b3; obtain ⟨x1, x2, x3, x4, x5⟩ := XX.out)))
  all_goals
    clear x1 x2 x3 x4 x5
    obtain ⟨x1, x2, x3, x4, x5⟩ := XX.out
    have XX := Lib.hid (XX.out.set s1 s2)
    have YY := Lib.hid ((YY.out.other (g := w.heap.size) (by omega) 0 (.int .u64 (s1.toNat : Int))).other (g := w.heap.size) (by omega) 1 (.int .u64 (s2.toNat : Int)))
    have GG := Lib.hid ((GG.out.other (g := w.heap.size) (by omega) 0 (.int .u64 (s1.toNat : Int))).other (g := w.heap.size) (by omega) 1 (.int .u64 (s2.toNat : Int)))
    have BB := Lib.hid ((BB.out.setCell (p := ⟨w.heap.size, 0, none⟩) (Nat.le_refl _) (.int .u64 (s1.toNat : Int))).setCell (p := ⟨w.heap.size, 1, none⟩) (Nat.le_refl _) (.int .u64 (s2.toNat : Int)))
    generalize (w3.setCell ⟨w.heap.size, 0, none⟩ (.int .u64 (s1.toNat : Int))).setCell ⟨w.heap.size, 1, none⟩ (.int .u64 (s2.toNat : Int)) = w4 at *
    clear x1 x2 x3 x4 x5
    obtain ⟨x1, x2, x3, x4, x5⟩ := XX.out
    cases b
    · obtain ⟨y1, y2, y3, y4, y5⟩ := YY.out
      go_wp2
      have ZZ := Lib.hid (YY.out.set s1 s2)
      have BB := Lib.hid ((BB.out.setCell (p := ⟨w.heap.size + 1, 0, none⟩) (by simp) (.int .u64 (s1.toNat : Int))).setCell (p := ⟨w.heap.size + 1, 1, none⟩) (by simp) (.int .u64 (s2.toNat : Int)))
      generalize (w4.setCell ⟨w.heap.size + 1, 0, none⟩ (.int .u64 (s1.toNat : Int))).setCell ⟨w.heap.size + 1, 1, none⟩ (.int .u64 (s2.toNat : Int)) = w5 at *
      clear x1 x2 x3 x4 x5 y1 y2 y3 y4 y5
      obtain ⟨x1, x2, x3, x4, x5⟩ := ZZ.out
      exact bodyPost_ret (v := .agg #[.int .u64 (s1.toNat : Int), .int .u64 (s2.toNat : Int)]) (by simp [results, Try.results20, go_sem, x2, x3]) rfl ⟨by rw [rv_append], BB.out⟩
    · go_wp2_with fail
      have XX := Lib.hid XX.out.drew
      have YY := Lib.hid YY.out.drew
      have GG := Lib.hid GG.out.drew
      have BB := Lib.hid BB.out.drew
      go_region_with ((first
        | (go_at_call 26; refine (O4.out _).mono ?_; rintro e w5 ⟨rfl, b3⟩; clear x1 x2 x3 x4 x5; have XX := Lib.hid (XX.out.step b3); have YY := Lib.hid (YY.out.step b3); have GG := Lib.hid (GG.out.step b3); have BB := Lib.hid (BB.out.trans (b3.mono BB.out.size)); clear b3; obtain ⟨x1, x2, x3, x4, x5⟩ := XX.out)
        | (go_at_call 28; refine (O5.out _ _ GG.out).mono ?_; rintro e w5 ⟨rfl, b3⟩; clear x1 x2 x3 x4 x5; have XX := Lib.hid (XX.out.step b3); have YY := Lib.hid (YY.out.step b3); have GG := Lib.hid (GG.out.step b3); have BB := Lib.hid (BB.out.trans (b3.mono BB.out.size)); clear b3; obtain ⟨x1, x2, x3, x4, x5⟩ := XX.out)
        | (go_at_call 21; refine (O6.out _).mono ?_; rintro e w5 ⟨rfl, b3⟩; clear x1 x2 x3 x4 x5; have XX := Lib.hid (XX.out.step b3); have YY := Lib.hid (YY.out.step b3); have GG := Lib.hid (GG.out.step b3); have BB := Lib.hid (BB.out.trans (b3.mono BB.out.size)); clear b3; obtain ⟨x1, x2, x3, x4, x5⟩ := XX.out)))
      all_goals
        clear x1 x2 x3 x4 x5
        obtain ⟨x1, x2, x3, x4, x5⟩ := XX.out
        have XX := Lib.hid (XX.out.set q1 q2)
        have YY := Lib.hid ((YY.out.other (g := w.heap.size) (by omega) 0 (.int .u64 (q1.toNat : Int))).other (g := w.heap.size) (by omega) 1 (.int .u64 (q2.toNat : Int)))
        have BB := Lib.hid ((BB.out.setCell (p := ⟨w.heap.size, 0, none⟩) (Nat.le_refl _) (.int .u64 (q1.toNat : Int))).setCell (p := ⟨w.heap.size, 1, none⟩) (Nat.le_refl _) (.int .u64 (q2.toNat : Int)))
        generalize (w5.setCell ⟨w.heap.size, 0, none⟩ (.int .u64 (q1.toNat : Int))).setCell ⟨w.heap.size, 1, none⟩ (.int .u64 (q2.toNat : Int)) = w6 at *
        clear x1 x2 x3 x4 x5
        obtain ⟨x1, x2, x3, x4, x5⟩ := XX.out
        obtain ⟨y1, y2, y3, y4, y5⟩ := YY.out
        go_wp2
        have ZZ := Lib.hid (YY.out.set q1 q2)
        have BB := Lib.hid ((BB.out.setCell (p := ⟨w.heap.size + 1, 0, none⟩) (by simp) (.int .u64 (q1.toNat : Int))).setCell (p := ⟨w.heap.size + 1, 1, none⟩) (by simp) (.int .u64 (q2.toNat : Int)))
        generalize (w6.setCell ⟨w.heap.size + 1, 0, none⟩ (.int .u64 (q1.toNat : Int))).setCell ⟨w.heap.size + 1, 1, none⟩ (.int .u64 (q2.toNat : Int)) = w7 at *
        clear x1 x2 x3 x4 x5 y1 y2 y3 y4 y5
        obtain ⟨x1, x2, x3, x4, x5⟩ := ZZ.out
        exact bodyPost_ret (v := .agg #[.int .u64 (q1.toNat : Int), .int .u64 (q2.toNat : Int)]) (by simp [results, Try.results20, go_sem, x2, x3]) rfl ⟨by rw [rv_append], BB.out⟩
end Go.Proofs.Ytfajhppnfnapfaa
