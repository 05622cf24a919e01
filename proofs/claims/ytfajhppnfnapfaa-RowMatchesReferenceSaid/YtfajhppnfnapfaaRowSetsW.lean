/- The walk of RowSets. -/
import Derived.Test.YtfajhppnfnapfaaPixW
import Derived.Test.YtfajhppnfnapfaaRowShiftsW
namespace Go.Proofs.Ytfajhppnfnapfaa
open Go.RowKit Num
set_option linter.unusedVariables false
set_option linter.unusedSimpArgs false

theorem set_out (r : BitVec 128) (x : Int) (b : Bool) (h : x < 0 ∨ 128 ≤ x) : setPx r x b = r := px_ext fun j hj => by
  rw [px_setPx _ _ _ _ hj, if_neg (by omega)]
theorem get_out (r : BitVec 128) (x : Int) (h : x < 0 ∨ 128 ≤ x) : pxi r x = false := by
  by_cases h0 : 0 ≤ x
  · rw [pxi, px_big _ _ (by omega), Bool.and_false]
  · exact pxi_neg _ _ (by omega)
theorem set_again (r : BitVec 128) (x : Int) (b : Bool) : setPx (setPx r x b) x b = setPx r x b := px_ext fun j hj => by
  rw [px_setPx _ _ _ _ hj, px_setPx _ _ _ _ hj]
  split <;> rfl
theorem set_get (r : BitVec 128) (x : Nat) (b : Bool) (hx : x < 128) : pxi (setPx r x b) x = b := by
  rw [pxi_nat, px_setPx _ _ _ _ hx, if_pos rfl]

set_option maxRecDepth 100000 in
set_option maxHeartbeats 8000000 in
theorem rowSets_out (h l : BitVec 64) (x : Int) (b : Bool) (w : World) (x0 : -9223372036854775808 ≤ x) (x1 : x ≤ 9223372036854775807) (hx : x < 0 ∨ (0 ≤ x ∧ 127 < x)) :
    Calls Try.prog 4 #[.int .u64 (h.toNat : Int), .int .u64 (l.toNat : Int), .int .i64 x, .bool b] w fun e w' => e = .returned (.bool true) ∧ Below w.heap.size w w' := by
  have es := set_out (h ++ l) x b (by omega)
  have eg := get_out (h ++ l) x (by omega)
  have S := Lib.hid fun w => setW es x0 x1 w
  have G := Lib.hid fun w => getW eg x0 x1 w
  clear es eg
  rcases hx with hx | ⟨hx, hx2⟩
  all_goals
    go_enter Try.func4, Try.ntmps4
    go_wp2_with fail
    have BB := Lib.hid (Below.refl w.heap.size w)
    refine (awake6 _).mono ?_
    rintro e v1 ⟨rfl, b1⟩
    have BB := Lib.hid (BB.out.trans (b1.mono BB.out.size))
    clear b1
    go_wp2_with fail
    have A1 := Lib.hid (Box.new v1 h l 27)
    have BB := Lib.hid (BB.out.alloc BB.out.size (.cells #[.int .u64 (h.toNat : Int), .int .u64 (l.toNat : Int)] 27))
    obtain ⟨p1, hq⟩ : ∃ a, a = v1.heap.size := ⟨_, rfl⟩
    generalize v1.alloc (.cells #[.int .u64 (h.toNat : Int), .int .u64 (l.toNat : Int)] 27) = v2 at *
    rw [← hq] at A1 ⊢
    clear hq
    refine (S.out _).mono ?_
    rintro e v3 ⟨rfl, b1⟩
    have A1 := Lib.hid (A1.out.step b1)
    have BB := Lib.hid (BB.out.trans (b1.mono BB.out.size))
    clear b1
    obtain ⟨A1x1, A1x2, A1x3, A1x4, A1x5⟩ := A1.out
    go_wp2_with fail
    clear A1x1 A1x2 A1x3 A1x4 A1x5
    have A1 := Lib.hid (A1.out.alloc (.cells #[.int .u64 (h.toNat : Int), .int .u64 (l.toNat : Int)] 27))
    have BB := Lib.hid (BB.out.alloc BB.out.size (.cells #[.int .u64 (h.toNat : Int), .int .u64 (l.toNat : Int)] 27))
    refine (G.out _).mono ?_
    rintro e v4 ⟨rfl, b1⟩
    have BB := Lib.hid (BB.out.trans (b1.mono BB.out.size))
    clear b1
    go_wp2
    go_ret
    exact ⟨rfl, BB.out⟩

set_option maxRecDepth 100000 in
set_option maxHeartbeats 8000000 in
theorem rowSets_in (h l s1 s2 : BitVec 64) (x : Nat) (b : Bool) (w : World) (hx : x < 128) (es : setPx (h ++ l) x b = s1 ++ s2) :
    Calls Try.prog 4 #[.int .u64 (h.toNat : Int), .int .u64 (l.toNat : Int), .int .i64 (x : Int), .bool b] w fun e w' => e = .returned (.bool true) ∧ Below w.heap.size w w' := by
  have ea := set_again (h ++ l) x b
  have eg := set_get (h ++ l) x b hx
  rw [es] at ea eg
  have FF : ∀ j, j < 128 → px (s1 ++ s2) j = if j = x then b else px (h ++ l) j := fun j hj => by
    rw [← es, px_setPx _ _ _ _ hj]
    by_cases e : j = x
    · rw [if_pos e, if_pos (by omega)]
    · rw [if_neg e, if_neg (by omega)]
  have S1 := Lib.hid fun w => setW es (by omega) (by omega) w
  have S2 := Lib.hid fun w => setW ea (by omega) (by omega) w
  have G := Lib.hid fun w => getW eg (by omega) (by omega) w
  have O1 := Lib.hid (pixelsW h l)
  have O2 := Lib.hid (pixelsW s1 s2)
  obtain ⟨F1, hF1⟩ : ∃ F, px (h ++ l) = F := ⟨_, rfl⟩
  obtain ⟨F2, hF2⟩ : ∃ F, px (s1 ++ s2) = F := ⟨_, rfl⟩
  rw [hF1] at O1 FF
  rw [hF2] at O2 FF
  have FF := Lib.hid FF
  have hx0 : (x : Int) < 128 := by omega
  clear hF1 hF2 ea eg es
  go_enter Try.func4, Try.ntmps4
  go_wp2_with fail
  have BB := Lib.hid (Below.refl w.heap.size w)
  refine (awake6 _).mono ?_
  rintro e v1 ⟨rfl, b1⟩
  have BB := Lib.hid (BB.out.trans (b1.mono BB.out.size))
  clear b1
  go_wp2_with fail
  have A1 := Lib.hid (Box.new v1 h l 27)
  have BB := Lib.hid (BB.out.alloc BB.out.size (.cells #[.int .u64 (h.toNat : Int), .int .u64 (l.toNat : Int)] 27))
  obtain ⟨p1, hq⟩ : ∃ a, a = v1.heap.size := ⟨_, rfl⟩
  generalize v1.alloc (.cells #[.int .u64 (h.toNat : Int), .int .u64 (l.toNat : Int)] 27) = v2 at *
  rw [← hq] at A1 ⊢
  clear hq
  refine (S1.out _).mono ?_
  rintro e v3 ⟨rfl, b1⟩
  have A1 := Lib.hid (A1.out.step b1)
  have BB := Lib.hid (BB.out.trans (b1.mono BB.out.size))
  clear b1
  obtain ⟨A1x1, A1x2, A1x3, A1x4, A1x5⟩ := A1.out
  go_wp2_with fail
  clear A1x1 A1x2 A1x3 A1x4 A1x5
  have A2 := Lib.hid (Box.new v3 s1 s2 27)
  have A1 := Lib.hid (A1.out.alloc (.cells #[.int .u64 (s1.toNat : Int), .int .u64 (s2.toNat : Int)] 27))
  have BB := Lib.hid (BB.out.alloc BB.out.size (.cells #[.int .u64 (s1.toNat : Int), .int .u64 (s2.toNat : Int)] 27))
  obtain ⟨p2, hq⟩ : ∃ a, a = v3.heap.size := ⟨_, rfl⟩
  generalize v3.alloc (.cells #[.int .u64 (s1.toNat : Int), .int .u64 (s2.toNat : Int)] 27) = v4 at *
  rw [← hq] at A2 ⊢
  clear hq
  refine (O1.out _).mono ?_
  rintro e v5 ⟨g, rfl, hg, P, b1⟩
  have hne : g ≠ p2 := by have := A2.out.lt; omega
  have hg := Lib.hid (Nat.le_trans BB.out.size hg)
  have P := Lib.hid P
  have A1 := Lib.hid (A1.out.step b1)
  have A2 := Lib.hid (A2.out.step b1)
  have BB := Lib.hid (BB.out.trans (b1.mono BB.out.size))
  clear b1
  have c1 := P.out.at_ x hx
  have c2 := P.out.fz x hx
  go_wp2_with fail
  clear c1 c2
  have A2 := Lib.hid (A2.out.other hne x (.bool b))
  have P := Lib.hid (P.out.set hx b)
  have BB := Lib.hid (BB.out.setCell (p := ⟨g, x, none⟩) hg.out (.bool b))
  generalize v5.setCell ⟨g, x, none⟩ (.bool b) = wa at *
  have y0 : ∀ x : Calm wa, x.w.cell? ⟨p2, 0, none⟩ = some (.int .u64 (s1.toNat : Int)) := fun x => Calm.cell A2.out.c0 A2.out.lt x
  have y1 : ∀ x : Calm wa, x.w.cell? ⟨p2, 1, none⟩ = some (.int .u64 (s2.toNat : Int)) := fun x => Calm.cell A2.out.c1 A2.out.lt x
  refine wp_region_mix (C := fun w' => ∃ x : Calm wa, w' = x.w) [([0, 2], 1), ([], 3), ([4, 5, 6, 7, 9], 8), ([10, 11, 12, 13, 14, 16], 15)] [17, 18, 19] (by kernel_rfl) (by kernel_rfl) (fun _ _ d _ _ h => by cases d <;> exact h) ⟨⟨wa.drew, (Below.refl _ _).drew⟩, rfl⟩ ?_
  intro wd hwd
  have D := Lib.hid (show Below wa.heap.size wa wd by rw [hwd]; exact (Below.refl _ _).drew)
  clear hwd
  refine mix_run (by simp only [opsAt, List.getElem?_toArray, List.getElem?_cons_succ, List.getElem?_cons_zero]; rfl) (by rfl) ?_
  repeat (go_big_quiet_step (fail))
  refine wpQuiet_nil ?_
  refine mix_call (by rfl) ?_
  intro K hK
  go_wp2_with fail
  refine (O2.out _).mono ?_
  rintro e wb ⟨g2, rfl, hg2, P2, b1⟩
  have P2 := Lib.hid P2
  have P := Lib.hid (P.out.below (D.out.trans (b1.mono D.out.size)) P.out.lt)
  clear hg2
  have D := Lib.hid (D.out.trans (b1.mono D.out.size))
  clear b1
  simp only []
  refine hK _ _ ⟨⟨wb, D.out⟩, rfl⟩ ?_
  clear hK K
  refine mix_run (by simp only [opsAt, List.getElem?_toArray, List.getElem?_cons_succ, List.getElem?_cons_zero]; rfl) (by rfl) ?_
  repeat (go_big_quiet_step (fail))
  refine wpQuiet_nil ?_
  refine mix_call (by rfl) ?_
  intro K hK
  go_wp2_with fail
  refine (rsame_any g2 g _ _ _ P2.out P.out fun j hj => (FF.out j hj)).mono ?_
  rintro e wc ⟨rfl, b1⟩
  have D := Lib.hid (D.out.trans (b1.mono D.out.size))
  clear b1
  simp only []
  refine hK _ _ ⟨⟨wc, D.out⟩, rfl⟩ ?_
  clear hK K
  refine mix_run (by simp only [opsAt, List.getElem?_toArray, List.getElem?_cons_succ, List.getElem?_cons_zero]; rfl) (by rfl) ?_
  repeat (go_big_quiet_step (fail))
  refine wpQuiet_nil ?_
  refine mix_call (by rfl) ?_
  intro K hK
  go_wp2_with fail
  refine (S2.out _).mono ?_
  rintro e we ⟨rfl, b1⟩
  have D := Lib.hid (D.out.trans (b1.mono D.out.size))
  clear b1
  simp only []
  refine hK _ _ ⟨⟨we, D.out⟩, rfl⟩ ?_
  clear hK K
  refine mix_run (by simp only [opsAt, List.getElem?_toArray, List.getElem?_cons_succ, List.getElem?_cons_zero]; rfl) (by rfl) ?_
  repeat (go_big_quiet_step (fail))
  refine wpQuiet_nil ?_
  refine mix_call (by rfl) ?_
  intro K hK
  go_wp2_with fail
  refine (G.out _).mono ?_
  rintro e wf ⟨rfl, b1⟩
  have D := Lib.hid (D.out.trans (b1.mono D.out.size))
  clear b1
  simp only []
  refine hK _ _ ⟨⟨wf, D.out⟩, rfl⟩ ?_
  clear hK K
  refine mix_last (by simp only [opsAt, List.getElem?_toArray, List.getElem?_cons_succ, List.getElem?_cons_zero]; rfl) ?_
  repeat (go_big_quiet_step (fail))
  refine wpQuiet_nil ?_
  have BB := Lib.hid (BB.out.trans (D.out.mono BB.out.size))
  clear y0 y1
  go_wp2
  go_ret
  exact ⟨by simp, BB.out⟩

theorem rowSets_walk (a0 a1 a2 : Int) (a3 : Bool) (w0 : (Lit.int .u64 a0).wf = true) (w1 : (Lit.int .u64 a1).wf = true) (w2 : (Lit.int .i64 a2).wf = true) (w : World) :
    Calls Try.prog 4 #[.int .u64 a0, .int .u64 a1, .int .i64 a2, .bool a3] w fun e w' => e = .returned (.bool true) ∧ Below w.heap.size w w' := by
  obtain ⟨u0, rfl⟩ := word_of a0 (bd_u64 w0).1 (bd_u64 w0).2
  obtain ⟨u1, rfl⟩ := word_of a1 (bd_u64 w1).1 (bd_u64 w1).2
  obtain ⟨p2, p3⟩ := bd_i64 w2
  by_cases hx : 0 ≤ a2 ∧ a2 < 128
  · obtain ⟨x, rfl⟩ := Int.eq_ofNat_of_zero_le hx.1
    obtain ⟨s1, s2, es⟩ := words (setPx (u0 ++ u1) x a3)
    exact rowSets_in u0 u1 s1 s2 x a3 w (by omega) es
  · exact rowSets_out u0 u1 a2 a3 w p2 p3 (by omega)
end Go.Proofs.Ytfajhppnfnapfaa
