/- Contract of screen.Draw. -/
import Derived.Test.YtplmmfgmbfcjpaaScrDraw1
namespace Go.Proofs.Ytplmmfgmbfcjpaa
open Go.RowKit Go.Shelf Num
set_option linter.unusedVariables false
set_option linter.unusedSimpArgs false

theorem six_new (S : Sc) (x y : Nat) (clip : Bool) (A : Option Addr) (t c : Nat) (w : World) : ∃ w1, w1 = ((((((w.alloc (.cells (scells S) 32)).alloc (.cells #[.int .i64 (x : Int)] 3)).alloc (.cells #[.int .i64 (y : Int)] 3)).alloc (.cells #[.bool clip] 4)).alloc (.cells #[.slice A t c] 39)).alloc (.cells (scells (blankS false 0)) 32)) ∧ SB w.heap.size S w1 ∧ Boxed w1 (w.heap.size + 1) 3 (.int .i64 (x : Int)) ∧ Boxed w1 (w.heap.size + 2) 3 (.int .i64 (y : Int)) ∧ Boxed w1 (w.heap.size + 3) 4 (.bool clip) ∧ Boxed w1 (w.heap.size + 4) 39 (.slice A t c) ∧ SB (w.heap.size + 5) (blankS false 0) w1 ∧ Below w.heap.size w w1 ∧ w1.heap.size = w.heap.size + 6 := by
  refine ⟨_, rfl, ?_, ?_, ?_, ?_, ?_, ?_, ?_, by simp⟩
  · exact (((((SB.new w S).alloc _).alloc _).alloc _).alloc _).alloc _
  · have h := (((((Boxed.new (w.alloc (.cells (scells S) 32)) 3 (.int .i64 (x : Int))).alloc (.cells #[.int .i64 (y : Int)] 3)).alloc (.cells #[.bool clip] 4)).alloc (.cells #[.slice A t c] 39)).alloc (.cells (scells (blankS false 0)) 32))
    simpa using h
  · have h := ((((Boxed.new ((w.alloc (.cells (scells S) 32)).alloc (.cells #[.int .i64 (x : Int)] 3)) 3 (.int .i64 (y : Int))).alloc (.cells #[.bool clip] 4)).alloc (.cells #[.slice A t c] 39)).alloc (.cells (scells (blankS false 0)) 32))
    simpa using h
  · have h := (((Boxed.new (((w.alloc (.cells (scells S) 32)).alloc (.cells #[.int .i64 (x : Int)] 3)).alloc (.cells #[.int .i64 (y : Int)] 3)) 4 (.bool clip)).alloc (.cells #[.slice A t c] 39)).alloc (.cells (scells (blankS false 0)) 32))
    simpa using h
  · have h := ((Boxed.new ((((w.alloc (.cells (scells S) 32)).alloc (.cells #[.int .i64 (x : Int)] 3)).alloc (.cells #[.int .i64 (y : Int)] 3)).alloc (.cells #[.bool clip] 4)) 39 (.slice A t c)).alloc (.cells (scells (blankS false 0)) 32))
    simpa using h
  · have h := SB.new (((((w.alloc (.cells (scells S) 32)).alloc (.cells #[.int .i64 (x : Int)] 3)).alloc (.cells #[.int .i64 (y : Int)] 3)).alloc (.cells #[.bool clip] 4)).alloc (.cells #[.slice A t c] 39)) (blankS false 0)
    simpa using h
  · exact ((((((Below.refl _ w).alloc (Nat.le_refl _) _).alloc (by simp) _).alloc (by simp; omega) _).alloc (by simp; omega) _).alloc (by simp; omega) _).alloc (by simp; omega) _
theorem five_new (r z m h k : Nat) (w1 : World) (hk : w1.heap.size = k) : ∃ w2, w2 = (((((w1.alloc (.cells #[.int .i64 (r : Int)] 3)).alloc (.cells #[.int .i64 (z : Int)] 3)).alloc (.cells #[.int .i64 (m : Int)] 3)).alloc (.cells #[.int .i64 (h : Int)] 3)).alloc (.cells #[.bool false] 4)) ∧ Boxed w2 k 3 (.int .i64 (r : Int)) ∧ Boxed w2 (k + 1) 3 (.int .i64 (z : Int)) ∧ Boxed w2 (k + 2) 3 (.int .i64 (m : Int)) ∧ Boxed w2 (k + 3) 3 (.int .i64 (h : Int)) ∧ Boxed w2 (k + 4) 4 (.bool false) ∧ Below w1.heap.size w1 w2 ∧ w2.heap.size = k + 5 := by
  subst hk
  refine ⟨_, rfl, ?_, ?_, ?_, ?_, ?_, ?_, by simp⟩
  · have h := (((((Boxed.new w1 3 (.int .i64 (r : Int))).alloc (.cells #[.int .i64 (z : Int)] 3)).alloc (.cells #[.int .i64 (m : Int)] 3)).alloc (.cells #[.int .i64 (h : Int)] 3)).alloc (.cells #[.bool false] 4))
    simpa using h
  · have h := ((((Boxed.new (w1.alloc (.cells #[.int .i64 (r : Int)] 3)) 3 (.int .i64 (z : Int))).alloc (.cells #[.int .i64 (m : Int)] 3)).alloc (.cells #[.int .i64 (h : Int)] 3)).alloc (.cells #[.bool false] 4))
    simpa using h
  · have h := (((Boxed.new ((w1.alloc (.cells #[.int .i64 (r : Int)] 3)).alloc (.cells #[.int .i64 (z : Int)] 3)) 3 (.int .i64 (m : Int))).alloc (.cells #[.int .i64 (h : Int)] 3)).alloc (.cells #[.bool false] 4))
    simpa using h
  · have h := ((Boxed.new (((w1.alloc (.cells #[.int .i64 (r : Int)] 3)).alloc (.cells #[.int .i64 (z : Int)] 3)).alloc (.cells #[.int .i64 (m : Int)] 3)) 3 (.int .i64 (h : Int))).alloc (.cells #[.bool false] 4))
    simpa using h
  · have h := (Boxed.new ((((w1.alloc (.cells #[.int .i64 (r : Int)] 3)).alloc (.cells #[.int .i64 (z : Int)] 3)).alloc (.cells #[.int .i64 (m : Int)] 3)).alloc (.cells #[.int .i64 (h : Int)] 3)) 4 (.bool false))
    simpa using h
  · exact (((((Below.refl _ w1).alloc (Nat.le_refl _) _).alloc (by simp) _).alloc (by simp; omega) _).alloc (by simp; omega) _).alloc (by simp; omega) _
/-- Worlds in which two variables hold what they hold. -/
structure DrW (b1 b2 : Nat) (Z : Sc) (cv : Bool) where
  w : World
  s : SB b1 Z w
  c : Boxed w b2 4 (.bool cv)
theorem boxBelow {w w' : World} {b n : Nat} {t : TypeId} {v : Value} (h : Boxed w b t v) (hb : Below n w w') (hn : b < n) : Boxed w' b t v := (hb.block b hn).trans h
theorem DrG.below {D : DrD} {s0 n : Nat} {ps : List Pl} {w w' : World} (G : DrG D s0 ps w) (hb : Below n w w') (hs : s0 + 10 < n) (hg : 0 < D.N * (D.r * D.z) → D.g < n) : DrG D s0 ps w' := by
  obtain ⟨A, c, d1, d2, d3, d4⟩ := G.data
  have b := G.b
  refine ⟨⟨boxBelow b.rows hb (by omega), boxBelow b.size hb (by omega), boxBelow b.x hb (by omega), boxBelow b.y hb (by omega), boxBelow b.wd hb (by omega), boxBelow b.ht hb (by omega), boxBelow b.clip hb (by omega), b.s.below hb (by omega)⟩, ⟨A, c, boxBelow d1 hb (by omega), d2, d3, fun hn => ?_⟩, boxBelow G.coll hb (by omega)⟩
  obtain ⟨h1, h2, h3⟩ := d4 hn
  have hp : 0 < D.N * (D.r * D.z) := Nat.lt_of_lt_of_le hn (Nat.mul_le_mul_right _ (Nat.sub_le _ _))
  have hgn := hg hp
  exact ⟨h1, Nat.lt_of_lt_of_le h2 hb.size, fun j hj => (hb.cell (p := ⟨D.g, _, none⟩) hgn).trans (h3 j hj)⟩
set_option maxRecDepth 100000 in
set_option maxHeartbeats 8000000 in
theorem draw8_any (D : DrD) (ok : DrOk D) (M n : Nat) (big : Bool) (hM : D.S.M = (M : Int)) (M1 : M ≤ 10000) (hN : D.N = (selTo M 4).length) (hr : (if big then 16 else n) = D.r) (hzz : (if big then 2 else 1) = D.z) (A : Option Addr) (t c : Nat) (ht : D.N * (D.r * D.z) = t) (hc : t ≤ c) (c1 : c ≤ 1000) (w : World) (hD : DatA D.g D.o D.F t A w) :
    Calls Try.prog 20 #[.agg (scells D.S), .int .i64 (D.x : Int), .int .i64 (D.y : Int), .int .i64 (n : Int), .bool big, .bool D.clip, .slice A t c] w fun e w' =>
      e = .returned (.tuple #[.agg (scells (onPl (fun i p => drawn p (D.sp (selTo M i).length)) M D.S)), .bool (D.coll 0 ((selTo M 4).map fun i => D.S.P i.val))]) ∧ Below w.heap.size w w' := by
  have hz := zeroScreen
  obtain ⟨Z, hZ⟩ : ∃ Z, onPl (fun i p => drawn p (D.sp (selTo M i).length)) M D.S = Z := ⟨_, rfl⟩
  obtain ⟨cv, hcv⟩ : ∃ cv, D.coll 0 ((selTo M 4).map fun i => D.S.P i.val) = cv := ⟨_, rfl⟩
  rw [hZ, hcv]
  have RC := Lib.hid ((runS_cells (fun k p => drawn p (D.sp k)) D.S M).trans (by rw [hZ]))
  have PC := Lib.hid (show D.coll 0 (passed (fun k p => drawn p (D.sp k)) 0 D.S (selTo M 4)) = cv by rw [passed_sel _ _ _ _ (by omega), hcv])
  have CH := Lib.hid fun (s0 : Nat) (w : World) (l1 : s0 + 10 < w.heap.size) (lg : 0 < D.N * (D.r * D.z) → D.g < w.heap.size) (H : DrG D s0 [] w) => change_any M (g := 38) (caps := #[.pointer (some ⟨s0 + 6, 0, none⟩), .pointer (some ⟨s0 + 7, 0, none⟩), .pointer (some ⟨s0 + 4, 0, none⟩), .pointer (some ⟨s0 + 1, 0, none⟩), .pointer (some ⟨s0 + 8, 0, none⟩), .pointer (some ⟨s0 + 2, 0, none⟩), .pointer (some ⟨s0 + 9, 0, none⟩), .pointer (some ⟨s0, 0, none⟩), .pointer (some ⟨s0 + 3, 0, none⟩), .pointer (some ⟨s0 + 10, 0, none⟩)]) (enters_of Try.func38 (by kernel_rfl) rfl) (fun k p => drawn p (D.sp k)) (DrT s0) (fun ps W => DrG D s0 ps W ∧ ∀ j, j < w.heap.size → j < W.heap.size) w (fun k h => by rcases h with h | h <;> omega)
    (fun _ W W' G b => ⟨G.1.below b l1 lg, fun j hj => Nat.lt_of_lt_of_le (G.2 j hj) b.size⟩)
    (fun ps p W hn G _ => (draw1_any D ok s0 ps (by rw [hN]; exact hn) p W G.1).mono fun e W' h => ⟨h.1, ⟨h.2.1, fun j hj => Nat.lt_of_lt_of_le (G.2 j hj) h.2.2.size⟩, h.2.2⟩) D.S hM M1 ⟨H, fun j hj => hj⟩
  clear hZ hcv
  obtain ⟨w1, hw1, S0, X0, Y0, C0, D0, R0, B0, Z0⟩ := six_new D.S D.x D.y D.clip A t c w
  have L1 := Lib.hid (And.intro S0 (And.intro X0 (And.intro Y0 (And.intro C0 (And.intro D0 (And.intro R0 (And.intro B0 Z0)))))))
  have HW := Lib.hid hw1
  obtain ⟨r, hrr⟩ : ∃ r, D.r = r := ⟨_, rfl⟩
  obtain ⟨z, hz2⟩ : ∃ z, D.z = z := ⟨_, rfl⟩
  obtain ⟨x, hx⟩ : ∃ x, D.x = x := ⟨_, rfl⟩
  obtain ⟨y, hy⟩ : ∃ y, D.y = y := ⟨_, rfl⟩
  obtain ⟨m, hm⟩ : ∃ m, D.m = m := ⟨_, rfl⟩
  obtain ⟨h, hh⟩ : ∃ h, D.h = h := ⟨_, rfl⟩
  obtain ⟨hi, hhi⟩ : ∃ hi, D.S.hi = hi := ⟨_, rfl⟩
  obtain ⟨cl, hcl⟩ : ∃ cl, D.clip = cl := ⟨_, rfl⟩
  have VV := Lib.hid (And.intro hrr (And.intro hz2 (And.intro hx (And.intro hy (And.intro hm (And.intro hh (And.intro hhi hcl)))))))
  have SH := Lib.hid fun w => shape_any n big w
  rw [hr, hzz, hrr, hz2] at SH
  have res := ok.res
  rw [hm, hh, hhi] at res
  have SZ := Lib.hid fun w => size_any res w
  have TT := Lib.hid (And.intro hN (And.intro ht (And.intro hc (And.intro c1 hD))))
  rw [hx, hy, hcl]
  rw [hx, hy, hcl] at hw1
  clear hrr hz2 hx hy hm hh hcl hr hzz res S0 X0 Y0 C0 D0 R0 B0 Z0 hN ht hc c1 hD hM ok
  go_enter Try.func20, Try.ntmps20
  go_wp2_with fail
  rw [← hw1]
  clear hz hw1
  simp only [Nat.add_assoc, Nat.reduceAdd]
  refine (SH.out _).mono ?_
  rintro e w' ⟨rfl, rfl⟩
  have k512 := L1.out.1.hires
  rw [hhi] at k512
  have l0 := L1.out.1.lt
  have Z0 := L1.out.2.2.2.2.2.2.2
  go_wp2_with fail
  simp only [Nat.add_assoc, Nat.reduceAdd]
  refine (SZ.out _).mono ?_
  rintro e w' ⟨rfl, rfl⟩
  go_upto_region 4 with fail
  simp only [Nat.add_assoc, Nat.reduceAdd]
  obtain ⟨w2, hw2, r2, z2, m2, h2, f2, b2, n2⟩ := five_new r z m h (w.heap.size + 6) w1 Z0
  rw [← hw2]
  clear hw2 k512 l0
  have G2 := Lib.hid (show DrG D w.heap.size [] w2 from by
    obtain ⟨l1, l2, l3, l4, l5, l6, l7, l8⟩ := L1.out
    obtain ⟨v1, v2, v3, v4, v5, v6, v7, v8⟩ := VV.out
    obtain ⟨t1, t2, t3, t4, t5⟩ := TT.out
    refine ⟨⟨by rw [v1]; exact r2, by rw [v2]; exact z2, boxStep l2 b2, boxStep l3 b2, by rw [v5]; exact m2, by rw [v6]; exact h2, boxStep l4 b2, l1.step b2⟩, ⟨A, c, ?_, ?_, t4, ?_⟩, f2⟩
    · simp only [List.length_nil, Nat.sub_zero]
      rw [t2]
      exact boxStep l5 b2
    · simp only [List.length_nil, Nat.sub_zero]
      omega
    · simp only [List.length_nil, Nat.sub_zero, Nat.zero_mul, Nat.zero_add, Nat.add_zero]
      rw [t2]
      exact (t5.step l7).step b2)
  have S2 := Lib.hid (L1.out.1.step b2)
  have R2 := Lib.hid (L1.out.2.2.2.2.2.1.step b2)
  have B2 := Lib.hid (L1.out.2.2.2.2.2.2.1.trans (b2.mono L1.out.2.2.2.2.2.2.1.size))
  have lg := Lib.hid (show 0 < D.N * (D.r * D.z) → D.g < w2.heap.size from fun h0 => by
    have := (TT.out.2.2.2.2 (by rw [← TT.out.2.1]; exact h0)).2.1
    omega)
  clear r2 z2 m2 h2 f2 b2
  refine wp_region_lit ?_
  refine list_load_all aggScr S2.out (scells_size _) rfl (.tmp 7) rfl (by simp [Act.eval]) ?_
  simp only [Act.put, List.setIfInBounds_toArray, List.set_cons_zero, List.set_cons_succ]
  iterate 3 go_step
  refine wpList_plain rfl fun K hK => ?_
  refine wp_call_fn (g := 37) (caps := #[]) (args := #[.agg (scells D.S), .func (.func 38) #[] #[.pointer (some ⟨w.heap.size + 6, 0, none⟩), .pointer (some ⟨w.heap.size + 7, 0, none⟩), .pointer (some ⟨w.heap.size + 4, 0, none⟩), .pointer (some ⟨w.heap.size + 1, 0, none⟩), .pointer (some ⟨w.heap.size + 8, 0, none⟩), .pointer (some ⟨w.heap.size + 2, 0, none⟩), .pointer (some ⟨w.heap.size + 9, 0, none⟩), .pointer (some ⟨w.heap.size, 0, none⟩), .pointer (some ⟨w.heap.size + 3, 0, none⟩), .pointer (some ⟨w.heap.size + 10, 0, none⟩)]]) (.func 37) #[.tmp 34, .tmp 35] #[32, 82] rfl (enters_of Try.func37 (by kernel_rfl) rfl) rfl (by simp [Act.eval]) ?_
  refine (CH.out w.heap.size w2 (by rw [n2]; omega) lg.out G2.out).mono ?_
  rintro e w3 ⟨rfl, ⟨g3, -⟩, b3⟩
  have R3 := Lib.hid (show SB (w.heap.size + 5) (blankS false 0) w3 from Blk.but R2.out b3 (by unfold DrT; omega))
  have B3 := Lib.hid (show Below w.heap.size w w3 from B2.out.trans (b3.below (by omega) (fun k hk => by rcases hk with h | h <;> omega)))
  have C3 := Lib.hid (show Boxed w3 (w.heap.size + 10) 4 (.bool cv) from by have h := g3.coll; rw [PC.out] at h; exact h)
  refine ⟨_, rfl, hK _ _ ?_⟩
  clear hK K b3 g3 G2 S2 R2 B2 lg
  rw [RC.out]
  simp only [Act.put, List.setIfInBounds_toArray, List.set_cons_zero, List.set_cons_succ]
  have n3 : w.heap.size + 10 < w3.heap.size := C3.out.lt
  refine list_var_all (ds := scells Z) aggScr zeroScr (scells_size _) (scells_size _) (scells_one _) rfl rfl rfl (.tmp 21) (.tmp 36) rfl (by simp [Act.eval, Act.put]) (by simp [Act.eval, Act.put]) ?_
  simp only [Act.put, List.setIfInBounds_toArray, List.set_cons_zero, List.set_cons_succ]
  have V4 := Lib.hid (SB.new w3 Z)
  have R4 := Lib.hid (R3.out.alloc (.cells (scells Z) 32))
  have B4 := Lib.hid (B3.out.alloc B3.out.size (.cells (scells Z) 32))
  have C4 := Lib.hid (C3.out.alloc (.cells (scells Z) 32))
  generalize w3.alloc (.cells (scells Z) 32) = w4 at *
  clear R3 B3 C3
  go_upto_region 5 with fail
  have kc : ∀ u : DrW w3.heap.size (w.heap.size + 10) Z cv, u.w.cell? ⟨w.heap.size + 10, 0, none⟩ = some (.bool cv) := fun u => u.c.cell
  have kp := Lib.hid (fun (w' : World) (hw : ∃ u : DrW w3.heap.size (w.heap.size + 10) Z cv, w' = u.w) => show Blk w3.heap.size 32 (scells Z) w' by obtain ⟨u, rfl⟩ := hw; exact u.s)
  refine wp_region_mix (C := fun w' => ∃ u : DrW w3.heap.size (w.heap.size + 10) Z cv, w' = u.w) [([0, 1], 2)] [3] (by kernel_rfl) (by kernel_rfl) (fun _ _ d _ _ h => by cases d <;> exact h) ⟨⟨w4.drew, V4.out.drew, C4.out⟩, rfl⟩ ?_
  intro wd hwd
  have bd := Lib.hid (show Below w4.heap.size w4 wd by rw [hwd]; exact (Below.refl _ _).drew)
  clear hwd
  refine mix_run (by simp only [opsAt, List.getElem?_toArray, List.getElem?_cons_succ, List.getElem?_cons_zero]; rfl) (by simp only [List.getElem?_toArray, List.getElem?_cons_succ, List.getElem?_cons_zero]; rfl) ?_
  refine quiet_load_all aggScr kp.out (scells_size _) rfl (.tmp 21) rfl (by simp [Act.eval]) ?_
  simp only [Act.put, List.setIfInBounds_toArray, List.set_cons_zero, List.set_cons_succ]
  repeat (go_big_quiet_step (rfl))
  refine wpQuiet_nil ?_
  refine mix_call (by rfl) ?_
  intro K hK
  refine wp_store_all (ds := scells Z) aggScr (R4.out.step bd.out) (scells_size _) (scells_size _) (scells_one _) (.tmp 14) (.tmp 37) rfl (by simp [Act.eval, Act.put]) (by simp [Act.eval, Act.put]) ?_
  have R6 := Lib.hid ((R4.out.step bd.out).store Z)
  have B6 := Lib.hid (belowRow (B4.out.trans (bd.out.mono B4.out.size)) (by omega : w.heap.size ≤ w.heap.size + 5) (scells Z))
  have D6 : ∃ u : DrW w3.heap.size (w.heap.size + 10) Z cv, wd.setRow (w.heap.size + 5) (scells Z) = u.w := ⟨⟨_, (V4.out.step bd.out).otherRow (by omega) _, boxRow (boxStep C4.out bd.out) (by omega) _⟩, rfl⟩
  generalize wd.setRow (w.heap.size + 5) (scells Z) = w6 at *
  refine hK _ _ D6 ?_
  clear hK K D6 V4 R4 B4 C4 kp kc bd
  simp only [Act.put, List.setIfInBounds_toArray, List.set_cons_zero, List.set_cons_succ]
  refine mix_last (by simp only [opsAt, List.getElem?_toArray, List.getElem?_cons_succ, List.getElem?_cons_zero]; rfl) ?_
  repeat (go_big_quiet_step (rfl))
  refine wpQuiet_nil ?_
  iterate 3 go_step
  exact bodyPost_ret (results_cell_and rfl _ _ (w.heap.size + 5) _ _ _ _ (.bool cv) rfl rfl R6.out Try.underlying32 rfl (by rw [aggScr.i, scells_size])) rfl ⟨rfl, B6.out⟩
end Go.Proofs.Ytplmmfgmbfcjpaa
