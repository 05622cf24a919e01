/- Contracts of screen.New, Select, Clear, Resolution, Scroll. -/
import Derived.Test.YtplmmfgmbfcjpaaScrChange
namespace Go.Proofs.Ytplmmfgmbfcjpaa
open Go.RowKit Go.Shelf Num
set_option linter.unusedVariables false
set_option linter.unusedSimpArgs false

/-- The planes of a mask turned by f. -/
def onPl (f : Nat → Pl → Pl) (M : Nat) (S : Sc) : Sc := ⟨fun i => if onB M i then f i (S.P i) else S.P i, S.hi, S.M⟩
theorem runS_keeps (step : Nat → Pl → Pl) : ∀ (l : List (Fin 4)) (n : Nat) (S : Sc), (runS step n S l).hi = S.hi ∧ (runS step n S l).M = S.M
  | [], n, S => ⟨rfl, rfl⟩
  | x :: xs, n, S => runS_keeps step xs (n + 1) _
theorem runS_sel (step : Nat → Pl → Pl) (S : Sc) (M k : Nat) (hk : k ≤ 4) : ∀ j, (runS step 0 S (selTo M k)).P j = if j < k ∧ onB M j = true then step (selTo M j).length (S.P j) else S.P j := by
  induction k with
  | zero => intro j; rw [selTo_zero, if_neg (by omega)]; rfl
  | succ k ih =>
    intro j
    rw [selTo_succ M k (by omega)]
    have ih := ih (by omega)
    cases h : onB M k
    · rw [if_neg (by decide), List.append_nil, ih j]
      by_cases e : j < k ∧ onB M j = true
      · rw [if_pos e, if_pos ⟨by omega, e.2⟩]
      · rw [if_neg e, if_neg]
        rintro ⟨h1, h2⟩
        rcases (show j < k ∨ j = k by omega) with h3 | rfl
        · exact e ⟨h3, h2⟩
        · rw [h] at h2; cases h2
    · rw [if_pos rfl, runS_snoc, Nat.zero_add]
      unfold Sc.put
      simp only
      by_cases e : j = k
      · subst e
        rw [if_pos rfl, if_pos ⟨by omega, h⟩, ih j, if_neg (by omega)]
      · rw [if_neg e, ih j]
        by_cases e2 : j < k ∧ onB M j = true
        · rw [if_pos e2, if_pos ⟨by omega, e2.2⟩]
        · rw [if_neg e2, if_neg (fun h => e2 ⟨by omega, h.2⟩)]
theorem passed_sel (step : Nat → Pl → Pl) (S : Sc) (M k : Nat) (hk : k ≤ 4) : passed step 0 S (selTo M k) = (selTo M k).map fun i => S.P i.val := by
  induction k with
  | zero => rw [selTo_zero]; rfl
  | succ k ih =>
    rw [selTo_succ M k (by omega)]
    split
    · rw [passed_snoc, ih (by omega), List.map_append, runS_sel step S M k (by omega) k, if_neg (by omega)]
      rfl
    · rw [List.append_nil, ih (by omega)]
theorem runS_cells (step : Nat → Pl → Pl) (S : Sc) (M : Nat) : scells (runS step 0 S (selTo M 4)) = scells (onPl (fun i p => step (selTo M i).length p) M S) := by
  refine scells_congr (fun i hi y hy => ?_) (runS_keeps _ _ _ _).1 (runS_keeps _ _ _ _).2
  rw [runS_sel step S M 4 (by omega) i]
  unfold onPl
  simp only
  by_cases h : onB M i = true
  · rw [if_pos ⟨hi, h⟩, if_pos h]
  · rw [if_neg (fun e => h e.2), if_neg h]
/-- The fields of a screen's type: where they lie, and their sizes. -/
theorem placesScr : (match Try.prog.underlying 32 with | some (.struct fields) => fields.toList.mapM (fun f => (Try.prog.info? f.type).map fun i => (f.offset, i.size)) | _ => none) = some [(0, 512), (512, 1), (513, 1)] := by kernel_rfl
set_option maxRecDepth 100000 in
theorem built_scr (parts : List (Nat × Value)) : Try.prog.built 32 parts = Instr.fill ([(0, 512), (512, 1), (513, 1)].toArray[·]?) (scells (blankS false 0)) parts := by
  obtain ⟨it, hit, hz⟩ := Option.map_eq_some_iff.1 infoScr8
  simp only [Prod.mk.injEq] at hz
  have hp := placesScr
  rw [Try.underlying32] at hp
  unfold Program.built
  rw [hit, Try.underlying32]
  simp only at hp ⊢
  rw [hz.1, hp]
  rfl
theorem built_mask (m : Int) : Try.prog.built 32 [(2, .int .i64 m)] = some (scells (blankS false m)) := by
  rw [built_scr]
  have e : scells (blankS false m) = (scells (blankS false 0)).setIfInBounds 513 (.int .i64 m) := by rw [sc_mask]; rfl
  rw [e]
  have hC := scells_size (blankS false 0)
  generalize scells (blankS false 0) = C at *
  simp [Instr.fill, Value.cells, hC]
theorem sc_hires (S : Sc) (v : Bool) : (scells S).setIfInBounds 512 (.bool v) = scells ⟨S.P, v, S.M⟩ := by
  apply Array.ext_getElem?
  intro j
  rw [Array.getElem?_setIfInBounds, scells_size]
  by_cases h1 : 512 = j
  · subst h1
    rw [if_pos rfl, if_pos (by omega), scells_get _ _ (by omega)]
    rfl
  · rw [if_neg h1]
    by_cases h3 : j < 514
    · rw [scells_get _ _ h3, scells_get _ _ h3]
      unfold cellOf
      by_cases h5 : j < 512
      · rw [if_pos h5, if_pos h5]
      · rw [if_neg h5, if_neg h5, if_neg (by omega), if_neg (by omega)]
    · rw [Array.getElem?_eq_none (by rw [scells_size]; omega), Array.getElem?_eq_none (by rw [scells_size]; omega)]
theorem built_both (v : Bool) (m : Int) : Try.prog.built 32 [(1, .bool v), (2, .int .i64 m)] = some (scells (blankS v m)) := by
  rw [built_scr]
  have e : scells (blankS v m) = ((scells (blankS false 0)).setIfInBounds 512 (.bool v)).setIfInBounds 513 (.int .i64 m) := by rw [sc_hires, sc_mask]; rfl
  rw [e]
  have hC := scells_size (blankS false 0)
  generalize scells (blankS false 0) = C at *
  simp [Instr.fill, Value.cells, hC]
set_option maxRecDepth 100000 in
set_option maxHeartbeats 4000000 in
theorem new8_any (w : World) : Calls Try.prog 9 #[] w fun e w' => e = .returned (.agg (scells (blankS false 1))) ∧ Below w.heap.size w w' := by
  have hz := zeroScreen
  go_enter Try.func9, Try.ntmps9
  go_upto_region 1 with fail
  refine wp_region_lit ?_
  have R := Lib.hid (SB.new w (blankS false 0))
  have B := Lib.hid (below_new w (.cells (scells (blankS false 0)) 32))
  generalize w.alloc (.cells (scells (blankS false 0)) 32) = w1 at *
  clear hz
  refine list_build_all (cs := scells (blankS false 1)) rfl rfl (by simp [Act.eval]; exact built_mask 1) ?_
  refine list_store_all (ds := scells (blankS false 1)) aggScr R.out (scells_size _) (scells_size _) (scells_one _) rfl (.tmp 0) (.tmp 1) rfl (by simp [Act.eval, Act.put]) (by simp [Act.eval, Act.put]) ?_
  have R2 := Lib.hid (R.out.store (blankS false 1))
  have B2 := Lib.hid (belowRow B.out (Nat.le_refl _) (scells (blankS false 1)))
  generalize w1.setRow w.heap.size (scells (blankS false 1)) = w2 at *
  iterate 4 go_step
  exact bodyPost_ret (results_cell_row rfl _ _ w.heap.size _ _ _ _ rfl R2.out Try.underlying32 rfl (by rw [aggScr.i, scells_size])) rfl ⟨rfl, B2.out⟩
set_option maxRecDepth 100000 in
set_option maxHeartbeats 4000000 in
theorem select8_any (S : Sc) (m : Int) (w : World) : Calls Try.prog 15 #[.agg (scells S), .int .i64 m] w fun e w' => e = .returned (.agg (scells (S.mask m))) ∧ Below w.heap.size w w' := by
  have hz := zeroScreen
  go_enter Try.func15, Try.ntmps15
  go_upto_region 1 with fail
  have S0 := Lib.hid ((SB.new w S).alloc (.cells (scells (blankS false 0)) 32))
  have R := Lib.hid (SB.new (w.alloc (.cells (scells S) 32)) (blankS false 0))
  have B := Lib.hid ((below_new w (.cells (scells S) 32)).alloc (by simp) (.cells (scells (blankS false 0)) 32))
  rw [World.size_alloc] at R
  generalize (w.alloc (.cells (scells S) 32)).alloc (.cells (scells (blankS false 0)) 32) = w1 at *
  clear hz
  have c1 := S0.out.maskc
  have c2 := S0.out.fz 513
  go_upto_region 2 with fail
  refine wp_region_lit ?_
  have S1 := Lib.hid (S0.out.setMask m)
  have R1 := Lib.hid (R.out.other (g := w.heap.size) (by omega) 513 (.int .i64 m))
  have B1 := Lib.hid (B.out.setCell (p := ⟨w.heap.size, 513, none⟩) (Nat.le_refl _) (.int .i64 m))
  generalize w1.setCell ⟨w.heap.size, 513, none⟩ (.int .i64 m) = w2 at *
  clear c1 c2
  refine list_load_all aggScr S1.out (scells_size _) rfl (.tmp 2) rfl (by simp [Act.eval]) ?_
  refine list_store_all (ds := scells (S.mask m)) aggScr R1.out (scells_size _) (scells_size _) (scells_one _) rfl (.tmp 4) (.tmp 7) rfl (by simp [Act.eval, Act.put]) (by simp [Act.eval, Act.put]) ?_
  have R2 := Lib.hid (R1.out.store (S.mask m))
  have B2 := Lib.hid (belowRow B1.out (Nat.le_succ _) (scells (S.mask m)))
  generalize w2.setRow (w.heap.size + 1) (scells (S.mask m)) = w3 at *
  iterate 4 go_step
  exact bodyPost_ret (results_cell_row rfl _ _ (w.heap.size + 1) _ _ _ _ rfl R2.out Try.underlying32 rfl (by rw [aggScr.i, scells_size])) rfl ⟨rfl, B2.out⟩
set_option maxRecDepth 100000 in
set_option maxHeartbeats 4000000 in
theorem res8_any (S : Sc) (v : Bool) (w : World) : Calls Try.prog 26 #[.agg (scells S), .bool v] w fun e w' => e = .returned (.agg (scells (blankS v S.M))) ∧ Below w.heap.size w w' := by
  have hz := zeroScreen
  obtain ⟨m, hm⟩ : ∃ m, S.M = m := ⟨_, rfl⟩
  rw [hm]
  go_enter Try.func26, Try.ntmps26
  go_upto_region 1 with fail
  refine wp_region_lit ?_
  have S0 := Lib.hid ((SB.new w S).alloc (.cells (scells (blankS false 0)) 32))
  have R := Lib.hid (SB.new (w.alloc (.cells (scells S) 32)) (blankS false 0))
  have B := Lib.hid ((below_new w (.cells (scells S) 32)).alloc (by simp) (.cells (scells (blankS false 0)) 32))
  rw [World.size_alloc] at R
  generalize (w.alloc (.cells (scells S) 32)).alloc (.cells (scells (blankS false 0)) 32) = w1 at *
  clear hz
  have c1 := S0.out.maskc
  rw [hm] at c1
  clear hm
  iterate 9 go_step
  refine list_build_all (cs := scells (blankS v m)) rfl rfl (by simp [Act.eval]; exact built_both v m) ?_
  refine list_store_all (ds := scells (blankS v m)) aggScr R.out (scells_size _) (scells_size _) (scells_one _) rfl (.tmp 4) (.tmp 8) rfl (by simp [Act.eval, Act.put]) (by simp [Act.eval, Act.put]) ?_
  have R2 := Lib.hid (R.out.store (blankS v m))
  have B2 := Lib.hid (belowRow B.out (Nat.le_succ _) (scells (blankS v m)))
  generalize w1.setRow (w.heap.size + 1) (scells (blankS v m)) = w2 at *
  iterate 4 go_step
  exact bodyPost_ret (results_cell_row rfl _ _ (w.heap.size + 1) _ _ _ _ rfl R2.out Try.underlying32 rfl (by rw [aggScr.i, scells_size])) rfl ⟨rfl, B2.out⟩
set_option maxRecDepth 100000 in
theorem clear1_any (p : Pl) (w : World) : Calls Try.prog 44 #[.agg (pcells p)] w fun e w' => e = .returned (.agg (pcells fun _ => 0#128)) ∧ Below w.heap.size w w' := by
  have hz := zeroPlane
  go_enter Try.func44, Try.ntmps44
  go_upto_region 1 with fail
  refine wp_region_lit ?_
  have R := Lib.hid (PBox.new (w.alloc (.cells (pcells p) 29)) (fun _ => 0#128) 29)
  have B := Lib.hid ((below_new w (.cells (pcells p) 29)).alloc (by simp) (.cells (pcells fun _ => 0#128) 29))
  rw [World.size_alloc] at R
  generalize (w.alloc (.cells (pcells p) 29)).alloc (.cells (pcells fun _ => 0#128) 29) = w1 at *
  clear hz
  refine list_build rfl rfl ?_
  refine list_store_all (ds := pcells fun _ => 0#128) aggPl R.out (pcells_size _) (pcells_size _) (pcells_one _) rfl (.tmp 2) (.tmp 3) rfl (by simp [Act.eval, Act.put]) (by simp [Act.eval, Act.put]) ?_
  have R2 := Lib.hid (R.out.store fun _ => 0#128)
  have B2 := Lib.hid (belowRow B.out (Nat.le_succ _) (pcells fun _ => 0#128))
  generalize w1.setRow (w.heap.size + 1) (pcells fun _ => 0#128) = w2 at *
  iterate 4 go_step
  exact bodyPost_ret (results_cell_row rfl _ _ (w.heap.size + 1) _ _ _ _ rfl R2.out Try.underlying29 rfl (by rw [aggPl.i, pcells_size])) rfl ⟨rfl, B2.out⟩
set_option maxRecDepth 100000 in
set_option maxHeartbeats 4000000 in
theorem clear8_any (S : Sc) (M : Nat) (hM : S.M = (M : Int)) (M1 : M ≤ 10000) (w : World) : Calls Try.prog 25 #[.agg (scells S)] w fun e w' => e = .returned (.agg (scells (onPl (fun _ _ _ => 0#128) M S))) ∧ Below w.heap.size w w' := by
  have hz := zeroScreen
  obtain ⟨Z, hZ⟩ : ∃ Z, onPl (fun _ _ _ => 0#128) M S = Z := ⟨_, rfl⟩
  rw [hZ]
  have CH := Lib.hid fun w => change_any M (g := 44) (caps := #[]) (enters_of Try.func44 (by kernel_rfl) rfl) (fun _ _ _ => 0#128) (fun _ => False) (fun _ _ => True) w (fun _ h => h.elim) (fun _ _ _ _ _ => trivial)
    (fun n p W _ _ _ => (clear1_any p W).mono fun e W' h => ⟨h.1, trivial, But.of_below h.2⟩) S hM M1 trivial
  have RC := Lib.hid ((runS_cells (fun _ _ _ => 0#128) S M).trans (by rw [hZ]))
  clear hZ
  go_enter Try.func25, Try.ntmps25
  go_upto_region 1 with fail
  refine wp_region_lit ?_
  have S0 := Lib.hid ((SB.new w S).alloc (.cells (scells (blankS false 0)) 32))
  have R := Lib.hid (SB.new (w.alloc (.cells (scells S) 32)) (blankS false 0))
  have B := Lib.hid ((below_new w (.cells (scells S) 32)).alloc (by simp) (.cells (scells (blankS false 0)) 32))
  rw [World.size_alloc] at R
  generalize (w.alloc (.cells (scells S) 32)).alloc (.cells (scells (blankS false 0)) 32) = w1 at *
  clear hz
  refine list_load_all aggScr S0.out (scells_size _) rfl (.tmp 1) rfl (by simp [Act.eval]) ?_
  simp only [Act.put, List.setIfInBounds_toArray, List.set_cons_zero, List.set_cons_succ]
  refine wpList_plain rfl fun K hK => ?_
  refine wp_call_fn (g := 37) (caps := #[]) (args := #[.agg (scells S), .func (.func 44) #[] #[]]) (.func 37) #[.tmp 3, .func 44] #[32, 82] rfl (enters_of Try.func37 (by kernel_rfl) rfl) rfl (by simp [Act.eval]) ?_
  refine (CH.out w1).mono ?_
  rintro e w2 ⟨rfl, -, b2⟩
  have b2 := b2.all
  have R2 := Lib.hid (R.out.step b2)
  have B2 := Lib.hid (B.out.trans (b2.mono B.out.size))
  refine ⟨_, rfl, hK _ _ ?_⟩
  clear hK K b2 S0 R B
  rw [RC.out]
  simp only [Act.put, List.setIfInBounds_toArray, List.set_cons_zero, List.set_cons_succ]
  refine list_store_all (ds := scells Z) aggScr R2.out (scells_size _) (scells_size _) (scells_one _) rfl (.tmp 2) (.tmp 4) rfl (by simp [Act.eval, Act.put]) (by simp [Act.eval, Act.put]) ?_
  have R3 := Lib.hid (R2.out.store Z)
  have B3 := Lib.hid (belowRow B2.out (Nat.le_succ _) (scells Z))
  generalize w2.setRow (w.heap.size + 1) (scells Z) = w3 at *
  iterate 4 go_step
  exact bodyPost_ret (results_cell_row rfl _ _ (w.heap.size + 1) _ _ _ _ rfl R3.out Try.underlying32 rfl (by rw [aggScr.i, scells_size])) rfl ⟨rfl, B3.out⟩
/-- What Scroll's function finds in its variables. -/
def ScG (bx bY bs : Nat) (dx dy : Int) (S : Sc) (W : World) : Prop := Boxed W bx 3 (.int .i64 dx) ∧ Boxed W bY 3 (.int .i64 dy) ∧ SB bs S W
theorem boxStep {w w' : World} {b : Nat} {t : TypeId} {v : Value} (h : Boxed w b t v) (hb : Below w.heap.size w w') : Boxed w' b t v := (hb.block b h.lt).trans h
set_option maxRecDepth 100000 in
set_option maxHeartbeats 4000000 in
theorem scroll1_any (bx bY bs : Nat) (dx dy : Int) (S : Sc) (m h : Nat) (hr : Res S.hi m h) (d0 : -1000 ≤ dx) (d1 : dx ≤ 1000) (e0 : -1000 ≤ dy) (e1 : dy ≤ 1000) (p : Pl) (w : World) (G : ScG bx bY bs dx dy S w) :
    Calls Try.prog 45 #[.agg (pcells p), .pointer (some ⟨bx, 0, none⟩), .pointer (some ⟨bY, 0, none⟩), .pointer (some ⟨bs, 0, none⟩)] w fun e w' => e = .returned (.agg (pcells (scroll p dx dy m h))) ∧ Below w.heap.size w w' := by
  have hz := zeroPlane
  obtain ⟨v, hv⟩ : ∃ v, S.hi = v := ⟨_, rfl⟩
  obtain ⟨Q, hQ⟩ : ∃ Q, scroll p dx dy m h = Q := ⟨_, rfl⟩
  rw [hv] at hr
  have SC := Lib.hid fun w => scW hr hQ d0 d1 e0 e1 w
  rw [hQ]
  clear hQ d0 d1 e0 e1 hr
  have P0 := Lib.hid ((PBox.new w p 29).alloc (.cells (pcells fun _ => 0#128) 29))
  have R := Lib.hid (PBox.new (w.alloc (.cells (pcells p) 29)) (fun _ => 0#128) 29)
  have B := Lib.hid ((below_new w (.cells (pcells p) 29)).alloc (by simp) (.cells (pcells fun _ => 0#128) 29))
  have cx := (boxStep G.1 B.out).cell
  have cy := (boxStep G.2.1 B.out).cell
  have cs := (G.2.2.step B.out).hires
  rw [hv] at cs
  rw [World.size_alloc] at R
  clear G hv
  go_enter Try.func45, Try.ntmps45
  go_upto_region 1 with fail
  refine wp_region_lit ?_
  generalize (w.alloc (.cells (pcells p) 29)).alloc (.cells (pcells fun _ => 0#128) 29) = w1 at *
  clear hz
  refine list_load_all aggPl P0.out (pcells_size _) rfl (.tmp 4) rfl (by simp [Act.eval]) ?_
  simp only [Act.put, List.setIfInBounds_toArray, List.set_cons_zero, List.set_cons_succ]
  go_wp2_with fail
  refine (SC.out _).mono ?_
  rintro e w2 ⟨rfl, b2⟩
  have R2 := Lib.hid (R.out.step b2)
  have B2 := Lib.hid (B.out.trans (b2.mono B.out.size))
  clear b2 P0 R B cx cy cs
  simp only []
  go_at_K
  go_step
  refine list_store_all (ds := pcells Q) aggPl R2.out (pcells_size _) (pcells_size _) (pcells_one _) rfl (.tmp 5) (.tmp 11) rfl (by simp [Act.eval, Act.put]) (by simp [Act.eval, Act.put]) ?_
  have R3 := Lib.hid (R2.out.store Q)
  have B3 := Lib.hid (belowRow B2.out (Nat.le_succ _) (pcells Q))
  generalize w2.setRow (w.heap.size + 1) (pcells Q) = w3 at *
  iterate 4 go_step
  exact bodyPost_ret (results_cell_row rfl _ _ (w.heap.size + 1) _ _ _ _ rfl R3.out Try.underlying29 rfl (by rw [aggPl.i, pcells_size])) rfl ⟨rfl, B3.out⟩
set_option maxRecDepth 100000 in
set_option maxHeartbeats 4000000 in
theorem scroll8_any (S : Sc) (M : Nat) (hM : S.M = (M : Int)) (M1 : M ≤ 10000) (dx dy : Int) (m h : Nat) (hr : Res S.hi m h) (d0 : -64 ≤ dx) (d1 : dx ≤ 64) (e0 : -64 ≤ dy) (e1 : dy ≤ 64) (w : World) :
    Calls Try.prog 27 #[.agg (scells S), .int .i64 dx, .int .i64 dy] w fun e w' => e = .returned (.agg (scells (onPl (fun _ p => scroll p dx dy m h) M S))) ∧ Below w.heap.size w w' := by
  have hz := zeroScreen
  obtain ⟨Z, hZ⟩ : ∃ Z, onPl (fun _ p => scroll p dx dy m h) M S = Z := ⟨_, rfl⟩
  rw [hZ]
  have CH := Lib.hid fun (bx bY bs : Nat) (w : World) (l1 : bx < w.heap.size) (l2 : bY < w.heap.size) (l3 : bs < w.heap.size) (H : ScG bx bY bs dx dy S w) => change_any M (g := 45) (caps := #[.pointer (some ⟨bx, 0, none⟩), .pointer (some ⟨bY, 0, none⟩), .pointer (some ⟨bs, 0, none⟩)]) (enters_of Try.func45 (by kernel_rfl) rfl) (fun _ p => scroll p dx dy m h) (fun _ => False) (fun _ W => ScG bx bY bs dx dy S W ∧ w.heap.size ≤ W.heap.size) w (fun _ h => h.elim)
    (fun _ W W' G b => ⟨⟨(b.block bx l1).trans G.1.1, (b.block bY l2).trans G.1.2.1, (b.block bs l3).trans G.1.2.2⟩, Nat.le_trans G.2 b.size⟩)
    (fun n p W _ G _ => (scroll1_any bx bY bs dx dy S m h hr (by omega) (by omega) (by omega) (by omega) p W G.1).mono fun e W' h => ⟨h.1, ⟨⟨boxStep G.1.1 h.2, boxStep G.1.2.1 h.2, G.1.2.2.step h.2⟩, Nat.le_trans G.2 h.2.size⟩, But.of_below h.2⟩) S hM M1 ⟨H, Nat.le_refl _⟩
  have RC := Lib.hid ((runS_cells (fun _ p => scroll p dx dy m h) S M).trans (by rw [hZ]))
  clear hZ
  have S0 := Lib.hid ((((SB.new w S).alloc (.cells #[.int .i64 dx] 3)).alloc (.cells #[.int .i64 dy] 3)).alloc (.cells (scells (blankS false 0)) 32))
  have X0 := Lib.hid (((Boxed.new (w.alloc (.cells (scells S) 32)) 3 (.int .i64 dx)).alloc (.cells #[.int .i64 dy] 3)).alloc (.cells (scells (blankS false 0)) 32))
  have Y0 := Lib.hid ((Boxed.new ((w.alloc (.cells (scells S) 32)).alloc (.cells #[.int .i64 dx] 3)) 3 (.int .i64 dy)).alloc (.cells (scells (blankS false 0)) 32))
  have R := Lib.hid (SB.new (((w.alloc (.cells (scells S) 32)).alloc (.cells #[.int .i64 dx] 3)).alloc (.cells #[.int .i64 dy] 3)) (blankS false 0))
  have B := Lib.hid ((((below_new w (.cells (scells S) 32)).alloc (by simp) (.cells #[.int .i64 dx] 3)).alloc (by simp; omega) (.cells #[.int .i64 dy] 3)).alloc (by simp; omega) (.cells (scells (blankS false 0)) 32))
  rw [World.size_alloc] at X0
  rw [World.size_alloc, World.size_alloc] at Y0
  rw [World.size_alloc, World.size_alloc, World.size_alloc] at R
  go_enter Try.func27, Try.ntmps27
  go_upto_region 1 with fail
  generalize (((w.alloc (.cells (scells S) 32)).alloc (.cells #[.int .i64 dx] 3)).alloc (.cells #[.int .i64 dy] 3)).alloc (.cells (scells (blankS false 0)) 32) = w1 at *
  clear hz
  have cx := X0.out.cell
  have cy := Y0.out.cell
  have fx := X0.out.frozen
  have fy := Y0.out.frozen
  have mx : max dx (-128) = dx := by omega
  have mx2 : min dx 128 = dx := by omega
  have my : max dy (-64) = dy := by omega
  have my2 : min dy 64 = dy := by omega
  go_upto_region 3 with fail
  have S1 := Lib.hid ((S0.out.other (g := w.heap.size + 1) (by omega) 0 (.int .i64 dx)).other (g := w.heap.size + 1 + 1) (by omega) 0 (.int .i64 dy))
  have X1 := Lib.hid ((X0.out.set (.int .i64 dx)).other (B' := w.heap.size + 1 + 1) (by omega) (.int .i64 dy))
  have Y1 := Lib.hid ((Y0.out.other (B' := w.heap.size + 1) (by omega) (.int .i64 dx)).set (.int .i64 dy))
  have R1 := Lib.hid ((R.out.other (g := w.heap.size + 1) (by omega) 0 (.int .i64 dx)).other (g := w.heap.size + 1 + 1) (by omega) 0 (.int .i64 dy))
  have B1 := Lib.hid ((B.out.setCell (p := ⟨w.heap.size + 1, 0, none⟩) (by show w.heap.size ≤ w.heap.size + 1; omega) (.int .i64 dx)).setCell (p := ⟨w.heap.size + 1 + 1, 0, none⟩) (by show w.heap.size ≤ w.heap.size + 1 + 1; omega) (.int .i64 dy))
  generalize (w1.setCell ⟨w.heap.size + 1, 0, none⟩ (.int .i64 dx)).setCell ⟨w.heap.size + 1 + 1, 0, none⟩ (.int .i64 dy) = w2 at *
  clear cx cy fx fy mx mx2 my my2 S0 X0 Y0 R B
  refine wp_region_lit ?_
  refine list_load_all aggScr S1.out (scells_size _) rfl (.tmp 3) rfl (by simp [Act.eval]) ?_
  simp only [Act.put, List.setIfInBounds_toArray, List.set_cons_zero, List.set_cons_succ]
  iterate 3 go_step
  refine wpList_plain rfl fun K hK => ?_
  refine wp_call_fn (g := 37) (caps := #[]) (args := #[.agg (scells S), .func (.func 45) #[] #[.pointer (some ⟨w.heap.size + 1, 0, none⟩), .pointer (some ⟨w.heap.size + 1 + 1, 0, none⟩), .pointer (some ⟨w.heap.size, 0, none⟩)]]) (.func 37) #[.tmp 13, .tmp 14] #[32, 82] rfl (enters_of Try.func37 (by kernel_rfl) rfl) rfl (by simp [Act.eval]) ?_
  refine (CH.out _ _ _ w2 X1.out.lt Y1.out.lt S1.out.lt ⟨X1.out, Y1.out, S1.out⟩).mono ?_
  rintro e w3 ⟨rfl, -, b2⟩
  have b2 := b2.all
  have R2 := Lib.hid (R1.out.step b2)
  have B2 := Lib.hid (B1.out.trans (b2.mono B1.out.size))
  refine ⟨_, rfl, hK _ _ ?_⟩
  clear hK K b2 S1 R1 B1 X1 Y1
  rw [RC.out]
  simp only [Act.put, List.setIfInBounds_toArray, List.set_cons_zero, List.set_cons_succ]
  refine list_store_all (ds := scells Z) aggScr R2.out (scells_size _) (scells_size _) (scells_one _) rfl (.tmp 6) (.tmp 15) rfl (by simp [Act.eval, Act.put]) (by simp [Act.eval, Act.put]) ?_
  have R3 := Lib.hid (R2.out.store Z)
  have B3 := Lib.hid (belowRow B2.out (show w.heap.size ≤ w.heap.size + 1 + 1 + 1 by omega) (scells Z))
  generalize w3.setRow (w.heap.size + 1 + 1 + 1) (scells Z) = w4 at *
  iterate 4 go_step
  exact bodyPost_ret (results_cell_row rfl _ _ (w.heap.size + 1 + 1 + 1) _ _ _ _ rfl R3.out Try.underlying32 rfl (by rw [aggScr.i, scells_size])) rfl ⟨rfl, B3.out⟩
end Go.Proofs.Ytplmmfgmbfcjpaa
