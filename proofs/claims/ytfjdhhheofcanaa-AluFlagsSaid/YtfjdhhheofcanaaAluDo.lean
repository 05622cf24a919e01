/- The reference of layer 18: Do, Skips, Right. -/
import Derived.Test.YtfjdhhheofcanaaAluRef
import Derived.Test.YtfjdhhheofcanaaRegs
namespace Go.Proofs.Ytfjdhhheofcanaa
open Go.RowKit Num Dec Cpu
set_option linter.unusedVariables false
set_option linter.unusedSimpArgs false
set_option maxRecDepth 100000

/-- Four variables of a call: registers, an instruction, a profile, the result. -/
structure D4 (w0 : World) (g : Nat) (v : Nat → Nat) (op : Int) (x y : Nat) (n : Int) (nn : Nat) (addr len : Int) (q : Pr) (w : World) : Prop where
  r : Blk g 22 (rg v) w
  i : Blk (g + 1) 24 #[.int .i64 op, .int .i64 (x : Int), .int .i64 (y : Int), .int .i64 n, .int .i64 (nn : Int), .int .i64 addr, .int .i64 len] w
  p : Blk (g + 1 + 1) 26 (prc q) w
  o : Blk (g + 1 + 1 + 1) 22 (pc zeroPa) w
  low : Below w0.heap.size w0 w
  le : w0.heap.size ≤ g
theorem D4.put {w0 w : World} {g : Nat} {v : Nat → Nat} {op : Int} {x y : Nat} {n : Int} {nn : Nat} {addr len : Int} {q : Pr} (D : D4 w0 g v op x y n nn addr len q w) {k : Nat} (hk : k < 16) (r : Nat) : D4 w0 g (upd v k r) op x y n nn addr len q (w.setCell ⟨g, k, none⟩ (.int .u8 (r : Int))) :=
  ⟨(D.r.put k _).eq (rg_put v hk r), D.i.other (by omega) k _, D.p.other (by omega) k _, D.o.other (by omega) k _, D.low.trans ⟨rfl, rfl, rfl, by simp, fun b hb => Below.heap_setCell w ⟨g, k, none⟩ _ b (by have := D.le; show b ≠ g; omega)⟩, D.le⟩
theorem D4.cx {w0 w : World} {g : Nat} {v : Nat → Nat} {op : Int} {x y : Nat} {n : Int} {nn : Nat} {addr len : Int} {q : Pr} (D : D4 w0 g v op x y n nn addr len q w) {k : Nat} (hk : k < 16) : w.cell? ⟨g, k, none⟩ = some (.int .u8 (v k : Int)) := by rw [D.r.cell, rg_get v hk]

theorem alu_sum {a b : Nat} (ha : a < 256) (hb : b < 256) : ∃ (d : Int) (R : Nat), (IntKind.i64.wrap ((a : Int) + (b : Int)) = d ∧ Int.tmod d 256 = (R : Int) ∧ IntKind.i64.wrap (R : Int) = (R : Int) ∧ IntKind.u8.wrap (R : Int) = (R : Int)) ∧ R = (a + b) % 256 ∧ d = (a : Int) + (b : Int) :=
  ⟨(a : Int) + (b : Int), (a + b) % 256, ⟨by rw [IntKind.wrap_i64]; omega, by rw [Int.tmod_eq_emod_of_nonneg (by omega)]; omega, by rw [IntKind.wrap_i64]; omega, by rw [IntKind.wrap_u8]; omega⟩, rfl, rfl⟩
theorem alu_dif {a b : Nat} (ha : a < 256) (hb : b < 256) : ∃ (d e : Int) (R : Nat), (IntKind.i64.wrap ((a : Int) - (b : Int)) = d ∧ IntKind.i64.wrap (d + 256) = e ∧ Int.tmod e 256 = (R : Int) ∧ IntKind.i64.wrap (R : Int) = (R : Int) ∧ IntKind.u8.wrap (R : Int) = (R : Int)) ∧ R = (a + 256 - b) % 256 :=
  ⟨(a : Int) - (b : Int), (a : Int) - (b : Int) + 256, (a + 256 - b) % 256, ⟨by rw [IntKind.wrap_i64]; omega, by rw [IntKind.wrap_i64]; omega, by rw [Int.tmod_eq_emod_of_nonneg (by omega)]; omega, by rw [IntKind.wrap_i64]; omega, by rw [IntKind.wrap_u8]; omega⟩, rfl⟩
theorem alu_shr {s : Nat} (hs : s < 256) : ∃ R F : Nat, (Int.tdiv (s : Int) 2 = (R : Int) ∧ IntKind.i64.wrap (R : Int) = (R : Int) ∧ IntKind.u8.wrap (R : Int) = (R : Int) ∧ Int.tmod (s : Int) 2 = (F : Int) ∧ IntKind.i64.wrap (F : Int) = (F : Int) ∧ IntKind.u8.wrap (F : Int) = (F : Int)) ∧ R = s / 2 ∧ F = s % 2 :=
  ⟨s / 2, s % 2, ⟨by rw [Int.tdiv_eq_ediv_of_nonneg (by omega)]; omega, by rw [IntKind.wrap_i64]; omega, by rw [IntKind.wrap_u8]; omega, by rw [Int.tmod_eq_emod_of_nonneg (by omega)]; omega, by rw [IntKind.wrap_i64]; omega, by rw [IntKind.wrap_u8]; omega⟩, rfl, rfl⟩
theorem alu_shl {s : Nat} (hs : s < 256) : ∃ (d : Int) (R F : Nat), (IntKind.i64.wrap (2 * (s : Int)) = d ∧ Int.tmod d 256 = (R : Int) ∧ IntKind.i64.wrap (R : Int) = (R : Int) ∧ IntKind.u8.wrap (R : Int) = (R : Int) ∧ Int.tdiv (s : Int) 128 = (F : Int) ∧ IntKind.i64.wrap (F : Int) = (F : Int) ∧ IntKind.u8.wrap (F : Int) = (F : Int)) ∧ R = 2 * s % 256 ∧ F = s / 128 :=
  ⟨2 * (s : Int), 2 * s % 256, s / 128, ⟨by rw [IntKind.wrap_i64]; omega, by rw [Int.tmod_eq_emod_of_nonneg (by omega)]; omega, by rw [IntKind.wrap_i64]; omega, by rw [IntKind.wrap_u8]; omega, by rw [Int.tdiv_eq_ediv_of_nonneg (by omega)]; omega, by rw [IntKind.wrap_i64]; omega, by rw [IntKind.wrap_u8]; omega⟩, rfl, rfl⟩
set_option maxHeartbeats 64000000 in
theorem rdo_any (v : Nat → Nat) (op : Int) (x y nn : Nat) (n addr len : Int) (q : Pr) (w : World) (hv : OkV v) (hx : x < 16) (hy : y < 16) (hn : nn < 256) :
    Calls Try.prog 11 #[.agg (rg v), .agg (icells ⟨op, x, y, n, nn, addr, len⟩), .agg (prc q)] w fun e w' => e = .returned (.tuple #[.agg (rg (aluV v ⟨op, x, y, n, nn, addr, len⟩ q)), .bool (aluIs op)]) ∧ Below w.heap.size w w' := by
  have HX := Lib.hid (And.intro hx (And.intro hy hn))
  have HV := Lib.hid hv
  have vx := hv x hx
  have vy := hv y hy
  have D0 := Lib.hid (show D4 w w.heap.size v op x y n nn addr len q ((((w.alloc (.cells (rg v) 22)).alloc (.cells (icells ⟨op, x, y, n, nn, addr, len⟩) 24)).alloc (.cells (prc q) 26)).alloc (.cells (pc zeroPa) 22)) from by
    refine ⟨(((Blk.new w _ _).alloc _).alloc _).alloc _, ?_, ?_, ?_, (((below_newP w _).alloc (by simp) _).alloc (by simp; omega) _).alloc (by simp; omega) _, Nat.le_refl _⟩
    · have h := ((Blk.new (w.alloc (.cells (rg v) 22)) 24 (icells ⟨op, x, y, n, nn, addr, len⟩)).alloc (.cells (prc q) 26)).alloc (.cells (pc zeroPa) 22)
      rw [World.size_alloc] at h
      exact h
    · have h := (Blk.new ((w.alloc (.cells (rg v) 22)).alloc (.cells (icells ⟨op, x, y, n, nn, addr, len⟩) 24)) 26 (prc q)).alloc (.cells (pc zeroPa) 22)
      rw [World.size_alloc, World.size_alloc] at h
      exact h
    · have h := Blk.new (((w.alloc (.cells (rg v) 22)).alloc (.cells (icells ⟨op, x, y, n, nn, addr, len⟩) 24)).alloc (.cells (prc q) 26)) 22 (pc zeroPa)
      rw [World.size_alloc, World.size_alloc, World.size_alloc] at h
      exact h)
  clear hv
  go_enter Try.func11, Try.ntmps11
  go_upto_region 0 with fail
  refine wp_region_lit ?_
  refine list_box_all rfl _ (.tmp 0) rfl (rg v) rfl ?_
  simp only [Act.put, List.setIfInBounds_toArray, List.set_cons_zero, List.set_cons_succ]
  refine list_box_all rfl _ (.tmp 1) rfl (icells ⟨op, x, y, n, nn, addr, len⟩) rfl ?_
  simp only [Act.put, List.setIfInBounds_toArray, List.set_cons_zero, List.set_cons_succ, World.size_alloc]
  refine list_box_all rfl _ (.tmp 2) rfl (prc q) rfl ?_
  simp only [Act.put, List.setIfInBounds_toArray, List.set_cons_zero, List.set_cons_succ, World.size_alloc]
  refine wpList_plain rfl fun K hK => wp_alloc zeroRg rfl (hK _ _ ?_)
  clear hK K
  simp only [Act.put, List.setIfInBounds_toArray, List.set_cons_zero, List.set_cons_succ, World.size_alloc]
  obtain ⟨g, hg⟩ : ∃ g, w.heap.size = g := ⟨_, rfl⟩
  rw [hg] at D0 ⊢
  generalize World.alloc (World.alloc (World.alloc (World.alloc _ _) _) _) _ = w1 at D0 ⊢
  have GL := Lib.hid hg
  clear hg
  have D := D0.out
  have cx := D.cx hx
  have cy := D.cx hy
  have fx := D.r.frozen x
  have f15 := D.r.frozen 15
  have c15 := D.cx (show 15 < 16 by decide)
  have i0 := (D.i.cell 0).trans rfl
  have i1 := (D.i.cell 1).trans rfl
  have i2 := (D.i.cell 2).trans rfl
  have i4 := (D.i.cell 4).trans rfl
  have p1 : w1.cell? ⟨g + 1 + 1, 1, none⟩ = some (.bool q.sh) := (D.p.cell 1).trans rfl
  have p4 : w1.cell? ⟨g + 1 + 1, 4, none⟩ = some (.bool q.lr) := (D.p.cell 4).trans rfl
  try simp only at i0 i1 i2 i4
  clear D
  have xi : (x : Int) < 16 := by omega
  have yi : (y : Int) < 16 := by omega
  have XF := Lib.hid (And.intro vx vy)
  have wx := i64_wrap (show v x < 65536 by omega)
  have wy := i64_wrap (show v y < 65536 by omega)
  have AV : ∀ r f, aluF op (v x) (v y) (if q.sh = true then v y else v x) q.lr = f → aluR op (v x) (v y) (if q.sh = true then v y else v x) nn = r → aluIs op = true → aluV v ⟨op, x, y, n, nn, addr, len⟩ q = (match f with | none => upd v x r | some f => upd (upd v x r) 15 f) := fun r f hf hr hi => by
    unfold aluV shX
    simp only [Int.toNat_natCast]
    rw [if_pos hi, hf, hr]
    cases f <;> rfl
  have AV := Lib.hid AV
  cases hs : q.sh
  · rw [hs] at p1
    by_cases h8 : op = 8
    · subst h8
      have wn := u8_wrap HX.out.2.2
      have AE := Lib.hid (show aluV v ⟨8, x, y, n, nn, addr, len⟩ q = upd v x nn from AV.out nn (none) (by rw [hs]; unfold aluF; simp) (by unfold aluR; simp) (by decide))
      go_upto_region 40 with fail
      have DE := Lib.hid (D0.out.put HX.out.1 nn)
      clear D0
      generalize World.setCell _ _ _ = w5 at DE ⊢
      refine wp_region_lit ?_
      refine list_load_all aggPat DE.out.r (rg_size _) rfl (.tmp 3) rfl rfl ?_
      simp only [Act.put, List.setIfInBounds_toArray, List.set_cons_zero, List.set_cons_succ]
      refine list_store_all aggPat DE.out.o (pc_size _) (rg_size _) (rg_one _) rfl (.tmp 6) (.tmp 111) rfl rfl rfl ?_
      simp only [Act.put, List.setIfInBounds_toArray, List.set_cons_zero, List.set_cons_succ]
      have RE := DE.out.o.store (rg (upd v x nn))
      have BE := belowRow' DE.out.low (show w.heap.size ≤ g + 1 + 1 + 1 by have := GL.out; omega) (rg (upd v x nn))
      generalize World.setRow _ _ _ = w9 at RE BE ⊢
      clear DE
      go_wp2_with fail
      exact bodyPost_ret (results_cell_slot8 rfl _ _ (g + 1 + 1 + 1) _ _ _ _ rfl rfl RE aggPat (rg_size _)) rfl ⟨by rw [AE.out]; rfl, BE⟩
    by_cases h9 : op = 9
    · subst h9
      obtain ⟨d, R, ⟨q1, q2, q3, q4⟩, eR, ed⟩ := alu_sum vx HX.out.2.2
      have AE := Lib.hid (show aluV v ⟨9, x, y, n, nn, addr, len⟩ q = upd v x R from AV.out R (none) (by rw [hs]; unfold aluF; simp) (by unfold aluR; rw [eR]; simp) (by decide))
      clear eR ed
      go_upto_region 40 with fail
      have DE := Lib.hid (D0.out.put HX.out.1 R)
      clear D0
      generalize World.setCell _ _ _ = w5 at DE ⊢
      refine wp_region_lit ?_
      refine list_load_all aggPat DE.out.r (rg_size _) rfl (.tmp 3) rfl rfl ?_
      simp only [Act.put, List.setIfInBounds_toArray, List.set_cons_zero, List.set_cons_succ]
      refine list_store_all aggPat DE.out.o (pc_size _) (rg_size _) (rg_one _) rfl (.tmp 6) (.tmp 111) rfl rfl rfl ?_
      simp only [Act.put, List.setIfInBounds_toArray, List.set_cons_zero, List.set_cons_succ]
      have RE := DE.out.o.store (rg (upd v x R))
      have BE := belowRow' DE.out.low (show w.heap.size ≤ g + 1 + 1 + 1 by have := GL.out; omega) (rg (upd v x R))
      generalize World.setRow _ _ _ = w9 at RE BE ⊢
      clear DE
      go_wp2_with fail
      exact bodyPost_ret (results_cell_slot8 rfl _ _ (g + 1 + 1 + 1) _ _ _ _ rfl rfl RE aggPat (rg_size _)) rfl ⟨by rw [AE.out]; rfl, BE⟩
    by_cases h10 : op = 10
    · subst h10
      have wn := u8_wrap vy
      have AE := Lib.hid (show aluV v ⟨10, x, y, n, nn, addr, len⟩ q = upd v x (v y) from AV.out (v y) (none) (by rw [hs]; unfold aluF; simp) (by unfold aluR; simp) (by decide))
      go_upto_region 40 with fail
      have DE := Lib.hid (D0.out.put HX.out.1 (v y))
      clear D0
      generalize World.setCell _ _ _ = w5 at DE ⊢
      refine wp_region_lit ?_
      refine list_load_all aggPat DE.out.r (rg_size _) rfl (.tmp 3) rfl rfl ?_
      simp only [Act.put, List.setIfInBounds_toArray, List.set_cons_zero, List.set_cons_succ]
      refine list_store_all aggPat DE.out.o (pc_size _) (rg_size _) (rg_one _) rfl (.tmp 6) (.tmp 111) rfl rfl rfl ?_
      simp only [Act.put, List.setIfInBounds_toArray, List.set_cons_zero, List.set_cons_succ]
      have RE := DE.out.o.store (rg (upd v x (v y)))
      have BE := belowRow' DE.out.low (show w.heap.size ≤ g + 1 + 1 + 1 by have := GL.out; omega) (rg (upd v x (v y)))
      generalize World.setRow _ _ _ = w9 at RE BE ⊢
      clear DE
      go_wp2_with fail
      exact bodyPost_ret (results_cell_slot8 rfl _ _ (g + 1 + 1 + 1) _ _ _ _ rfl rfl RE aggPat (rg_size _)) rfl ⟨by rw [AE.out]; rfl, BE⟩
    by_cases h11 : op = 11
    · subst h11
      cases hl : q.lr
      · rw [hl] at p4
        obtain ⟨R, eR⟩ : ∃ R, v x ||| v y = R := ⟨_, rfl⟩
        have RB := Lib.hid (show R < 256 by rw [← eR]; exact or_lt vx vy)
        have BI := Lib.hid (fun w => eR ▸ rbits_or (v x) (v y) w vx vy)
        have AE := Lib.hid (show aluV v ⟨11, x, y, n, nn, addr, len⟩ q = upd v x R from AV.out R (none) (by rw [hs]; unfold aluF; simp [hl]) (by unfold aluR; rw [← eR]; simp) (by decide))
        clear eR
        go_wp2_with fail
        refine (BI.out _).mono ?_
        rintro e w' ⟨rfl, rfl⟩
        have wr := u8_wrap RB.out
        have wf := u8_wrap (show 0 < 256 by decide)
        go_upto_region 40 with fail
        have DE := Lib.hid (D0.out.put HX.out.1 R)
        clear D0
        generalize World.setCell _ _ _ = w5 at DE ⊢
        refine wp_region_lit ?_
        refine list_load_all aggPat DE.out.r (rg_size _) rfl (.tmp 3) rfl rfl ?_
        simp only [Act.put, List.setIfInBounds_toArray, List.set_cons_zero, List.set_cons_succ]
        refine list_store_all aggPat DE.out.o (pc_size _) (rg_size _) (rg_one _) rfl (.tmp 6) (.tmp 111) rfl rfl rfl ?_
        simp only [Act.put, List.setIfInBounds_toArray, List.set_cons_zero, List.set_cons_succ]
        have RE := DE.out.o.store (rg (upd v x R))
        have BE := belowRow' DE.out.low (show w.heap.size ≤ g + 1 + 1 + 1 by have := GL.out; omega) (rg (upd v x R))
        generalize World.setRow _ _ _ = w9 at RE BE ⊢
        clear DE
        go_wp2_with fail
        exact bodyPost_ret (results_cell_slot8 rfl _ _ (g + 1 + 1 + 1) _ _ _ _ rfl rfl RE aggPat (rg_size _)) rfl ⟨by rw [AE.out]; rfl, BE⟩
      · rw [hl] at p4
        obtain ⟨R, eR⟩ : ∃ R, v x ||| v y = R := ⟨_, rfl⟩
        have RB := Lib.hid (show R < 256 by rw [← eR]; exact or_lt vx vy)
        have BI := Lib.hid (fun w => eR ▸ rbits_or (v x) (v y) w vx vy)
        have AE := Lib.hid (show aluV v ⟨11, x, y, n, nn, addr, len⟩ q = upd (upd v x R) 15 0 from AV.out R (some 0) (by rw [hs]; unfold aluF; simp [hl]) (by unfold aluR; rw [← eR]; simp) (by decide))
        clear eR
        go_wp2_with fail
        refine (BI.out _).mono ?_
        rintro e w' ⟨rfl, rfl⟩
        have wr := u8_wrap RB.out
        have wf := u8_wrap (show 0 < 256 by decide)
        go_upto_region 38 with fail
        have DM := Lib.hid (D0.out.put HX.out.1 R)
        clear D0 cx cy fx f15 c15 i0 i1 i2 i4 p1 p4
        generalize World.setCell _ _ _ = w4 at DM ⊢
        have c15 := DM.out.cx (show 15 < 16 by decide)
        have f15 := DM.out.r.frozen 15
        go_upto_region 40 with fail
        have DE := Lib.hid (DM.out.put (show 15 < 16 by decide) 0)
        clear DM c15 f15
        generalize World.setCell _ _ _ = w5 at DE ⊢
        refine wp_region_lit ?_
        refine list_load_all aggPat DE.out.r (rg_size _) rfl (.tmp 3) rfl rfl ?_
        simp only [Act.put, List.setIfInBounds_toArray, List.set_cons_zero, List.set_cons_succ]
        refine list_store_all aggPat DE.out.o (pc_size _) (rg_size _) (rg_one _) rfl (.tmp 6) (.tmp 111) rfl rfl rfl ?_
        simp only [Act.put, List.setIfInBounds_toArray, List.set_cons_zero, List.set_cons_succ]
        have RE := DE.out.o.store (rg (upd (upd v x R) 15 0))
        have BE := belowRow' DE.out.low (show w.heap.size ≤ g + 1 + 1 + 1 by have := GL.out; omega) (rg (upd (upd v x R) 15 0))
        generalize World.setRow _ _ _ = w9 at RE BE ⊢
        clear DE
        go_wp2_with fail
        exact bodyPost_ret (results_cell_slot8 rfl _ _ (g + 1 + 1 + 1) _ _ _ _ rfl rfl RE aggPat (rg_size _)) rfl ⟨by rw [AE.out]; rfl, BE⟩
    by_cases h12 : op = 12
    · subst h12
      cases hl : q.lr
      · rw [hl] at p4
        obtain ⟨R, eR⟩ : ∃ R, v x &&& v y = R := ⟨_, rfl⟩
        have RB := Lib.hid (show R < 256 by rw [← eR]; exact and_lt vx vy)
        have BI := Lib.hid (fun w => eR ▸ rbits_and (v x) (v y) w vx vy)
        have AE := Lib.hid (show aluV v ⟨12, x, y, n, nn, addr, len⟩ q = upd v x R from AV.out R (none) (by rw [hs]; unfold aluF; simp [hl]) (by unfold aluR; rw [← eR]; simp) (by decide))
        clear eR
        go_wp2_with fail
        refine (BI.out _).mono ?_
        rintro e w' ⟨rfl, rfl⟩
        have wr := u8_wrap RB.out
        have wf := u8_wrap (show 0 < 256 by decide)
        go_upto_region 40 with fail
        have DE := Lib.hid (D0.out.put HX.out.1 R)
        clear D0
        generalize World.setCell _ _ _ = w5 at DE ⊢
        refine wp_region_lit ?_
        refine list_load_all aggPat DE.out.r (rg_size _) rfl (.tmp 3) rfl rfl ?_
        simp only [Act.put, List.setIfInBounds_toArray, List.set_cons_zero, List.set_cons_succ]
        refine list_store_all aggPat DE.out.o (pc_size _) (rg_size _) (rg_one _) rfl (.tmp 6) (.tmp 111) rfl rfl rfl ?_
        simp only [Act.put, List.setIfInBounds_toArray, List.set_cons_zero, List.set_cons_succ]
        have RE := DE.out.o.store (rg (upd v x R))
        have BE := belowRow' DE.out.low (show w.heap.size ≤ g + 1 + 1 + 1 by have := GL.out; omega) (rg (upd v x R))
        generalize World.setRow _ _ _ = w9 at RE BE ⊢
        clear DE
        go_wp2_with fail
        exact bodyPost_ret (results_cell_slot8 rfl _ _ (g + 1 + 1 + 1) _ _ _ _ rfl rfl RE aggPat (rg_size _)) rfl ⟨by rw [AE.out]; rfl, BE⟩
      · rw [hl] at p4
        obtain ⟨R, eR⟩ : ∃ R, v x &&& v y = R := ⟨_, rfl⟩
        have RB := Lib.hid (show R < 256 by rw [← eR]; exact and_lt vx vy)
        have BI := Lib.hid (fun w => eR ▸ rbits_and (v x) (v y) w vx vy)
        have AE := Lib.hid (show aluV v ⟨12, x, y, n, nn, addr, len⟩ q = upd (upd v x R) 15 0 from AV.out R (some 0) (by rw [hs]; unfold aluF; simp [hl]) (by unfold aluR; rw [← eR]; simp) (by decide))
        clear eR
        go_wp2_with fail
        refine (BI.out _).mono ?_
        rintro e w' ⟨rfl, rfl⟩
        have wr := u8_wrap RB.out
        have wf := u8_wrap (show 0 < 256 by decide)
        go_upto_region 38 with fail
        have DM := Lib.hid (D0.out.put HX.out.1 R)
        clear D0 cx cy fx f15 c15 i0 i1 i2 i4 p1 p4
        generalize World.setCell _ _ _ = w4 at DM ⊢
        have c15 := DM.out.cx (show 15 < 16 by decide)
        have f15 := DM.out.r.frozen 15
        go_upto_region 40 with fail
        have DE := Lib.hid (DM.out.put (show 15 < 16 by decide) 0)
        clear DM c15 f15
        generalize World.setCell _ _ _ = w5 at DE ⊢
        refine wp_region_lit ?_
        refine list_load_all aggPat DE.out.r (rg_size _) rfl (.tmp 3) rfl rfl ?_
        simp only [Act.put, List.setIfInBounds_toArray, List.set_cons_zero, List.set_cons_succ]
        refine list_store_all aggPat DE.out.o (pc_size _) (rg_size _) (rg_one _) rfl (.tmp 6) (.tmp 111) rfl rfl rfl ?_
        simp only [Act.put, List.setIfInBounds_toArray, List.set_cons_zero, List.set_cons_succ]
        have RE := DE.out.o.store (rg (upd (upd v x R) 15 0))
        have BE := belowRow' DE.out.low (show w.heap.size ≤ g + 1 + 1 + 1 by have := GL.out; omega) (rg (upd (upd v x R) 15 0))
        generalize World.setRow _ _ _ = w9 at RE BE ⊢
        clear DE
        go_wp2_with fail
        exact bodyPost_ret (results_cell_slot8 rfl _ _ (g + 1 + 1 + 1) _ _ _ _ rfl rfl RE aggPat (rg_size _)) rfl ⟨by rw [AE.out]; rfl, BE⟩
    by_cases h13 : op = 13
    · subst h13
      cases hl : q.lr
      · rw [hl] at p4
        obtain ⟨R, eR⟩ : ∃ R, v x ^^^ v y = R := ⟨_, rfl⟩
        have RB := Lib.hid (show R < 256 by rw [← eR]; exact xor_lt vx vy)
        have BI := Lib.hid (fun w => eR ▸ rbits_xor (v x) (v y) w vx vy)
        have AE := Lib.hid (show aluV v ⟨13, x, y, n, nn, addr, len⟩ q = upd v x R from AV.out R (none) (by rw [hs]; unfold aluF; simp [hl]) (by unfold aluR; rw [← eR]; simp) (by decide))
        clear eR
        go_wp2_with fail
        refine (BI.out _).mono ?_
        rintro e w' ⟨rfl, rfl⟩
        have wr := u8_wrap RB.out
        have wf := u8_wrap (show 0 < 256 by decide)
        go_upto_region 40 with fail
        have DE := Lib.hid (D0.out.put HX.out.1 R)
        clear D0
        generalize World.setCell _ _ _ = w5 at DE ⊢
        refine wp_region_lit ?_
        refine list_load_all aggPat DE.out.r (rg_size _) rfl (.tmp 3) rfl rfl ?_
        simp only [Act.put, List.setIfInBounds_toArray, List.set_cons_zero, List.set_cons_succ]
        refine list_store_all aggPat DE.out.o (pc_size _) (rg_size _) (rg_one _) rfl (.tmp 6) (.tmp 111) rfl rfl rfl ?_
        simp only [Act.put, List.setIfInBounds_toArray, List.set_cons_zero, List.set_cons_succ]
        have RE := DE.out.o.store (rg (upd v x R))
        have BE := belowRow' DE.out.low (show w.heap.size ≤ g + 1 + 1 + 1 by have := GL.out; omega) (rg (upd v x R))
        generalize World.setRow _ _ _ = w9 at RE BE ⊢
        clear DE
        go_wp2_with fail
        exact bodyPost_ret (results_cell_slot8 rfl _ _ (g + 1 + 1 + 1) _ _ _ _ rfl rfl RE aggPat (rg_size _)) rfl ⟨by rw [AE.out]; rfl, BE⟩
      · rw [hl] at p4
        obtain ⟨R, eR⟩ : ∃ R, v x ^^^ v y = R := ⟨_, rfl⟩
        have RB := Lib.hid (show R < 256 by rw [← eR]; exact xor_lt vx vy)
        have BI := Lib.hid (fun w => eR ▸ rbits_xor (v x) (v y) w vx vy)
        have AE := Lib.hid (show aluV v ⟨13, x, y, n, nn, addr, len⟩ q = upd (upd v x R) 15 0 from AV.out R (some 0) (by rw [hs]; unfold aluF; simp [hl]) (by unfold aluR; rw [← eR]; simp) (by decide))
        clear eR
        go_wp2_with fail
        refine (BI.out _).mono ?_
        rintro e w' ⟨rfl, rfl⟩
        have wr := u8_wrap RB.out
        have wf := u8_wrap (show 0 < 256 by decide)
        go_upto_region 38 with fail
        have DM := Lib.hid (D0.out.put HX.out.1 R)
        clear D0 cx cy fx f15 c15 i0 i1 i2 i4 p1 p4
        generalize World.setCell _ _ _ = w4 at DM ⊢
        have c15 := DM.out.cx (show 15 < 16 by decide)
        have f15 := DM.out.r.frozen 15
        go_upto_region 40 with fail
        have DE := Lib.hid (DM.out.put (show 15 < 16 by decide) 0)
        clear DM c15 f15
        generalize World.setCell _ _ _ = w5 at DE ⊢
        refine wp_region_lit ?_
        refine list_load_all aggPat DE.out.r (rg_size _) rfl (.tmp 3) rfl rfl ?_
        simp only [Act.put, List.setIfInBounds_toArray, List.set_cons_zero, List.set_cons_succ]
        refine list_store_all aggPat DE.out.o (pc_size _) (rg_size _) (rg_one _) rfl (.tmp 6) (.tmp 111) rfl rfl rfl ?_
        simp only [Act.put, List.setIfInBounds_toArray, List.set_cons_zero, List.set_cons_succ]
        have RE := DE.out.o.store (rg (upd (upd v x R) 15 0))
        have BE := belowRow' DE.out.low (show w.heap.size ≤ g + 1 + 1 + 1 by have := GL.out; omega) (rg (upd (upd v x R) 15 0))
        generalize World.setRow _ _ _ = w9 at RE BE ⊢
        clear DE
        go_wp2_with fail
        exact bodyPost_ret (results_cell_slot8 rfl _ _ (g + 1 + 1 + 1) _ _ _ _ rfl rfl RE aggPat (rg_size _)) rfl ⟨by rw [AE.out]; rfl, BE⟩
    by_cases h14 : op = 14
    · subst h14
      obtain ⟨d, R, ⟨q1, q2, q3, q4⟩, eR, ed⟩ := alu_sum vx vy
      obtain ⟨F, eF⟩ : ∃ F, b2 (decide (255 < v x + v y)) = F := ⟨_, rfl⟩
      have FB := Lib.hid (show F ≤ 1 by rw [← eF]; exact b2_le _)
      have eb : b2 (decide (255 < d)) = F := by
        rw [← eF]
        exact congrArg b2 (by rw [decide_eq_decide, ed]; omega)
      have FL := Lib.hid (fun u : World => eb ▸ rflag_any (decide (255 < d)) u)
      clear eb
      have AE := Lib.hid (show aluV v ⟨14, x, y, n, nn, addr, len⟩ q = upd (upd v x R) 15 F from AV.out R (some F) (by rw [hs]; unfold aluF; rw [← eF]; simp) (by unfold aluR; rw [eR]; simp) (by decide))
      clear eR eF
      clear ed
      go_wp2_with fail
      refine (FL.out _).mono ?_
      rintro e w' ⟨rfl, rfl⟩
      have wf := u8_wrap (show F < 256 by have := FB.out; omega)
      have f0 : (F : Int) ≥ 0 := by omega
      go_upto_region 38 with fail
      have DM := Lib.hid (D0.out.put HX.out.1 R)
      clear D0 cx cy fx f15 c15 i0 i1 i2 i4 p1 p4
      generalize World.setCell _ _ _ = w4 at DM ⊢
      have c15 := DM.out.cx (show 15 < 16 by decide)
      have f15 := DM.out.r.frozen 15
      go_upto_region 40 with fail
      have DE := Lib.hid (DM.out.put (show 15 < 16 by decide) F)
      clear DM c15 f15
      generalize World.setCell _ _ _ = w5 at DE ⊢
      refine wp_region_lit ?_
      refine list_load_all aggPat DE.out.r (rg_size _) rfl (.tmp 3) rfl rfl ?_
      simp only [Act.put, List.setIfInBounds_toArray, List.set_cons_zero, List.set_cons_succ]
      refine list_store_all aggPat DE.out.o (pc_size _) (rg_size _) (rg_one _) rfl (.tmp 6) (.tmp 111) rfl rfl rfl ?_
      simp only [Act.put, List.setIfInBounds_toArray, List.set_cons_zero, List.set_cons_succ]
      have RE := DE.out.o.store (rg (upd (upd v x R) 15 F))
      have BE := belowRow' DE.out.low (show w.heap.size ≤ g + 1 + 1 + 1 by have := GL.out; omega) (rg (upd (upd v x R) 15 F))
      generalize World.setRow _ _ _ = w9 at RE BE ⊢
      clear DE
      go_wp2_with fail
      exact bodyPost_ret (results_cell_slot8 rfl _ _ (g + 1 + 1 + 1) _ _ _ _ rfl rfl RE aggPat (rg_size _)) rfl ⟨by rw [AE.out]; rfl, BE⟩
    by_cases h15 : op = 15
    · subst h15
      obtain ⟨d, e, R, ⟨q1, q2, q3, q4, q5⟩, eR⟩ := alu_dif vx vy
      obtain ⟨F, eF⟩ : ∃ F, b2 (decide (v y ≤ v x)) = F := ⟨_, rfl⟩
      have FB := Lib.hid (show F ≤ 1 by rw [← eF]; exact b2_le _)
      have FL := Lib.hid (fun u : World => eF ▸ rflag_any (decide (v y ≤ v x)) u)
      have AE := Lib.hid (show aluV v ⟨15, x, y, n, nn, addr, len⟩ q = upd (upd v x R) 15 F from AV.out R (some F) (by rw [hs]; unfold aluF; rw [← eF]; simp) (by unfold aluR; rw [eR]; simp) (by decide))
      clear eR eF
      go_wp2_with fail
      refine (FL.out _).mono ?_
      rintro e w' ⟨rfl, rfl⟩
      have wf := u8_wrap (show F < 256 by have := FB.out; omega)
      have f0 : (F : Int) ≥ 0 := by omega
      go_upto_region 38 with fail
      have DM := Lib.hid (D0.out.put HX.out.1 R)
      clear D0 cx cy fx f15 c15 i0 i1 i2 i4 p1 p4
      generalize World.setCell _ _ _ = w4 at DM ⊢
      have c15 := DM.out.cx (show 15 < 16 by decide)
      have f15 := DM.out.r.frozen 15
      go_upto_region 40 with fail
      have DE := Lib.hid (DM.out.put (show 15 < 16 by decide) F)
      clear DM c15 f15
      generalize World.setCell _ _ _ = w5 at DE ⊢
      refine wp_region_lit ?_
      refine list_load_all aggPat DE.out.r (rg_size _) rfl (.tmp 3) rfl rfl ?_
      simp only [Act.put, List.setIfInBounds_toArray, List.set_cons_zero, List.set_cons_succ]
      refine list_store_all aggPat DE.out.o (pc_size _) (rg_size _) (rg_one _) rfl (.tmp 6) (.tmp 111) rfl rfl rfl ?_
      simp only [Act.put, List.setIfInBounds_toArray, List.set_cons_zero, List.set_cons_succ]
      have RE := DE.out.o.store (rg (upd (upd v x R) 15 F))
      have BE := belowRow' DE.out.low (show w.heap.size ≤ g + 1 + 1 + 1 by have := GL.out; omega) (rg (upd (upd v x R) 15 F))
      generalize World.setRow _ _ _ = w9 at RE BE ⊢
      clear DE
      go_wp2_with fail
      exact bodyPost_ret (results_cell_slot8 rfl _ _ (g + 1 + 1 + 1) _ _ _ _ rfl rfl RE aggPat (rg_size _)) rfl ⟨by rw [AE.out]; rfl, BE⟩
    by_cases h16 : op = 16
    · subst h16
      obtain ⟨R, F, ⟨q1, q2, q3, q4, q5, q6⟩, eR, eF⟩ := alu_shr (show v x < 256 from vx)
      have f0 : (F : Int) ≥ 0 := by omega
      have AE := Lib.hid (show aluV v ⟨16, x, y, n, nn, addr, len⟩ q = upd (upd v x R) 15 F from AV.out R (some F) (by rw [hs, eF]; unfold aluF; simp) (by rw [hs, eR]; unfold aluR; simp) (by decide))
      clear eR eF
      go_upto_region 38 with fail
      have DM := Lib.hid (D0.out.put HX.out.1 R)
      clear D0 cx cy fx f15 c15 i0 i1 i2 i4 p1 p4
      generalize World.setCell _ _ _ = w4 at DM ⊢
      have c15 := DM.out.cx (show 15 < 16 by decide)
      have f15 := DM.out.r.frozen 15
      go_upto_region 40 with fail
      have DE := Lib.hid (DM.out.put (show 15 < 16 by decide) F)
      clear DM c15 f15
      generalize World.setCell _ _ _ = w5 at DE ⊢
      refine wp_region_lit ?_
      refine list_load_all aggPat DE.out.r (rg_size _) rfl (.tmp 3) rfl rfl ?_
      simp only [Act.put, List.setIfInBounds_toArray, List.set_cons_zero, List.set_cons_succ]
      refine list_store_all aggPat DE.out.o (pc_size _) (rg_size _) (rg_one _) rfl (.tmp 6) (.tmp 111) rfl rfl rfl ?_
      simp only [Act.put, List.setIfInBounds_toArray, List.set_cons_zero, List.set_cons_succ]
      have RE := DE.out.o.store (rg (upd (upd v x R) 15 F))
      have BE := belowRow' DE.out.low (show w.heap.size ≤ g + 1 + 1 + 1 by have := GL.out; omega) (rg (upd (upd v x R) 15 F))
      generalize World.setRow _ _ _ = w9 at RE BE ⊢
      clear DE
      go_wp2_with fail
      exact bodyPost_ret (results_cell_slot8 rfl _ _ (g + 1 + 1 + 1) _ _ _ _ rfl rfl RE aggPat (rg_size _)) rfl ⟨by rw [AE.out]; rfl, BE⟩
    by_cases h17 : op = 17
    · subst h17
      obtain ⟨d, e, R, ⟨q1, q2, q3, q4, q5⟩, eR⟩ := alu_dif vy vx
      obtain ⟨F, eF⟩ : ∃ F, b2 (decide (v x ≤ v y)) = F := ⟨_, rfl⟩
      have FB := Lib.hid (show F ≤ 1 by rw [← eF]; exact b2_le _)
      have FL := Lib.hid (fun u : World => eF ▸ rflag_any (decide (v x ≤ v y)) u)
      have AE := Lib.hid (show aluV v ⟨17, x, y, n, nn, addr, len⟩ q = upd (upd v x R) 15 F from AV.out R (some F) (by rw [hs]; unfold aluF; rw [← eF]; simp) (by unfold aluR; rw [eR]; simp) (by decide))
      clear eR eF
      go_wp2_with fail
      refine (FL.out _).mono ?_
      rintro e w' ⟨rfl, rfl⟩
      have wf := u8_wrap (show F < 256 by have := FB.out; omega)
      have f0 : (F : Int) ≥ 0 := by omega
      go_upto_region 38 with fail
      have DM := Lib.hid (D0.out.put HX.out.1 R)
      clear D0 cx cy fx f15 c15 i0 i1 i2 i4 p1 p4
      generalize World.setCell _ _ _ = w4 at DM ⊢
      have c15 := DM.out.cx (show 15 < 16 by decide)
      have f15 := DM.out.r.frozen 15
      go_upto_region 40 with fail
      have DE := Lib.hid (DM.out.put (show 15 < 16 by decide) F)
      clear DM c15 f15
      generalize World.setCell _ _ _ = w5 at DE ⊢
      refine wp_region_lit ?_
      refine list_load_all aggPat DE.out.r (rg_size _) rfl (.tmp 3) rfl rfl ?_
      simp only [Act.put, List.setIfInBounds_toArray, List.set_cons_zero, List.set_cons_succ]
      refine list_store_all aggPat DE.out.o (pc_size _) (rg_size _) (rg_one _) rfl (.tmp 6) (.tmp 111) rfl rfl rfl ?_
      simp only [Act.put, List.setIfInBounds_toArray, List.set_cons_zero, List.set_cons_succ]
      have RE := DE.out.o.store (rg (upd (upd v x R) 15 F))
      have BE := belowRow' DE.out.low (show w.heap.size ≤ g + 1 + 1 + 1 by have := GL.out; omega) (rg (upd (upd v x R) 15 F))
      generalize World.setRow _ _ _ = w9 at RE BE ⊢
      clear DE
      go_wp2_with fail
      exact bodyPost_ret (results_cell_slot8 rfl _ _ (g + 1 + 1 + 1) _ _ _ _ rfl rfl RE aggPat (rg_size _)) rfl ⟨by rw [AE.out]; rfl, BE⟩
    by_cases h18 : op = 18
    · subst h18
      obtain ⟨d, R, F, ⟨q1, q2, q3, q4, q5, q6, q7⟩, eR, eF⟩ := alu_shl (show v x < 256 from vx)
      have f0 : (F : Int) ≥ 0 := by omega
      have AE := Lib.hid (show aluV v ⟨18, x, y, n, nn, addr, len⟩ q = upd (upd v x R) 15 F from AV.out R (some F) (by rw [hs, eF]; unfold aluF; simp) (by rw [hs, eR]; unfold aluR; simp) (by decide))
      clear eR eF
      go_upto_region 38 with fail
      have DM := Lib.hid (D0.out.put HX.out.1 R)
      clear D0 cx cy fx f15 c15 i0 i1 i2 i4 p1 p4
      generalize World.setCell _ _ _ = w4 at DM ⊢
      have c15 := DM.out.cx (show 15 < 16 by decide)
      have f15 := DM.out.r.frozen 15
      go_upto_region 40 with fail
      have DE := Lib.hid (DM.out.put (show 15 < 16 by decide) F)
      clear DM c15 f15
      generalize World.setCell _ _ _ = w5 at DE ⊢
      refine wp_region_lit ?_
      refine list_load_all aggPat DE.out.r (rg_size _) rfl (.tmp 3) rfl rfl ?_
      simp only [Act.put, List.setIfInBounds_toArray, List.set_cons_zero, List.set_cons_succ]
      refine list_store_all aggPat DE.out.o (pc_size _) (rg_size _) (rg_one _) rfl (.tmp 6) (.tmp 111) rfl rfl rfl ?_
      simp only [Act.put, List.setIfInBounds_toArray, List.set_cons_zero, List.set_cons_succ]
      have RE := DE.out.o.store (rg (upd (upd v x R) 15 F))
      have BE := belowRow' DE.out.low (show w.heap.size ≤ g + 1 + 1 + 1 by have := GL.out; omega) (rg (upd (upd v x R) 15 F))
      generalize World.setRow _ _ _ = w9 at RE BE ⊢
      clear DE
      go_wp2_with fail
      exact bodyPost_ret (results_cell_slot8 rfl _ _ (g + 1 + 1 + 1) _ _ _ _ rfl rfl RE aggPat (rg_size _)) rfl ⟨by rw [AE.out]; rfl, BE⟩
    have b0 := fun k : Int => fun h : op ≠ k => (show (op == k) = false from by simpa using h)
    have AO := Lib.hid (show aluV v ⟨op, x, y, n, nn, addr, len⟩ q = v ∧ aluIs op = false from by
      have h : aluIs op = false := by unfold aluIs; rw [Bool.and_eq_false_iff, decide_eq_false_iff_not, decide_eq_false_iff_not]; omega
      exact ⟨by unfold aluV; rw [h]; rfl, h⟩)
    have e8 := b0 8 h8
    have e9 := b0 9 h9
    have e10 := b0 10 h10
    have e11 := b0 11 h11
    have e12 := b0 12 h12
    have e13 := b0 13 h13
    have e14 := b0 14 h14
    have e15 := b0 15 h15
    have e16 := b0 16 h16
    have e17 := b0 17 h17
    have e18 := b0 18 h18
    clear b0 AV
    go_upto_region 9 with fail
    refine wp_region_lit ?_
    refine list_load_all aggPat D0.out.r (rg_size _) rfl (.tmp 3) rfl rfl ?_
    simp only [Act.put, List.setIfInBounds_toArray, List.set_cons_zero, List.set_cons_succ]
    refine list_store_all aggPat D0.out.o (pc_size _) (rg_size _) (rg_one _) rfl (.tmp 6) (.tmp 29) rfl rfl rfl ?_
    simp only [Act.put, List.setIfInBounds_toArray, List.set_cons_zero, List.set_cons_succ]
    have RE := D0.out.o.store (rg v)
    have BE := belowRow' D0.out.low (show w.heap.size ≤ g + 1 + 1 + 1 by have := GL.out; omega) (rg v)
    generalize World.setRow _ _ _ = w9 at RE BE ⊢
    clear D0
    go_wp2_with fail
    exact bodyPost_ret (results_cell_slot8 rfl _ _ (g + 1 + 1 + 1) _ _ _ _ rfl rfl RE aggPat (rg_size _)) rfl ⟨by rw [AO.out.1, AO.out.2]; rfl, BE⟩
  · rw [hs] at p1
    by_cases h8 : op = 8
    · subst h8
      have wn := u8_wrap HX.out.2.2
      have AE := Lib.hid (show aluV v ⟨8, x, y, n, nn, addr, len⟩ q = upd v x nn from AV.out nn (none) (by rw [hs]; unfold aluF; simp) (by unfold aluR; simp) (by decide))
      go_upto_region 40 with fail
      have DE := Lib.hid (D0.out.put HX.out.1 nn)
      clear D0
      generalize World.setCell _ _ _ = w5 at DE ⊢
      refine wp_region_lit ?_
      refine list_load_all aggPat DE.out.r (rg_size _) rfl (.tmp 3) rfl rfl ?_
      simp only [Act.put, List.setIfInBounds_toArray, List.set_cons_zero, List.set_cons_succ]
      refine list_store_all aggPat DE.out.o (pc_size _) (rg_size _) (rg_one _) rfl (.tmp 6) (.tmp 111) rfl rfl rfl ?_
      simp only [Act.put, List.setIfInBounds_toArray, List.set_cons_zero, List.set_cons_succ]
      have RE := DE.out.o.store (rg (upd v x nn))
      have BE := belowRow' DE.out.low (show w.heap.size ≤ g + 1 + 1 + 1 by have := GL.out; omega) (rg (upd v x nn))
      generalize World.setRow _ _ _ = w9 at RE BE ⊢
      clear DE
      go_wp2_with fail
      exact bodyPost_ret (results_cell_slot8 rfl _ _ (g + 1 + 1 + 1) _ _ _ _ rfl rfl RE aggPat (rg_size _)) rfl ⟨by rw [AE.out]; rfl, BE⟩
    by_cases h9 : op = 9
    · subst h9
      obtain ⟨d, R, ⟨q1, q2, q3, q4⟩, eR, ed⟩ := alu_sum vx HX.out.2.2
      have AE := Lib.hid (show aluV v ⟨9, x, y, n, nn, addr, len⟩ q = upd v x R from AV.out R (none) (by rw [hs]; unfold aluF; simp) (by unfold aluR; rw [eR]; simp) (by decide))
      clear eR ed
      go_upto_region 40 with fail
      have DE := Lib.hid (D0.out.put HX.out.1 R)
      clear D0
      generalize World.setCell _ _ _ = w5 at DE ⊢
      refine wp_region_lit ?_
      refine list_load_all aggPat DE.out.r (rg_size _) rfl (.tmp 3) rfl rfl ?_
      simp only [Act.put, List.setIfInBounds_toArray, List.set_cons_zero, List.set_cons_succ]
      refine list_store_all aggPat DE.out.o (pc_size _) (rg_size _) (rg_one _) rfl (.tmp 6) (.tmp 111) rfl rfl rfl ?_
      simp only [Act.put, List.setIfInBounds_toArray, List.set_cons_zero, List.set_cons_succ]
      have RE := DE.out.o.store (rg (upd v x R))
      have BE := belowRow' DE.out.low (show w.heap.size ≤ g + 1 + 1 + 1 by have := GL.out; omega) (rg (upd v x R))
      generalize World.setRow _ _ _ = w9 at RE BE ⊢
      clear DE
      go_wp2_with fail
      exact bodyPost_ret (results_cell_slot8 rfl _ _ (g + 1 + 1 + 1) _ _ _ _ rfl rfl RE aggPat (rg_size _)) rfl ⟨by rw [AE.out]; rfl, BE⟩
    by_cases h10 : op = 10
    · subst h10
      have wn := u8_wrap vy
      have AE := Lib.hid (show aluV v ⟨10, x, y, n, nn, addr, len⟩ q = upd v x (v y) from AV.out (v y) (none) (by rw [hs]; unfold aluF; simp) (by unfold aluR; simp) (by decide))
      go_upto_region 40 with fail
      have DE := Lib.hid (D0.out.put HX.out.1 (v y))
      clear D0
      generalize World.setCell _ _ _ = w5 at DE ⊢
      refine wp_region_lit ?_
      refine list_load_all aggPat DE.out.r (rg_size _) rfl (.tmp 3) rfl rfl ?_
      simp only [Act.put, List.setIfInBounds_toArray, List.set_cons_zero, List.set_cons_succ]
      refine list_store_all aggPat DE.out.o (pc_size _) (rg_size _) (rg_one _) rfl (.tmp 6) (.tmp 111) rfl rfl rfl ?_
      simp only [Act.put, List.setIfInBounds_toArray, List.set_cons_zero, List.set_cons_succ]
      have RE := DE.out.o.store (rg (upd v x (v y)))
      have BE := belowRow' DE.out.low (show w.heap.size ≤ g + 1 + 1 + 1 by have := GL.out; omega) (rg (upd v x (v y)))
      generalize World.setRow _ _ _ = w9 at RE BE ⊢
      clear DE
      go_wp2_with fail
      exact bodyPost_ret (results_cell_slot8 rfl _ _ (g + 1 + 1 + 1) _ _ _ _ rfl rfl RE aggPat (rg_size _)) rfl ⟨by rw [AE.out]; rfl, BE⟩
    by_cases h11 : op = 11
    · subst h11
      cases hl : q.lr
      · rw [hl] at p4
        obtain ⟨R, eR⟩ : ∃ R, v x ||| v y = R := ⟨_, rfl⟩
        have RB := Lib.hid (show R < 256 by rw [← eR]; exact or_lt vx vy)
        have BI := Lib.hid (fun w => eR ▸ rbits_or (v x) (v y) w vx vy)
        have AE := Lib.hid (show aluV v ⟨11, x, y, n, nn, addr, len⟩ q = upd v x R from AV.out R (none) (by rw [hs]; unfold aluF; simp [hl]) (by unfold aluR; rw [← eR]; simp) (by decide))
        clear eR
        go_wp2_with fail
        refine (BI.out _).mono ?_
        rintro e w' ⟨rfl, rfl⟩
        have wr := u8_wrap RB.out
        have wf := u8_wrap (show 0 < 256 by decide)
        go_upto_region 40 with fail
        have DE := Lib.hid (D0.out.put HX.out.1 R)
        clear D0
        generalize World.setCell _ _ _ = w5 at DE ⊢
        refine wp_region_lit ?_
        refine list_load_all aggPat DE.out.r (rg_size _) rfl (.tmp 3) rfl rfl ?_
        simp only [Act.put, List.setIfInBounds_toArray, List.set_cons_zero, List.set_cons_succ]
        refine list_store_all aggPat DE.out.o (pc_size _) (rg_size _) (rg_one _) rfl (.tmp 6) (.tmp 111) rfl rfl rfl ?_
        simp only [Act.put, List.setIfInBounds_toArray, List.set_cons_zero, List.set_cons_succ]
        have RE := DE.out.o.store (rg (upd v x R))
        have BE := belowRow' DE.out.low (show w.heap.size ≤ g + 1 + 1 + 1 by have := GL.out; omega) (rg (upd v x R))
        generalize World.setRow _ _ _ = w9 at RE BE ⊢
        clear DE
        go_wp2_with fail
        exact bodyPost_ret (results_cell_slot8 rfl _ _ (g + 1 + 1 + 1) _ _ _ _ rfl rfl RE aggPat (rg_size _)) rfl ⟨by rw [AE.out]; rfl, BE⟩
      · rw [hl] at p4
        obtain ⟨R, eR⟩ : ∃ R, v x ||| v y = R := ⟨_, rfl⟩
        have RB := Lib.hid (show R < 256 by rw [← eR]; exact or_lt vx vy)
        have BI := Lib.hid (fun w => eR ▸ rbits_or (v x) (v y) w vx vy)
        have AE := Lib.hid (show aluV v ⟨11, x, y, n, nn, addr, len⟩ q = upd (upd v x R) 15 0 from AV.out R (some 0) (by rw [hs]; unfold aluF; simp [hl]) (by unfold aluR; rw [← eR]; simp) (by decide))
        clear eR
        go_wp2_with fail
        refine (BI.out _).mono ?_
        rintro e w' ⟨rfl, rfl⟩
        have wr := u8_wrap RB.out
        have wf := u8_wrap (show 0 < 256 by decide)
        go_upto_region 38 with fail
        have DM := Lib.hid (D0.out.put HX.out.1 R)
        clear D0 cx cy fx f15 c15 i0 i1 i2 i4 p1 p4
        generalize World.setCell _ _ _ = w4 at DM ⊢
        have c15 := DM.out.cx (show 15 < 16 by decide)
        have f15 := DM.out.r.frozen 15
        go_upto_region 40 with fail
        have DE := Lib.hid (DM.out.put (show 15 < 16 by decide) 0)
        clear DM c15 f15
        generalize World.setCell _ _ _ = w5 at DE ⊢
        refine wp_region_lit ?_
        refine list_load_all aggPat DE.out.r (rg_size _) rfl (.tmp 3) rfl rfl ?_
        simp only [Act.put, List.setIfInBounds_toArray, List.set_cons_zero, List.set_cons_succ]
        refine list_store_all aggPat DE.out.o (pc_size _) (rg_size _) (rg_one _) rfl (.tmp 6) (.tmp 111) rfl rfl rfl ?_
        simp only [Act.put, List.setIfInBounds_toArray, List.set_cons_zero, List.set_cons_succ]
        have RE := DE.out.o.store (rg (upd (upd v x R) 15 0))
        have BE := belowRow' DE.out.low (show w.heap.size ≤ g + 1 + 1 + 1 by have := GL.out; omega) (rg (upd (upd v x R) 15 0))
        generalize World.setRow _ _ _ = w9 at RE BE ⊢
        clear DE
        go_wp2_with fail
        exact bodyPost_ret (results_cell_slot8 rfl _ _ (g + 1 + 1 + 1) _ _ _ _ rfl rfl RE aggPat (rg_size _)) rfl ⟨by rw [AE.out]; rfl, BE⟩
    by_cases h12 : op = 12
    · subst h12
      cases hl : q.lr
      · rw [hl] at p4
        obtain ⟨R, eR⟩ : ∃ R, v x &&& v y = R := ⟨_, rfl⟩
        have RB := Lib.hid (show R < 256 by rw [← eR]; exact and_lt vx vy)
        have BI := Lib.hid (fun w => eR ▸ rbits_and (v x) (v y) w vx vy)
        have AE := Lib.hid (show aluV v ⟨12, x, y, n, nn, addr, len⟩ q = upd v x R from AV.out R (none) (by rw [hs]; unfold aluF; simp [hl]) (by unfold aluR; rw [← eR]; simp) (by decide))
        clear eR
        go_wp2_with fail
        refine (BI.out _).mono ?_
        rintro e w' ⟨rfl, rfl⟩
        have wr := u8_wrap RB.out
        have wf := u8_wrap (show 0 < 256 by decide)
        go_upto_region 40 with fail
        have DE := Lib.hid (D0.out.put HX.out.1 R)
        clear D0
        generalize World.setCell _ _ _ = w5 at DE ⊢
        refine wp_region_lit ?_
        refine list_load_all aggPat DE.out.r (rg_size _) rfl (.tmp 3) rfl rfl ?_
        simp only [Act.put, List.setIfInBounds_toArray, List.set_cons_zero, List.set_cons_succ]
        refine list_store_all aggPat DE.out.o (pc_size _) (rg_size _) (rg_one _) rfl (.tmp 6) (.tmp 111) rfl rfl rfl ?_
        simp only [Act.put, List.setIfInBounds_toArray, List.set_cons_zero, List.set_cons_succ]
        have RE := DE.out.o.store (rg (upd v x R))
        have BE := belowRow' DE.out.low (show w.heap.size ≤ g + 1 + 1 + 1 by have := GL.out; omega) (rg (upd v x R))
        generalize World.setRow _ _ _ = w9 at RE BE ⊢
        clear DE
        go_wp2_with fail
        exact bodyPost_ret (results_cell_slot8 rfl _ _ (g + 1 + 1 + 1) _ _ _ _ rfl rfl RE aggPat (rg_size _)) rfl ⟨by rw [AE.out]; rfl, BE⟩
      · rw [hl] at p4
        obtain ⟨R, eR⟩ : ∃ R, v x &&& v y = R := ⟨_, rfl⟩
        have RB := Lib.hid (show R < 256 by rw [← eR]; exact and_lt vx vy)
        have BI := Lib.hid (fun w => eR ▸ rbits_and (v x) (v y) w vx vy)
        have AE := Lib.hid (show aluV v ⟨12, x, y, n, nn, addr, len⟩ q = upd (upd v x R) 15 0 from AV.out R (some 0) (by rw [hs]; unfold aluF; simp [hl]) (by unfold aluR; rw [← eR]; simp) (by decide))
        clear eR
        go_wp2_with fail
        refine (BI.out _).mono ?_
        rintro e w' ⟨rfl, rfl⟩
        have wr := u8_wrap RB.out
        have wf := u8_wrap (show 0 < 256 by decide)
        go_upto_region 38 with fail
        have DM := Lib.hid (D0.out.put HX.out.1 R)
        clear D0 cx cy fx f15 c15 i0 i1 i2 i4 p1 p4
        generalize World.setCell _ _ _ = w4 at DM ⊢
        have c15 := DM.out.cx (show 15 < 16 by decide)
        have f15 := DM.out.r.frozen 15
        go_upto_region 40 with fail
        have DE := Lib.hid (DM.out.put (show 15 < 16 by decide) 0)
        clear DM c15 f15
        generalize World.setCell _ _ _ = w5 at DE ⊢
        refine wp_region_lit ?_
        refine list_load_all aggPat DE.out.r (rg_size _) rfl (.tmp 3) rfl rfl ?_
        simp only [Act.put, List.setIfInBounds_toArray, List.set_cons_zero, List.set_cons_succ]
        refine list_store_all aggPat DE.out.o (pc_size _) (rg_size _) (rg_one _) rfl (.tmp 6) (.tmp 111) rfl rfl rfl ?_
        simp only [Act.put, List.setIfInBounds_toArray, List.set_cons_zero, List.set_cons_succ]
        have RE := DE.out.o.store (rg (upd (upd v x R) 15 0))
        have BE := belowRow' DE.out.low (show w.heap.size ≤ g + 1 + 1 + 1 by have := GL.out; omega) (rg (upd (upd v x R) 15 0))
        generalize World.setRow _ _ _ = w9 at RE BE ⊢
        clear DE
        go_wp2_with fail
        exact bodyPost_ret (results_cell_slot8 rfl _ _ (g + 1 + 1 + 1) _ _ _ _ rfl rfl RE aggPat (rg_size _)) rfl ⟨by rw [AE.out]; rfl, BE⟩
    by_cases h13 : op = 13
    · subst h13
      cases hl : q.lr
      · rw [hl] at p4
        obtain ⟨R, eR⟩ : ∃ R, v x ^^^ v y = R := ⟨_, rfl⟩
        have RB := Lib.hid (show R < 256 by rw [← eR]; exact xor_lt vx vy)
        have BI := Lib.hid (fun w => eR ▸ rbits_xor (v x) (v y) w vx vy)
        have AE := Lib.hid (show aluV v ⟨13, x, y, n, nn, addr, len⟩ q = upd v x R from AV.out R (none) (by rw [hs]; unfold aluF; simp [hl]) (by unfold aluR; rw [← eR]; simp) (by decide))
        clear eR
        go_wp2_with fail
        refine (BI.out _).mono ?_
        rintro e w' ⟨rfl, rfl⟩
        have wr := u8_wrap RB.out
        have wf := u8_wrap (show 0 < 256 by decide)
        go_upto_region 40 with fail
        have DE := Lib.hid (D0.out.put HX.out.1 R)
        clear D0
        generalize World.setCell _ _ _ = w5 at DE ⊢
        refine wp_region_lit ?_
        refine list_load_all aggPat DE.out.r (rg_size _) rfl (.tmp 3) rfl rfl ?_
        simp only [Act.put, List.setIfInBounds_toArray, List.set_cons_zero, List.set_cons_succ]
        refine list_store_all aggPat DE.out.o (pc_size _) (rg_size _) (rg_one _) rfl (.tmp 6) (.tmp 111) rfl rfl rfl ?_
        simp only [Act.put, List.setIfInBounds_toArray, List.set_cons_zero, List.set_cons_succ]
        have RE := DE.out.o.store (rg (upd v x R))
        have BE := belowRow' DE.out.low (show w.heap.size ≤ g + 1 + 1 + 1 by have := GL.out; omega) (rg (upd v x R))
        generalize World.setRow _ _ _ = w9 at RE BE ⊢
        clear DE
        go_wp2_with fail
        exact bodyPost_ret (results_cell_slot8 rfl _ _ (g + 1 + 1 + 1) _ _ _ _ rfl rfl RE aggPat (rg_size _)) rfl ⟨by rw [AE.out]; rfl, BE⟩
      · rw [hl] at p4
        obtain ⟨R, eR⟩ : ∃ R, v x ^^^ v y = R := ⟨_, rfl⟩
        have RB := Lib.hid (show R < 256 by rw [← eR]; exact xor_lt vx vy)
        have BI := Lib.hid (fun w => eR ▸ rbits_xor (v x) (v y) w vx vy)
        have AE := Lib.hid (show aluV v ⟨13, x, y, n, nn, addr, len⟩ q = upd (upd v x R) 15 0 from AV.out R (some 0) (by rw [hs]; unfold aluF; simp [hl]) (by unfold aluR; rw [← eR]; simp) (by decide))
        clear eR
        go_wp2_with fail
        refine (BI.out _).mono ?_
        rintro e w' ⟨rfl, rfl⟩
        have wr := u8_wrap RB.out
        have wf := u8_wrap (show 0 < 256 by decide)
        go_upto_region 38 with fail
        have DM := Lib.hid (D0.out.put HX.out.1 R)
        clear D0 cx cy fx f15 c15 i0 i1 i2 i4 p1 p4
        generalize World.setCell _ _ _ = w4 at DM ⊢
        have c15 := DM.out.cx (show 15 < 16 by decide)
        have f15 := DM.out.r.frozen 15
        go_upto_region 40 with fail
        have DE := Lib.hid (DM.out.put (show 15 < 16 by decide) 0)
        clear DM c15 f15
        generalize World.setCell _ _ _ = w5 at DE ⊢
        refine wp_region_lit ?_
        refine list_load_all aggPat DE.out.r (rg_size _) rfl (.tmp 3) rfl rfl ?_
        simp only [Act.put, List.setIfInBounds_toArray, List.set_cons_zero, List.set_cons_succ]
        refine list_store_all aggPat DE.out.o (pc_size _) (rg_size _) (rg_one _) rfl (.tmp 6) (.tmp 111) rfl rfl rfl ?_
        simp only [Act.put, List.setIfInBounds_toArray, List.set_cons_zero, List.set_cons_succ]
        have RE := DE.out.o.store (rg (upd (upd v x R) 15 0))
        have BE := belowRow' DE.out.low (show w.heap.size ≤ g + 1 + 1 + 1 by have := GL.out; omega) (rg (upd (upd v x R) 15 0))
        generalize World.setRow _ _ _ = w9 at RE BE ⊢
        clear DE
        go_wp2_with fail
        exact bodyPost_ret (results_cell_slot8 rfl _ _ (g + 1 + 1 + 1) _ _ _ _ rfl rfl RE aggPat (rg_size _)) rfl ⟨by rw [AE.out]; rfl, BE⟩
    by_cases h14 : op = 14
    · subst h14
      obtain ⟨d, R, ⟨q1, q2, q3, q4⟩, eR, ed⟩ := alu_sum vx vy
      obtain ⟨F, eF⟩ : ∃ F, b2 (decide (255 < v x + v y)) = F := ⟨_, rfl⟩
      have FB := Lib.hid (show F ≤ 1 by rw [← eF]; exact b2_le _)
      have eb : b2 (decide (255 < d)) = F := by
        rw [← eF]
        exact congrArg b2 (by rw [decide_eq_decide, ed]; omega)
      have FL := Lib.hid (fun u : World => eb ▸ rflag_any (decide (255 < d)) u)
      clear eb
      have AE := Lib.hid (show aluV v ⟨14, x, y, n, nn, addr, len⟩ q = upd (upd v x R) 15 F from AV.out R (some F) (by rw [hs]; unfold aluF; rw [← eF]; simp) (by unfold aluR; rw [eR]; simp) (by decide))
      clear eR eF
      clear ed
      go_wp2_with fail
      refine (FL.out _).mono ?_
      rintro e w' ⟨rfl, rfl⟩
      have wf := u8_wrap (show F < 256 by have := FB.out; omega)
      have f0 : (F : Int) ≥ 0 := by omega
      go_upto_region 38 with fail
      have DM := Lib.hid (D0.out.put HX.out.1 R)
      clear D0 cx cy fx f15 c15 i0 i1 i2 i4 p1 p4
      generalize World.setCell _ _ _ = w4 at DM ⊢
      have c15 := DM.out.cx (show 15 < 16 by decide)
      have f15 := DM.out.r.frozen 15
      go_upto_region 40 with fail
      have DE := Lib.hid (DM.out.put (show 15 < 16 by decide) F)
      clear DM c15 f15
      generalize World.setCell _ _ _ = w5 at DE ⊢
      refine wp_region_lit ?_
      refine list_load_all aggPat DE.out.r (rg_size _) rfl (.tmp 3) rfl rfl ?_
      simp only [Act.put, List.setIfInBounds_toArray, List.set_cons_zero, List.set_cons_succ]
      refine list_store_all aggPat DE.out.o (pc_size _) (rg_size _) (rg_one _) rfl (.tmp 6) (.tmp 111) rfl rfl rfl ?_
      simp only [Act.put, List.setIfInBounds_toArray, List.set_cons_zero, List.set_cons_succ]
      have RE := DE.out.o.store (rg (upd (upd v x R) 15 F))
      have BE := belowRow' DE.out.low (show w.heap.size ≤ g + 1 + 1 + 1 by have := GL.out; omega) (rg (upd (upd v x R) 15 F))
      generalize World.setRow _ _ _ = w9 at RE BE ⊢
      clear DE
      go_wp2_with fail
      exact bodyPost_ret (results_cell_slot8 rfl _ _ (g + 1 + 1 + 1) _ _ _ _ rfl rfl RE aggPat (rg_size _)) rfl ⟨by rw [AE.out]; rfl, BE⟩
    by_cases h15 : op = 15
    · subst h15
      obtain ⟨d, e, R, ⟨q1, q2, q3, q4, q5⟩, eR⟩ := alu_dif vx vy
      obtain ⟨F, eF⟩ : ∃ F, b2 (decide (v y ≤ v x)) = F := ⟨_, rfl⟩
      have FB := Lib.hid (show F ≤ 1 by rw [← eF]; exact b2_le _)
      have FL := Lib.hid (fun u : World => eF ▸ rflag_any (decide (v y ≤ v x)) u)
      have AE := Lib.hid (show aluV v ⟨15, x, y, n, nn, addr, len⟩ q = upd (upd v x R) 15 F from AV.out R (some F) (by rw [hs]; unfold aluF; rw [← eF]; simp) (by unfold aluR; rw [eR]; simp) (by decide))
      clear eR eF
      go_wp2_with fail
      refine (FL.out _).mono ?_
      rintro e w' ⟨rfl, rfl⟩
      have wf := u8_wrap (show F < 256 by have := FB.out; omega)
      have f0 : (F : Int) ≥ 0 := by omega
      go_upto_region 38 with fail
      have DM := Lib.hid (D0.out.put HX.out.1 R)
      clear D0 cx cy fx f15 c15 i0 i1 i2 i4 p1 p4
      generalize World.setCell _ _ _ = w4 at DM ⊢
      have c15 := DM.out.cx (show 15 < 16 by decide)
      have f15 := DM.out.r.frozen 15
      go_upto_region 40 with fail
      have DE := Lib.hid (DM.out.put (show 15 < 16 by decide) F)
      clear DM c15 f15
      generalize World.setCell _ _ _ = w5 at DE ⊢
      refine wp_region_lit ?_
      refine list_load_all aggPat DE.out.r (rg_size _) rfl (.tmp 3) rfl rfl ?_
      simp only [Act.put, List.setIfInBounds_toArray, List.set_cons_zero, List.set_cons_succ]
      refine list_store_all aggPat DE.out.o (pc_size _) (rg_size _) (rg_one _) rfl (.tmp 6) (.tmp 111) rfl rfl rfl ?_
      simp only [Act.put, List.setIfInBounds_toArray, List.set_cons_zero, List.set_cons_succ]
      have RE := DE.out.o.store (rg (upd (upd v x R) 15 F))
      have BE := belowRow' DE.out.low (show w.heap.size ≤ g + 1 + 1 + 1 by have := GL.out; omega) (rg (upd (upd v x R) 15 F))
      generalize World.setRow _ _ _ = w9 at RE BE ⊢
      clear DE
      go_wp2_with fail
      exact bodyPost_ret (results_cell_slot8 rfl _ _ (g + 1 + 1 + 1) _ _ _ _ rfl rfl RE aggPat (rg_size _)) rfl ⟨by rw [AE.out]; rfl, BE⟩
    by_cases h16 : op = 16
    · subst h16
      obtain ⟨R, F, ⟨q1, q2, q3, q4, q5, q6⟩, eR, eF⟩ := alu_shr (show v y < 256 from vy)
      have f0 : (F : Int) ≥ 0 := by omega
      have AE := Lib.hid (show aluV v ⟨16, x, y, n, nn, addr, len⟩ q = upd (upd v x R) 15 F from AV.out R (some F) (by rw [hs, eF]; unfold aluF; simp) (by rw [hs, eR]; unfold aluR; simp) (by decide))
      clear eR eF
      go_upto_region 38 with fail
      have DM := Lib.hid (D0.out.put HX.out.1 R)
      clear D0 cx cy fx f15 c15 i0 i1 i2 i4 p1 p4
      generalize World.setCell _ _ _ = w4 at DM ⊢
      have c15 := DM.out.cx (show 15 < 16 by decide)
      have f15 := DM.out.r.frozen 15
      go_upto_region 40 with fail
      have DE := Lib.hid (DM.out.put (show 15 < 16 by decide) F)
      clear DM c15 f15
      generalize World.setCell _ _ _ = w5 at DE ⊢
      refine wp_region_lit ?_
      refine list_load_all aggPat DE.out.r (rg_size _) rfl (.tmp 3) rfl rfl ?_
      simp only [Act.put, List.setIfInBounds_toArray, List.set_cons_zero, List.set_cons_succ]
      refine list_store_all aggPat DE.out.o (pc_size _) (rg_size _) (rg_one _) rfl (.tmp 6) (.tmp 111) rfl rfl rfl ?_
      simp only [Act.put, List.setIfInBounds_toArray, List.set_cons_zero, List.set_cons_succ]
      have RE := DE.out.o.store (rg (upd (upd v x R) 15 F))
      have BE := belowRow' DE.out.low (show w.heap.size ≤ g + 1 + 1 + 1 by have := GL.out; omega) (rg (upd (upd v x R) 15 F))
      generalize World.setRow _ _ _ = w9 at RE BE ⊢
      clear DE
      go_wp2_with fail
      exact bodyPost_ret (results_cell_slot8 rfl _ _ (g + 1 + 1 + 1) _ _ _ _ rfl rfl RE aggPat (rg_size _)) rfl ⟨by rw [AE.out]; rfl, BE⟩
    by_cases h17 : op = 17
    · subst h17
      obtain ⟨d, e, R, ⟨q1, q2, q3, q4, q5⟩, eR⟩ := alu_dif vy vx
      obtain ⟨F, eF⟩ : ∃ F, b2 (decide (v x ≤ v y)) = F := ⟨_, rfl⟩
      have FB := Lib.hid (show F ≤ 1 by rw [← eF]; exact b2_le _)
      have FL := Lib.hid (fun u : World => eF ▸ rflag_any (decide (v x ≤ v y)) u)
      have AE := Lib.hid (show aluV v ⟨17, x, y, n, nn, addr, len⟩ q = upd (upd v x R) 15 F from AV.out R (some F) (by rw [hs]; unfold aluF; rw [← eF]; simp) (by unfold aluR; rw [eR]; simp) (by decide))
      clear eR eF
      go_wp2_with fail
      refine (FL.out _).mono ?_
      rintro e w' ⟨rfl, rfl⟩
      have wf := u8_wrap (show F < 256 by have := FB.out; omega)
      have f0 : (F : Int) ≥ 0 := by omega
      go_upto_region 38 with fail
      have DM := Lib.hid (D0.out.put HX.out.1 R)
      clear D0 cx cy fx f15 c15 i0 i1 i2 i4 p1 p4
      generalize World.setCell _ _ _ = w4 at DM ⊢
      have c15 := DM.out.cx (show 15 < 16 by decide)
      have f15 := DM.out.r.frozen 15
      go_upto_region 40 with fail
      have DE := Lib.hid (DM.out.put (show 15 < 16 by decide) F)
      clear DM c15 f15
      generalize World.setCell _ _ _ = w5 at DE ⊢
      refine wp_region_lit ?_
      refine list_load_all aggPat DE.out.r (rg_size _) rfl (.tmp 3) rfl rfl ?_
      simp only [Act.put, List.setIfInBounds_toArray, List.set_cons_zero, List.set_cons_succ]
      refine list_store_all aggPat DE.out.o (pc_size _) (rg_size _) (rg_one _) rfl (.tmp 6) (.tmp 111) rfl rfl rfl ?_
      simp only [Act.put, List.setIfInBounds_toArray, List.set_cons_zero, List.set_cons_succ]
      have RE := DE.out.o.store (rg (upd (upd v x R) 15 F))
      have BE := belowRow' DE.out.low (show w.heap.size ≤ g + 1 + 1 + 1 by have := GL.out; omega) (rg (upd (upd v x R) 15 F))
      generalize World.setRow _ _ _ = w9 at RE BE ⊢
      clear DE
      go_wp2_with fail
      exact bodyPost_ret (results_cell_slot8 rfl _ _ (g + 1 + 1 + 1) _ _ _ _ rfl rfl RE aggPat (rg_size _)) rfl ⟨by rw [AE.out]; rfl, BE⟩
    by_cases h18 : op = 18
    · subst h18
      obtain ⟨d, R, F, ⟨q1, q2, q3, q4, q5, q6, q7⟩, eR, eF⟩ := alu_shl (show v y < 256 from vy)
      have f0 : (F : Int) ≥ 0 := by omega
      have AE := Lib.hid (show aluV v ⟨18, x, y, n, nn, addr, len⟩ q = upd (upd v x R) 15 F from AV.out R (some F) (by rw [hs, eF]; unfold aluF; simp) (by rw [hs, eR]; unfold aluR; simp) (by decide))
      clear eR eF
      go_upto_region 38 with fail
      have DM := Lib.hid (D0.out.put HX.out.1 R)
      clear D0 cx cy fx f15 c15 i0 i1 i2 i4 p1 p4
      generalize World.setCell _ _ _ = w4 at DM ⊢
      have c15 := DM.out.cx (show 15 < 16 by decide)
      have f15 := DM.out.r.frozen 15
      go_upto_region 40 with fail
      have DE := Lib.hid (DM.out.put (show 15 < 16 by decide) F)
      clear DM c15 f15
      generalize World.setCell _ _ _ = w5 at DE ⊢
      refine wp_region_lit ?_
      refine list_load_all aggPat DE.out.r (rg_size _) rfl (.tmp 3) rfl rfl ?_
      simp only [Act.put, List.setIfInBounds_toArray, List.set_cons_zero, List.set_cons_succ]
      refine list_store_all aggPat DE.out.o (pc_size _) (rg_size _) (rg_one _) rfl (.tmp 6) (.tmp 111) rfl rfl rfl ?_
      simp only [Act.put, List.setIfInBounds_toArray, List.set_cons_zero, List.set_cons_succ]
      have RE := DE.out.o.store (rg (upd (upd v x R) 15 F))
      have BE := belowRow' DE.out.low (show w.heap.size ≤ g + 1 + 1 + 1 by have := GL.out; omega) (rg (upd (upd v x R) 15 F))
      generalize World.setRow _ _ _ = w9 at RE BE ⊢
      clear DE
      go_wp2_with fail
      exact bodyPost_ret (results_cell_slot8 rfl _ _ (g + 1 + 1 + 1) _ _ _ _ rfl rfl RE aggPat (rg_size _)) rfl ⟨by rw [AE.out]; rfl, BE⟩
    have b0 := fun k : Int => fun h : op ≠ k => (show (op == k) = false from by simpa using h)
    have AO := Lib.hid (show aluV v ⟨op, x, y, n, nn, addr, len⟩ q = v ∧ aluIs op = false from by
      have h : aluIs op = false := by unfold aluIs; rw [Bool.and_eq_false_iff, decide_eq_false_iff_not, decide_eq_false_iff_not]; omega
      exact ⟨by unfold aluV; rw [h]; rfl, h⟩)
    have e8 := b0 8 h8
    have e9 := b0 9 h9
    have e10 := b0 10 h10
    have e11 := b0 11 h11
    have e12 := b0 12 h12
    have e13 := b0 13 h13
    have e14 := b0 14 h14
    have e15 := b0 15 h15
    have e16 := b0 16 h16
    have e17 := b0 17 h17
    have e18 := b0 18 h18
    clear b0 AV
    go_upto_region 9 with fail
    refine wp_region_lit ?_
    refine list_load_all aggPat D0.out.r (rg_size _) rfl (.tmp 3) rfl rfl ?_
    simp only [Act.put, List.setIfInBounds_toArray, List.set_cons_zero, List.set_cons_succ]
    refine list_store_all aggPat D0.out.o (pc_size _) (rg_size _) (rg_one _) rfl (.tmp 6) (.tmp 29) rfl rfl rfl ?_
    simp only [Act.put, List.setIfInBounds_toArray, List.set_cons_zero, List.set_cons_succ]
    have RE := D0.out.o.store (rg v)
    have BE := belowRow' D0.out.low (show w.heap.size ≤ g + 1 + 1 + 1 by have := GL.out; omega) (rg v)
    generalize World.setRow _ _ _ = w9 at RE BE ⊢
    clear D0
    go_wp2_with fail
    exact bodyPost_ret (results_cell_slot8 rfl _ _ (g + 1 + 1 + 1) _ _ _ _ rfl rfl RE aggPat (rg_size _)) rfl ⟨by rw [AO.out.1, AO.out.2]; rfl, BE⟩
end Go.Proofs.Ytfjdhhheofcanaa
