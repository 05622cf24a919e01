/- The contract of keep. -/
import Derived.Test.YtgilkbmipgejeaaDoorPk5a
import Derived.Test.YtgilkbmipgejeaaDoorPk0a
namespace Go.Proofs.YtgilkbmipgejeaaDoor
open Go.RowKit Num Dec
set_option linter.unusedVariables false
set_option linter.unusedSimpArgs false
set_option maxRecDepth 100000

theorem PGS.grow {pg : Nat → Option Nat} {T : Nat → Option Ins} {w : World} (H : PGS pg T w) {k : Nat} (hk : k < 256) (hp : pg k = none) : PGS (fun j => if j = k then some w.heap.size else pg j) T (w.alloc (.cells zeroP 108)) := by
  refine ⟨fun j b hj e => ?_, fun j hj e r hr => ?_, fun i j b hi hj e1 e2 => ?_⟩
  · by_cases h : j = k
    · subst h
      simp only [if_true] at e
      injection e with e
      subst e
      exact (PB.new w).congr fun r hr => (H.none_ j hk hp r hr).symm
    · simp only [h, if_false] at e
      have := H.some_ j b hj e
      exact this.keep ((below_new' w _).block b this.lt)
  · by_cases h : j = k
    · simp [h] at e
    · simp only [h, if_false] at e
      exact H.none_ j hj e r hr
  · by_cases h1 : i = k
    · by_cases h2 : j = k
      · rw [h1, h2]
      · simp only [h1, h2, if_true, if_false] at e1 e2
        injection e1 with e1
        have := H.lt hj e2
        omega
    · by_cases h2 : j = k
      · simp only [h1, h2, if_true, if_false] at e1 e2
        injection e2 with e2
        have := H.lt hi e1
        omega
      · simp only [h1, h2, if_false] at e1 e2
        exact H.one i j b hi hj e1 e2
theorem icO_grow (pg : Nat → Option Nat) (p k n : Nat) : Grew (icO pg p) (icO (fun j => if j = k then some n else pg j) p) n := by
  rintro b (rfl | ⟨j, hj, e⟩)
  · exact .inl (.inl rfl)
  · by_cases h : j = k
    · simp only [h, if_true] at e
      injection e with e
      exact .inr (by omega)
    · simp only [h, if_false] at e
      exact .inl (.inr ⟨j, hj, e⟩)
theorem look_cons (l : Ents) (x : Nat) (i : Ins) (hn : lookE l x = none) : ∀ y, (if y = x then some i else lookE l y) = lookE (l ++ [(x, i)]) y := fun y => by
  rw [look_snoc]
  by_cases h : y = x
  · subst h
    rw [if_pos rfl, hn]
    simp
  · rw [if_neg h]
    cases hy : lookE l y with
    | some j => rfl
    | none => simp; omega

/-- What keep does. -/
def KeptC (pg : Nat → Option Nat) (p : Nat) (lv : Int) (en : Bool) (l : Ents) (h m : Int) (w w' : World) : Prop :=
  ∃ pg', CB pg' p lv en (l.length : Int) h m w' ∧ PGS pg' (lookE l) w' ∧ Kept (icO pg p) w w' ∧ Grew (icO pg p) (icO pg' p) w.heap.size

set_option maxHeartbeats 8000000 in
theorem keep16_any (pg : Nat → Option Nat) (p : Nat) (lv : Int) (en : Bool) (h m a : Int) (x : Nat) (i : Ins) (l : Ents) (w : World) (C : CB pg p lv en (l.length : Int) h m w) (G : PGS pg (lookE l) w) (hn : lookE l x = none) (l1 : l.length ≤ 1000000) (hx : a % 65536 = (x : Int)) :
    Calls Tryd.prog 35 #[.pointer (some ⟨p, 0, none⟩), .int .i64 a, .agg (icells i)] w fun e w' => e = .returned (.tuple #[]) ∧ KeptC pg p lv en (l ++ [(x, i)]) h m w w' := by
  have WR := Lib.hid (fun w => mwrap_any a x w hx)
  have hx6 : x < 65536 := by omega
  obtain ⟨k, r, ⟨u1, u2, u3, u4⟩, ek, er⟩ := word_div x hx6
  subst ek er
  have HX := Lib.hid hx6
  have hk : x / 256 < 256 := by omega
  have hr : x % 256 < 256 := by omega
  have LL := Lib.hid (show ((l ++ [(x, i)]).length : Int) = (l.length : Int) + 1 ∧ l.length ≤ 1000000 from ⟨by simp, l1⟩)
  have LC := Lib.hid (look_cons l x i hn)
  have OL := Lib.hid (icO_lt C G)
  have K0 := Lib.hid (show Kept (icO pg p) w (w.alloc (.cells (icells i) 38)) from Kept.of_below (below_new' w _))
  have C0 := Lib.hid (C.keep ((below_new' w (.cells (icells i) 38)).block p C.lt))
  have G0 := Lib.hid (G.kept (O := fun _ => False) (Kept.of_below (below_new' w (.cells (icells i) 38))) (fun _ _ _ _ c => c))
  have X0 := Lib.hid (Blk.new w 38 (icells i))
  have Z0 := Lib.hid (show w.heap.size < (w.alloc (.cells (icells i) 38)).heap.size by simp)
  clear C G hn l1 hx hx6
  go_enter Tryd.func35, Tryd.ntmps35
  go_upto_region 0 with fail
  refine wp_region_lit ?_
  refine list_box_all rfl _ (.tmp 2) rfl (icells i) rfl ?_
  simp only [Act.put, List.setIfInBounds_toArray, List.set_cons_zero, List.set_cons_succ]
  obtain ⟨g, hg⟩ : ∃ g, w.heap.size = g := ⟨_, rfl⟩
  have GO := Lib.hid (show ¬ icO pg p g from fun c => by have := OL.out _ c; omega)
  have SZ := Lib.hid (show w.heap.size = g from hg)
  rw [hg] at X0 Z0 ⊢
  generalize World.alloc _ _ = w1 at X0 C0 G0 K0 Z0 ⊢
  clear hg
  go_wp2_with fail
  refine (WR.out _).mono ?_
  rintro e w' ⟨rfl, rfl⟩
  have c1 := C0.out.page hk
  have NP := Lib.hid (fun j b (hj : j < 256) (e : pg j = some b) => C0.out.notPage G0.out hj e)
  obtain ⟨kk, hkk⟩ : ∃ kk, x / 256 = kk := ⟨_, rfl⟩
  obtain ⟨rr, hrr⟩ : ∃ rr, x % 256 = rr := ⟨_, rfl⟩
  rw [hkk] at u1 u2 hk c1
  rw [hrr] at u3 u4 hr
  have HKK := Lib.hid hkk
  have HRR := Lib.hid hrr
  clear hkk hrr
  cases hp : pg kk with
  | some b =>
    rw [hp] at c1
    simp only [Option.map_some] at c1
    have hpb := hp
    have BO := Lib.hid (show icO pg p b from .inr ⟨_, hk, hp⟩)
    have BK := Lib.hid (show ∀ k, k < w.heap.size → ¬ icO pg p k → k ≠ b from fun k _ hk e => hk (e ▸ BO.out))
    have GW := Lib.hid (show Grew (icO pg p) (icO pg p) w.heap.size from Grew.refl)
    clear hp NP
    go_upto_region 5 with fail
    clear c1
    have Cx := C0
    have Gx := G0
    have Kx := K0
    have Xx := X0
    clear C0 G0 K0 X0
    have cp := Cx.out.page hk
    rw [hpb] at cp
    simp only [Option.map_some] at cp
    have HPB := Lib.hid hpb
    refine tail_region 9 (by kernel_rfl) (by kernel_rfl) ?_
    intro wd hwd
    have Cd := Lib.hid (show CB _ p lv en (l.length : Int) h m wd by rw [hwd]; exact Cx.out.keep rfl)
    have Gd := Lib.hid (show PGS _ (lookE l) wd by rw [hwd]; exact Gx.out.kept (O := fun _ => False) ⟨rfl, rfl, rfl, Nat.le_refl _, fun _ _ _ => rfl⟩ (fun _ _ _ _ c => c))
    have Kd := Lib.hid (show Kept (icO pg p) w wd by rw [hwd]; exact ⟨Kx.out.os, Kx.out.tape, Kx.out.output, Kx.out.size, Kx.out.block⟩)
    have Xd := Lib.hid (show Blk g 38 (icells i) wd by rw [hwd]; exact Xx.out)
    have cp2 : wd.cell? ⟨p, 2 + kk, none⟩ = some (.pointer (some ⟨b, 0, none⟩)) := by rw [hwd]; exact cp
    clear hwd hpb cp Cx Gx Kx Xx
    have d0 : wd.cell? ⟨g, 0, none⟩ = some (.int .i64 i.op) := (Xd.out.cell 0).trans rfl
    have d1 : wd.cell? ⟨g, 1, none⟩ = some (.int .i64 i.x) := (Xd.out.cell 1).trans rfl
    have d2 : wd.cell? ⟨g, 2, none⟩ = some (.int .i64 i.y) := (Xd.out.cell 2).trans rfl
    have d3 : wd.cell? ⟨g, 3, none⟩ = some (.int .i64 i.n) := (Xd.out.cell 3).trans rfl
    have d4 : wd.cell? ⟨g, 4, none⟩ = some (.int .i64 i.nn) := (Xd.out.cell 4).trans rfl
    have d5 : wd.cell? ⟨g, 5, none⟩ = some (.int .i64 i.addr) := (Xd.out.cell 5).trans rfl
    have d6 : wd.cell? ⟨g, 6, none⟩ = some (.int .i64 i.len) := (Xd.out.cell 6).trans rfl
    simp only [List.take_succ_cons, List.take_zero, List.drop_succ_cons, List.drop_zero]
    have hri : (rr : Int) < 256 := by omega
    repeat still_step
    refine wpStill_nil ?_
    clear hri
    clear d0 d1 d2 d3 d4 d5 d6 cp2
    obtain ⟨cs, hb, hs, G5⟩ := Gd.out.put HX.out (some i) (by rw [HKK.out]; exact HPB.out)
    rw [HRR.out] at G5
    have G5 := Lib.hid (G5.congr (S := lookE (l ++ [(x, i)])) fun y _ => LC.out y)
    have bp := Lib.hid (Cd.out.notPage Gd.out hk HPB.out)
    refine list_store_part aggEntry hb rfl (by rw [hs]; omega) (entC_ones (some i)) rfl (.tmp 30) (.tmp 28) rfl rfl rfl ?_
    simp only [Act.put, List.setIfInBounds_toArray, List.set_cons_zero, List.set_cons_succ]
    have C5 := Lib.hid (Cd.out.keep (setRow_other wd b p (splice8 cs (rr * 8) (entC (some i))) (fun e => bp.out e.symm)))
    have K5 := Lib.hid (show Kept (icO pg p) w (wd.setRow b (splice8 cs (rr * 8) (entC (some i)))) from ⟨Kd.out.os, Kd.out.tape, Kd.out.output, by have := Kd.out.size; simpa [World.setRow] using this, fun k hk1 hk2 => (setRow_other wd b k _ (BK.out k hk1 hk2)).trans (Kd.out.block k hk1 hk2)⟩)
    generalize World.setRow _ _ _ = w6 at C5 K5 G5 ⊢
    clear Cd Gd Kd Xd hb hs
    have cn := C5.out.cn
    have fn := C5.out.fz 258
    have C6 := Lib.hid (C5.out.setN ((l ++ [(x, i)]).length : Int))
    have G6 := Lib.hid (G5.out.cell258 (fun j b hj e => C5.out.notPage G5.out hj e) 258 (.int .i64 ((l ++ [(x, i)]).length : Int)))
    have K6 := Lib.hid (K5.out.trans (show Kept (icO pg p) w6 (w6.setCell ⟨p, 258, none⟩ (.int .i64 ((l ++ [(x, i)]).length : Int))) from ⟨rfl, rfl, rfl, by simp, fun k _ hk => Below.heap_setCell w6 ⟨p, 258, none⟩ _ k (fun e => hk (.inl e))⟩) Grew.refl)
    have wl : IntKind.i64.wrap ((l.length : Int) + 1) = ((l ++ [(x, i)]).length : Int) := by rw [IntKind.wrap_i64]; have := LL.out; omega
    generalize hq : ((l ++ [(x, i)]).length : Int) = ll at *
    clear u1 u2 u3 u4
    go_wp2_with fail
    go_end0
    exact ⟨rfl, _, by rw [hq]; exact C6.out, G6.out, K6.out, GW.out⟩
  | none =>
    rw [hp] at c1
    simp only [Option.map_none] at c1
    go_upto_region 4 with fail
    refine wp_region_lit ?_
    iterate 3 go_step
    refine wpList_plain rfl fun K hK => wp_alloc zeroPage rfl (hK _ _ ?_)
    clear hK K
    simp only [Act.put, List.setIfInBounds_toArray, List.set_cons_zero, List.set_cons_succ]
    have N2 := Lib.hid (below_new' w' (.cells zeroP 108))
    have C2 := Lib.hid (C0.out.keep (N2.out.block p C0.out.lt))
    have G2 := Lib.hid (G0.out.grow hk hp)
    have K2 := Lib.hid (K0.out.trans (Kept.of_below N2.out) Grew.refl)
    have X2 := Lib.hid (X0.out.step N2.out)
    have GW := Lib.hid (show Grew (icO pg p) (icO (fun j => if j = kk then some w'.heap.size else pg j) p) w.heap.size from fun k hk => (icO_grow pg p kk w'.heap.size k hk).imp id (fun e => Nat.le_trans K0.out.size e))
    obtain ⟨b, hb⟩ : ∃ b, w'.heap.size = b := ⟨_, rfl⟩
    have BK := Lib.hid (show ∀ k, k < w.heap.size → ¬ icO pg p k → k ≠ b from fun k hk1 _ e => by have := K0.out.size; omega)
    have PB2 := Lib.hid (show p ≠ b from fun e => by have := C0.out.lt; omega)
    rw [hb] at G2 GW ⊢
    clear hb N2 C0 G0 K0 X0 NP hp c1
    generalize World.alloc _ _ = w2 at C2 G2 K2 X2 ⊢
    have c1 := C2.out.page hk
    have f1 := C2.out.fz (2 + kk)
    have C3 := Lib.hid (C2.out.setP hk b)
    have gp := Lib.hid (show g ≠ p from fun e => GO.out (.inl e))
    have X3 := Lib.hid (X2.out.other gp.out (2 + kk) (.pointer (some ⟨b, 0, none⟩)))
    have G3 := Lib.hid (G2.out.cell258 (fun j d hj e => C2.out.notPage G2.out hj e) (2 + kk) (.pointer (some ⟨b, 0, none⟩)))
    have K3 := Lib.hid (K2.out.trans (show Kept (icO pg p) w2 (w2.setCell ⟨p, 2 + kk, none⟩ (.pointer (some ⟨b, 0, none⟩))) from ⟨rfl, rfl, rfl, by simp, fun k _ hk => Below.heap_setCell w2 ⟨p, 2 + kk, none⟩ _ k (fun e => hk (.inl e))⟩) Grew.refl)
    go_upto_region 5 with fail
    generalize World.setCell _ _ _ = w7 at C3 G3 K3 X3 ⊢
    clear C2 G2 K2 X2 c1 f1
    have hpb : (if kk = kk then some b else pg kk) = some b := by simp
    have Cx := C3
    have Gx := G3
    have Kx := K3
    have Xx := X3
    clear C3 G3 K3 X3
    have cp := Cx.out.page hk
    rw [hpb] at cp
    simp only [Option.map_some] at cp
    have HPB := Lib.hid hpb
    refine tail_region 9 (by kernel_rfl) (by kernel_rfl) ?_
    intro wd hwd
    have Cd := Lib.hid (show CB _ p lv en (l.length : Int) h m wd by rw [hwd]; exact Cx.out.keep rfl)
    have Gd := Lib.hid (show PGS _ (lookE l) wd by rw [hwd]; exact Gx.out.kept (O := fun _ => False) ⟨rfl, rfl, rfl, Nat.le_refl _, fun _ _ _ => rfl⟩ (fun _ _ _ _ c => c))
    have Kd := Lib.hid (show Kept (icO pg p) w wd by rw [hwd]; exact ⟨Kx.out.os, Kx.out.tape, Kx.out.output, Kx.out.size, Kx.out.block⟩)
    have Xd := Lib.hid (show Blk g 38 (icells i) wd by rw [hwd]; exact Xx.out)
    have cp2 : wd.cell? ⟨p, 2 + kk, none⟩ = some (.pointer (some ⟨b, 0, none⟩)) := by rw [hwd]; exact cp
    clear hwd hpb cp Cx Gx Kx Xx
    have d0 : wd.cell? ⟨g, 0, none⟩ = some (.int .i64 i.op) := (Xd.out.cell 0).trans rfl
    have d1 : wd.cell? ⟨g, 1, none⟩ = some (.int .i64 i.x) := (Xd.out.cell 1).trans rfl
    have d2 : wd.cell? ⟨g, 2, none⟩ = some (.int .i64 i.y) := (Xd.out.cell 2).trans rfl
    have d3 : wd.cell? ⟨g, 3, none⟩ = some (.int .i64 i.n) := (Xd.out.cell 3).trans rfl
    have d4 : wd.cell? ⟨g, 4, none⟩ = some (.int .i64 i.nn) := (Xd.out.cell 4).trans rfl
    have d5 : wd.cell? ⟨g, 5, none⟩ = some (.int .i64 i.addr) := (Xd.out.cell 5).trans rfl
    have d6 : wd.cell? ⟨g, 6, none⟩ = some (.int .i64 i.len) := (Xd.out.cell 6).trans rfl
    simp only [List.take_succ_cons, List.take_zero, List.drop_succ_cons, List.drop_zero]
    have hri : (rr : Int) < 256 := by omega
    repeat still_step
    refine wpStill_nil ?_
    clear hri
    clear d0 d1 d2 d3 d4 d5 d6 cp2
    obtain ⟨cs, hb, hs, G5⟩ := Gd.out.put HX.out (some i) (by rw [HKK.out]; exact HPB.out)
    rw [HRR.out] at G5
    have G5 := Lib.hid (G5.congr (S := lookE (l ++ [(x, i)])) fun y _ => LC.out y)
    have bp := Lib.hid (Cd.out.notPage Gd.out hk HPB.out)
    refine list_store_part aggEntry hb rfl (by rw [hs]; omega) (entC_ones (some i)) rfl (.tmp 30) (.tmp 28) rfl rfl rfl ?_
    simp only [Act.put, List.setIfInBounds_toArray, List.set_cons_zero, List.set_cons_succ]
    have C5 := Lib.hid (Cd.out.keep (setRow_other wd b p (splice8 cs (rr * 8) (entC (some i))) (fun e => bp.out e.symm)))
    have K5 := Lib.hid (show Kept (icO pg p) w (wd.setRow b (splice8 cs (rr * 8) (entC (some i)))) from ⟨Kd.out.os, Kd.out.tape, Kd.out.output, by have := Kd.out.size; simpa [World.setRow] using this, fun k hk1 hk2 => (setRow_other wd b k _ (BK.out k hk1 hk2)).trans (Kd.out.block k hk1 hk2)⟩)
    generalize World.setRow _ _ _ = w6 at C5 K5 G5 ⊢
    clear Cd Gd Kd Xd hb hs
    have cn := C5.out.cn
    have fn := C5.out.fz 258
    have C6 := Lib.hid (C5.out.setN ((l ++ [(x, i)]).length : Int))
    have G6 := Lib.hid (G5.out.cell258 (fun j b hj e => C5.out.notPage G5.out hj e) 258 (.int .i64 ((l ++ [(x, i)]).length : Int)))
    have K6 := Lib.hid (K5.out.trans (show Kept (icO pg p) w6 (w6.setCell ⟨p, 258, none⟩ (.int .i64 ((l ++ [(x, i)]).length : Int))) from ⟨rfl, rfl, rfl, by simp, fun k _ hk => Below.heap_setCell w6 ⟨p, 258, none⟩ _ k (fun e => hk (.inl e))⟩) Grew.refl)
    have wl : IntKind.i64.wrap ((l.length : Int) + 1) = ((l ++ [(x, i)]).length : Int) := by rw [IntKind.wrap_i64]; have := LL.out; omega
    generalize hq : ((l ++ [(x, i)]).length : Int) = ll at *
    clear u1 u2 u3 u4
    go_wp2_with fail
    go_end0
    exact ⟨rfl, _, by rw [hq]; exact C6.out, G6.out, K6.out, GW.out⟩
end Go.Proofs.YtgilkbmipgejeaaDoor
