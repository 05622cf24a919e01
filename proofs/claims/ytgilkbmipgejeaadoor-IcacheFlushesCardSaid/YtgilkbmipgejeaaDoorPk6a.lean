/- Texts put together: IcGetL, IcThe. -/
import Derived.Test.YtgilkbmipgejeaaDoorKIcKeep
import Derived.Test.YtgilkbmipgejeaaDoorPk5a
import Derived.Test.YtgilkbmipgejeaaDoorPk0a
/- The contracts of Get. -/
namespace Go.Proofs.YtgilkbmipgejeaaDoor
open Go.RowKit Num Dec
set_option linter.unusedVariables false
set_option linter.unusedSimpArgs false
set_option maxRecDepth 100000

def isc (i : Ins) : Array Value := #[.int .i64 i.op, .int .i64 i.x, .int .i64 i.y, .int .i64 i.n, .int .i64 i.nn, .int .i64 i.addr, .int .i64 i.len]
set_option maxHeartbeats 8000000 in
theorem get16_hit (pg : Nat → Option Nat) (p : Nat) (lv : Int) (en : Bool) (h m a : Int) (x : Nat) (i : Ins) (l : Ents) (mv : Value) (w : World) (C : CB pg p lv en (l.length : Int) h m w) (G : PGS pg (lookE l) w) (hi : lookE l x = some i) (hx : a % 65536 = (x : Int)) (h0 : 0 ≤ h) (h1 : h ≤ 100000) :
    Calls Tryd.prog 14 #[.pointer (some ⟨p, 0, none⟩), mv, .int .i64 a] w fun e w' => e = .returned (.agg (icells i)) ∧ CB pg p lv en (l.length : Int) (h + 1) m w' ∧ PGS pg (lookE l) w' ∧ Kept (icO pg p) w w' := by
  have PK := Lib.hid (fun u (hb : Below w.heap.size w u) => peek16_any pg (lookE l) p lv en _ h m a x u (C.keep (hb.block p C.lt)) (G.kept (O := fun _ => False) (Kept.of_below hb) (fun _ _ _ _ c => c)) hx)
  rw [hi] at PK
  have OL := Lib.hid (icO_lt C G)
  have NP := Lib.hid (fun j b (hj : j < 256) (e : pg j = some b) => C.notPage G hj e)
  have HC := Lib.hid (fun u (hb : Below w.heap.size w u) => C.keep (hb.block p C.lt))
  have HG := Lib.hid (fun u (hb : Below w.heap.size w u) => G.kept (O := fun _ => False) (Kept.of_below hb) (fun _ _ _ _ c => c))
  have HP := Lib.hid C.lt
  have HH := Lib.hid (And.intro h0 h1)
  have G0 := Lib.hid (Blk.new w 38 zeroI)
  have B0 := Lib.hid (below_new' w (.cells zeroI 38))
  clear C G hi hx h0 h1
  obtain ⟨io, ix, iy, i_n, inn, ia, il⟩ := i
  simp only [Option.getD_some, Option.isSome_some] at PK
  unfold icells at PK ⊢
  simp only at PK ⊢
  go_enter Tryd.func14, Tryd.ntmps14
  go_upto_region 1 with fail
  unfold zeroI at G0 B0
  obtain ⟨g, hg⟩ : ∃ g, w.heap.size = g := ⟨_, rfl⟩
  have GL := Lib.hid (show w.heap.size = g from hg)
  rw [hg] at G0 ⊢
  generalize World.alloc _ _ = w1 at G0 B0 ⊢
  clear hg
  go_wp2_with fail
  refine (PK.out _ B0.out).mono ?_
  rintro e w2 ⟨rfl, b2⟩
  have G2 := Lib.hid (G0.out.step b2)
  have B2 := Lib.hid (B0.out.trans (b2.mono B0.out.size))
  clear b2 G0 B0 PK
  have X3 := Lib.hid (Blk.new w2 38 #[.int .i64 io, .int .i64 ix, .int .i64 iy, .int .i64 i_n, .int .i64 inn, .int .i64 ia, .int .i64 il])
  have b3 := below_new' w2 (.cells #[.int .i64 io, .int .i64 ix, .int .i64 iy, .int .i64 i_n, .int .i64 inn, .int .i64 ia, .int .i64 il] 38)
  have G3 := Lib.hid (G2.out.step b3)
  have B3 := Lib.hid (B2.out.trans (b3.mono B2.out.size))
  clear b3
  go_upto_region 5 with fail
  obtain ⟨d, hd⟩ : ∃ d, w2.heap.size = d := ⟨_, rfl⟩
  have DL := Lib.hid (show w.heap.size < d by have := G2.out.lt; have := B2.out.size; have := GL.out; omega)
  rw [hd] at X3 ⊢
  generalize World.alloc _ _ = w3 at X3 G3 B3 ⊢
  clear hd G2 B2
  have C3 := Lib.hid (HC.out _ B3.out)
  have P3 := Lib.hid (HG.out _ B3.out)
  have AD := Lib.hid (aadd_any p 259 h w3 C3.out.ch (C3.out.fz 259) HH.out.1 (by have := HH.out.2; omega))
  go_wp2_with fail
  refine AD.out.mono ?_
  rintro e w4 ⟨rfl, hw4⟩
  have C4 := Lib.hid (show CB pg p lv en (l.length : Int) (h + 1) m w4 by rw [hw4]; exact C3.out.setH (h + 1))
  have P4 := Lib.hid (show PGS pg (lookE l) w4 by rw [hw4]; exact P3.out.cell258 NP.out 259 _)
  have X4 := Lib.hid (show Blk d 38 _ w4 by rw [hw4]; exact X3.out.other (fun e => by have := HP.out; have := DL.out; omega) 259 _)
  have G4 := Lib.hid (show Blk g 38 _ w4 by rw [hw4]; exact G3.out.other (fun e => by have := HP.out; have := GL.out; omega) 259 _)
  have K4 := Lib.hid (show Kept (icO pg p) w w4 by rw [hw4]; exact (Kept.of_below B3.out).trans (O' := icO pg p) ⟨rfl, rfl, rfl, by simp, fun k _ hk => Below.heap_setCell w3 ⟨p, 259, none⟩ _ k (fun e => hk (.inl e))⟩ Grew.refl)
  clear hw4 C3 P3 X3 G3 B3 AD
  go_upto_region 6 with fail
  refine wp_region_lit ?_
  refine list_load_all aggInstr X4.out rfl rfl (.tmp 7) rfl rfl ?_
  simp only [Act.put, List.setIfInBounds_toArray, List.set_cons_zero, List.set_cons_succ]
  refine list_store_all aggInstr G4.out rfl rfl (by unfold Ones; kernel_rfl) rfl (.tmp 6) (.tmp 26) rfl rfl rfl ?_
  simp only [Act.put, List.setIfInBounds_toArray, List.set_cons_zero, List.set_cons_succ]
  have R := Lib.hid (G4.out.store #[.int .i64 io, .int .i64 ix, .int .i64 iy, .int .i64 i_n, .int .i64 inn, .int .i64 ia, .int .i64 il])
  have C5 := Lib.hid (C4.out.keep (setRow_other w4 g p #[.int .i64 io, .int .i64 ix, .int .i64 iy, .int .i64 i_n, .int .i64 inn, .int .i64 ia, .int .i64 il] (fun e => by have := HP.out; have := GL.out; omega)))
  have K5 := Lib.hid (show Kept (icO pg p) w (w4.setRow g #[.int .i64 io, .int .i64 ix, .int .i64 iy, .int .i64 i_n, .int .i64 inn, .int .i64 ia, .int .i64 il]) from K4.out.trans (O' := fun k => k = g) ⟨rfl, rfl, rfl, by simp [World.setRow], fun k _ hk => setRow_other w4 g k _ hk⟩ (fun k hk => .inr (by have := GL.out; omega)))
  have P5 := Lib.hid (show PGS pg (lookE l) (w4.setRow g #[.int .i64 io, .int .i64 ix, .int .i64 iy, .int .i64 i_n, .int .i64 inn, .int .i64 ia, .int .i64 il]) from P4.out.kept (O := fun k => k = g) ⟨rfl, rfl, rfl, by simp [World.setRow], fun k _ hk => setRow_other w4 g k _ hk⟩ (fun j b hj e c => by have := OL.out b (.inr ⟨j, hj, e⟩); have := GL.out; omega))
  clear C4 P4 K4 X4 G4
  generalize World.setRow _ _ _ = w5 at R C5 K5 P5 ⊢
  go_wp2_with fail
  iterate 4 (try go_step)
  exact bodyPost_ret (results_cell_row rfl _ _ g _ _ _ _ rfl R.out Tryd.underlying38 rfl aggInstr.i) rfl ⟨rfl, C5.out, P5.out, K5.out⟩
/-- Get finds nothing. -/
def missL (en : Bool) (l : Ents) (x : Nat) (I : Ins) : Ents := if en = true then l ++ [(x, I)] else l
set_option maxHeartbeats 8000000 in
theorem get16_miss (pg : Nat → Option Nat) (p : Nat) (lv : Int) (en : Bool) (h m a : Int) (x : Nat) (l : Ents) (pm : Nat) (M : List Int) (v : Value) (w : World) (C : CB pg p lv en (l.length : Int) h m w) (G : PGS pg (lookE l) w) (hi : lookE l x = none) (hx : a % 65536 = (x : Int)) (m0 : 0 ≤ m) (m1 : m ≤ 100000) (l1 : l.length ≤ 1000000)
    (hM : M.length = 65536) (hp : MemAt pm M v w) (hB : BtM M) (hl : (Lit.int .i64 lv).wf = true) (hpm : ¬ icO pg p pm) :
    Calls Tryd.prog 14 #[.pointer (some ⟨p, 0, none⟩), .pointer (some ⟨pm, 0, none⟩), .int .i64 a] w fun e w' => e = .returned (.agg (icells (decAt M a lv))) ∧ KeptC pg p lv en (missL en l x (decAt M a lv)) h (m + 1) w w' := by
  have PK := Lib.hid (fun u (hb : Below w.heap.size w u) => peek16_any pg (lookE l) p lv en _ h m a x u (C.keep (hb.block p C.lt)) (G.kept (O := fun _ => False) (Kept.of_below hb) (fun _ _ _ _ c => c)) hx)
  rw [hi] at PK
  have DA := Lib.hid (fun u (hu : MemAt pm M v u) => decodeAt_any pm M v a lv u hM hu hB hl)
  obtain ⟨I, hI⟩ : ∃ I, decAt M a lv = I := ⟨_, rfl⟩
  rw [hI] at DA ⊢
  have KP := Lib.hid (fun u (C : CB pg p lv en (l.length : Int) h (m + 1) u) (G : PGS pg (lookE l) u) => keep16_any pg p lv en h (m + 1) a x I l u C G hi l1 hx)
  have OL := Lib.hid (icO_lt C G)
  have NP := Lib.hid (fun j b (hj : j < 256) (e : pg j = some b) => C.notPage G hj e)
  have HC := Lib.hid (fun u (hb : Below w.heap.size w u) => C.keep (hb.block p C.lt))
  have HG := Lib.hid (fun u (hb : Below w.heap.size w u) => G.kept (O := fun _ => False) (Kept.of_below hb) (fun _ _ _ _ c => c))
  have HM := Lib.hid (fun u (k : Kept (icO pg p) w u) => hp.keep (k.block pm hp.lt hpm))
  have HP := Lib.hid C.lt
  have HH := Lib.hid (And.intro m0 m1)
  have G0 := Lib.hid (Blk.new w 38 zeroI)
  have B0 := Lib.hid (below_new' w (.cells zeroI 38))
  clear C G hi hx m0 m1 hI hM hp hB hl hpm l1
  obtain ⟨io, ix, iy, i_n, inn, ia, il⟩ := I
  simp only [Option.getD_none, Option.isSome_none, zI_cells] at PK
  unfold icells at DA KP ⊢
  unfold zeroI at PK
  simp only at DA KP ⊢
  go_enter Tryd.func14, Tryd.ntmps14
  go_upto_region 1 with fail
  unfold zeroI at G0 B0
  obtain ⟨g, hg⟩ : ∃ g, w.heap.size = g := ⟨_, rfl⟩
  have GL := Lib.hid (show w.heap.size = g from hg)
  rw [hg] at G0 ⊢
  generalize World.alloc _ _ = w1 at G0 B0 ⊢
  clear hg
  go_wp2_with fail
  refine (PK.out _ B0.out).mono ?_
  rintro e w2 ⟨rfl, b2⟩
  have G2 := Lib.hid (G0.out.step b2)
  have B2 := Lib.hid (B0.out.trans (b2.mono B0.out.size))
  clear b2 G0 B0 PK
  have b3 := below_new' w2 (.cells #[.int .i64 0, .int .i64 0, .int .i64 0, .int .i64 0, .int .i64 0, .int .i64 0, .int .i64 0] 38)
  have G3 := Lib.hid (G2.out.step b3)
  have B3 := Lib.hid (B2.out.trans (b3.mono B2.out.size))
  clear b3
  go_upto_region 7 with fail
  generalize World.alloc _ _ = w3 at G3 B3 ⊢
  clear G2 B2
  have C3 := Lib.hid (HC.out _ B3.out)
  have P3 := Lib.hid (HG.out _ B3.out)
  have AD := Lib.hid (aadd_any p 260 m w3 C3.out.cm (C3.out.fz 260) HH.out.1 (by have := HH.out.2; omega))
  go_wp2_with fail
  refine AD.out.mono ?_
  rintro e w4 ⟨rfl, hw4⟩
  have C4 := Lib.hid (show CB pg p lv en (l.length : Int) h (m + 1) w4 by rw [hw4]; exact C3.out.setM (m + 1))
  have P4 := Lib.hid (show PGS pg (lookE l) w4 by rw [hw4]; exact P3.out.cell258 NP.out 260 _)
  have G4 := Lib.hid (show Blk g 38 _ w4 by rw [hw4]; exact G3.out.other (fun e => by have := HP.out; have := GL.out; omega) 260 _)
  have K4 := Lib.hid (show Kept (icO pg p) w w4 by rw [hw4]; exact (Kept.of_below B3.out).trans (O' := icO pg p) ⟨rfl, rfl, rfl, by simp, fun k _ hk => Below.heap_setCell w3 ⟨p, 260, none⟩ _ k (fun e => hk (.inl e))⟩ Grew.refl)
  clear hw4 C3 P3 G3 B3 AD
  have c0 := C4.out.c0
  go_wp2_with fail
  clear c0
  refine (DA.out _ (HM.out _ K4.out)).mono ?_
  rintro e w5 ⟨rfl, b5⟩
  have C5 := Lib.hid (C4.out.keep (b5.block p C4.out.lt))
  have P5 := Lib.hid (P4.out.kept (O := fun _ => False) (Kept.of_below b5) (fun _ _ _ _ c => c))
  have G5 := Lib.hid (G4.out.step b5)
  have K5 := Lib.hid (K4.out.trans (Kept.of_below b5) Grew.refl)
  clear b5 C4 P4 G4 K4 DA
  have X6 := Lib.hid (Blk.new w5 38 #[.int .i64 io, .int .i64 ix, .int .i64 iy, .int .i64 i_n, .int .i64 inn, .int .i64 ia, .int .i64 il])
  have b6 := below_new' w5 (.cells #[.int .i64 io, .int .i64 ix, .int .i64 iy, .int .i64 i_n, .int .i64 inn, .int .i64 ia, .int .i64 il] 38)
  have C6 := Lib.hid (C5.out.keep (b6.block p C5.out.lt))
  have P6 := Lib.hid (P5.out.kept (O := fun _ => False) (Kept.of_below b6) (fun _ _ _ _ c => c))
  have G6 := Lib.hid (G5.out.step b6)
  have K6 := Lib.hid (K5.out.trans (Kept.of_below b6) Grew.refl)
  clear b6
  go_upto_region 9 with fail
  obtain ⟨d, hd⟩ : ∃ d, w5.heap.size = d := ⟨_, rfl⟩
  have DL := Lib.hid (show w.heap.size < d by have := G5.out.lt; have := GL.out; omega)
  rw [hd] at X6 ⊢
  generalize World.alloc _ _ = w6 at X6 C6 P6 G6 K6 ⊢
  clear hd C5 P5 G5 K5
  have c1 := C6.out.c1
  cases en
  · have E := Lib.hid (show missL false l x ⟨io, ix, iy, i_n, inn, ia, il⟩ = l by unfold missL; simp)
    have GW := Lib.hid (show Grew (icO pg p) (icO pg p) w.heap.size from Grew.refl)
    have NG := Lib.hid (show ∀ j b, j < 256 → pg j = some b → b ≠ g from fun j b hj e c => by have := OL.out b (.inr ⟨j, hj, e⟩); have := GL.out; omega)
    have wz0 : ∃ wz, wz = w6 := ⟨_, rfl⟩
    obtain ⟨wz, hwz⟩ := wz0
    rw [← hwz] at X6 C6 P6 G6 K6 c1 ⊢
    clear hwz
    go_upto_region 11 with fail
    refine wp_region_lit ?_
    refine list_load_all aggInstr X6.out rfl rfl (.tmp 9) rfl rfl ?_
    simp only [Act.put, List.setIfInBounds_toArray, List.set_cons_zero, List.set_cons_succ]
    refine list_store_all aggInstr G6.out rfl rfl (by unfold Ones; kernel_rfl) rfl (.tmp 6) (.tmp 46) rfl rfl rfl ?_
    simp only [Act.put, List.setIfInBounds_toArray, List.set_cons_zero, List.set_cons_succ]
    have R := Lib.hid (G6.out.store #[.int .i64 io, .int .i64 ix, .int .i64 iy, .int .i64 i_n, .int .i64 inn, .int .i64 ia, .int .i64 il])
    have C9 := Lib.hid (C6.out.keep (setRow_other wz g p #[.int .i64 io, .int .i64 ix, .int .i64 iy, .int .i64 i_n, .int .i64 inn, .int .i64 ia, .int .i64 il] (fun e => by have := HP.out; have := GL.out; omega)))
    have K9 := Lib.hid (show Kept (icO pg p) w (wz.setRow g #[.int .i64 io, .int .i64 ix, .int .i64 iy, .int .i64 i_n, .int .i64 inn, .int .i64 ia, .int .i64 il]) from K6.out.trans (O' := fun k => k = g) ⟨rfl, rfl, rfl, by simp [World.setRow], fun k _ hk => setRow_other wz g k _ hk⟩ (fun k hk => .inr (by have := GL.out; omega)))
    have P9 := Lib.hid (P6.out.kept (O := fun k => k = g) (w' := wz.setRow g #[.int .i64 io, .int .i64 ix, .int .i64 iy, .int .i64 i_n, .int .i64 inn, .int .i64 ia, .int .i64 il]) ⟨rfl, rfl, rfl, by simp [World.setRow], fun k _ hk => setRow_other wz g k _ hk⟩ (fun j b hj e => NG.out j b hj e))
    clear C6 P6 K6 X6 G6
    generalize World.setRow _ _ _ = w9 at R C9 K9 P9 ⊢
    go_wp2_with fail
    iterate 4 (try go_step)
    exact bodyPost_ret (results_cell_row rfl _ _ g _ _ _ _ rfl R.out Tryd.underlying38 rfl aggInstr.i) rfl ⟨rfl, by rw [E.out]; exact ⟨_, C9.out, P9.out, K9.out, GW.out⟩⟩
  · have E := Lib.hid (show missL true l x ⟨io, ix, iy, i_n, inn, ia, il⟩ = l ++ [(x, ⟨io, ix, iy, i_n, inn, ia, il⟩)] by unfold missL; simp)
    go_upto_region 10 with fail
    clear c1
    refine wp_region_lit ?_
    iterate 6 go_step
    refine list_load_all aggInstr X6.out rfl rfl (.tmp 9) rfl rfl ?_
    simp only [Act.put, List.setIfInBounds_toArray, List.set_cons_zero, List.set_cons_succ]
    go_wp2_with fail
    refine (KP.out _ C6.out P6.out).mono ?_
    rintro e wz ⟨rfl, pg2, C7, P7, K7, GW⟩
    have NG := Lib.hid (show ∀ j b, j < 256 → pg2 j = some b → b ≠ g from fun j b hj e c => by
      rcases GW b (.inr ⟨j, hj, e⟩) with q | q
      · have := OL.out b q; have := GL.out; omega
      · have := G6.out.lt; omega)
    have GW := Lib.hid (show Grew (icO pg p) (icO pg2 p) w.heap.size from fun k hk => (GW k hk).imp id (fun q => Nat.le_trans K6.out.size q))
    have GN0 := Lib.hid (show ¬ icO pg p g from fun c => by have := OL.out g c; have := GL.out; omega)
    have GN1 := Lib.hid (show ¬ icO pg p d from fun c => by have := OL.out d c; have := DL.out; omega)
    have C7 := Lib.hid C7
    have P7 := Lib.hid P7
    have X7 := Lib.hid (show Blk d 38 _ wz from (K7.block d X6.out.lt GN1.out).trans X6.out)
    have G7 := Lib.hid (show Blk g 38 _ wz from (K7.block g G6.out.lt GN0.out).trans G6.out)
    have K8 := Lib.hid (K6.out.trans K7 Grew.refl)
    clear K7 C6 P6 X6 G6 K6 KP
    go_upto_region 11 with fail
    refine wp_region_lit ?_
    refine list_load_all aggInstr X7.out rfl rfl (.tmp 9) rfl rfl ?_
    simp only [Act.put, List.setIfInBounds_toArray, List.set_cons_zero, List.set_cons_succ]
    refine list_store_all aggInstr G7.out rfl rfl (by unfold Ones; kernel_rfl) rfl (.tmp 6) (.tmp 46) rfl rfl rfl ?_
    simp only [Act.put, List.setIfInBounds_toArray, List.set_cons_zero, List.set_cons_succ]
    have R := Lib.hid (G7.out.store #[.int .i64 io, .int .i64 ix, .int .i64 iy, .int .i64 i_n, .int .i64 inn, .int .i64 ia, .int .i64 il])
    have C9 := Lib.hid (C7.out.keep (setRow_other wz g p #[.int .i64 io, .int .i64 ix, .int .i64 iy, .int .i64 i_n, .int .i64 inn, .int .i64 ia, .int .i64 il] (fun e => by have := HP.out; have := GL.out; omega)))
    have K9 := Lib.hid (show Kept (icO pg p) w (wz.setRow g #[.int .i64 io, .int .i64 ix, .int .i64 iy, .int .i64 i_n, .int .i64 inn, .int .i64 ia, .int .i64 il]) from K8.out.trans (O' := fun k => k = g) ⟨rfl, rfl, rfl, by simp [World.setRow], fun k _ hk => setRow_other wz g k _ hk⟩ (fun k hk => .inr (by have := GL.out; omega)))
    have P9 := Lib.hid (P7.out.kept (O := fun k => k = g) (w' := wz.setRow g #[.int .i64 io, .int .i64 ix, .int .i64 iy, .int .i64 i_n, .int .i64 inn, .int .i64 ia, .int .i64 il]) ⟨rfl, rfl, rfl, by simp [World.setRow], fun k _ hk => setRow_other wz g k _ hk⟩ (fun j b hj e => NG.out j b hj e))
    clear C7 P7 K8 X7 G7
    generalize World.setRow _ _ _ = w9 at R C9 K9 P9 ⊢
    go_wp2_with fail
    iterate 4 (try go_step)
    exact bodyPost_ret (results_cell_row rfl _ _ g _ _ _ _ rfl R.out Tryd.underlying38 rfl aggInstr.i) rfl ⟨rfl, by rw [E.out]; exact ⟨_, C9.out, P9.out, K9.out, GW.out⟩⟩
end Go.Proofs.YtgilkbmipgejeaaDoor
/- The landed cache keeps what IcSpec says; Get of nil. -/
namespace Go.Proofs.YtgilkbmipgejeaaDoor
open Go.RowKit Num Dec
set_option linter.unusedVariables false
set_option linter.unusedSimpArgs false
set_option maxRecDepth 100000

theorem wr16_eq (a : Int) : a % 65536 = ((wr16 a : Nat) : Int) := by unfold wr16; omega
theorem wr16_lt (a : Int) : wr16 a < 65536 := by unfold wr16; omega
theorem IcF.once_ {O : Nat → Prop} {p h m : Nat} {lv : Int} {en : Bool} {l : Ents} {w : World} (H : IcF O p lv en l h m w) : Once l := by obtain ⟨_, _, _, _, h, _⟩ := H; exact h
theorem addr_plain {w : World} {A : Addr} {v : Value} (h : w.cell? A = some v) : ∃ b o, A = ⟨b, o, none⟩ := by
  obtain ⟨b, o, s⟩ := A
  cases s with
  | none => exact ⟨b, o, rfl⟩
  | some z =>
    unfold World.cell? at h
    split at h <;> simp at h
/-- The cache has come to other entries. -/
theorem icTo {pg pg' : Nat → Option Nat} {p h m : Nat} {lv : Int} {en : Bool} {l : Ents} {w w' : World} (C : CB pg' p lv en (l.length : Int) (h : Int) (m : Int) w') (G : PGS pg' (lookE l) w') (K : Kept (icO pg p) w w') (W : Grew (icO pg p) (icO pg' p) w.heap.size)
    (ho : Once l) (hl : ∀ e ∈ l, e.1 < 65536) (wl : (Lit.int .i64 lv).wf = true) (he : en = false → l = []) : IcTo IcF (icO pg p) p lv en l h m w w' := ⟨icO pg' p, ⟨pg', rfl, C, G, ho, hl, wl, he⟩, W, K⟩
theorem drop_mem' {l : Ents} {a n : Int} {e : Nat × Ins} (h : e ∈ dropE l a n) : e ∈ l := by
  unfold dropE at h
  exact (List.mem_filter.1 h).1

set_option maxHeartbeats 4000000 in
theorem icSpec : IcSpec IcF Laid where
  keep := by
    rintro O O2 p lv en l h m w w' ⟨pg, rfl, C, G, r⟩ hk hd
    exact ⟨pg, rfl, C.kept hk (hd p (.inl rfl)), G.kept hk (fun j b hj e => hd b (.inr ⟨j, hj, e⟩)), r⟩
  lt := by
    rintro O p lv en l h m w ⟨pg, rfl, C, G, r⟩
    exact icO_lt C G
  once := by
    rintro O p lv en l h m w H
    exact H.once_
  new_ := by
    intro lv en w _ hl
    refine (new16_any lv en w).mono ?_
    rintro e w' ⟨rfl, rfl⟩
    refine ⟨w.heap.size, icO (fun _ => none) w.heap.size, rfl, ⟨fun _ => none, rfl, CB.new w lv en, ⟨fun k b _ e => (by cases e), fun _ _ _ _ _ => rfl, fun j k b _ _ e _ => (by cases e)⟩, List.nodup_nil, fun e he => (by cases he), hl, fun _ => rfl⟩, ?_, below_new' w _⟩
    rintro k (rfl | ⟨j, _, e⟩)
    · exact Nat.le_refl _
    · cases e
  hit := by
    rintro O p lv en l h m pm M v w a i _ ⟨pg, rfl, C, G, ho, hl, wl, he⟩ hp hM hB hpm a0 a1 l1 h1 m1 hi
    refine (get16_hit pg p lv en h m a (wr16 a) i l (.pointer (some ⟨pm, 0, none⟩)) w C G hi (wr16_eq a) (by omega) (by omega)).mono ?_
    rintro e w' ⟨rfl, C', G', K'⟩
    exact ⟨rfl, icTo (h := h + 1) C' G' K' Grew.refl ho hl wl he⟩
  miss := by
    rintro O p lv en l h m pm M v w a _ ⟨pg, rfl, C, G, ho, hl, wl, he⟩ hp hM hB hpm a0 a1 l1 h1 m1 hi
    refine (get16_miss pg p lv en h m a (wr16 a) l pm M v w C G hi (wr16_eq a) (by omega) (by omega) (by omega) hM hp hB wl hpm).mono ?_
    rintro e w' ⟨rfl, pg', C', G', K', W'⟩
    refine ⟨rfl, icTo (m := m + 1) (pg' := pg') C' G' K' W' ?_ ?_ wl ?_⟩
    · cases en
      · exact ho
      · exact ho.snoc _ hi
    · cases en
      · exact hl
      · intro e he
        simp only [if_true, List.mem_append, List.mem_singleton] at he
        rcases he with he | rfl
        · exact hl e he
        · exact wr16_lt a
    · rintro rfl
      exact he rfl
  peek := by
    rintro O p lv en l h m w a _ ⟨pg, rfl, C, G, ho, hl, wl, he⟩ a0 a1 l1
    exact peek16_any pg (lookE l) p lv en _ h m a (wr16 a) w C G (wr16_eq a)
  drop := by
    rintro O p lv en l h m w A c at_ n _ ⟨pg, rfl, C, G, ho, hl, wl, he⟩ hc0 hc1 hA hno a0 a1 n0 n1 l1 c1
    obtain ⟨b, o, rfl⟩ := addr_plain hc0
    refine (inval16_any pg p lv en h m l [(at_, n)] (some ⟨b, o, none⟩) 1 c w C G ho hl (by omega) (fun i hi => ?_) rfl (by decide) (fun s hs => ?_)).mono ?_
    · have : i = 0 := by simp at hi; exact hi
      subst this
      exact ⟨b, o, rfl, hA, hno, hc0, by rw [add_pl] at hc1; exact hc1⟩
    · simp at hs
      subst hs
      exact ⟨a0, a1, n1⟩
    · rintro e w' ⟨rfl, C', G', K'⟩
      rw [dropL_one] at C' G'
      exact ⟨rfl, icTo C' G' K' Grew.refl (ho.drop _ _) (fun e he => hl e (drop_mem' he)) wl (fun e => by rw [he e]; rfl)⟩
  drop0 := by
    rintro O p lv en l h m w A c _ ⟨pg, rfl, C, G, ho, hl, wl, he⟩ l1
    refine (inval16_any pg p lv en h m l [] A 0 c w C G ho hl (by omega) (fun i hi => (by simp at hi)) rfl (by decide) (fun s hs => (by cases hs))).mono ?_
    rintro e w' ⟨rfl, C', G', K'⟩
    exact ⟨rfl, icTo C' G' K' Grew.refl ho hl wl he⟩
  flush := by
    rintro O p lv en l h m w _ ⟨pg, rfl, C, G, ho, hl, wl, he⟩ l1
    refine (flush16_any pg p lv en _ h m w C).mono ?_
    rintro e w' ⟨rfl, C', K'⟩
    refine ⟨rfl, icTo (pg' := fun _ => none) C' ⟨fun k b _ e => (by cases e), fun _ _ _ _ _ => rfl, fun j k b _ _ e _ => (by cases e)⟩ (K'.mono fun k _ hk => .inl hk) ?_ List.nodup_nil (fun e he => (by cases he)) wl (fun _ => rfl)⟩
    rintro k (rfl | ⟨j, _, e⟩)
    · exact .inl (.inl rfl)
    · cases e
  valid := by
    rintro O p lv en l h m w _ ⟨pg, rfl, C, G, ho, hl, wl, he⟩ l1
    refine (valid16_any pg p lv en _ h m w C).mono ?_
    rintro e w' ⟨rfl, rfl⟩
    exact ⟨rfl, Below.refl _ _⟩
  hits := by
    rintro O p lv en l h m w _ ⟨pg, rfl, C, G, ho, hl, wl, he⟩
    refine (hits16_any pg p lv en _ h m w C).mono ?_
    rintro e w' ⟨rfl, rfl⟩
    exact ⟨rfl, Below.refl _ _⟩
  misses := by
    rintro O p lv en l h m w _ ⟨pg, rfl, C, G, ho, hl, wl, he⟩
    refine (misses16_any pg p lv en _ h m w C).mono ?_
    rintro e w' ⟨rfl, rfl⟩
    exact ⟨rfl, Below.refl _ _⟩

set_option maxHeartbeats 4000000 in
theorem get16_nil (pm : Nat) (M : List Int) (v : Value) (a : Int) (w : World) (hM : M.length = 65536) (hp : MemAt pm M v w) (hB : BtM M) :
    Calls Tryd.prog 14 #[.pointer none, .pointer (some ⟨pm, 0, none⟩), .int .i64 a] w fun e w' => e = .returned (.agg (icells (decAt M a 0))) ∧ Below w.heap.size w w' := by
  have DA := Lib.hid (fun u (hu : MemAt pm M v u) => decodeAt_any pm M v a 0 u hM hu hB (by decide))
  have HM := Lib.hid (fun u (k : Below w.heap.size w u) => hp.keep (k.block pm hp.lt))
  have G0 := Lib.hid (Blk.new w 38 zeroI)
  have B0 := Lib.hid (below_new' w (.cells zeroI 38))
  generalize decAt M a 0 = I at *
  clear hM hp hB
  go_enter Tryd.func14, Tryd.ntmps14
  go_upto_region 1 with fail
  unfold zeroI at G0 B0
  generalize World.alloc _ _ = w1 at G0 B0 ⊢
  go_wp2_with fail
  refine (DA.out _ (HM.out _ B0.out)).mono ?_
  rintro e w2 ⟨rfl, b2⟩
  have G2 := Lib.hid (G0.out.step b2)
  have B2 := Lib.hid (B0.out.trans (b2.mono B0.out.size))
  clear b2 G0 B0
  simp only []
  go_at_K
  iterate 1 go_step
  refine list_store_all aggInstr G2.out rfl rfl (by unfold Ones icells; kernel_rfl) rfl (.tmp 6) (.tmp 14) rfl rfl rfl ?_
  simp only [Act.put, List.setIfInBounds_toArray, List.set_cons_zero, List.set_cons_succ]
  have R := G2.out.store (icells I)
  have B := belowRow' B2.out (Nat.le_refl w.heap.size) (icells I)
  generalize World.setRow _ _ _ = w6 at R B ⊢
  go_wp2_with fail
  iterate 4 (try go_step)
  exact bodyPost_ret (results_cell_row rfl _ _ w.heap.size _ _ _ _ rfl R Tryd.underlying38 rfl aggInstr.i) rfl ⟨rfl, B⟩
end Go.Proofs.YtgilkbmipgejeaaDoor
