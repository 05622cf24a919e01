/- Package alu: Do. -/
import Derived.Test.YtfjdhhheofcanaaAluLk
import Derived.Test.YtfjdhhheofcanaaAluSpec
import Derived.Test.YtfjdhhheofcanaaAluSpL
import Derived.Shelf.Abstract
namespace Go.Proofs.Ytfjdhhheofcanaa
open Go.RowKit Num Dec Cpu Go.Maps
set_option linter.unusedVariables false
set_option linter.unusedSimpArgs false
set_option maxRecDepth 100000

theorem alk_cases {op : Int} {f : Nat} (h : alk opsA op = some f) : (op = 8 ∧ f = 21) ∨ (op = 9 ∧ f = 22) ∨ (op = 10 ∧ f = 23) ∨ (op = 11 ∧ f = 24) ∨ (op = 12 ∧ f = 25) ∨ (op = 13 ∧ f = 26) ∨ (op = 14 ∧ f = 27) ∨ (op = 15 ∧ f = 28) ∨ (op = 17 ∧ f = 29) ∨ (op = 16 ∧ f = 30) ∨ (op = 18 ∧ f = 31) := by
  unfold opsA at h
  simp only [alk] at h
  repeat' split at h
  all_goals first | (injection h with h; subst h; simp [*]; done) | cases h
theorem alk_none {op : Int} (h : alk opsA op = none) : aluIs op = false := by
  unfold opsA at h
  simp only [alk] at h
  unfold aluIs
  repeat' split at h
  all_goals first | (cases h; done) | skip
  simp
  omega
theorem opf_enters {op : Int} {f : Nat} (h : alk opsA op = some f) : ∀ args w, (callFunc f args).run Try.prog w = .ok (.enter f args) w := by
  rcases alk_cases h with ⟨_, rfl⟩ | ⟨_, rfl⟩ | ⟨_, rfl⟩ | ⟨_, rfl⟩ | ⟨_, rfl⟩ | ⟨_, rfl⟩ | ⟨_, rfl⟩ | ⟨_, rfl⟩ | ⟨_, rfl⟩ | ⟨_, rfl⟩ | ⟨_, rfl⟩
  · exact enters_of Try.func21 (by kernel_rfl) rfl
  · exact enters_of Try.func22 (by kernel_rfl) rfl
  · exact enters_of Try.func23 (by kernel_rfl) rfl
  · exact enters_of Try.func24 (by kernel_rfl) rfl
  · exact enters_of Try.func25 (by kernel_rfl) rfl
  · exact enters_of Try.func26 (by kernel_rfl) rfl
  · exact enters_of Try.func27 (by kernel_rfl) rfl
  · exact enters_of Try.func28 (by kernel_rfl) rfl
  · exact enters_of Try.func29 (by kernel_rfl) rfl
  · exact enters_of Try.func30 (by kernel_rfl) rfl
  · exact enters_of Try.func31 (by kernel_rfl) rfl
theorem opf_any {op : Int} {f : Nat} (h : alk opsA op = some f) (x y nn : Nat) (hx : x < 256) (hy : y < 256) (hn : nn < 256) (q : Pr) (w : World) : Calls Try.prog f #[.agg (opc x y nn q)] w fun e w' => Outc op x y nn q e ∧ Below w.heap.size w w' := by
  rcases alk_cases h with ⟨rfl, rfl⟩ | ⟨rfl, rfl⟩ | ⟨rfl, rfl⟩ | ⟨rfl, rfl⟩ | ⟨rfl, rfl⟩ | ⟨rfl, rfl⟩ | ⟨rfl, rfl⟩ | ⟨rfl, rfl⟩ | ⟨rfl, rfl⟩ | ⟨rfl, rfl⟩ | ⟨rfl, rfl⟩
  · exact setNN_any x y nn hx hy hn q w
  · exact addNN_any x y nn hx hy hn q w
  · exact move_any x y nn hx hy hn q w
  · exact or_any x y nn hx hy hn q w
  · exact and_any x y nn hx hy hn q w
  · exact xor_any x y nn hx hy hn q w
  · exact add_any x y nn hx hy hn q w
  · exact sub_any x y nn hx hy hn q w
  · exact subFrom_any x y nn hx hy hn q w
  · exact shiftRight_any x y nn hx hy hn q w
  · exact shiftLeft_any x y nn hx hy hn q w
theorem alk_is {op : Int} {f : Nat} (h : alk opsA op = some f) : aluIs op = true := by
  rcases alk_cases h with ⟨rfl, _⟩ | ⟨rfl, _⟩ | ⟨rfl, _⟩ | ⟨rfl, _⟩ | ⟨rfl, _⟩ | ⟨rfl, _⟩ | ⟨rfl, _⟩ | ⟨rfl, _⟩ | ⟨rfl, _⟩ | ⟨rfl, _⟩ | ⟨rfl, _⟩ <;> rfl
theorem zeroFn (w : World) : (zeroValue 40).run Try.prog w = .ok .nilFunc w := by kernel_rfl
def alkV (L : List (Int × Nat)) (op : Int) : Value := match alk L op with | some f => afn f | none => .nilFunc
theorem wp_lookupA {P : Program} (hP : P = Try.prog) {o : Oper} {a : Act} {K : Act → World → Prop} {Q : Exit → Act → World → Prop} {w : World} {m n : Nat} {L : List (Int × Nat)} {D : DataW Value} (H : MapA m n L w D) (mx xx : Operand) (hop : o.op = Op.lookup 42 mx xx true) (hm : a.eval mx = .map (some m)) (op : Int) (hx : a.eval xx = .int .i64 op) (hk : (Lit.int .i64 op).wf = true)
    (h : K (a.put o.dst (.tuple #[alkV L op, .bool (alk L op).isSome])) w) : o.wp P a w K Q := by
  subst hP
  obtain ⟨v, ps, hrun, hv⟩ := H.own.look_ok intKeyed Try.underlying42 (zeroFn w) (zd := .held .nilFunc) (zp := []) rfl (int_key op hk)
  have e : v = alkV L op := by
    rw [H.at_] at hv
    unfold aHeld alkV at *
    cases hc : alk L op with
    | none => rw [hc] at hv; simp only [Option.some.injEq, Prod.mk.injEq, DataW.held.injEq] at hv; exact hv.1
    | some f => rw [hc] at hv; simp only [Option.some.injEq, Prod.mk.injEq, DataW.held.injEq] at hv; exact hv.1
  rw [e, H.has_] at hrun
  unfold Oper.wp
  simp [execOp, hop, hm, hx, hrun, Result.andThen]
  exact h
/-- A world with two cells that are known. -/
structure TwoC (a b : Addr) (va vb : Value) where
  w : World
  ha : w.cell? a = some va
  hb : w.cell? b = some vb
theorem u8_of {r : Int} {k : Nat} (h : r % 256 = (k : Int)) : IntKind.u8.wrap r = (k : Int) := by rw [IntKind.wrap_u8, h]
set_option maxHeartbeats 8000000 in
theorem do_any (v : Nat → Nat) (op : Int) (x y nn : Nat) (n addr len : Int) (q : Pr) (w : World) (hv : OkV v) (hx : x < 16) (hy : y < 16) (hn : nn < 256) (hop : (Lit.int .i64 op).wf = true) :
    Calls Try.prog 10 #[.agg (rg v), .agg (icells ⟨op, x, y, n, nn, addr, len⟩), .agg (prc q)] w fun e w' => e = .returned (.tuple #[.agg (rg (aluV v ⟨op, x, y, n, nn, addr, len⟩ q)), .bool (aluIs op)]) ∧ Below w.heap.size w w' := by
  have RD := Lib.hid (fun w => read_any v op x y nn n addr len q w hv hx hy hn)
  have RG := Lib.hid (fun w => register_any x hx w)
  have HX := Lib.hid (And.intro hx (And.intro hy hn))
  have VX := Lib.hid (And.intro (hv x hx) (hv y hy))
  have HO := Lib.hid hop
  have B0 := Lib.hid ((below3 w (.cells (rg v) 22) (.cells (icells ⟨op, x, y, n, nn, addr, len⟩) 24) (.cells (prc q) 26)).alloc (by simp; omega) (.cells (pc zeroPa) 22))
  have V0 := Lib.hid ((((Blk.new w 22 (rg v)).alloc (.cells (icells ⟨op, x, y, n, nn, addr, len⟩) 24)).alloc (.cells (prc q) 26)).alloc (.cells (pc zeroPa) 22))
  have I0 := Lib.hid (((Blk.new (w.alloc (.cells (rg v) 22)) 24 (icells ⟨op, x, y, n, nn, addr, len⟩)).alloc (.cells (prc q) 26)).alloc (.cells (pc zeroPa) 22))
  have P0 := Lib.hid ((Blk.new ((w.alloc (.cells (rg v) 22)).alloc (.cells (icells ⟨op, x, y, n, nn, addr, len⟩) 24)) 26 (prc q)).alloc (.cells (pc zeroPa) 22))
  have O0 := Lib.hid (Blk.new (((w.alloc (.cells (rg v) 22)).alloc (.cells (icells ⟨op, x, y, n, nn, addr, len⟩) 24)).alloc (.cells (prc q) 26)) 22 (pc zeroPa))
  simp only [World.size_alloc] at I0 P0 O0
  have AN := Lib.hid (fun (h : alk opsA op = none) => (show aluV v ⟨op, x, y, n, nn, addr, len⟩ q = v ∧ aluIs op = false from by
    have h1 := alk_none h
    refine ⟨?_, h1⟩
    unfold aluV
    simp [h1]))
  have AS := Lib.hid (fun f (h : alk opsA op = some f) (k : Nat) (R F : Nat) (hR : aluR op (v x) (v y) (if q.sh = true then v y else v x) nn = R) => (show (aluF op (v x) (v y) (if q.sh = true then v y else v x) q.lr = none → aluV v ⟨op, x, y, n, nn, addr, len⟩ q = upd v x R) ∧ (aluF op (v x) (v y) (if q.sh = true then v y else v x) q.lr = some F → aluV v ⟨op, x, y, n, nn, addr, len⟩ q = upd (upd v x R) 15 F) ∧ aluIs op = true from by
    have h1 := alk_is h
    refine ⟨fun h2 => ?_, fun h2 => ?_, h1⟩
    · unfold aluV shX
      simp only [h1, if_true, Int.toNat_natCast, h2, hR]
    · unfold aluV shX
      simp only [h1, if_true, Int.toNat_natCast, h2, hR]))
  have hi0 : (icells ⟨op, x, y, n, nn, addr, len⟩)[0]? = some (.int .i64 op) := rfl
  have hi1 : (icells ⟨op, x, y, n, nn, addr, len⟩)[1]? = some (.int .i64 (x : Int)) := rfl
  have I7 : (icells ⟨op, x, y, n, nn, addr, len⟩).size = 7 := rfl
  have P8 : (prc q).size = 8 := rfl
  generalize aluV v ⟨op, x, y, n, nn, addr, len⟩ q = V at *
  generalize icells ⟨op, x, y, n, nn, addr, len⟩ = I at *
  clear hop hv hx hy hn
  go_enter Try.func10, Try.ntmps10
  go_upto_region 0 with fail
  refine wp_region_lit ?_
  refine list_box_all rfl _ (.tmp 0) rfl (rg v) rfl ?_
  simp only [Act.put, List.setIfInBounds_toArray, List.set_cons_zero, List.set_cons_succ, World.size_alloc]
  refine list_box_all rfl _ (.tmp 1) rfl I rfl ?_
  simp only [Act.put, List.setIfInBounds_toArray, List.set_cons_zero, List.set_cons_succ, World.size_alloc]
  refine list_box_all rfl _ (.tmp 2) rfl (prc q) rfl ?_
  simp only [Act.put, List.setIfInBounds_toArray, List.set_cons_zero, List.set_cons_succ, World.size_alloc]
  refine wpList_plain rfl fun K hK => wp_alloc zeroRg rfl (hK _ _ ?_)
  simp only [Act.put, List.setIfInBounds_toArray, List.set_cons_zero, List.set_cons_succ, World.size_alloc]
  go_upto_region 1 with fail
  show (Code.region _ _ _).wp _ _ _ ((((w.alloc (.cells (rg v) 22)).alloc (.cells I 24)).alloc (.cells (prc q) 26)).alloc (.cells (pc zeroPa) 22))
  obtain ⟨g, hg⟩ : ∃ g, w.heap.size = g := ⟨_, rfl⟩
  rw [hg] at V0 I0 P0 O0 ⊢
  have GL := Lib.hid hg
  generalize (((w.alloc (.cells (rg v) 22)).alloc (.cells I 24)).alloc (.cells (prc q) 26)).alloc (.cells (pc zeroPa) 22) = w1 at *
  clear hg
  have i0 := Calm.cell (show w1.cell? ⟨g + 1, 0, none⟩ = some (.int .i64 op) from (I0.out.cell 0).trans hi0) I0.out.lt
  refine wp_region_mix (C := fun w' => ∃ u : Calm w1, w' = u.w) [([1, 2], 0), ([], 3)] [4, 5, 6, 7, 8] (by kernel_rfl) (by kernel_rfl) (fun _ _ d _ _ h => by cases d <;> exact h) ⟨⟨w1.drew, (Below.refl _ _).drew⟩, rfl⟩ ?_
  intro wd hwd
  have bd := Lib.hid (show Below w1.heap.size w1 wd by rw [hwd]; exact (Below.refl _ _).drew)
  clear hwd
  refine mix_run (by simp only [opsAt, List.getElem?_toArray, List.getElem?_cons_succ, List.getElem?_cons_zero]; rfl) (by simp only [List.getElem?_toArray, List.getElem?_cons_succ, List.getElem?_cons_zero]; rfl) ?_
  repeat (go_big_quiet_step (fail))
  refine wpQuiet_nil ?_
  refine mix_call (by rfl) ?_
  intro K hK
  go_wp2_with fail
  refine (operations_any _).mono ?_
  rintro e w2 ⟨m, D, rfl, M0, b2⟩
  have M := Lib.hid M0
  have b2 := Lib.hid (bd.out.trans (b2.mono bd.out.size))
  clear M0
  refine hK _ _ ⟨⟨w2, b2.out⟩, rfl⟩ ?_
  clear hK
  refine mix_run (by simp only [opsAt, List.getElem?_toArray, List.getElem?_cons_succ, List.getElem?_cons_zero]; rfl) (by simp only [List.getElem?_toArray, List.getElem?_cons_succ, List.getElem?_cons_zero]; rfl) ?_
  refine wpQuiet_nil ?_
  refine mix_call (by rfl) ?_
  intro K hK
  refine wp_lookupA rfl M.out (.tmp 12) (.tmp 14) rfl (by rfl) op (by rfl) HO.out ?_
  simp only [Act.put, List.setIfInBounds_toArray, List.set_cons_zero, List.set_cons_succ]
  refine hK _ _ ⟨⟨w2, b2.out⟩, rfl⟩ ?_
  clear hK
  have V0 := Lib.hid (V0.out.step b2.out)
  have I0 := Lib.hid (I0.out.step b2.out)
  have P0 := Lib.hid (P0.out.step b2.out)
  have O0 := Lib.hid (O0.out.step b2.out)
  have B0 := Lib.hid (B0.out.trans (b2.out.mono B0.out.size))
  refine mix_last (by simp only [opsAt, List.getElem?_toArray, List.getElem?_cons_succ, List.getElem?_cons_zero]; rfl) ?_
  repeat (go_big_quiet_step (fail))
  refine wpQuiet_nil ?_
  clear M b2 i0 bd
  obtain ⟨k, hk⟩ : ∃ k, alk opsA op = k := ⟨_, rfl⟩
  have HK := Lib.hid hk
  unfold alkV
  rw [hk]
  clear hk
  cases k with
  | none =>
    simp only [Option.isSome]
    go_upto_region 3 with fail
    refine wp_region_lit ?_
    refine list_load_all aggPat V0.out (rg_size _) rfl (.tmp 3) rfl rfl ?_
    simp only [Act.put, List.setIfInBounds_toArray, List.set_cons_zero, List.set_cons_succ]
    refine list_store_all aggPat O0.out (pc_size _) (rg_size _) (rg_one _) rfl (.tmp 6) (.tmp 20) rfl rfl rfl ?_
    simp only [Act.put, List.setIfInBounds_toArray, List.set_cons_zero, List.set_cons_succ]
    have R := Lib.hid (O0.out.store (rg v))
    have B := Lib.hid (belowRow' B0.out (by rw [GL.out]; omega : w.heap.size ≤ g + 1 + 1 + 1) (rg v))
    have AX := Lib.hid (AN.out HK.out)
    generalize w2.setRow (g + 1 + 1 + 1) (rg v) = wz at *
    go_wp2_with fail
    exact bodyPost_ret (results_cell_slot8 rfl _ _ (g + 1 + 1 + 1) _ _ _ _ rfl rfl R.out aggPat (rg_size _)) rfl ⟨by rw [AX.out.1, AX.out.2]; rfl, B.out⟩
  | some f =>
    simp only [Option.isSome]
    go_upto_region 4 with fail
    refine wp_region_lit ?_
    iterate 3 go_step
    refine list_load_all aggPat V0.out (rg_size _) rfl (.tmp 3) rfl rfl ?_
    simp only [Act.put, List.setIfInBounds_toArray, List.set_cons_zero, List.set_cons_succ]
    refine list_load_all aggInstr I0.out I7 rfl (.tmp 4) rfl rfl ?_
    simp only [Act.put, List.setIfInBounds_toArray, List.set_cons_zero, List.set_cons_succ]
    refine list_load_all aggPrA P0.out P8 rfl (.tmp 5) rfl rfl ?_
    simp only [Act.put, List.setIfInBounds_toArray, List.set_cons_zero, List.set_cons_succ]
    go_wp2_with fail
    refine (RD.out _).mono ?_
    rintro e w3 ⟨rfl, b⟩
    have V0 := Lib.hid (V0.out.step b)
    have I0 := Lib.hid (I0.out.step b)
    have P0 := Lib.hid (P0.out.step b)
    have O0 := Lib.hid (O0.out.step b)
    have B0 := Lib.hid (B0.out.trans (b.mono B0.out.size))
    clear b
    simp only []
    go_at_K
    iterate 1 go_step
    refine wpList_plain rfl fun K hK => ?_
    refine wp_call_fn (g := f) (caps := #[]) (args := #[.agg (opc (v x) (v y) nn q)]) (.tmp 21) #[.tmp 25] #[47] rfl (opf_enters HK.out) rfl (by simp [Act.eval, Act.put]) ?_
    refine (opf_any HK.out (v x) (v y) nn VX.out.1 VX.out.2 HX.out.2.2 q _).mono ?_
    rintro e w4 ⟨⟨r, fl, h, rfl, hr, hfl, haf, hr0, hr1⟩, b⟩
    refine ⟨_, rfl, hK _ _ ?_⟩
    clear hK
    have V0 := Lib.hid (V0.out.step b)
    have I0 := Lib.hid (I0.out.step b)
    have O0 := Lib.hid (O0.out.step b)
    have B0 := Lib.hid (B0.out.trans (b.mono B0.out.size))
    clear b P0
    simp only [Act.put, List.setIfInBounds_toArray, List.set_cons_zero, List.set_cons_succ]
    refine list_var_all (ds := oc r fl h) aggOc zeroOc rfl rfl (oc_one _ _ _) rfl rfl rfl (.tmp 10) (.tmp 26) rfl (by simp [Act.eval, Act.put]) (by simp [Act.eval, Act.put]) ?_
    simp only [Act.put, List.setIfInBounds_toArray, List.set_cons_zero, List.set_cons_succ]
    have K0 := Lib.hid (Blk.new w4 45 (oc r fl h))
    have b := (Below.refl w4.heap.size w4).alloc (Nat.le_refl _) (.cells (oc r fl h) 45)
    have GK := Lib.hid (show g + 1 + 1 + 1 < w4.heap.size from O0.out.lt)
    have V0 := Lib.hid (V0.out.step b)
    have I0 := Lib.hid (I0.out.step b)
    have O0 := Lib.hid (O0.out.step b)
    have B0 := Lib.hid (B0.out.trans (b.mono B0.out.size))
    clear b
    obtain ⟨go, hgo⟩ : ∃ go, w4.heap.size = go := ⟨_, rfl⟩
    rw [hgo] at K0 GK ⊢
    generalize w4.alloc (.cells (oc r fl h) 45) = w5 at *
    clear hgo
    obtain ⟨R, hR⟩ : ∃ R, aluR op (v x) (v y) (if q.sh = true then v y else v x) nn = R := ⟨_, rfl⟩
    have AX := Lib.hid (AS.out f HK.out 0 R fl hR)
    rw [hR] at hr
    have wr := u8_of hr
    have HF := Lib.hid haf
    have R8 := Lib.hid (show R < 256 by omega)
    have F1 := Lib.hid hfl
    clear haf hR hr hr0 hr1 hfl AS AN RD
    go_upto_region 5 with fail
    have gk := GK.out
    have i1 : w5.cell? ⟨g + 1, 1, none⟩ = some (.int .i64 (x : Int)) := (I0.out.cell 1).trans hi1
    have o0 : w5.cell? ⟨go, 0, none⟩ = some (.int .i64 r) := K0.out.cell 0
    haveI : Nonempty (TwoC ⟨g + 1, 1, none⟩ ⟨go, 0, none⟩ (.int .i64 (x : Int)) (.int .i64 r)) := ⟨⟨w5, i1, o0⟩⟩
    have k1 : ∀ u : TwoC ⟨g + 1, 1, none⟩ ⟨go, 0, none⟩ (.int .i64 (x : Int)) (.int .i64 r), u.w.cell? ⟨g + 1, 1, none⟩ = some (.int .i64 (x : Int)) := fun u => u.ha
    have k2 : ∀ u : TwoC ⟨g + 1, 1, none⟩ ⟨go, 0, none⟩ (.int .i64 (x : Int)) (.int .i64 r), u.w.cell? ⟨go, 0, none⟩ = some (.int .i64 r) := fun u => u.hb
    refine wp_region_mix (C := fun w' => ∃ u : TwoC ⟨g + 1, 1, none⟩ ⟨go, 0, none⟩ (.int .i64 (x : Int)) (.int .i64 r), w' = u.w) [([0, 1, 3, 4, 5], 2), ([6], 7)] [] (by kernel_rfl) (by kernel_rfl) (fun _ _ d _ _ h => by cases d <;> exact h) ⟨⟨w5.drew, i1, o0⟩, rfl⟩ ?_
    intro wd hwd
    have V0 := Lib.hid (show Blk g 22 (rg v) wd by rw [hwd]; exact V0.out.drew)
    have O0 := Lib.hid (show Blk (g + 1 + 1 + 1) 22 (pc zeroPa) wd by rw [hwd]; exact O0.out.drew)
    have K0 := Lib.hid (show Blk go 45 (oc r fl h) wd by rw [hwd]; exact K0.out.drew)
    have B0 := Lib.hid (show Below w.heap.size w wd by rw [hwd]; exact B0.out.drew)
    have j1 := Lib.hid (show wd.cell? ⟨g + 1, 1, none⟩ = some (.int .i64 (x : Int)) by rw [hwd]; exact i1)
    have jo := Lib.hid (show wd.cell? ⟨go, 0, none⟩ = some (.int .i64 r) by rw [hwd]; exact o0)
    clear hwd i1 o0
    refine mix_run (by simp only [opsAt, List.getElem?_toArray, List.getElem?_cons_succ, List.getElem?_cons_zero]; rfl) (by simp only [List.getElem?_toArray, List.getElem?_cons_succ, List.getElem?_cons_zero]; rfl) ?_
    repeat (go_big_quiet_step (fail))
    refine wpQuiet_nil ?_
    refine mix_call (by rfl) ?_
    intro K hK
    go_wp2_with fail
    refine (RG.out _).mono ?_
    rintro e w' ⟨rfl, rfl⟩
    refine hK _ _ ⟨⟨wd, j1.out, jo.out⟩, rfl⟩ ?_
    clear hK
    have xi : (x : Int) < 16 := (by have := HX.out.1; omega)
    refine mix_run (by simp only [opsAt, List.getElem?_toArray, List.getElem?_cons_succ, List.getElem?_cons_zero]; rfl) (by simp only [List.getElem?_toArray, List.getElem?_cons_succ, List.getElem?_cons_zero]; rfl) ?_
    repeat (go_big_quiet_step (fail))
    refine wpQuiet_nil ?_
    refine mix_call (by rfl) ?_
    intro K hK
    clear k1 k2
    have cx : wd.cell? ⟨g, x, none⟩ = some (.int .u8 (v x : Int)) := by rw [V0.out.cell, rg_get v HX.out.1]
    have fx : wd.frozen? ⟨g, x, none⟩ = false := V0.out.frozen x
    go_wp2_with fail
    have G1 := Lib.hid (show g ≠ g + 1 ∧ g ≠ go by omega)
    refine hK _ _ ⟨⟨wd.setCell ⟨g, x, none⟩ (.int .u8 (R : Int)), (World.cell?_setCell_other _ ⟨g, x, none⟩ ⟨g + 1, 1, none⟩ _ (by intro c; injection c; omega)).trans j1.out, (World.cell?_setCell_other _ ⟨g, x, none⟩ ⟨go, 0, none⟩ _ (by intro c; injection c; omega)).trans jo.out⟩, rfl⟩ ?_
    clear hK
    have V0 := Lib.hid ((V0.out.put x (.int .u8 (R : Int))).eq (rg_put v HX.out.1 R))
    have O0 := Lib.hid (O0.out.other (g := g) (by omega) x (.int .u8 (R : Int)))
    have K0 := Lib.hid (K0.out.other (g := g) (by omega) x (.int .u8 (R : Int)))
    have B0 := Lib.hid (B0.out.setCell (p := ⟨g, x, none⟩) (by rw [GL.out]; exact Nat.le_refl _) (.int .u8 (R : Int)))
    generalize wd.setCell ⟨g, x, none⟩ (.int .u8 (R : Int)) = w6 at *
    refine mix_last (by simp only [opsAt, List.getElem?_toArray, List.getElem?_cons_succ, List.getElem?_cons_zero]; rfl) ?_
    refine wpQuiet_nil ?_
    clear cx fx j1 jo wr
    have o2 : w6.cell? ⟨go, 2, none⟩ = some (.bool h) := K0.out.cell 2
    have o1 : w6.cell? ⟨go, 1, none⟩ = some (.int .u8 (fl : Int)) := K0.out.cell 1
    cases h
    · have AV := Lib.hid (AX.out.1 (HF.out.trans rfl))
      have AI := Lib.hid AX.out.2.2
      clear AX HF
      go_upto_region 8 with fail
      refine wp_region_lit ?_
      refine list_load_all aggPat V0.out (rg_size _) rfl (.tmp 3) rfl rfl ?_
      simp only [Act.put, List.setIfInBounds_toArray, List.set_cons_zero, List.set_cons_succ]
      refine list_store_all aggPat O0.out (pc_size _) (rg_size _) (rg_one _) rfl (.tmp 6) (.tmp 39) rfl rfl rfl ?_
      simp only [Act.put, List.setIfInBounds_toArray, List.set_cons_zero, List.set_cons_succ]
      have RR := Lib.hid (O0.out.store (rg (upd v x R)))
      have B := Lib.hid (belowRow' B0.out (by rw [GL.out]; omega : w.heap.size ≤ g + 1 + 1 + 1) (rg (upd v x R)))
      iterate 7 go_step
      exact bodyPost_ret (results_cell_slot8 rfl _ _ (g + 1 + 1 + 1) _ _ _ _ rfl rfl RR.out aggPat (rg_size _)) rfl ⟨by rw [AV.out, AI.out]; rfl, B.out⟩
    · have AV := Lib.hid (AX.out.2.1 (HF.out.trans rfl))
      have AI := Lib.hid AX.out.2.2
      clear AX HF
      have cf : w6.cell? ⟨g, 15, none⟩ = some (.int .u8 ((upd v x R) 15 : Int)) := by rw [V0.out.cell, rg_get _ (by omega)]
      have ff : w6.frozen? ⟨g, 15, none⟩ = false := V0.out.frozen 15
      go_upto_region 8 with fail
      have V0 := Lib.hid ((V0.out.put 15 (.int .u8 (fl : Int))).eq (rg_put _ (by omega) fl))
      have O0 := Lib.hid (O0.out.other (g := g) (by omega) 15 (.int .u8 (fl : Int)))
      have B0 := Lib.hid (B0.out.setCell (p := ⟨g, 15, none⟩) (by rw [GL.out]; exact Nat.le_refl _) (.int .u8 (fl : Int)))
      generalize w6.setCell ⟨g, 15, none⟩ (.int .u8 (fl : Int)) = w7 at *
      refine wp_region_lit ?_
      refine list_load_all aggPat V0.out (rg_size _) rfl (.tmp 3) rfl rfl ?_
      simp only [Act.put, List.setIfInBounds_toArray, List.set_cons_zero, List.set_cons_succ]
      refine list_store_all aggPat O0.out (pc_size _) (rg_size _) (rg_one _) rfl (.tmp 6) (.tmp 39) rfl rfl rfl ?_
      simp only [Act.put, List.setIfInBounds_toArray, List.set_cons_zero, List.set_cons_succ]
      have RR := Lib.hid (O0.out.store (rg (upd (upd v x R) 15 fl)))
      have B := Lib.hid (belowRow' B0.out (by rw [GL.out]; omega : w.heap.size ≤ g + 1 + 1 + 1) (rg (upd (upd v x R) 15 fl)))
      iterate 7 go_step
      exact bodyPost_ret (results_cell_slot8 rfl _ _ (g + 1 + 1 + 1) _ _ _ _ rfl rfl RR.out aggPat (rg_size _)) rfl ⟨by rw [AV.out, AI.out]; rfl, B.out⟩
theorem aluSpec : AluSpec where
  do_ := fun v op x y nn n addr len q w hv hx hy hn hop => do_any v op x y nn n addr len q w hv hx hy hn hop
  sk := fun v op x y nn n addr len w hv hx hy hn => skips_any v op x y nn n addr len w hv hx hy hn
  dg := fun b w hb => digits_any b w hb
end Go.Proofs.Ytfjdhhheofcanaa
