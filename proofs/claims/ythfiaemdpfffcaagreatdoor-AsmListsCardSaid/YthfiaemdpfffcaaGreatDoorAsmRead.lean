/- What the parts of a text say: nothing of the program but the kinds of operands. -/
import Derived.Test.YthfiaemdpfffcaaGreatDoorAsmTx
import Derived.Test.YthfiaemdpfffcaaGreatDoorAsmSplit
import Derived.Test.YthfiaemdpfffcaaGreatDoorMix
import Derived.Test.YthfiaemdpfffcaaGreatDoorLate
import Derived.Test.YthfiaemdpfffcaaGreatDoorAsmOr
import Derived.Test.YthfiaemdpfffcaaGreatDoorAsmEnc
import Derived.Test.YthfiaemdpfffcaaGreatDoorAppRd
namespace Go.Proofs.YthfiaemdpfffcaaGreatDoor
open Go.RowKit Num Dec
set_option linter.unusedVariables false
set_option linter.unusedSimpArgs false

noncomputable def rdAll : List Kd → List (List UInt8) → Ins → Option Ins
  | [], _, i => some i
  | _ :: _, [], _ => none
  | k :: ks, p :: ps, i => if (kdO k p).isSome = true then rdAll ks ps (kdSet k (nz (kdO k p)) i) else none
def ins0 (op : Nat) : Ins := ⟨(op : Int), 0, 0, 0, 0, 0, 2⟩
noncomputable def readO : List (List UInt8) → Option Ins
  | [] => none
  | p :: ps => if ps.length = (kds (fndN p)).length then rdAll (kds (fndN p)) ps (ins0 (fndN p)) else none
theorem rdAll_cons (k : Kd) (ks : List Kd) (p : List UInt8) (ps : List (List UInt8)) (i : Ins) : rdAll (k :: ks) (p :: ps) i = if (kdO k p).isSome = true then rdAll ks ps (kdSet k (nz (kdO k p)) i) else none := by
  rw [rdAll]
theorem rdAll_op : ∀ (ks : List Kd) (ps : List (List UInt8)) (i j : Ins), rdAll ks ps i = some j → j.op = i.op
  | [], _, i, j, h => by unfold rdAll at h; injection h with h; rw [h]
  | _ :: _, [], _, _, h => by unfold rdAll at h; cases h
  | k :: ks, p :: ps, i, j, h => by
    unfold rdAll at h
    split at h
    · have := rdAll_op ks ps _ _ h
      rw [this]
      cases k <;> rfl
    · cases h
def readV : Option Ins → Value
  | some i => .tuple #[.agg (icells i), .bool true]
  | none => .tuple #[.agg zeroI, .bool false]
end Go.Proofs.YthfiaemdpfffcaaGreatDoor
/- read: the instruction whose text has these parts. -/
namespace Go.Proofs.YthfiaemdpfffcaaGreatDoor
open Go.RowKit Num Dec
set_option linter.unusedVariables false
set_option linter.unusedSimpArgs false

theorem apart_cell {p : Nat} {g : Option Nat} {w w' : World} (h : Apart p g w w') {b o : Nat} (h1 : b < w.heap.size) (h2 : b ≠ p) (h3 : some b ≠ g) : w'.cell? ⟨b, o, none⟩ = w.cell? ⟨b, o, none⟩ := by
  unfold World.cell?
  simp only [h.block b h1 h2 h3]
theorem one_more {n ln j : Nat} (hi : (n : Int) = 1 + (ln : Int)) (hj : j < ln) : IntKind.i64.wrap (1 + (j : Int)) = IntKind.i64.wrap (1 + (j : Int)) ∧ (1 + (j : Int)).toNat = 1 + j ∧ 1 + (j : Int) < n ∧ 0 ≤ 1 + (j : Int) := by omega
theorem one_wrap {j : Nat} (h : j ≤ 1000000) : IntKind.i64.wrap (1 + (j : Int)) = 1 + (j : Int) ∧ wrap64 (1 + (j : Int)) = 1 + (j : Int) := ⟨by rw [IntKind.wrap_i64]; omega, by unfold wrap64; omega⟩
/-- A slice of strings that is not empty. -/
structure Parts (w : World) (A : Option Addr) (L : List ByteArray) (pb po : Nat) : Prop where
  at_ : A = some ⟨pb, po, none⟩
  lt : pb < w.heap.size
  cell : ∀ k (h : k < L.length), w.cell? ⟨pb, po + k, none⟩ = some (.string L[k])
theorem Parts.of {w : World} {A : Option Addr} {L : List ByteArray} (h : Row Value.string w A L) (hne : L ≠ []) : ∃ pb po, Parts w A L pb po := by
  obtain ⟨b, o, rfl, hb, hc⟩ := h.at_ (k := 0) (List.length_pos_iff.2 hne)
  refine ⟨b, o, rfl, hb, fun k hk => ?_⟩
  obtain ⟨b', o', e, _, hc'⟩ := h.at_ hk
  injection e with e
  injection e with e1 e2
  rw [e1, e2]
  exact hc'
theorem Parts.step {w w' : World} {A : Option Addr} {L : List ByteArray} {pb po n : Nat} (h : Parts w A L pb po) (hb : Below w.heap.size w w') : Parts w' A L pb po :=
  ⟨h.at_, Nat.lt_of_lt_of_le h.lt hb.size, fun k hk => (hb.cell (p := ⟨pb, po + k, none⟩) h.lt).trans (h.cell k hk)⟩

/-- The result and the instruction at hand. -/
structure RW (w0 : World) (i : Ins) (w : World) : Prop where
  res : Blk w0.heap.size 33 zeroI w
  box : Blk (w0.heap.size + 1) 33 (icells i) w
  low : Below w0.heap.size w0 w
theorem RW.new (w0 : World) (i : Ins) : RW w0 i ((w0.alloc (.cells zeroI 33)).alloc (.cells (icells i) 33)) :=
  ⟨(Blk.new _ _ _).alloc _, (by have := Blk.new (w0.alloc (.cells zeroI 33)) 33 (icells i); simpa using this), ((Below.refl _ _).alloc (Nat.le_refl _) _).alloc (by simp) _⟩
theorem RW.alloc {w0 w : World} {i : Ins} (h : RW w0 i w) (o : Obj) : RW w0 i (w.alloc o) := ⟨h.res.alloc o, h.box.alloc o, h.low.alloc h.low.size o⟩
theorem RW.read {w0 w w' : World} {i j : Ins} (h : RW w0 i w) (ha : Apart (w0.heap.size + 1) none w w') (hb : Blk (w0.heap.size + 1) 33 (icells j) w') : RW w0 j w' :=
  ⟨(ha.block _ h.res.lt (by omega) (fun e => by cases e)).trans h.res, hb, h.low.trans (ha.below h.low.size (by omega) (fun _ e => by cases e))⟩

theorem results_cell_slotI {P : Program} {fn : Func} {p q : Tmp} {ty : TypeId} (h : fn.results = #[.cell p ty, .tmp q]) (tmps : Array Value) (w : World) (g : Nat) (t : TypeId) (cs : Array Value) (fr : Nat × Nat) (d : TypeDesc) (v : Value)
    (hp : tmps.getD p undef = .pointer (some ⟨g, 0, none⟩)) (hq : tmps.getD q undef = v) (hg : w.heap[g]? = some (.cells cs t fr))
    (hu : P.underlying ty = some d) (hd : (match d with | .struct _ | .array _ _ => true | _ => false) = true) (hi : (P.info? ty).map (·.size) = some cs.size) :
    (results fn tmps).run P w = .ok (.tuple #[.agg cs, v]) w := by
  have hp' : tmps[p]?.getD undef = .pointer (some ⟨g, 0, none⟩) := by simpa using hp
  have hq' : tmps[q]?.getD undef = v := by simpa using hq
  simp [results, h, hp', hq', asAddr, run_loadVar_row w g t ty cs fr d hg hu hd hi]
/-- The worlds of the region that reads an operand. -/
def RX (g fr pb off : Nat) (q : ByteArray) (w : World) : Prop := w.cell? ⟨g, 1, none⟩ = some (.func (.func fr) #[] #[]) ∧ w.cell? ⟨pb, off, none⟩ = some (.string q)
theorem RX.drew {g fr pb off : Nat} {q : ByteArray} {w : World} (h : RX g fr pb off q w) : RX g fr pb off q w.drew := ⟨((Below.refl w.heap.size w).drew.cell (p := ⟨g, 1, none⟩) (World.block_lt_of_cell? w _ h.1)).trans h.1, ((Below.refl w.heap.size w).drew.cell (p := ⟨pb, off, none⟩) (World.block_lt_of_cell? w _ h.2)).trans h.2⟩
theorem RW.drew {w0 w : World} {i : Ins} (h : RW w0 i w) : RW w0 i w.drew := ⟨h.res.drew, h.box.drew, h.low.trans (Below.refl _ _).drew⟩
def RXW (g fr pb off : Nat) (q : ByteArray) : Type := { w : World // RX g fr pb off q w }
def RXW.w {g fr pb off : Nat} {q : ByteArray} (u : RXW g fr pb off q) : World := u.1

set_option maxRecDepth 100000 in
set_option maxHeartbeats 8000000 in
theorem read_any (v : Value) (A : Option Addr) (n c : Nat) (L : List ByteArray) (w : World) (hL : AL w) (hS : Syn v w) (H : Row Value.string w A L) (hn : L.length = n) (h1 : 1 ≤ n) (h2 : n ≤ 1000001) (hz : ∀ s ∈ L, s.size ≤ 1000000) :
    Calls Tryz.prog 45 #[v, .slice A n c] w fun e w' => e = .returned (readV (readO (bytesOf L))) ∧ Below w.heap.size w w' := by
  obtain ⟨pb, po, hp⟩ := Parts.of H (fun e => by rw [e] at hn; simp at hn; omega)
  obtain ⟨m, rfl⟩ : ∃ m, v = .map (some m) := ⟨hS.choose, hS.choose_spec.1⟩
  obtain ⟨p, ps, rfl⟩ : ∃ p ps, L = p :: ps := by cases L with | nil => simp at hn; omega | cons p ps => exact ⟨p, ps, rfl⟩
  have hA := hp.at_
  subst hA
  have FD := Lib.hid (fun w hL => find_op p w hL)
  obtain ⟨o, hfo⟩ : ∃ o, fndN p.data.toList = o := ⟨_, rfl⟩
  have ho52 : o < 52 := by rw [← hfo]; exact fnd_lt _
  rw [hfo] at FD
  obtain ⟨s, hs, hlk⟩ := hS.look2 (o : Int) (wf_small _ (by omega) (by omega))
  have hk : kdsI (o : Int) = kds o := by unfold kdsI; rw [if_pos (by omega)]; rfl
  rw [hk] at hs
  obtain ⟨B, rfl, hcs⟩ := (show SLn _ _ _ from hs).form
  have RO := Lib.hid (show readO (bytesOf (p :: ps)) = if ps.length = (kds o).length then rdAll (kds o) (bytesOf ps) (ins0 o) else none by
    unfold readO bytesOf
    simp only [List.map_cons, List.length_map]
    rw [hfo])
  obtain ⟨T, hT⟩ : ∃ T, readO (bytesOf (p :: ps)) = T := ⟨_, rfl⟩
  rw [hT] at RO ⊢
  clear hT
  have hn3 := kds_len o
  generalize kds o = K at *
  obtain ⟨ln, hln⟩ : ∃ ln, K.length = ln := ⟨_, rfl⟩
  have HLK := Lib.hid hlk
  have HCS := Lib.hid hcs
  have HP := Lib.hid hp
  have HZ := Lib.hid hz
  have HLL := Lib.hid hL
  have hpn : ps.length + 1 = n := by simpa using hn
  rw [hln] at hn3 HLK
  have c0 := hp.cell 0 (by simp)
  rw [Nat.add_zero, List.getElem_cons_zero] at c0
  have hpl := hp.lt
  clear hS hs hlk hk hcs hp hz hL hn hfo H
  go_enter Tryz.func45, Tryz.ntmps45
  go_wp2_with fail
  refine (FD.out _ (HLL.out.step (below_new' w _))).mono ?_
  rintro e w1 ⟨rfl, rfl⟩
  have R := Lib.hid (RW.new w (ins0 o))
  have hlk := HLK.out _ R.out.low
  simp only [icells, ins0, zeroI] at hlk
  by_cases hq : n = 1 + ln
  · have hi : (n : Int) = 1 + (ln : Int) := by omega
    have RO := Lib.hid (RO.out.trans (if_pos (by omega)))
    have HQ := Lib.hid (And.intro hq hpn)
    clear hq hpn
    go_wp2_with fail
    go_loopw [28] (fun v28 wr => ∃ (j : Nat) (i : Ins), j ≤ ln ∧ v28 = .int .i64 (j : Int) ∧ RW w i wr ∧ rdAll (K.drop j) ((bytesOf ps).drop j) i = T) (fun v28 _ => ln - (intOf v28).toNat)
    case atStart => exact ⟨0, ins0 o, Nat.zero_le _, rfl, R.out, RO.out.symm⟩
    case round =>
      obtain ⟨j, i, hj, rfl, hw, hr⟩ := hrel
      have HI := Lib.hid hi
      clear hi
      have HW := Lib.hid hw
      have HR := Lib.hid hr
      clear hw hr
      by_cases hlt : j < ln
      · have hjk : j < K.length := by omega
        have hjp : j < ps.length := by have := HQ.out; omega
        obtain ⟨b, rfl, hbl, d0, d1⟩ := HCS.out j hjk
        have cx0 := (HW.out.low.cell (p := ⟨b, 2 * j, none⟩) hbl).trans d0
        have cx1 := (HW.out.low.cell (p := ⟨b, 2 * j + 1, none⟩) hbl).trans d1
        rw [Nat.mul_comm 2 j] at cx0 cx1
        have cp := (HW.out.low.cell (p := ⟨pb, po + (j + 1), none⟩) hpl).trans (HP.out.cell (j + 1) (by simpa using hjp))
        have HJ := Lib.hid hlt
        have zq := HZ.out (ps[j]'hjp) (by simp)
        have eb : (bytesOf ps)[j]? = some (ps[j]'hjp).data.toList := by simp [bytesOf, hjp]
        rw [List.getElem_cons_succ] at cp
        generalize ps[j]'hjp = q at cp zq eb
        have e1 : K.drop j = K[j] :: K.drop (j + 1) := List.drop_eq_getElem_cons hjk
        have hjb : j < (bytesOf ps).length := by simpa [bytesOf] using hjp
        have e2 : (bytesOf ps).drop j = q.data.toList :: (bytesOf ps).drop (j + 1) := by
          rw [List.drop_eq_getElem_cons hjb]
          rw [List.getElem?_eq_getElem hjb] at eb
          injection eb with eb
          rw [eb]
        have HR := Lib.hid (show rdAll (K[j] :: K.drop (j + 1)) (q.data.toList :: (bytesOf ps).drop (j + 1)) i = T by rw [← e1, ← e2]; exact HR.out)
        clear e1 e2 eb
        generalize K[j]'hjk = k at HR cx0 cx1 d0 d1
        have RK := Lib.hid (fun (w' : World) hL hb => rd_any k q (w.heap.size + 1) i (by omega) w' hL hb)
        have HE := rd_enters k
        obtain ⟨ok, hok⟩ : ∃ ok, (kdO k q.data.toList).isSome = ok := ⟨_, rfl⟩
        have hr := HR.out
        rw [rdAll_cons, hok] at hr
        have HR := Lib.hid hr
        clear hr
        rw [hok] at RK
        clear hok d0 d1
        generalize kdSet k (nz (kdO k q.data.toList)) i = i2 at RK HR
        unfold fnV at cx0 cx1
        generalize Kd.wr k = fw at cx0
        generalize Kd.rd k = fr at cx1 RK HE
        have hblw : b < wr.heap.size := Nat.lt_of_lt_of_le hbl HW.out.low.size
        go_upto_region 8 with fail
        have W2 := Lib.hid (HW.out.alloc (.cells #[.func (.func fw) #[] #[], .func (.func fr) #[] #[]] 55))
        have G2 := Lib.hid (Blk.new wr 55 #[.func (.func fw) #[] #[], .func (.func fr) #[] #[]])
        have cp2 := ((below_new' wr (.cells #[.func (.func fw) #[] #[], .func (.func fr) #[] #[]] 55)).cell (p := ⟨pb, po + (j + 1), none⟩) (Nat.lt_of_lt_of_le hpl HW.out.low.size)).trans cp
        obtain ⟨g, hg⟩ : ∃ g, wr.heap.size = g := ⟨_, rfl⟩
        have hwg : w.heap.size + 1 < g := by rw [← hg]; exact HW.out.box.lt
        rw [hg] at G2 ⊢
        generalize wr.alloc _ = V at W2 G2 cp2 ⊢
        clear cp cx0 cx1 hblw hg
        have RX2 := Lib.hid (show RX g fr pb (po + (j + 1)) q V from ⟨(G2.out.cell 1).trans rfl, cp2⟩)
        haveI : Nonempty (RXW g fr pb (po + (j + 1)) q) := ⟨⟨V, RX2.out⟩⟩
        have k1 : ∀ u : RXW g fr pb (po + (j + 1)) q, u.w.cell? ⟨g, 1, none⟩ = some (.func (.func fr) #[] #[]) := fun u => u.2.1
        have k2 : ∀ u : RXW g fr pb (po + (j + 1)) q, u.w.cell? ⟨pb, po + (1 + j), none⟩ = some (.string q) := fun u => by rw [Nat.add_comm 1 j]; exact u.2.2
        have wj := (one_wrap (j := j) (Nat.le_trans (Nat.le_of_lt hlt) (Nat.le_trans hn3 (by decide)))).1
        have wj2 := (one_wrap (j := j) (Nat.le_trans (Nat.le_of_lt hlt) (Nat.le_trans hn3 (by decide)))).2
        have tj := (one_more HI.out hlt).2.1
        have bj := (one_more HI.out hlt).2.2.1
        have bj0 := (one_more HI.out hlt).2.2.2
        have hpg := Lib.hid (show pb < w.heap.size from hpl)
        clear cp2
        refine wp_region_mix (C := fun w' => ∃ u : RXW g fr pb (po + (j + 1)) q, w' = u.w) [([0, 1, 2, 3, 4, 5, 6], 7)] [8] (by kernel_rfl) (by kernel_rfl) (fun _ _ d _ _ h => by cases d <;> exact h) ⟨⟨V.drew, RX2.out.drew⟩, rfl⟩ ?_
        intro wd hwd
        have Wd := Lib.hid (show RW w i wd by rw [hwd]; exact W2.out.drew)
        have Xd := Lib.hid (show RX g fr pb (po + (j + 1)) q wd by rw [hwd]; exact RX2.out.drew)
        have Gd := Lib.hid (show g < wd.heap.size by rw [hwd]; exact G2.out.lt)
        clear hwd W2 RX2 G2
        refine mix_run (by simp only [opsAt, List.getElem?_toArray, List.getElem?_cons_succ, List.getElem?_cons_zero]; rfl) (by simp only [List.getElem?_toArray, List.getElem?_cons_succ, List.getElem?_cons_zero]; rfl) ?_
        repeat (go_big_quiet_step (rfl))
        refine wpQuiet_nil ?_
        refine mix_call (by rfl) ?_
        intro K8 hK
        refine wp_call_fn (g := fr) (caps := #[]) (args := #[.string q, .pointer (some ⟨w.heap.size + 1, 0, none⟩)]) (.tmp 34) #[.tmp 39, .tmp 6] #[9, 83] rfl HE rfl (by simp [Act.eval, Act.put]) ?_
        refine (RK.out wd (HLL.out.step Wd.out.low) Wd.out.box).mono ?_
        rintro e w7 ⟨rfl, b7, a7⟩
        have W7 := Lib.hid (Wd.out.read a7 b7)
        have X7 := Lib.hid (show RX g fr pb (po + (j + 1)) q w7 from ⟨(apart_cell a7 Gd.out (Nat.ne_of_gt hwg) (fun e => by cases e)).trans Xd.out.1, (apart_cell a7 (Nat.lt_of_lt_of_le hpg.out Wd.out.low.size) (Nat.ne_of_lt (Nat.lt_succ_of_lt hpg.out)) (fun e => by cases e)).trans Xd.out.2⟩)
        clear b7 a7 Wd Xd Gd
        refine ⟨_, rfl, ?_⟩
        simp only [Act.put, List.setIfInBounds_toArray, List.set_cons_zero, List.set_cons_succ]
        refine hK _ _ ⟨⟨w7, X7.out⟩, rfl⟩ ?_
        clear hK K8 X7
        refine mix_last (by simp only [opsAt, List.getElem?_toArray, List.getElem?_cons_succ, List.getElem?_cons_zero]; rfl) ?_
        repeat (go_big_quiet_step (rfl))
        refine wpQuiet_nil ?_
        clear k1 k2
        cases ok
        · have RT := Lib.hid (HR.out.symm.trans (if_neg (by decide)))
          clear RK HE wj wj2 tj bj bj0
          go_upto_region 9 with fail
          refine wp_region_lit ?_
          iterate 3 go_step
          refine list_store_all (ds := zeroI) aggInstr W7.out.res rfl rfl (by unfold Ones; kernel_rfl) rfl (.tmp 4) (.tmp 42) rfl rfl rfl ?_
          simp only [Act.put, List.setIfInBounds_toArray, List.set_cons_zero, List.set_cons_succ]
          have RR := W7.out.res.store zeroI
          have BB := belowRow' W7.out.low (Nat.le_refl w.heap.size) zeroI
          iterate 4 go_step
          iterate 8 (try go_step)
          exact bodyPost_ret (results_cell_slotI rfl _ _ w.heap.size _ _ _ _ (.bool false) rfl rfl RR Tryz.underlying33 rfl aggInstr.i) rfl ⟨by rw [RT.out]; rfl, BB⟩
        · have RT := Lib.hid (HR.out.symm.trans (if_pos rfl))
          clear RK HE wj wj2 tj bj bj0
          go_wp2_with fail
          exact ⟨⟨j + 1, i2, HJ.out, rfl, W7.out, RT.out.symm⟩, by have := HJ.out; simp [intOf]; omega⟩
      · obtain rfl : j = ln := by omega
        have e : T = some i := by
          have h := HR.out
          rw [List.drop_eq_nil_of_le (by omega)] at h
          exact h.symm
        subst e
        have x0 := (HW.out.box.cell 0).trans rfl
        have x1 := (HW.out.box.cell 1).trans rfl
        have x2 := (HW.out.box.cell 2).trans rfl
        have x3 := (HW.out.box.cell 3).trans rfl
        have x4 := (HW.out.box.cell 4).trans rfl
        have x5 := (HW.out.box.cell 5).trans rfl
        have x6 := (HW.out.box.cell 6).trans rfl
        go_upto_region 11 with fail
        refine wp_region_lit ?_
        refine list_load_all aggInstr HW.out.box rfl rfl (.tmp 6) rfl rfl ?_
        simp only [Act.put, List.setIfInBounds_toArray, List.set_cons_zero, List.set_cons_succ]
        refine list_store_all aggInstr HW.out.res rfl rfl (by unfold Ones; kernel_rfl) rfl (.tmp 4) (.tmp 44) rfl rfl rfl ?_
        simp only [Act.put, List.setIfInBounds_toArray, List.set_cons_zero, List.set_cons_succ]
        have RR := HW.out.res.store (icells i)
        have BB := belowRow' HW.out.low (Nat.le_refl w.heap.size) (icells i)
        iterate 4 go_step
        iterate 3 (try go_step)
        exact bodyPost_ret (results_cell_slotI rfl _ _ w.heap.size _ _ _ _ (.bool true) rfl rfl RR Tryz.underlying33 rfl aggInstr.i) rfl ⟨rfl, BB⟩
  · have hi : ¬ (n : Int) = 1 + (ln : Int) := by omega
    have RO := Lib.hid (RO.out.trans (if_neg (by omega)))
    go_wp2_with fail
    go_returns
    exact ⟨by rw [RO.out]; rfl, by go_grown⟩
end Go.Proofs.YthfiaemdpfffcaaGreatDoor
/- A text is parsed exactly if it is that of the result: the parts of a text, and what they say. -/
namespace Go.Proofs.YthfiaemdpfffcaaGreatDoor
open Go.RowKit Num Dec
set_option linter.unusedVariables false
set_option linter.unusedSimpArgs false

/-- The parts with blanks between them. -/
def joinB : List (List UInt8) → List UInt8
  | [] => []
  | p :: ps => p ++ ps.flatMap (fun q => 32 :: q)
theorem joinB_glue (c : List UInt8) (L : List (List UInt8)) (h : L ≠ []) : joinB (glue c L) = c ++ joinB L := by
  cases L with
  | nil => exact absurd rfl h
  | cons a t => simp [glue, joinB]
theorem joinB_two (p q : List UInt8) (qs : List (List UInt8)) : joinB (p :: q :: qs) = p ++ 32 :: joinB (q :: qs) := by simp [joinB]
theorem join_spl : ∀ l : List UInt8, joinB (spl l) = l
  | [] => by simp [spl, joinB]
  | c :: cs => by
    have ih := join_spl cs
    unfold spl
    split
    · rename_i h
      subst h
      cases hs : spl cs with
      | nil => exact absurd hs (spl_ne cs)
      | cons a t =>
        rw [hs] at ih
        rw [joinB_two, ih]
        rfl
    · rw [joinB_glue _ _ (spl_ne cs), ih]
      rfl
theorem spl_join : ∀ (ps : List (List UInt8)) (p : List UInt8), (∀ q ∈ p :: ps, ∀ c ∈ q, c ≠ 32) → spl (joinB (p :: ps)) = p :: ps
  | [], p, h => by
    have := spl_run p [] (h p (by simp))
    simpa [spl, glue, joinB] using this
  | q :: qs, p, h => by
    rw [joinB_two, spl_run p _ (h p (by simp)), spl_blank, spl_join qs q (fun r hr => h r (List.mem_cons_of_mem _ hr))]
    simp [glue]
theorem hexByte_nb : ∀ d : Fin 16, hexByte d.val ≠ 32 := by decide
theorem hexL_nb : ∀ (k n : Nat), ∀ c ∈ hexL n k, c ≠ 32
  | 0, n, c, h => by simp [hexL] at h
  | k + 1, n, c, h => by
    rw [hexL_cons] at h
    rcases List.mem_cons.1 h with rfl | h
    · exact hexByte_nb ⟨n / 16 ^ k % 16, Nat.mod_lt _ (by omega)⟩
    · exact hexL_nb k n c h
theorem kdTxt_nb (k : Kd) (i : Ins) : ∀ c ∈ kdTxt k i, c ≠ 32 := by
  intro c hc
  cases k <;> simp only [kdTxt] at hc
  · rcases List.mem_cons.1 hc with rfl | h
    · decide
    · exact hexL_nb _ _ c h
  · rcases List.mem_cons.1 hc with rfl | h
    · decide
    · exact hexL_nb _ _ c h
  all_goals exact hexL_nb _ _ c hc
theorem wdL_nb (op : Nat) (h : op < 52) : ∀ c ∈ wdL op, c ≠ 32 := by
  have := wd_blank ⟨op, h⟩
  simpa using this
theorem txt_join (i : Ins) : txtL i = joinB (wdL i.op.toNat :: (kds i.op.toNat).map (fun k => kdTxt k i)) := by
  rw [txt_kds]
  simp [joinB, List.flatMap_map]
theorem regO_hex (v : Nat) (h : v < 16) : regO (86 :: hexL v 1) = some v := numO_some ⟨by omega, rfl⟩
theorem regO_is {p : List UInt8} {v : Nat} (h : regO p = some v) : p = 86 :: hexL v 1 := by
  unfold regO at h
  split at h
  · rw [(numO_is h).2]
  · cases h
/-- A part that says something is the text of what it says. -/
theorem kd_is {k : Kd} {p : List UInt8} {v : Nat} (i : Ins) (h : kdO k p = some v) : kdTxt k (kdSet k (v : Int) i) = p := by
  cases k <;> simp only [kdO, kdTxt, kdSet, Int.toNat_natCast] at h ⊢
  · exact (regO_is h).symm
  · exact (regO_is h).symm
  all_goals exact (numO_is h).2.symm
theorem some_of {o : Option Nat} (h : o.isSome = true) : ∃ v, o = some v := by
  cases o with
  | none => cases h
  | some v => exact ⟨v, rfl⟩
theorem rdAll_step {k : Kd} {ks : List Kd} {p : List UInt8} {ps : List (List UInt8)} {i j : Ins} (h : rdAll (k :: ks) (p :: ps) i = some j) : ∃ v : Nat, kdO k p = some v ∧ rdAll ks ps (kdSet k (v : Int) i) = some j := by
  rw [rdAll_cons] at h
  split at h
  · rename_i hs
    obtain ⟨v, hv⟩ := some_of hs
    rw [hv] at h
    exact ⟨v, hv, h⟩
  · cases h
theorem rdAll_nil {i j : Ins} (h : rdAll [] [] i = some j) : i = j := by
  unfold rdAll at h
  injection h
theorem len1 {ps : List (List UInt8)} (h : ps.length = 1) : ∃ a, ps = [a] := by
  match ps, h with
  | [a], _ => exact ⟨a, rfl⟩
theorem len2 {ps : List (List UInt8)} (h : ps.length = 2) : ∃ a b, ps = [a, b] := by
  match ps, h with
  | [a, b], _ => exact ⟨a, b, rfl⟩
theorem len3 {ps : List (List UInt8)} (h : ps.length = 3) : ∃ a b c, ps = [a, b, c] := by
  match ps, h with
  | [a, b, c], _ => exact ⟨a, b, c, rfl⟩
theorem rd_one {k : Kd} {a : List UInt8} {i j : Ins} (h : rdAll [k] [a] i = some j) : [a] = [k].map (fun k => kdTxt k j) := by
  obtain ⟨v, h1, h⟩ := rdAll_step h
  obtain rfl := rdAll_nil h
  rw [List.map_cons, kd_is i h1]
  rfl
theorem rd_txt (pk : Pk) (ps : List (List UInt8)) (i j : Ins) (hl : ps.length = (kdsP pk).length) (h : rdAll (kdsP pk) ps i = some j) : ps = (kdsP pk).map (fun k => kdTxt k j) := by
  cases pk <;> simp only [kdsP] at hl h ⊢
  · exact List.eq_nil_of_length_eq_zero hl
  · obtain ⟨a, rfl⟩ := len1 hl
    exact rd_one h
  · obtain ⟨a, rfl⟩ := len1 hl
    exact rd_one h
  · obtain ⟨a, b, rfl⟩ := len2 hl
    obtain ⟨u, h1, h⟩ := rdAll_step h
    obtain ⟨v, h2, h⟩ := rdAll_step h
    obtain rfl := rdAll_nil h
    have e1 := kd_is i h1
    have e2 := kd_is (kdSet .kx (u : Int) i) h2
    simp only [List.map_cons, List.map_nil, e2]
    exact congrArg (fun q => [q, b]) e1.symm
  · obtain ⟨a, b, c, rfl⟩ := len3 hl
    obtain ⟨u, h1, h⟩ := rdAll_step h
    obtain ⟨v, h2, h⟩ := rdAll_step h
    obtain ⟨t, h3, h⟩ := rdAll_step h
    obtain rfl := rdAll_nil h
    have e1 := kd_is i h1
    have e2 := kd_is (kdSet .kx (u : Int) i) h2
    have e3 := kd_is (kdSet .ky (v : Int) (kdSet .kx (u : Int) i)) h3
    simp only [List.map_cons, List.map_nil, e3]
    exact (congrArg (fun q => [q, b, c]) e1.symm).trans (congrArg (fun q => [_, q, c]) e2.symm)
  · obtain ⟨a, b, rfl⟩ := len2 hl
    obtain ⟨u, h1, h⟩ := rdAll_step h
    obtain ⟨v, h2, h⟩ := rdAll_step h
    obtain rfl := rdAll_nil h
    have e1 := kd_is i h1
    have e2 := kd_is (kdSet .kx (u : Int) i) h2
    simp only [List.map_cons, List.map_nil, e2]
    exact congrArg (fun q => [q, b]) e1.symm
  · obtain ⟨a, rfl⟩ := len1 hl
    exact rd_one h
  · obtain ⟨a, rfl⟩ := len1 hl
    exact rd_one h
  · obtain ⟨a, rfl⟩ := len1 hl
    exact rd_one h
  · obtain ⟨a, rfl⟩ := len1 hl
    exact rd_one h
/-- What is read from a text, unless it is illegal, has this text. -/
theorem read_txt {s : List UInt8} {i : Ins} (h : readO (spl s) = some i) (ho : i.op ≠ 0) : txtL i = s := by
  have hj := join_spl s
  cases hs : spl s with
  | nil => exact absurd hs (spl_ne s)
  | cons p ps =>
    rw [hs] at h hj
    replace h : (if ps.length = (kds (fndN p)).length then rdAll (kds (fndN p)) ps (ins0 (fndN p)) else none) = some i := h
    split at h
    · rename_i hl
      have e : i.op = (fndN p : Int) := rdAll_op _ _ _ _ h
      have hw := fnd_is p (fun c => ho (by rw [e, c]; rfl))
      have et : i.op.toNat = fndN p := by omega
      have q : ps = (kds (fndN p)).map (fun k => kdTxt k i) := rd_txt _ ps _ i hl h
      rw [txt_join, et, hw, ← hj, ← q]
    · cases h
/-- The text of a legal instruction is read as this instruction. -/
theorem Dec.Lg.read {l : Int} {i : Ins} (h : Lg l i) : readO (spl (txtL i)) = some i := by
  obtain ⟨r, x, y, n, nn, a, m⟩ := h.made
  have h52 : i.op.toNat < 52 := by rw [m.opN]; have := m.top; omega
  rw [txt_join, spl_join _ _ (fun q hq c hc => by
    rcases List.mem_cons.1 hq with rfl | hq
    · exact wdL_nb _ h52 c hc
    · obtain ⟨k, _, rfl⟩ := List.mem_map.1 hq
      exact kdTxt_nb k i c hc)]
  show (if ((kds i.op.toNat).map (fun k => kdTxt k i)).length = (kds (fndN (wdL i.op.toNat))).length then rdAll (kds (fndN (wdL i.op.toNat))) ((kds i.op.toNat).map (fun k => kdTxt k i)) (ins0 (fndN (wdL i.op.toNat))) else none) = some i
  rw [fnd_yes h52 rfl, if_pos (by simp)]
  have e48 := m.kinds.1
  have e := m.is
  have h1 := m.x16
  have h2 := m.y16
  have h3 := m.n16
  have h4 := m.nn256
  have h5 := m.a16
  have hr := m.rule
  rw [m.opN]
  unfold kds
  rw [hr]
  clear m hr h52 h
  subst e
  obtain ⟨mk, c, o, lv, p⟩ := r
  simp only at e48 ⊢
  have eA : ((x : Int) * 256 + (nn : Int)).toNat = x * 256 + nn := by omega
  cases p <;> simp only [kdsP, List.map_cons, List.map_nil, rdAll, kdO, kdTxt, kdSet, ins0, pX, pY, pN, pNN, pA, Int.toNat_natCast, regO_hex x h1, regO_hex y h2, numO_some (s := hexL n 1) (k := 1) (n := n) ⟨by omega, rfl⟩, numO_some (s := hexL x 1) (k := 1) (n := x) ⟨by omega, rfl⟩, numO_some (s := hexL nn 2) (k := 2) (n := nn) ⟨by omega, rfl⟩, numO_some (s := hexL a 4) (k := 4) (n := a) ⟨by omega, rfl⟩, numO_some (s := hexL (x * 256 + nn) 3) (k := 3) (n := x * 256 + nn) ⟨by omega, rfl⟩, Option.isSome_some, if_true, nz]
  all_goals first
    | (rw [if_pos (e48.2 rfl)]; done)
    | (have e48 : ¬ o = 48 := fun c => Pk.noConfusion (e48.1 c)
       rw [if_neg e48]
       done)
    | (have e48 : ¬ o = 48 := fun c => Pk.noConfusion (e48.1 c)
       rw [if_neg e48, show ((x * 256 + nn : Nat) : Int) / 256 = (x : Int) by omega])
/-- Parts are not longer than the text, and not many more. -/
theorem glue_len (c : List UInt8) (L : List (List UInt8)) (h : L ≠ []) : (glue c L).length = L.length := by
  cases L with
  | nil => exact absurd rfl h
  | cons a t => rfl
theorem spl_len : ∀ l : List UInt8, (spl l).length ≤ l.length + 1
  | [] => by simp [spl]
  | c :: cs => by
    have ih := spl_len cs
    unfold spl
    split
    · simp; omega
    · rw [glue_len _ _ (spl_ne cs)]; simp; omega
theorem spl_part : ∀ (l q : List UInt8), q ∈ spl l → q.length ≤ l.length
  | [], q, h => by
    simp [spl] at h
    rw [h]
    simp
  | c :: cs, q, h => by
    have ih := fun q => spl_part cs q
    unfold spl at h
    split at h
    · rcases List.mem_cons.1 h with rfl | h
      · simp
      · have := ih q h
        simp
        omega
    · cases hs : spl cs with
      | nil => exact absurd hs (spl_ne cs)
      | cons a t =>
        rw [hs] at h ih
        rcases List.mem_cons.1 h with rfl | h
        · have := ih a (by simp)
          simp
          omega
        · have := ih q (List.mem_cons_of_mem _ h)
          simp
          omega
end Go.Proofs.YthfiaemdpfffcaaGreatDoor
/- parse and Parse: the instruction that has a text. -/
namespace Go.Proofs.YthfiaemdpfffcaaGreatDoor
open Go.RowKit Num Dec
set_option linter.unusedVariables false
set_option linter.unusedSimpArgs false

theorem results_cell3 {P : Program} {fn : Func} {p q r : Tmp} {ty : TypeId} (h : fn.results = #[.cell p ty, .tmp q, .tmp r]) (tmps : Array Value) (w : World) (g : Nat) (t : TypeId) (cs : Array Value) (fr : Nat × Nat) (d : TypeDesc) (v u : Value)
    (hp : tmps.getD p undef = .pointer (some ⟨g, 0, none⟩)) (hq : tmps.getD q undef = v) (hr : tmps.getD r undef = u) (hg : w.heap[g]? = some (.cells cs t fr))
    (hu : P.underlying ty = some d) (hd : (match d with | .struct _ | .array _ _ => true | _ => false) = true) (hi : (P.info? ty).map (·.size) = some cs.size) :
    (results fn tmps).run P w = .ok (.tuple #[.agg cs, v, u]) w := by
  have hp' : tmps[p]?.getD undef = .pointer (some ⟨g, 0, none⟩) := by simpa using hp
  have hq' : tmps[q]?.getD undef = v := by simpa using hq
  have hr' : tmps[r]?.getD undef = u := by simpa using hr
  simp [results, h, hp', hq', hr', asAddr, run_loadVar_row w g t ty cs fr d hg hu hd hi]
/-- The variables of parse: the result, and what was read. -/
structure PaW (w0 : World) (w : World) : Prop where
  res : Blk w0.heap.size 33 zeroI w
  low : Below w0.heap.size w0 w
theorem PaW.new (w0 : World) : PaW w0 (w0.alloc (.cells zeroI 33)) := ⟨Blk.new _ _ _, (Below.refl _ _).alloc (Nat.le_refl _) _⟩
theorem PaW.step {w0 w w' : World} (h : PaW w0 w) (hb : Below w.heap.size w w') : PaW w0 w' := ⟨h.res.step hb, h.low.trans (hb.mono h.low.size)⟩
theorem PaW.alloc {w0 w : World} (h : PaW w0 w) (o : Obj) : PaW w0 (w.alloc o) := h.step ((Below.refl _ _).alloc (Nat.le_refl _) o)

/-- What parse hands back for a text. -/
def ParR (s : List UInt8) (l : Int) (w : World) (e : Ending) (w' : World) : Prop :=
  (∃ i, Lg l i ∧ txtL i = s ∧ ∃ A c, e = .returned (.tuple #[.agg (icells i), .slice A (codeL i).length c, .int .i64 0]) ∧ w'.ownsRow w.heap.size 5 1 (.slice A (codeL i).length c) (codeL i).length ((codeL i).map (Value.int .u8)) ∧ Below w.heap.size w w') ∨
  ((∀ i, Lg l i → txtL i ≠ s) ∧ e = .returned (.tuple #[.agg zeroI, .slice none 0 0, .int .i64 6]) ∧ Below w.heap.size w w')

set_option maxRecDepth 100000 in
set_option maxHeartbeats 8000000 in
theorem parse_any (v : Value) (s : ByteArray) (l : Int) (hl : (Lit.int .i64 l).wf = true) (hs : s.size ≤ 1000000) (w : World) (hL : AL w) (hS : Syn v w) : Calls Tryz.prog 19 #[v, .string s, .int .i64 l] w (ParR s.data.toList l w) := by
  have P0 := Lib.hid (PaW.new w)
  have HLL := Lib.hid hL
  have HS := Lib.hid hS
  have SP := Lib.hid (fun w => split_parts s hs w)
  have RD := Lib.hid (fun (A : Option Addr) (n c : Nat) (L : List ByteArray) (w : World) => read_any v A n c L w)
  have EC := Lib.hid (fun (i : Ins) (w : World) (h : AL w) => encode_any i l hl w h)
  have hlen : s.data.toList.length = s.size := by simp
  obtain ⟨b, hb⟩ : ∃ b, s.data.toList = b := ⟨_, rfl⟩
  rw [hb] at SP hlen ⊢
  have SZ := Lib.hid (show b.length ≤ 1000000 by omega)
  obtain ⟨m, rfl⟩ : ∃ m, v = .map (some m) := ⟨hS.choose, hS.choose_spec.1⟩
  clear hS hs hlen hb hl
  go_enter Tryz.func19, Tryz.ntmps19
  go_wp2_with fail
  refine (SP.out _).mono ?_
  rintro e w1 ⟨L, hLs, A, c, rfl, ho, b1⟩
  have P1 := Lib.hid (P0.out.step b1)
  have HR := Lib.hid (Row.of_own ho)
  have LS := Lib.hid hLs
  have LN := Lib.hid (show 1 ≤ L.length ∧ L.length ≤ 1000001 from by
    have h1 := congrArg List.length hLs
    have h2 := spl_len b
    have h3 := List.length_pos_iff.2 (spl_ne b)
    have := SZ.out
    simp [bytesOf] at h1
    omega)
  have LZ := Lib.hid (show ∀ q ∈ L, q.size ≤ 1000000 from fun q hq => by
    have h1 : q.data.toList ∈ spl b := by rw [← hLs]; exact List.mem_map.2 ⟨q, hq, rfl⟩
    have h2 := spl_part b _ h1
    have := SZ.out
    have h3 : q.data.toList.length = q.size := by simp
    omega)
  clear hLs ho b1
  go_wp2_with fail
  refine (RD.out A _ c L w1 (HLL.out.step P1.out.low) (HS.out.step P1.out.low) HR.out rfl LN.out.1 LN.out.2 LZ.out).mono ?_
  rintro e w2 ⟨rfl, b2⟩
  have P2 := Lib.hid (P1.out.step b2)
  rw [LS.out]
  clear b2 LZ LN HR LS SP RD
  cases hT : readO (spl b) with
  | none =>
    have NO := Lib.hid (show ∀ i, Lg l i → txtL i ≠ b from fun i hi e => by rw [← e, hi.read] at hT; cases hT)
    simp only [readV, zeroI]
    clear hT
    have P3 := Lib.hid (P2.out.alloc (.cells #[.int .i64 0, .int .i64 0, .int .i64 0, .int .i64 0, .int .i64 0, .int .i64 0, .int .i64 0] 33))
    clear EC
    go_upto_region 3 with fail
    generalize World.alloc _ _ = w3 at P3 ⊢
    refine wp_region_lit ?_
    iterate 3 go_step
    refine list_store_all (ds := zeroI) aggInstr P3.out.res rfl rfl (by unfold Ones; kernel_rfl) rfl (.tmp 6) (.tmp 22) rfl rfl rfl ?_
    simp only [Act.put, List.setIfInBounds_toArray, List.set_cons_zero, List.set_cons_succ]
    have RR := P3.out.res.store zeroI
    have BB := belowRow' P3.out.low (Nat.le_refl w.heap.size) zeroI
    iterate 4 go_step
    iterate 10 (try go_step)
    exact bodyPost_ret (results_cell3 rfl _ _ w.heap.size _ _ _ _ (.slice none 0 0) (.int .i64 6) rfl rfl rfl RR Tryz.underlying33 rfl aggInstr.i) rfl (.inr ⟨NO.out, rfl, BB⟩)
  | some i =>
    have TX := Lib.hid (fun ho => read_txt hT ho)
    have EC := Lib.hid (EC.out i)
    have AG := Lib.hid aggInstr
    have P3 := Lib.hid (P2.out.alloc (.cells (icells i) 33))
    have G3 := Lib.hid (Blk.new w2 33 (icells i))
    have HT := Lib.hid hT
    simp only [readV]
    clear hT
    obtain ⟨o, x, y, n, nn, a, len⟩ := i
    unfold icells at P3 G3 EC ⊢
    simp only at P3 G3 EC ⊢
    obtain ⟨g, hg⟩ : ∃ g, w2.heap.size = g := ⟨_, rfl⟩
    have hwg : w.heap.size < g := by rw [← hg]; exact P2.out.res.lt
    go_upto_region 4 with fail
    rw [hg] at G3
    try rw [hg]
    generalize World.alloc _ _ = w3 at P3 G3 ⊢
    clear hg
    have x0 : w3.cell? ⟨g, 0, none⟩ = some (.int .i64 o) := (G3.out.cell 0).trans rfl
    have x1 : w3.cell? ⟨g, 1, none⟩ = some (.int .i64 x) := (G3.out.cell 1).trans rfl
    have x2 : w3.cell? ⟨g, 2, none⟩ = some (.int .i64 y) := (G3.out.cell 2).trans rfl
    have x3 : w3.cell? ⟨g, 3, none⟩ = some (.int .i64 n) := (G3.out.cell 3).trans rfl
    have x4 : w3.cell? ⟨g, 4, none⟩ = some (.int .i64 nn) := (G3.out.cell 4).trans rfl
    have x5 : w3.cell? ⟨g, 5, none⟩ = some (.int .i64 a) := (G3.out.cell 5).trans rfl
    have x6 : w3.cell? ⟨g, 6, none⟩ = some (.int .i64 len) := (G3.out.cell 6).trans rfl
    go_wp2_with fail
    refine (EC.out _ (HLL.out.step P3.out.low)).mono ?_
    clear x0 x1 x2 x3 x4 x5 x6
    rintro e w4 (⟨hg, A2, c2, rfl, ho, b4⟩ | ⟨hn, rfl, b4⟩)
    · have P4 := Lib.hid (P3.out.step b4)
      have G4 := Lib.hid (G3.out.step b4)
      have O4 := Lib.hid ho
      have hw3 : w.heap.size < w3.heap.size := P3.out.res.lt
      have LG := Lib.hid hg
      have TY := Lib.hid (TX.out (by have := hg.rg.1; simp only at this ⊢; omega))
      clear b4 ho hg TX HT P3 G3
      have P3S := Lib.hid (Nat.le_of_lt hw3)
      obtain ⟨CL, hCL⟩ : ∃ CL, codeL ⟨o, x, y, n, nn, a, len⟩ = CL := ⟨_, rfl⟩
      rw [hCL] at O4 ⊢
      obtain ⟨cl, hcl⟩ : ∃ cl, CL.length = cl := ⟨_, rfl⟩
      rw [hcl] at O4 ⊢
      go_upto_region 7 with fail
      refine wp_region_lit ?_
      refine list_load_all aggInstr G4.out rfl rfl (.tmp 9) rfl rfl ?_
      simp only [Act.put, List.setIfInBounds_toArray, List.set_cons_zero, List.set_cons_succ]
      iterate 3 go_step
      refine list_store_all (ds := #[.int .i64 o, .int .i64 x, .int .i64 y, .int .i64 n, .int .i64 nn, .int .i64 a, .int .i64 len]) aggInstr P4.out.res rfl rfl (by unfold Ones; kernel_rfl) rfl (.tmp 6) (.tmp 32) rfl rfl rfl ?_
      simp only [Act.put, List.setIfInBounds_toArray, List.set_cons_zero, List.set_cons_succ]
      have RR := P4.out.res.store #[.int .i64 o, .int .i64 x, .int .i64 y, .int .i64 n, .int .i64 nn, .int .i64 a, .int .i64 len]
      have BB := belowRow' P4.out.low (Nat.le_refl w.heap.size) #[.int .i64 o, .int .i64 x, .int .i64 y, .int .i64 n, .int .i64 nn, .int .i64 a, .int .i64 len]
      have OO := own_mono (own_apart (p := w.heap.size) (g := none) O4.out (Apart.setRow #[.int .i64 o, .int .i64 x, .int .i64 y, .int .i64 n, .int .i64 nn, .int .i64 a, .int .i64 len]) (fun h => by have := (O4.out.lt _ h).1; omega) (fun k hk => by cases hk)) P3S.out
      iterate 4 go_step
      iterate 10 (try go_step)
      exact bodyPost_ret (results_cell3 rfl _ _ w.heap.size _ _ _ _ (.slice A2 cl c2) (.int .i64 0) rfl rfl rfl RR Tryz.underlying33 rfl aggInstr.i) rfl (.inl ⟨⟨o, x, y, n, nn, a, len⟩, LG.out, TY.out, A2, c2, by rw [hCL, hcl]; rfl, by rw [hCL, hcl]; exact OO, BB⟩)
    · have NO := Lib.hid (show ∀ i, Lg l i → txtL i ≠ b from fun i hi e => by
        have h := hi.read
        rw [e, HT.out] at h
        injection h with h
        rw [← h] at hi
        exact hn hi)
      have P4 := Lib.hid (P3.out.step b4)
      clear b4 hn TX HT P3 G3
      go_upto_region 6 with fail
      refine wp_region_lit ?_
      iterate 3 go_step
      refine list_store_all (ds := zeroI) aggInstr P4.out.res rfl rfl (by unfold Ones; kernel_rfl) rfl (.tmp 6) (.tmp 31) rfl rfl rfl ?_
      simp only [Act.put, List.setIfInBounds_toArray, List.set_cons_zero, List.set_cons_succ]
      have RR := P4.out.res.store zeroI
      have BB := belowRow' P4.out.low (Nat.le_refl w.heap.size) zeroI
      iterate 4 go_step
      iterate 10 (try go_step)
      exact bodyPost_ret (results_cell3 rfl _ _ w.heap.size _ _ _ _ (.slice none 0 0) (.int .i64 6) rfl rfl rfl RR Tryz.underlying33 rfl aggInstr.i) rfl (.inr ⟨NO.out, rfl, BB⟩)
end Go.Proofs.YthfiaemdpfffcaaGreatDoor
/- Parse. -/
namespace Go.Proofs.YthfiaemdpfffcaaGreatDoor
open Go.RowKit Num Dec
set_option linter.unusedVariables false
set_option linter.unusedSimpArgs false

/-- What Parse hands back. -/
def ParF (s : List UInt8) (l : Int) (e : Ending) : Prop :=
  (∃ i, Lg l i ∧ txtL i = s ∧ e = .returned (.tuple #[.agg (icells i), .int .i64 0])) ∨ ((∀ i, Lg l i → txtL i ≠ s) ∧ e = .returned (.tuple #[.agg zeroI, .int .i64 6]))
/-- The same as a value and an error. -/
theorem ParR.parts {s : List UInt8} {l : Int} {w : World} {e : Ending} {w' : World} (h : ParR s l w e w') : ∃ (o x y n nn a len : Int) (A : Option Addr) (k c : Nat) (err : Int), e = .returned (.tuple #[.agg #[.int .i64 o, .int .i64 x, .int .i64 y, .int .i64 n, .int .i64 nn, .int .i64 a, .int .i64 len], .slice A k c, .int .i64 err]) ∧ ParF s l (.returned (.tuple #[.agg #[.int .i64 o, .int .i64 x, .int .i64 y, .int .i64 n, .int .i64 nn, .int .i64 a, .int .i64 len], .int .i64 err])) ∧ Below w.heap.size w w' := by
  rcases h with ⟨i, hg, ht, A, c, rfl, _, hb⟩ | ⟨hn, rfl, hb⟩
  · exact ⟨i.op, i.x, i.y, i.n, i.nn, i.addr, i.len, A, _, c, 0, rfl, .inl ⟨i, hg, ht, rfl⟩, hb⟩
  · exact ⟨0, 0, 0, 0, 0, 0, 0, none, 0, 0, 6, rfl, .inr ⟨hn, rfl⟩, hb⟩

set_option maxRecDepth 100000 in
set_option maxHeartbeats 8000000 in
theorem parseF_any (s : ByteArray) (l : Int) (hl : (Lit.int .i64 l).wf = true) (hs : s.size ≤ 1000000) (w : World) (hL : AL w) : Calls Tryz.prog 11 #[.string s, .int .i64 l] w fun e w' => ParF s.data.toList l e ∧ Below w.heap.size w w' := by
  have P0 := Lib.hid (PaW.new w)
  have HLL := Lib.hid hL
  have PA := Lib.hid (fun (v : Value) (w : World) => parse_any v s l hl hs w)
  clear hL hl hs
  go_enter Tryz.func11, Tryz.ntmps11
  go_wp2_with fail
  refine (syntax_any _).mono ?_
  rintro e w1 ⟨v, rfl, sv, b1⟩
  have P1 := Lib.hid (P0.out.step b1)
  have SV := Lib.hid sv
  clear sv b1
  go_wp2_with fail
  refine (PA.out v w1 (HLL.out.step P1.out.low) SV.out).mono ?_
  rintro e w2 h
  obtain ⟨o, x, y, n, nn, a, len, A, k, c, err, rfl, hp, b2⟩ := h.parts
  have P2 := Lib.hid (P1.out.step b2)
  have HP := Lib.hid hp
  clear h hp b2 PA SV
  have P3 := Lib.hid (P2.out.alloc (.cells #[.int .i64 o, .int .i64 x, .int .i64 y, .int .i64 n, .int .i64 nn, .int .i64 a, .int .i64 len] 33))
  have G3 := Lib.hid (Blk.new w2 33 #[.int .i64 o, .int .i64 x, .int .i64 y, .int .i64 n, .int .i64 nn, .int .i64 a, .int .i64 len])
  go_upto_region 2 with fail
  generalize World.alloc _ _ = w3 at P3 G3 ⊢
  refine wp_region_lit ?_
  refine list_load_all aggInstr G3.out rfl rfl (.tmp 6) rfl rfl ?_
  simp only [Act.put, List.setIfInBounds_toArray, List.set_cons_zero, List.set_cons_succ]
  iterate 3 go_step
  refine list_store_all (ds := #[.int .i64 o, .int .i64 x, .int .i64 y, .int .i64 n, .int .i64 nn, .int .i64 a, .int .i64 len]) aggInstr P3.out.res rfl rfl (by unfold Ones; kernel_rfl) rfl (.tmp 4) (.tmp 17) rfl rfl rfl ?_
  simp only [Act.put, List.setIfInBounds_toArray, List.set_cons_zero, List.set_cons_succ]
  have RR := P3.out.res.store #[.int .i64 o, .int .i64 x, .int .i64 y, .int .i64 n, .int .i64 nn, .int .i64 a, .int .i64 len]
  have BB := belowRow' P3.out.low (Nat.le_refl w.heap.size) #[.int .i64 o, .int .i64 x, .int .i64 y, .int .i64 n, .int .i64 nn, .int .i64 a, .int .i64 len]
  iterate 4 go_step
  iterate 8 (try go_step)
  exact bodyPost_ret (results_cell_slotI rfl _ _ w.heap.size _ _ _ _ (.int .i64 err) rfl rfl RR Tryz.underlying33 rfl aggInstr.i) rfl ⟨HP.out, BB⟩
end Go.Proofs.YthfiaemdpfffcaaGreatDoor
/- Assemble: the bytes of the instructions with these texts. -/
namespace Go.Proofs.YthfiaemdpfffcaaGreatDoor
open Go.RowKit Num Dec
set_option linter.unusedVariables false
set_option linter.unusedSimpArgs false

/-- The lines so far are texts of legal instructions. -/
def AsmAt (l : Int) (L : List ByteArray) (j : Nat) (I : List Ins) : Prop := j ≤ L.length ∧ I.length = j ∧ (∀ i ∈ I, Lg l i) ∧ bytesOf (L.take j) = I.map txtL
def codes (I : List Ins) : List Int := I.flatMap codeL
theorem codes_len (l : Int) : ∀ I : List Ins, (∀ i ∈ I, Lg l i) → (codes I).length ≤ 4 * I.length ∧ (I ≠ [] → 0 < (codes I).length)
  | [], _ => ⟨by simp [codes], fun h => absurd rfl h⟩
  | i :: I, h => by
    have h1 := (h i (by simp)).codeLen
    have ih := codes_len l I (fun j hj => h j (List.mem_cons_of_mem _ hj))
    have e : codes (i :: I) = codeL i ++ codes I := by simp [codes]
    rw [e]
    simp only [List.length_append, List.length_cons]
    exact ⟨by omega, fun _ => by omega⟩
theorem asm_start (l : Int) (L : List ByteArray) : AsmAt l L 0 [] := ⟨Nat.zero_le _, rfl, fun i h => by simp at h, rfl⟩
theorem AsmAt.step {l : Int} {L : List ByteArray} {j : Nat} {I : List Ins} (h : AsmAt l L j I) (hj : j < L.length) {i : Ins} (hi : Lg l i) (ht : txtL i = L[j].data.toList) : AsmAt l L (j + 1) (I ++ [i]) := by
  obtain ⟨h1, h2, h3, h4⟩ := h
  refine ⟨hj, by simp [h2], ?_, ?_⟩
  · intro k hk
    rcases List.mem_append.1 hk with hk | hk
    · exact h3 k hk
    · rw [List.mem_singleton.1 hk]
      exact hi
  · rw [List.take_succ_eq_append_getElem hj]
    unfold bytesOf at h4 ⊢
    rw [List.map_append, h4, List.map_append, List.map_cons, List.map_cons, ht]
    rfl
/-- What Assemble hands back. -/
def AsmR (l : Int) (L : List ByteArray) (w : World) (e : Ending) (w' : World) : Prop :=
  (∃ I, AsmAt l L L.length I ∧ ∃ A c, e = .returned (.tuple #[.slice A (codes I).length c, .int .i64 0, .int .i64 0]) ∧ w'.ownsRow w.heap.size 5 1 (.slice A (codes I).length c) (codes I).length ((codes I).map (Value.int .u8)) ∧ Below w.heap.size w w') ∨
  (∃ I j, AsmAt l L j I ∧ (∃ h : j < L.length, ∀ i, Lg l i → txtL i ≠ L[j].data.toList) ∧ e = .returned (.tuple #[.slice none 0 0, .int .i64 (j : Nat), .int .i64 6]) ∧ Below w.heap.size w w')

set_option maxRecDepth 100000 in
set_option maxHeartbeats 8000000 in
theorem assemble_any (A : Option Addr) (n c : Nat) (L : List ByteArray) (l : Int) (hl : (Lit.int .i64 l).wf = true) (w : World) (hL : AL w) (H : Row Value.string w A L) (hn : L.length = n) (n1 : n ≤ 1000) (hz : ∀ s ∈ L, s.size ≤ 1000000) :
    Calls Tryz.prog 8 #[.slice A n c, .int .i64 l] w (AsmR l L w) := by
  have HLL := Lib.hid hL
  have PA := Lib.hid (fun (v : Value) (s : ByteArray) (hs : s.size ≤ 1000000) (w : World) => parse_any v s l hl hs w)
  have HH := Lib.hid (And.intro H (And.intro hn (And.intro n1 hz)))
  clear hL hl H hn hz
  go_enter Tryz.func8, Tryz.ntmps8
  go_wp2_with fail
  refine (syntax_any _).mono ?_
  rintro e w1 ⟨v, rfl, sv, b1⟩
  obtain ⟨m, rfl⟩ : ∃ m, v = .map (some m) := ⟨sv.choose, sv.choose_spec.1⟩
  have B1 := Lib.hid b1
  have SV := Lib.hid sv
  clear sv b1
  go_wp2_with fail
  go_loopw [8, 17] (fun v8 v17 wr => ∃ (j : Nat) (I : List Ins), v17 = .int .i64 (j : Int) ∧ AsmAt l L j I ∧ wr.ownsRow w1.heap.size 5 1 v8 (codes I).length ((codes I).map (Value.int .u8)) ∧ Below w1.heap.size w1 wr) (fun _ v17 _ => n - (intOf v17).toNat)
  case atStart => exact ⟨0, [], rfl, asm_start _ _, World.ownsRow_nil _ _ _ _, Below.refl _ _⟩
  case round =>
    obtain ⟨j, I, rfl, hat, ho, hb⟩ := hrel
    have HA := Lib.hid hat
    have HO := Lib.hid ho
    have HB := Lib.hid hb
    have hj : j ≤ n := by have := hat.1; have := HH.out.2.1; omega
    clear hat ho hb
    by_cases hlt : j < n
    · have jl : j < L.length := by have := HH.out.2.1; omega
      obtain ⟨pb, po, rfl, hpb, hc⟩ := (HH.out.1.below ((B1.out.trans (HB.out.mono B1.out.size)))).at_ jl
      have sz := HH.out.2.2.2 (L[j]) (List.getElem_mem jl)
      have TJ := Lib.hid (show ∃ h : j < L.length, L[j] = L[j]'jl from ⟨jl, rfl⟩)
      have NS := Lib.hid (fun (i : Ins) (hi : Lg l i) (ht : txtL i = (L[j]'jl).data.toList) => HA.out.step jl hi ht)
      have NN := Lib.hid (fun (hx : ∀ i, Lg l i → txtL i ≠ (L[j]'jl).data.toList) => (⟨jl, hx⟩ : ∃ h : j < L.length, ∀ i, Lg l i → txtL i ≠ L[j].data.toList))
      generalize L[j]'jl = s at hc sz NS NN
      have HJ := Lib.hid hlt
      have hjn : (j : Int) < (n : Int) := by omega
      clear TJ jl
      go_wp2_with fail
      refine (PA.out (.map (some m)) s sz wr ((HLL.out.step B1.out).step HB.out) (SV.out.step HB.out)).mono ?_
      rintro e w2 (⟨i, hi, ht, A2, c2, rfl, ho2, b2⟩ | ⟨hx, rfl, b2⟩)
      · have SJ := Lib.hid (NS.out i hi ht)
        have CL := Lib.hid hi.codeLen
        have B2 := Lib.hid (HB.out.trans (b2.mono HB.out.size))
        have O2 := Lib.hid (own_apart (p := wr.heap.size) (g := none) HO.out (Apart.of_below b2) (fun h => by have := (HO.out.lt _ h).2; omega) (fun k hk => by cases hk))
        have R2 := Lib.hid (Rd.of_row (Row.of_own ho2))
        have CN := Lib.hid (show (codes I).length + (codeL i).length ≤ 1000000 from by
          have h1 := (codes_len l I HA.out.2.2.1).1
          have h2 := HA.out.2.1
          have h3 := CL.out
          have h4 := HH.out.2.2.1
          omega)
        have CE := Lib.hid (show codes (I ++ [i]) = codes I ++ codeL i by simp [codes])
        have CM := Lib.hid (show (codes (I ++ [i])).length = (codes I).length + (codeL i).length by rw [CE.out, List.length_append])
        clear ho2 b2 ht hi CL
        obtain ⟨o, x, y, nf, nn, a, len⟩ := i
        unfold icells
        simp only
        have B3 := Lib.hid (B2.out.trans ((below_new' w2 (.cells #[.int .i64 o, .int .i64 x, .int .i64 y, .int .i64 nf, .int .i64 nn, .int .i64 a, .int .i64 len] 33)).mono B2.out.size))
        have O3 := Lib.hid (O2.out.alloc (.cells #[.int .i64 o, .int .i64 x, .int .i64 y, .int .i64 nf, .int .i64 nn, .int .i64 a, .int .i64 len] 33))
        have R3 := Lib.hid (R2.out.below (below_new' w2 (.cells #[.int .i64 o, .int .i64 x, .int .i64 y, .int .i64 nf, .int .i64 nn, .int .i64 a, .int .i64 len] 33)))
        obtain ⟨cl, hcl⟩ : ∃ cl, (codeL ⟨o, x, y, nf, nn, a, len⟩).length = cl := ⟨_, rfl⟩
        rw [hcl]
        have HCL := Lib.hid hcl
        clear hcl
        go_upto_region 9 with fail
        generalize World.alloc _ _ = w3 at B3 O3 R3 ⊢
        refine wp_region_lit ?_
        iterate 6 go_step
        refine wpList_append_rd rfl (.tmp 34) (.tmp 35) rfl w1.heap.size _ _ (codes I) rfl O3.out A2 _ c2 _ rfl R3.out HCL.out (by have := CN.out; rw [HCL.out] at this; exact this) B3.out.size ?_
        intro v4 w4 o4 g4
        have O4 := Lib.hid o4
        have B4 := Lib.hid (B3.out.grown g4 B3.out.size (fun j ej => (O3.out.lt j ej).1))
        clear o4 g4
        simp only [Act.put, List.setIfInBounds_toArray, List.set_cons_zero, List.set_cons_succ]
        iterate 4 go_step
        go_wp2_with fail
        refine ⟨⟨j + 1, I ++ [⟨o, x, y, nf, nn, a, len⟩], rfl, SJ.out, ?_, B4.out⟩, by have := HJ.out; simp [intOf]; omega⟩
        rw [CM.out, CE.out, HCL.out]
        exact O4.out
      · have B2 := Lib.hid (B1.out.trans ((HB.out.trans (b2.mono HB.out.size)).mono B1.out.size))
        have HX := Lib.hid (NN.out hx)
        clear hx b2
        unfold zeroI
        have B3 := Lib.hid (B2.out.trans ((below_new' w2 (.cells #[.int .i64 0, .int .i64 0, .int .i64 0, .int .i64 0, .int .i64 0, .int .i64 0, .int .i64 0] 33)).mono B2.out.size))
        go_wp2_with fail
        go_returns
        exact .inr ⟨I, j, HA.out, HX.out, rfl, B3.out⟩
    · obtain rfl : j = n := by omega
      obtain ⟨A4, c4, rfl⟩ := own_form HO.out
      go_wp2_with fail
      go_returns
      exact .inl ⟨I, by rw [HH.out.2.1]; exact HA.out, A4, c4, rfl, own_mono HO.out B1.out.size, B1.out.trans (HB.out.mono B1.out.size)⟩
end Go.Proofs.YthfiaemdpfffcaaGreatDoor
