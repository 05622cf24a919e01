/- decode.Decode. -/
import Derived.Shelf.Abstract
import Derived.Test.YtgilkbmipgejeaaDoorPk2a
import Derived.Test.YtgilkbmipgejeaaDoorPk0a
namespace Go.Proofs.YtgilkbmipgejeaaDoor
open Go.RowKit Num Dec
set_option linter.unusedVariables false
set_option linter.unusedSimpArgs false

def bcs (b0 b1 b2 b3 : Nat) : Array Value := #[.int .u8 (b0 : Int), .int .u8 (b1 : Int), .int .u8 (b2 : Int), .int .u8 (b3 : Int)]
def zeroI : Array Value := #[.int .i64 0, .int .i64 0, .int .i64 0, .int .i64 0, .int .i64 0, .int .i64 0, .int .i64 0]
/-- The argument, the result and the variable of Decode. -/
structure DB (w0 : World) (b0 b1 b2 b3 : Nat) (cs : Array Value) (w : World) : Prop where
  arg : Blk w0.heap.size 100 (bcs b0 b1 b2 b3) w
  res : Blk (w0.heap.size + 1) 38 zeroI w
  var : Blk (w0.heap.size + 1 + 1) 38 cs w
  low : Below w0.heap.size w0 w
section
variable {w0 w w' : World} {b0 b1 b2 b3 : Nat} {cs : Array Value}
theorem DB.lt (H : DB w0 b0 b1 b2 b3 cs w) : w0.heap.size + 2 < w.heap.size := H.var.lt
theorem DB.step (H : DB w0 b0 b1 b2 b3 cs w) (hb : Below w.heap.size w w') : DB w0 b0 b1 b2 b3 cs w' :=
  ⟨H.arg.step hb, H.res.step hb, H.var.step hb, H.low.trans (hb.mono (by have := H.lt; omega))⟩
theorem DB.alloc (H : DB w0 b0 b1 b2 b3 cs w) (o : Obj) : DB w0 b0 b1 b2 b3 cs (w.alloc o) := H.step (below_new' _ _)
theorem DB.put (H : DB w0 b0 b1 b2 b3 cs w) (j : Nat) (v : Value) : DB w0 b0 b1 b2 b3 (cs.setIfInBounds j v) (w.setCell ⟨w0.heap.size + 1 + 1, j, none⟩ v) :=
  ⟨H.arg.other (by omega) _ _, H.res.other (by omega) _ _, H.var.put _ _, H.low.setCell (by simp; omega) _⟩
theorem DB.store (H : DB w0 b0 b1 b2 b3 cs w) (ds : Array Value) : DB w0 b0 b1 b2 b3 ds (w.setRow (w0.heap.size + 1 + 1) ds) :=
  ⟨H.arg.otherRow (by omega) _, H.res.otherRow (by omega) _, H.var.store _, belowRow' H.low (by omega) _⟩
theorem DB.new (w : World) (b0 b1 b2 b3 : Nat) : DB w b0 b1 b2 b3 zeroI (((w.alloc (.cells (bcs b0 b1 b2 b3) 100)).alloc (.cells zeroI 38)).alloc (.cells zeroI 38)) :=
  ⟨((Blk.new _ _ _).alloc _).alloc _, (by have := (Blk.new (w.alloc (.cells (bcs b0 b1 b2 b3) 100)) 38 zeroI).alloc (.cells zeroI 38); simpa using this), (by have := Blk.new ((w.alloc (.cells (bcs b0 b1 b2 b3) 100)).alloc (.cells zeroI 38)) 38 zeroI; simpa using this),
    (((Below.refl _ _).alloc (Nat.le_refl _) _).alloc (by simp) _).alloc (by simp; omega) _⟩
end
/-- The fields of an opcode. -/
def fcs (b0 b1 : Nat) : Array Value := #[.int .i64 ((b0 / 16 : Nat) : Int), .int .i64 ((b0 % 16 : Nat) : Int), .int .i64 ((b1 / 16 : Nat) : Int), .int .i64 ((b1 % 16 : Nat) : Int), .int .i64 (b1 : Int), .int .i64 ((b0 % 16 * 256 + b1 : Nat) : Int)]
theorem split_nat (b0 b1 : Nat) (h0 : b0 < 256) (h1 : b1 < 256) (w : World) : Calls Tryd.prog 59 #[.int .u8 (b0 : Int), .int .u8 (b1 : Int)] w fun e w' => e = .returned (.agg (fcs b0 b1)) ∧ Below w.heap.size w w' :=
  (split_any b0 b1 w (by omega) (by omega) (by omega) (by omega)).mono fun _ _ ⟨he, hb⟩ => ⟨he.trans rfl, hb⟩
theorem rsplit_nat (b0 b1 : Nat) (h0 : b0 < 256) (h1 : b1 < 256) (w : World) : Calls Tryd.prog 50 #[.int .u8 (b0 : Int), .int .u8 (b1 : Int)] w fun e w' => e = .returned (.agg (fcs b0 b1)) ∧ Below w.heap.size w w' :=
  (rsplit_any b0 b1 w (by omega) (by omega) (by omega) (by omega)).mono fun _ _ ⟨he, hb⟩ => ⟨he.trans rfl, hb⟩
theorem number_nat (b0 b1 : Nat) (h0 : b0 < 256) (h1 : b1 < 256) (w : World) : Calls Tryd.prog 61 #[.int .u8 (b0 : Int), .int .u8 (b1 : Int)] w fun e w' => e = .returned (.int .i64 ((b0 * 256 + b1 : Nat) : Int)) ∧ w = w' :=
  (number_any b0 b1 w (by omega) (by omega) (by omega) (by omega)).mono fun _ _ ⟨he, hb⟩ => ⟨he.trans rfl, hb⟩

/-- The argument's cells, as the walk asks for them. -/
theorem DB.cells {w0 w : World} {b0 b1 b2 b3 : Nat} {cs : Array Value} (H : DB w0 b0 b1 b2 b3 cs w) : w.cell? ⟨w0.heap.size, 0, none⟩ = some (.int .u8 (b0 : Int)) ∧ w.cell? ⟨w0.heap.size, 1, none⟩ = some (.int .u8 (b1 : Int)) ∧ w.cell? ⟨w0.heap.size, 2, none⟩ = some (.int .u8 (b2 : Int)) ∧ w.cell? ⟨w0.heap.size, 3, none⟩ = some (.int .u8 (b3 : Int)) :=
  ⟨H.arg.cell 0, H.arg.cell 1, H.arg.cell 2, H.arg.cell 3⟩

theorem dec_no {b0 b1 b2 b3 : Nat} {l : Int} (h : ok b0 b1 l = false) : dec b0 b1 b2 b3 l = ⟨0, 0, 0, 0, 0, 0, skl b0 b1 l⟩ := by
  unfold dec
  rw [h]
  rfl
theorem dec_yes {b0 b1 b2 b3 : Nat} {l : Int} (h : ok b0 b1 l = true) {r : Rl} (hr : top (b0 * 256 + b1) = r) : dec b0 b1 b2 b3 l = ⟨r.op, pX r.pk (dx b0 : Nat), pY r.pk (b1 / 16 : Nat), pN r.pk (dx b0 : Nat) (b1 % 16 : Nat), pNN r.pk (b1 : Nat), pA r.pk (dx b0 * 256 + b1 : Nat) (b2 * 256 + b3 : Nat), skl b0 b1 l⟩ := by
  unfold dec
  rw [h, hr]
  rfl
/-- The worlds of the region that picks: the argument, the fields and the rule are there. -/
structure DX (b g gr : Nat) (bc fc rc : Array Value) (w : World) : Prop where
  arg : Blk b 100 bc w
  fl : Blk g 120 fc w
  rl : Blk gr 124 rc w
def PW (X : World → Prop) : Type := { w : World // X w }
def PW.w {X : World → Prop} (u : PW X) : World := u.1
theorem pf_enters (p : Pk) : ∀ args w, (callFunc (pf p) args).run Tryd.prog w = .ok (.enter (pf p) args) w := by
  cases p
  · exact enters_of Tryd.func70 (by kernel_rfl) rfl
  · exact enters_of Tryd.func76 (by kernel_rfl) rfl
  · exact enters_of Tryd.func77 (by kernel_rfl) rfl
  · exact enters_of Tryd.func73 (by kernel_rfl) rfl
  · exact enters_of Tryd.func75 (by kernel_rfl) rfl
  · exact enters_of Tryd.func72 (by kernel_rfl) rfl
  · exact enters_of Tryd.func71 (by kernel_rfl) rfl
  · exact enters_of Tryd.func74 (by kernel_rfl) rfl
  · exact enters_of Tryd.func79 (by kernel_rfl) rfl
  · exact enters_of Tryd.func78 (by kernel_rfl) rfl
theorem aggInstr : AggT Tryd.prog 38 7 := ⟨⟨_, Tryd.underlying38, rfl⟩, by kernel_rfl⟩
theorem aggFields : AggT Tryd.prog 120 6 := ⟨⟨_, Tryd.underlying120, rfl⟩, by kernel_rfl⟩
theorem aggRule : AggT Tryd.prog 124 5 := ⟨⟨_, Tryd.underlying124, rfl⟩, by kernel_rfl⟩

set_option maxRecDepth 100000 in
set_option maxHeartbeats 4000000 in
theorem decode_any (b0 b1 b2 b3 : Nat) (l : Int) (w : World) (h0 : b0 < 256) (h1 : b1 < 256) (h2 : b2 < 256) (h3 : b3 < 256) (hl : (Lit.int .i64 l).wf = true) :
    Calls Tryd.prog 48 #[.agg (bcs b0 b1 b2 b3), .int .i64 l] w fun e w' => e = .returned (.agg (icells (dec b0 b1 b2 b3 l))) ∧ Below w.heap.size w w' := by
  have HL := Lib.hid hl
  have D0 := Lib.hid (DB.new w b0 b1 b2 b3)
  have SP := fun w => split_nat b0 b1 h0 h1 w
  unfold fcs at SP
  have NB := fun w => number_nat b0 b1 h0 h1 w
  have FD := fun w => find_any (b0 * 256 + b1) (by omega) w
  have N2 := fun w => number_nat b2 b3 h2 h3 w
  generalize e0 : b0 / 16 = hd at SP
  generalize e1 : b0 % 16 = x at SP
  generalize e2 : b1 / 16 = y at SP
  generalize e3 : b1 % 16 = n at SP
  generalize e4 : x * 256 + b1 = nnn at SP
  generalize e5 : b0 * 256 + b1 = op at NB FD
  generalize e6 : b2 * 256 + b3 = nx at N2
  have SPH := Lib.hid SP
  have NBH := Lib.hid NB
  have FDH := Lib.hid FD
  have N2H := Lib.hid N2
  have E := Lib.hid (And.intro e0 (And.intro e1 (And.intro e2 (And.intro e3 (And.intro e4 (And.intro e5 e6))))))
  clear SP NB FD N2 e0 e1 e2 e3 e4 e5 e6 h0 h1 h2 h3 hl
  unfold bcs
  go_enter Tryd.func48, Tryd.ntmps48
  go_wp2_with fail
  refine (SPH.out _).mono ?_
  rintro e w1 ⟨rfl, b1⟩
  have D1 := Lib.hid (D0.out.step b1)
  obtain ⟨c0, c1, c2, c3⟩ := D1.out.cells
  have hw1 : w.heap.size < w1.heap.size := D1.out.arg.lt
  clear b1 D0 SPH
  have D2 := Lib.hid (D1.out.alloc (.cells #[.int .i64 (hd : Int), .int .i64 (x : Int), .int .i64 (y : Int), .int .i64 (n : Int), .int .i64 (b1 : Int), .int .i64 (nnn : Int)] 120))
  have G2 := Lib.hid (Blk.new w1 120 #[.int .i64 (hd : Int), .int .i64 (x : Int), .int .i64 (y : Int), .int .i64 (n : Int), .int .i64 (b1 : Int), .int .i64 (nnn : Int)])
  have GD := Lib.hid D1.out.lt
  go_wp2_with fail
  refine (NBH.out _).mono ?_
  rintro e w2 ⟨rfl, rfl⟩
  go_wp2_with fail
  refine (FDH.out _).mono ?_
  rintro e w3 ⟨rfl, b3⟩
  have D3 := Lib.hid (D2.out.step b3)
  have G3 := Lib.hid (G2.out.step b3)
  clear b3 c0 c1 c2 c3 D2 G2 NBH FDH D1
  obtain ⟨g, hg⟩ : ∃ g, w1.heap.size = g := ⟨_, rfl⟩
  rw [hg] at G3 GD ⊢
  have hw3 : w.heap.size < w3.heap.size := D3.out.arg.lt
  by_cases ho : (top op).op = 0
  · rw [show found (top op) = .tuple #[.agg zeroRule, .bool false] by unfold found; rw [ho]; rfl]
    have F := Lib.hid (dec_no (b0 := b0) (b1 := b1) (b2 := b2) (b3 := b3) (l := l) (show ok b0 b1 l = false by unfold ok; rw [E.out.2.2.2.2.2.1, ho]; rfl))
    clear ho
    have D4 := Lib.hid (D3.out.alloc (.cells zeroRule 124))
    unfold zeroRule at D4 ⊢
    clear D3 G3
    obtain ⟨c0, c1, c2, c3⟩ := D4.out.cells
    have v6 := D4.out.var.cell 6
    have f6 := D4.out.var.frozen 6
    simp only [zeroI, icells, List.getElem?_toArray, List.getElem?_cons_succ, List.getElem?_cons_zero] at v6
    go_wp2_with fail
    refine (skip_any b0 b1 l _).mono ?_
    rintro e w9 ⟨rfl, rfl⟩
    have Z := Lib.hid (D4.out.put 6 (.int .i64 (skl b0 b1 l)))
    go_upto_region 8 with fail
    generalize World.setCell _ _ _ = V at Z ⊢
    refine wp_region_lit ?_
    refine list_load_all aggInstr Z.out.var (by simp [zeroI, icells]) rfl (.tmp 5) rfl rfl ?_
    simp only [Act.put, List.setIfInBounds_toArray, List.set_cons_zero, List.set_cons_succ]
    refine list_store_all aggInstr Z.out.res rfl (by simp [zeroI, icells]) (by unfold Ones; kernel_rfl) rfl (.tmp 4) (.tmp 50) rfl rfl rfl ?_
    simp only [Act.put, List.setIfInBounds_toArray, List.set_cons_zero, List.set_cons_succ]
    have R := Z.out.res.store (icells ⟨0, 0, 0, 0, 0, 0, skl b0 b1 l⟩)
    have B := belowRow' Z.out.low (by omega : w.heap.size ≤ w.heap.size + 1) (icells ⟨0, 0, 0, 0, 0, 0, skl b0 b1 l⟩)
    iterate 4 go_step
    exact bodyPost_ret (results_cell_row rfl _ _ (w.heap.size + 1) _ _ _ _ rfl R Tryd.underlying38 rfl aggInstr.i) rfl ⟨by rw [F.out], B⟩
  · rw [show found (top op) = .tuple #[.agg (rcs (top op)), .bool true] by unfold found; rw [show ((top op).op != 0) = true by simpa using ho]; rfl]
    obtain ⟨R, hR⟩ : ∃ R, top op = R := ⟨_, rfl⟩
    rw [hR] at ho ⊢
    have D4 := Lib.hid (D3.out.alloc (.cells (rcs R) 124))
    have G4 := Lib.hid (G3.out.alloc (.cells (rcs R) 124))
    have R4 := Lib.hid (Blk.new w3 124 (rcs R))
    have OK := Lib.hid (show ok b0 b1 l = alw R l (x : Int) by unfold ok dx; rw [E.out.2.2.2.2.2.1, hR, E.out.2.1, show (R.op != 0) = true by simpa using ho]; rfl)
    have HR := Lib.hid (show top (b0 * 256 + b1) = R by rw [E.out.2.2.2.2.2.1, hR])
    have AL := Lib.hid (fun w => allows_any R l (x : Int) w HL.out)
    have PK := Lib.hid (fun w => pick_any R.pk (hd : Int) (x : Int) (y : Int) (n : Int) (b1 : Int) (nnn : Int) (nx : Int) w)
    have LT3 := Lib.hid D3.out.lt
    clear ho hR D3 G3
    obtain ⟨rm, rc, ro, rl, rp⟩ := R
    unfold rcs at *
    simp only at *
    have x0 := G4.out.cell 1
    simp only [List.getElem?_toArray, List.getElem?_cons_succ, List.getElem?_cons_zero] at x0
    go_wp2_with fail
    refine (AL.out _).mono ?_
    rintro e w5 ⟨rfl, b5⟩
    have D5 := Lib.hid (D4.out.step b5)
    have G5 := Lib.hid (G4.out.step b5)
    have R5 := Lib.hid (R4.out.step b5)
    have GR := Lib.hid (show w3.heap.size < w5.heap.size from R5.out.lt)
    clear b5 D4 G4 R4 AL x0
    obtain ⟨gr, hgr⟩ : ∃ gr, w3.heap.size = gr := ⟨_, rfl⟩
    rw [hgr] at R5 GR LT3 ⊢
    clear hgr hw3
    cases ha : alw ⟨rm, rc, ro, rl, rp⟩ l (x : Int)
    · have F := Lib.hid (dec_no (b0 := b0) (b1 := b1) (b2 := b2) (b3 := b3) (l := l) (OK.out.trans ha))
      clear ha
      obtain ⟨c0, c1, c2, c3⟩ := D5.out.cells
      have v6 := D5.out.var.cell 6
      have f6 := D5.out.var.frozen 6
      simp only [zeroI, icells, List.getElem?_toArray, List.getElem?_cons_succ, List.getElem?_cons_zero] at v6
      go_wp2_with fail
      refine (skip_any b0 b1 l _).mono ?_
      rintro e w9 ⟨rfl, rfl⟩
      have Z := Lib.hid (D5.out.put 6 (.int .i64 (skl b0 b1 l)))
      go_upto_region 8 with fail
      generalize World.setCell _ _ _ = V at Z ⊢
      refine wp_region_lit ?_
      refine list_load_all aggInstr Z.out.var (by simp [zeroI, icells]) rfl (.tmp 5) rfl rfl ?_
      simp only [Act.put, List.setIfInBounds_toArray, List.set_cons_zero, List.set_cons_succ]
      refine list_store_all aggInstr Z.out.res rfl (by simp [zeroI, icells]) (by unfold Ones; kernel_rfl) rfl (.tmp 4) (.tmp 50) rfl rfl rfl ?_
      simp only [Act.put, List.setIfInBounds_toArray, List.set_cons_zero, List.set_cons_succ]
      have R := Z.out.res.store (icells ⟨0, 0, 0, 0, 0, 0, skl b0 b1 l⟩)
      have B := belowRow' Z.out.low (by omega : w.heap.size ≤ w.heap.size + 1) (icells ⟨0, 0, 0, 0, 0, 0, skl b0 b1 l⟩)
      iterate 4 go_step
      exact bodyPost_ret (results_cell_row rfl _ _ (w.heap.size + 1) _ _ _ _ rfl R Tryd.underlying38 rfl aggInstr.i) rfl ⟨by rw [F.out], B⟩
    · have F := Lib.hid (dec_yes (b0 := b0) (b1 := b1) (b2 := b2) (b3 := b3) (l := l) (OK.out.trans ha) HR.out)
      clear ha
      have P5 := Lib.hid (show DX w.heap.size g gr (bcs b0 b1 b2 b3) #[.int .i64 (hd : Int), .int .i64 (x : Int), .int .i64 (y : Int), .int .i64 (n : Int), .int .i64 (b1 : Int), .int .i64 (nnn : Int)] #[.int .i64 (rm : Int), .int .i64 (rc : Int), .int .i64 (ro : Int), .int .i64 (rl : Int), .func (.func (pf rp)) #[] #[]] w5 from ⟨D5.out.arg, G5.out, R5.out⟩)
      generalize hX : DX w.heap.size g gr (bcs b0 b1 b2 b3) #[.int .i64 (hd : Int), .int .i64 (x : Int), .int .i64 (y : Int), .int .i64 (n : Int), .int .i64 (b1 : Int), .int .i64 (nnn : Int)] #[.int .i64 (rm : Int), .int .i64 (rc : Int), .int .i64 (ro : Int), .int .i64 (rl : Int), .func (.func (pf rp)) #[] #[]] = X at P5
      have XO := Lib.hid (show ∀ w', X w' → DX w.heap.size g gr (bcs b0 b1 b2 b3) #[.int .i64 (hd : Int), .int .i64 (x : Int), .int .i64 (y : Int), .int .i64 (n : Int), .int .i64 (b1 : Int), .int .i64 (nnn : Int)] #[.int .i64 (rm : Int), .int .i64 (rc : Int), .int .i64 (ro : Int), .int .i64 (rl : Int), .func (.func (pf rp)) #[] #[]] w' by rw [← hX]; exact fun _ h => h)
      have XI := Lib.hid (show ∀ w', DX w.heap.size g gr (bcs b0 b1 b2 b3) #[.int .i64 (hd : Int), .int .i64 (x : Int), .int .i64 (y : Int), .int .i64 (n : Int), .int .i64 (b1 : Int), .int .i64 (nnn : Int)] #[.int .i64 (rm : Int), .int .i64 (rc : Int), .int .i64 (ro : Int), .int .i64 (rl : Int), .func (.func (pf rp)) #[] #[]] w' → X w' by rw [← hX]; exact fun _ h => h)
      clear hX
      haveI : Nonempty (PW X) := ⟨⟨w5, P5.out⟩⟩
      have k2 : ∀ u : PW X, u.w.cell? ⟨w.heap.size, 2, none⟩ = some (.int .u8 (b2 : Int)) := fun u => (XO.out _ u.2).arg.cell 2
      have k3 : ∀ u : PW X, u.w.cell? ⟨w.heap.size, 3, none⟩ = some (.int .u8 (b3 : Int)) := fun u => (XO.out _ u.2).arg.cell 3
      have kf : ∀ u : PW X, u.w.cell? ⟨gr, 4, none⟩ = some (.func (.func (pf rp)) #[] #[]) := fun u => (XO.out _ u.2).rl.cell 4
      go_upto_region 5 with fail
      refine wp_region_mix (C := fun w' => ∃ u : PW X, w' = u.w) [([0, 1, 2, 3, 4, 5, 6], 7), ([], 8), ([], 9)] [] (by kernel_rfl) (by kernel_rfl) (fun _ _ d _ _ h => by cases d <;> exact h) ⟨⟨w5.drew, XI.out _ ⟨(XO.out _ P5.out).arg.drew, (XO.out _ P5.out).fl.drew, (XO.out _ P5.out).rl.drew⟩⟩, rfl⟩ ?_
      intro wd hwd
      have Dd := Lib.hid (show DB w b0 b1 b2 b3 zeroI wd by rw [hwd]; exact D5.out.step ((Below.refl _ _).drew))
      have Xd := Lib.hid (show X wd by rw [hwd]; exact XI.out _ ⟨(XO.out _ P5.out).arg.drew, (XO.out _ P5.out).fl.drew, (XO.out _ P5.out).rl.drew⟩)
      have GG := Lib.hid (show w.heap.size + 1 + 1 < g ∧ g < w5.heap.size ∧ gr < w5.heap.size ∧ w.heap.size + 1 + 1 < gr from ⟨GD.out, G5.out.lt, GR.out, by have := LT3.out; omega⟩)
      clear hwd D5 G5 R5 P5 GD GR
      refine mix_run (by simp only [opsAt, List.getElem?_toArray, List.getElem?_cons_succ, List.getElem?_cons_zero]; rfl) (by rfl) ?_
      iterate 2 (go_big_quiet_step (rfl))
      refine quiet_load_all aggFields (fun w9 hw9 => by obtain ⟨u, rfl⟩ := hw9; exact (XO.out _ u.2).fl) rfl ?_ (.tmp 6) ?_ ?_ ?_
      · rfl
      · rfl
      · rfl
      simp only [Act.put, List.setIfInBounds_toArray, List.set_cons_zero, List.set_cons_succ]
      repeat (go_big_quiet_step (rfl))
      refine wpQuiet_nil ?_
      refine mix_call (by rfl) ?_
      intro K hK
      go_wp2_with fail
      refine (N2H.out _).mono ?_
      rintro e w6 ⟨rfl, rfl⟩
      simp only []
      refine hK _ _ ⟨⟨wd, Xd.out⟩, rfl⟩ ?_
      clear hK K
      refine mix_run (by simp only [opsAt, List.getElem?_toArray, List.getElem?_cons_succ, List.getElem?_cons_zero]; rfl) (by rfl) ?_
      refine wpQuiet_nil ?_
      refine mix_call (by rfl) ?_
      intro K hK
      refine wp_call_fn (g := pf rp) (caps := #[]) (args := #[.agg #[.int .i64 (hd : Int), .int .i64 (x : Int), .int .i64 (y : Int), .int .i64 (n : Int), .int .i64 (b1 : Int), .int .i64 (nnn : Int)], .int .i64 (nx : Int)]) (.tmp 32) #[.tmp 33, .tmp 38] #[120, 3] rfl (pf_enters rp) rfl (by simp [Act.eval]) ?_
      refine (PK.out _).mono ?_
      rintro e w7 ⟨rfl, b7⟩
      refine ⟨_, rfl, ?_⟩
      have D7 := Lib.hid (Dd.out.step b7)
      have X7 := Lib.hid (show X w7 from XI.out _ ⟨(XO.out _ Xd.out).arg.step b7, (XO.out _ Xd.out).fl.step b7, (XO.out _ Xd.out).rl.step b7⟩)
      have L7 := Lib.hid (show wd.heap.size ≤ w7.heap.size from b7.size)
      clear b7
      simp only [Act.put, List.setIfInBounds_toArray, List.set_cons_zero, List.set_cons_succ]
      refine hK _ _ ⟨⟨w7, X7.out⟩, rfl⟩ ?_
      clear hK K
      refine mix_run (by simp only [opsAt, List.getElem?_toArray, List.getElem?_cons_succ, List.getElem?_cons_zero]; rfl) (by rfl) ?_
      refine wpQuiet_nil ?_
      refine mix_call (by rfl) ?_
      intro K hK
      refine wp_store_all aggInstr D7.out.var rfl rfl (by unfold Ones; kernel_rfl) (.tmp 5) (.tmp 39) rfl rfl rfl ?_
      have D8 := Lib.hid (D7.out.store (icells ⟨0, pX rp (x : Int), pY rp (y : Int), pN rp (x : Int) (n : Int), pNN rp (b1 : Int), pA rp (nnn : Int) (nx : Int), 0⟩))
      have X8 := Lib.hid (show X (w7.setRow (w.heap.size + 1 + 1) (icells ⟨0, pX rp (x : Int), pY rp (y : Int), pN rp (x : Int) (n : Int), pNN rp (b1 : Int), pA rp (nnn : Int) (nx : Int), 0⟩)) from XI.out _ ⟨(XO.out _ X7.out).arg.otherRow (by omega) _, (XO.out _ X7.out).fl.otherRow (by have := GG.out; omega) _, (XO.out _ X7.out).rl.otherRow (by have := GG.out; omega) _⟩)
      simp only [Act.put, List.setIfInBounds_toArray, List.set_cons_zero, List.set_cons_succ]
      refine hK _ _ ⟨⟨_, X8.out⟩, rfl⟩ ?_
      clear hK K
      generalize World.setRow _ _ _ = v8 at D8 X8 ⊢
      refine mix_last (by rfl) ?_
      refine wpQuiet_nil ?_
      clear k2 k3 kf
      have r2 := (XO.out _ X8.out).rl.cell 2
      have v0 := D8.out.var.cell 0
      have f0 := D8.out.var.frozen 0
      simp only [icells, List.getElem?_toArray, List.getElem?_cons_succ, List.getElem?_cons_zero] at r2 v0
      have D9 := Lib.hid (D8.out.put 0 (.int .i64 (ro : Int)))
      go_upto_region 7 with fail
      generalize World.setCell _ _ _ = v9 at D9 ⊢
      have D10 := Lib.hid (show DB w b0 b1 b2 b3 (icells ⟨(ro : Int), pX rp (x : Int), pY rp (y : Int), pN rp (x : Int) (n : Int), pNN rp (b1 : Int), pA rp (nnn : Int) (nx : Int), 0⟩) v9 from D9.out)
      clear D9 D8 X8 r2 v0 f0 Dd Xd D7 X7
      obtain ⟨c0, c1, c2, c3⟩ := D10.out.cells
      have v6 := D10.out.var.cell 6
      have f6 := D10.out.var.frozen 6
      simp only [zeroI, icells, List.getElem?_toArray, List.getElem?_cons_succ, List.getElem?_cons_zero] at v6
      go_wp2_with fail
      refine (skip_any b0 b1 l _).mono ?_
      rintro e w9 ⟨rfl, rfl⟩
      have Z := Lib.hid (D10.out.put 6 (.int .i64 (skl b0 b1 l)))
      go_upto_region 8 with fail
      generalize World.setCell _ _ _ = V at Z ⊢
      refine wp_region_lit ?_
      refine list_load_all aggInstr Z.out.var (by simp [zeroI, icells]) rfl (.tmp 5) rfl rfl ?_
      simp only [Act.put, List.setIfInBounds_toArray, List.set_cons_zero, List.set_cons_succ]
      refine list_store_all aggInstr Z.out.res rfl (by simp [zeroI, icells]) (by unfold Ones; kernel_rfl) rfl (.tmp 4) (.tmp 50) rfl rfl rfl ?_
      simp only [Act.put, List.setIfInBounds_toArray, List.set_cons_zero, List.set_cons_succ]
      have R := Z.out.res.store (icells ⟨(ro : Int), pX rp (x : Int), pY rp (y : Int), pN rp (x : Int) (n : Int), pNN rp (b1 : Int), pA rp (nnn : Int) (nx : Int), skl b0 b1 l⟩)
      have B := belowRow' Z.out.low (by omega : w.heap.size ≤ w.heap.size + 1) (icells ⟨(ro : Int), pX rp (x : Int), pY rp (y : Int), pN rp (x : Int) (n : Int), pNN rp (b1 : Int), pA rp (nnn : Int) (nx : Int), skl b0 b1 l⟩)
      iterate 4 go_step
      exact bodyPost_ret (results_cell_row rfl _ _ (w.heap.size + 1) _ _ _ _ rfl R Tryd.underlying38 rfl aggInstr.i) rfl ⟨by rw [F.out]; unfold dx; rw [← E.out.2.1, ← E.out.2.2.1, ← E.out.2.2.2.1, ← E.out.2.2.2.2.1, ← E.out.2.1, ← E.out.2.2.2.2.2.2], B⟩
end Go.Proofs.YtgilkbmipgejeaaDoor
