/- Screens as values: 514 cells; their blocks; '==' of two screens. -/
import Derived.Test.YtplmmfgmbfcjpaaBlk
import Derived.Test.YtplmmfgmbfcjpaaPlaneStep
import Derived.KernelRfl
namespace Go.Proofs.Ytplmmfgmbfcjpaa
open Go.RowKit Num
set_option linter.unusedVariables false
set_option linter.unusedSimpArgs false

/-- A screen: its planes, its resolution, its mask. -/
structure Sc where
  P : Nat → Pl
  hi : Bool
  M : Int
/-- Cell j of a screen. -/
def cellOf (S : Sc) (j : Nat) : Value := if j < 512 then .int .u64 (wordOf (S.P (j / 128)) (j % 128)) else if j = 512 then .bool S.hi else .int .i64 S.M
def scells (S : Sc) : Array Value := ((List.range 514).map (cellOf S)).toArray
/-- The cells of the planes. -/
def qcells (P : Nat → Pl) : Array Value := ((List.range 512).map fun j => Value.int .u64 (wordOf (P (j / 128)) (j % 128))).toArray
theorem scells_size (S : Sc) : (scells S).size = 514 := by simp [scells]
theorem qcells_size (P : Nat → Pl) : (qcells P).size = 512 := by simp [qcells]
theorem scells_get (S : Sc) (j : Nat) (hj : j < 514) : (scells S)[j]? = some (cellOf S j) := by simp [scells, hj]
theorem qcells_get (P : Nat → Pl) (j : Nat) (hj : j < 512) : (qcells P)[j]? = some (.int .u64 (wordOf (P (j / 128)) (j % 128))) := by simp [qcells, hj]
theorem scells_one (S : Sc) : Ones (scells S) := by
  unfold Ones
  rw [Array.all_eq_true_iff_forall_mem]
  intro v hv
  simp only [scells, List.mem_toArray, List.mem_map, List.mem_range] at hv
  obtain ⟨j, _, rfl⟩ := hv
  unfold cellOf
  split
  · rfl
  · split <;> rfl
theorem wordOf_congr {A B : Pl} (h : ∀ y, y < 64 → A y = B y) {j : Nat} (hj : j < 128) : wordOf A j = wordOf B j := by
  unfold wordOf
  rw [h (j / 2) (by omega)]
theorem scells_congr {S T : Sc} (h : ∀ i, i < 4 → ∀ y, y < 64 → S.P i y = T.P i y) (hh : S.hi = T.hi) (hM : S.M = T.M) : scells S = scells T := by
  unfold scells
  refine congrArg List.toArray (List.map_congr_left fun j hj => ?_)
  have hj := List.mem_range.1 hj
  unfold cellOf
  by_cases h5 : j < 512
  · rw [if_pos h5, if_pos h5, wordOf_congr (h (j / 128) (by omega)) (by omega)]
  · rw [if_neg h5, if_neg h5, hh, hM]
theorem sc_plane (S : Sc) (i : Nat) (hi : i < 4) : (scells S).extract (i * 128) (i * 128 + 128) = pcells (S.P i) := by
  apply Array.ext_getElem?
  intro j
  rw [Array.getElem?_extract, scells_size]
  by_cases hj : j < 128
  · rw [if_pos (by omega), scells_get _ _ (by omega), pcells_get _ _ hj]
    unfold cellOf
    rw [if_pos (by omega), show (i * 128 + j) / 128 = i by omega, show (i * 128 + j) % 128 = j by omega]
  · rw [if_neg (by omega), Array.getElem?_eq_none (by rw [pcells_size]; omega)]
theorem sc_planes (S : Sc) : (scells S).extract 0 (0 + 512) = qcells S.P := by
  apply Array.ext_getElem?
  intro j
  rw [Array.getElem?_extract, scells_size]
  by_cases hj : j < 512
  · rw [if_pos (by omega), scells_get _ _ (by omega), qcells_get _ _ hj]
    unfold cellOf
    rw [if_pos (by omega), Nat.zero_add]
  · rw [if_neg (by omega), Array.getElem?_eq_none (by rw [qcells_size]; omega)]
theorem q_plane (P : Nat → Pl) (i : Nat) (hi : i < 4) : (qcells P).extract (i * 128) (i * 128 + 128) = pcells (P i) := by
  apply Array.ext_getElem?
  intro j
  rw [Array.getElem?_extract, qcells_size]
  by_cases hj : j < 128
  · rw [if_pos (by omega), qcells_get _ _ (by omega), pcells_get _ _ hj, show (i * 128 + j) / 128 = i by omega, show (i * 128 + j) % 128 = j by omega]
  · rw [if_neg (by omega), Array.getElem?_eq_none (by rw [pcells_size]; omega)]
/-- One plane is another one. -/
def Sc.put (S : Sc) (i : Nat) (Q : Pl) : Sc := ⟨fun k => if k = i then Q else S.P k, S.hi, S.M⟩
def Sc.mask (S : Sc) (m : Int) : Sc := ⟨S.P, S.hi, m⟩
theorem sc_put (S : Sc) (i : Nat) (hi : i < 4) (Q : Pl) : splice8 (scells S) (i * 128) (pcells Q) = scells (S.put i Q) := by
  unfold splice8
  apply Array.ext_getElem?
  intro j
  have hsz : (scells S).toList.length = 514 := by rw [Array.length_toList, scells_size]
  have hpz : (pcells Q).toList.length = 128 := by rw [Array.length_toList, pcells_size]
  rw [List.getElem?_toArray, List.getElem?_append, List.getElem?_append, List.length_append, List.length_take, hsz, hpz]
  rw [show min (i * 128) 514 = i * 128 by omega]
  by_cases h1 : j < i * 128
  · rw [if_pos (by omega), if_pos h1, List.getElem?_take, if_pos h1, Array.getElem?_toList, scells_get _ _ (by omega), scells_get _ _ (by omega)]
    unfold cellOf Sc.put
    rw [if_pos (by omega), if_pos (by omega)]
    simp only
    rw [if_neg (by omega)]
  · by_cases h2 : j < i * 128 + 128
    · rw [if_pos h2, if_neg h1, Array.getElem?_toList, pcells_get _ _ (by omega), scells_get _ _ (by omega)]
      unfold cellOf Sc.put
      rw [if_pos (by omega)]
      simp only
      rw [if_pos (by omega), show j % 128 = j - i * 128 by omega]
    · rw [if_neg h2, List.getElem?_drop, pcells_size, show i * 128 + 128 + (j - (i * 128 + 128)) = j by omega, Array.getElem?_toList]
      by_cases h3 : j < 514
      · rw [scells_get _ _ h3, scells_get _ _ h3]
        unfold cellOf Sc.put
        by_cases h5 : j < 512
        · rw [if_pos h5, if_pos h5]
          simp only
          rw [if_neg (by omega)]
        · rw [if_neg h5, if_neg h5]
      · rw [Array.getElem?_eq_none (by rw [scells_size]; omega), Array.getElem?_eq_none (by rw [scells_size]; omega)]
theorem sc_mask (S : Sc) (m : Int) : (scells S).setIfInBounds 513 (.int .i64 m) = scells (S.mask m) := by
  apply Array.ext_getElem?
  intro j
  rw [Array.getElem?_setIfInBounds, scells_size]
  by_cases h1 : 513 = j
  · subst h1
    rw [if_pos rfl, if_pos (by omega), scells_get _ _ (by omega)]
    rfl
  · rw [if_neg h1]
    by_cases h3 : j < 514
    · rw [scells_get _ _ h3, scells_get _ _ h3]
      unfold cellOf Sc.mask
      by_cases h5 : j < 512
      · rw [if_pos h5, if_pos h5]
      · rw [if_neg h5, if_neg h5, if_pos (by omega), if_pos (by omega)]
    · rw [Array.getElem?_eq_none (by rw [scells_size]; omega), Array.getElem?_eq_none (by rw [scells_size]; omega)]
/-- The screen without pixels. -/
def blankS (hi : Bool) (M : Int) : Sc := ⟨fun _ _ => 0#128, hi, M⟩
theorem blankS_cells (hires : Bool) (M : Int) : scells (blankS hires M) = ((Array.replicate 512 (.int .u64 0)).push (.bool hires)).push (.int .i64 M) := by
  apply Array.ext_getElem?
  intro j
  by_cases h3 : j < 514
  · rw [scells_get _ _ h3, Array.getElem?_push, Array.getElem?_push]
    unfold cellOf blankS
    by_cases h5 : j < 512
    · rw [if_pos h5, if_neg (by simp; omega), if_neg (by simp; omega)]
      unfold wordOf
      simp [Array.getElem?_replicate, h5, hi, lo]
    · rw [if_neg h5]
      by_cases h6 : j = 512
      · rw [if_pos h6, if_neg (by simp; omega), if_pos (by simp; omega)]
      · rw [if_neg h6, if_pos (by simp; omega)]
  · rw [Array.getElem?_eq_none (by rw [scells_size]; omega), Array.getElem?_eq_none (by simp; omega)]
theorem aggScr : AggT Try.prog 32 514 := ⟨⟨_, Try.underlying32, rfl⟩, by kernel_rfl⟩
theorem aggPl : AggT Try.prog 29 128 := ⟨⟨_, Try.underlying29, rfl⟩, by kernel_rfl⟩
theorem aggPls : AggT Try.prog 30 512 := ⟨⟨_, Try.underlying30, rfl⟩, by kernel_rfl⟩
theorem infoScr8 : (Try.prog.info? 32).map (fun i => (i.zero, i.size)) = some (some (.agg (scells (blankS false 0))), 514) := by
  rw [blankS_cells]
  kernel_rfl
theorem zeroScr : ZeroT Try.prog 32 (scells (blankS false 0)) := by
  unfold ZeroT
  rw [scells_size]
  exact infoScr8
theorem zeroPl : ZeroT Try.prog 29 (pcells fun _ => 0#128) := by
  unfold ZeroT
  rw [pcells_size]
  exact infoPlane
theorem zeroScreen (w : World) : (zeroValue 32).run Try.prog w = .ok (.agg (scells (blankS false 0))) w := run_alloc zeroScr

/-- Block b is a variable that holds the screen S. -/
def SB (b : Nat) (S : Sc) (w : World) : Prop := Blk b 32 (scells S) w
section
variable {b : Nat} {S T : Sc} {w w' : World}
theorem SB.lt (H : SB b S w) : b < w.heap.size := Blk.lt H
theorem SB.below (H : SB b S w) {n : Nat} (hb : Below n w w') (hn : b < n) : SB b S w' := Blk.below H hb hn
theorem SB.step (H : SB b S w) (hb : Below w.heap.size w w') : SB b S w' := Blk.step H hb
theorem SB.new (w : World) (S : Sc) : SB w.heap.size S (w.alloc (.cells (scells S) 32)) := Blk.new _ _ _
theorem SB.alloc (H : SB b S w) (o : Obj) : SB b S (w.alloc o) := Blk.alloc H o
theorem SB.drew (H : SB b S w) : SB b S w.drew := H
theorem SB.other (H : SB b S w) {g : Nat} (hg : b ≠ g) (o : Nat) (v : Value) : SB b S (w.setCell ⟨g, o, none⟩ v) := Blk.other H hg o v
theorem SB.otherRow (H : SB b S w) {g : Nat} (hg : b ≠ g) (ds : Array Value) : SB b S (w.setRow g ds) := Blk.otherRow H hg ds
theorem SB.hires (H : SB b S w) : w.cell? ⟨b, 512, none⟩ = some (.bool S.hi) := by rw [Blk.cell H, scells_get _ _ (by omega)]; rfl
theorem SB.maskc (H : SB b S w) : w.cell? ⟨b, 513, none⟩ = some (.int .i64 S.M) := by rw [Blk.cell H, scells_get _ _ (by omega)]; rfl
theorem SB.fz (H : SB b S w) (j : Nat) : w.frozen? ⟨b, j, none⟩ = false := Blk.frozen H j
theorem SB.store (H : SB b S w) (T : Sc) : SB b T (w.setRow b (scells T)) := Blk.store H _
theorem SB.setMask (H : SB b S w) (m : Int) : SB b (S.mask m) (w.setCell ⟨b, 513, none⟩ (.int .i64 m)) := (Blk.put H 513 _).eq (sc_mask S m)
theorem SB.congr (H : SB b S w) (e : scells S = scells T) : SB b T w := Blk.eq H e
end

/-! ### '==' -/
/-- Are two screens one? -/
def sameSc (S T : Sc) : Bool := ((List.range' 0 4).all fun i => samePl (S.P i) (T.P i)) && (S.hi == T.hi) && (S.M == T.M)
theorem sameSc_iff (S T : Sc) : sameSc S T = true ↔ (∀ i, i < 4 → ∀ y, y < 64 → S.P i y = T.P i y) ∧ S.hi = T.hi ∧ S.M = T.M := by
  unfold sameSc
  rw [Bool.and_eq_true, Bool.and_eq_true, List.all_eq_true, beq_iff_eq, beq_iff_eq]
  constructor
  · rintro ⟨⟨h1, h2⟩, h3⟩
    exact ⟨fun i hi => (samePl_iff _ _).1 (h1 i (by rw [List.mem_range'_1]; omega)), h2, h3⟩
  · rintro ⟨h1, h2, h3⟩
    exact ⟨⟨fun i hi => (samePl_iff _ _).2 (h1 i (by rw [List.mem_range'_1] at hi; omega)), h2⟩, h3⟩
theorem sameSc_self (S : Sc) : sameSc S S = true := (sameSc_iff S S).2 ⟨fun _ _ _ _ => rfl, rfl, rfl⟩
theorem sameSc_cells {S T : Sc} (h : scells S = scells T) : sameSc S T = true := by
  have hc : ∀ j, j < 514 → cellOf S j = cellOf T j := fun j hj => by
    have := scells_get S j hj
    rw [h, scells_get T j hj] at this
    exact (Option.some.inj this).symm
  refine (sameSc_iff S T).2 ⟨fun i hi y hy => ?_, ?_, ?_⟩
  · have h1 := hc (i * 128 + 2 * y) (by omega)
    have h2 := hc (i * 128 + (2 * y + 1)) (by omega)
    unfold cellOf at h1 h2
    rw [if_pos (by omega), if_pos (by omega), show (i * 128 + 2 * y) / 128 = i by omega, show (i * 128 + 2 * y) % 128 = 2 * y by omega, word_even, word_even] at h1
    rw [if_pos (by omega), if_pos (by omega), show (i * 128 + (2 * y + 1)) / 128 = i by omega, show (i * 128 + (2 * y + 1)) % 128 = 2 * y + 1 by omega, word_odd, word_odd] at h2
    injection h1 with _ h1
    injection h2 with _ h2
    rw [← hi_lo (S.P i y), ← hi_lo (T.P i y), BitVec.eq_of_toNat_eq (Int.ofNat.inj h1), BitVec.eq_of_toNat_eq (Int.ofNat.inj h2)]
  · have h1 := hc 512 (by omega)
    injection h1
  · have h1 := hc 513 (by omega)
    injection h1
theorem eq_bool (x y : Bool) (d : Nat) (w : World) : (Op.equalIn (d + 1) 4 (.bool x) (.bool y)).run Try.prog w = .ok (x == y) w := by
  simp [Op.equalIn, run_underlying Try.underlying4, go_sem]
theorem eq_int (x y : Int) (d : Nat) (w : World) : (Op.equalIn (d + 1) 3 (.int .i64 x) (.int .i64 y)).run Try.prog w = .ok (x == y) w := by
  simp [Op.equalIn, run_underlying Try.underlying3, go_sem]
set_option maxRecDepth 100000 in
theorem same_screens (S T : Sc) (d : Nat) (w : World) : (Op.equalIn (d + 6) 32 (.agg (scells S)) (.agg (scells T))).run Try.prog w = .ok (sameSc S T) w := by
  have ht : Try.prog.underlying 32 = some (.struct (Try.prog.fieldsOf 32)) := by kernel_rfl
  have hp : Try.prog.stoodInHeld 32 = false := by kernel_rfl
  rw [run_equalIn_struct (P := Try.prog) w (d + 5) 32 _ _ ht hp]
  have hx : ∀ C : Sc, (part 30 (scells C) 0).run Try.prog w = .ok (.agg (qcells C.P)) w := by
    intro C
    rw [run_part_agg (P := Try.prog) 30 _ (scells C) 0 512 w rfl Try.underlying30 aggPls.i, sc_planes]
  have hb : ∀ C : Sc, (part 4 (scells C) 512).run Try.prog w = .ok (.bool C.hi) w := by
    intro C
    simp [part, isAgg, Sem.run_bind, run_underlying Try.underlying4, scells_get C 512 (by omega), cellOf]
  have hm : ∀ C : Sc, (part 3 (scells C) 513).run Try.prog w = .ok (.int .i64 C.M) w := by
    intro C
    simp [part, isAgg, Sem.run_bind, run_underlying Try.underlying3, scells_get C 513 (by omega), cellOf]
  have he : (Op.equalIn (d + 5) 30 (.agg (qcells S.P)) (.agg (qcells T.P))).run Try.prog w = .ok ((List.range' 0 4).all fun i => samePl (S.P i) (T.P i)) w :=
    run_equal_array_by (P := Try.prog) (d + 4) 30 29 _ 4 128 (qcells S.P) (qcells T.P) (fun i => samePl (S.P i) (T.P i)) rfl Try.underlying30 Try.underlying29 aggPl.i (fun i hi w => by
      rw [q_plane _ i hi, q_plane _ i hi]
      exact same_planes _ _ d w) w
  have hS1 := hx S
  have hT1 := hx T
  have hS2 := hb S
  have hT2 := hb T
  have hS3 := hm S
  have hT3 := hm T
  unfold sameSc
  clear hx hb hm ht hp
  generalize ((List.range' 0 4).all fun i => samePl (S.P i) (T.P i)) = v at *
  generalize scells S = CA at *
  generalize scells T = CB at *
  generalize qcells S.P = QA at *
  generalize qcells T.P = QB at *
  simp only [Program.fieldsOf, Try.underlying32, Op.eqFields]
  rw [if_pos (by decide), Sem.run_bind, hS1, Result.andThen_ok, Sem.run_bind, hT1, Result.andThen_ok, Sem.run_bind, he, Result.andThen_ok]
  cases v
  · rw [if_pos (by decide), Sem.run_pure]
    simp
  · rw [if_neg (by decide)]
    rw [if_pos (by decide), Sem.run_bind, hS2, Result.andThen_ok, Sem.run_bind, hT2, Result.andThen_ok, Sem.run_bind]
    rw [eq_bool, Result.andThen_ok]
    cases h1 : (S.hi == T.hi)
    · rw [if_pos (by decide), Sem.run_pure]
      simp
    · rw [if_neg (by decide)]
      rw [if_pos (by decide), Sem.run_bind, hS3, Result.andThen_ok, Sem.run_bind, hT3, Result.andThen_ok, Sem.run_bind, eq_int, Result.andThen_ok]
      cases h2 : (S.M == T.M)
      · rw [if_pos (by decide), Sem.run_pure]
        simp
      · rw [if_neg (by decide), Sem.run_pure]
        simp
theorem eq_screens (S T : Sc) (w : World) : (binOp .eql 32 (.agg (scells S)) (.agg (scells T))).run Try.prog w = .ok (.bool (sameSc S T)) w := by
  have h := same_screens S T 9994 w
  have e : (10000 : Nat) = 9994 + 6 := by decide
  rw [run_eql_struct, e, h]
  simp only [Result.andThen_ok]
theorem eqGuardScr : Try.prog.eqGuardType Try.prog.depth 32 = false := by kernel_rfl
theorem exec_eqS {o : Oper} {ρ : Operand → Value} {w : World} (x y : Operand) (z : TypeId) (ho : o.op = .binOp .eql 32 x y z) (A B : Sc) (hx : ρ x = .agg (scells A)) (hy : ρ y = .agg (scells B)) : (execOp ρ o).run Try.prog w = .ok (.value (.bool (sameSc A B))) w := by
  unfold execOp
  simp only [ho, hx, hy]
  rw [Sem.run_bind, Sem.run_bind, run_eqGuard_agg w .eql 32 x y (scells A) (scells B) eqGuardScr, Result.andThen_ok, eq_screens, Result.andThen_ok, Sem.run_pure]
section
variable {ops : Array Oper} {C : World → Prop}
theorem quiet_eqS {Q : Act → Prop} {o : Oper} {rest : List Oper} {a : Act} {A B : Sc} {v : Bool} (hv : sameSc A B = v) (hw : Region.wanted o (yielded ops a.tmps) = true) (x y : Operand) (z : TypeId) (ho : o.op = .binOp .eql 32 x y z) (hx : a.eval x = .agg (scells A)) (hy : a.eval y = .agg (scells B))
    (h : wpQuiet Try.prog ops C Q rest (a.put o.dst (.bool v))) : wpQuiet Try.prog ops C Q (o :: rest) a :=
  quiet_run hw (.bool v) (fun w' _ => by rw [← hv]; exact exec_eqS x y z ho A B hx hy) h
end
end Go.Proofs.Ytplmmfgmbfcjpaa
