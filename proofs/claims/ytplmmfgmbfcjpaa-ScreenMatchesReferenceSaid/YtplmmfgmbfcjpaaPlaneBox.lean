/- Planes in memory: the block that holds one, as a whole. Nothing of the program. -/
import Derived.Test.YtplmmfgmbfcjpaaPlaneFwd
import Derived.WalkKit
import Derived.Below
import Derived.Lib.Hide
import Derived.Handy
import Derived.Laws.Tables
import Derived.Laws.StructEq
namespace Go.Proofs.Ytplmmfgmbfcjpaa
open Go.RowKit Num
set_option linter.unusedVariables false
set_option linter.unusedSimpArgs false

/-- Word j of a plane: the left words of its rows at even, the right ones at odd places. -/
def wordOf (P : Pl) (j : Nat) : Int := if j % 2 = 0 then ((hi (P (j / 2))).toNat : Int) else ((lo (P (j / 2))).toNat : Int)
/-- The cells of a plane. -/
def pcells (P : Pl) : Array Value := ((List.range 128).map fun j => Value.int .u64 (wordOf P j)).toArray
theorem pcells_size (P : Pl) : (pcells P).size = 128 := by simp [pcells]
theorem pcells_get (P : Pl) (j : Nat) (hj : j < 128) : (pcells P)[j]? = some (.int .u64 (wordOf P j)) := by simp [pcells, hj]
theorem word_even (P : Pl) (y : Nat) : wordOf P (2 * y) = ((hi (P y)).toNat : Int) := by
  rw [wordOf, if_pos (by omega), show 2 * y / 2 = y by omega]
theorem word_odd (P : Pl) (y : Nat) : wordOf P (2 * y + 1) = ((lo (P y)).toNat : Int) := by
  rw [wordOf, if_neg (by omega), show (2 * y + 1) / 2 = y by omega]
theorem pcells_congr {P Q : Pl} (h : ∀ y, y < 64 → P y = Q y) : pcells P = pcells Q := by
  unfold pcells
  congr 1
  refine List.map_congr_left fun j hj => ?_
  have hj := List.mem_range.1 hj
  unfold wordOf
  rw [h (j / 2) (by omega)]
theorem pcells_one (P : Pl) : (pcells P).all (·.oneCell') = true := by
  rw [Array.all_eq_true_iff_forall_mem]
  intro v hv
  simp [pcells] at hv
  obtain ⟨j, _, rfl⟩ := hv
  rfl
/-- The plane with the row y turned. -/
def upd (P : Pl) (y : Nat) (r : BitVec 128) : Pl := fun j => if j = y then r else P j
theorem upd_same (P : Pl) (y : Nat) (r : BitVec 128) : upd P y r y = r := by simp [upd]
theorem upd_other (P : Pl) (y j : Nat) (r : BitVec 128) (h : j ≠ y) : upd P y r j = P j := by simp [upd, h]
theorem pcells_upd (P : Pl) (y : Nat) (h l : BitVec 64) (hy : y < 64) : ((pcells P).setIfInBounds (2 * y) (.int .u64 (h.toNat : Int))).setIfInBounds (2 * y + 1) (.int .u64 (l.toNat : Int)) = pcells (upd P y (h ++ l)) := by
  apply Array.ext_getElem?
  intro j
  by_cases hj : j < 128
  · rw [pcells_get _ _ hj, Array.getElem?_setIfInBounds, Array.getElem?_setIfInBounds]
    by_cases e1 : 2 * y + 1 = j
    · subst e1
      rw [if_pos rfl, if_pos (by simp [pcells_size]; omega), word_odd, upd_same, lo_append]
    · rw [if_neg e1]
      by_cases e0 : 2 * y = j
      · subst e0
        rw [if_pos rfl, if_pos (by simp [pcells_size]; omega), word_even, upd_same, hi_append]
      · rw [if_neg e0, pcells_get _ _ hj]
        unfold wordOf
        rw [upd_other _ _ _ _ (by omega)]
  · rw [Array.getElem?_eq_none (by simp [pcells_size]; omega), Array.getElem?_eq_none (by simp [pcells_size]; omega)]

/-- The block b is a variable that holds the plane P, and may be written. -/
def PBox (b : Nat) (t : TypeId) (P : Pl) (w : World) : Prop := w.heap[b]? = some (.cells (pcells P) t (0, 0))
section
variable {b : Nat} {t : TypeId} {P Q : Pl} {w w' : World}
theorem PBox.lt (H : PBox b t P w) : b < w.heap.size := (Array.getElem?_eq_some_iff.1 H).1
theorem PBox.below (H : PBox b t P w) {n : Nat} (hb : Below n w w') (hn : b < n) : PBox b t P w' := (hb.block b hn).trans H
theorem PBox.step (H : PBox b t P w) (hb : Below w.heap.size w w') : PBox b t P w' := H.below hb H.lt
theorem PBox.new (w : World) (P : Pl) (t : TypeId) : PBox w.heap.size t P (w.alloc (.cells (pcells P) t)) := heap_alloc_new _ _
theorem PBox.alloc (H : PBox b t P w) (o : Obj) : PBox b t P (w.alloc o) := H.step ((Below.refl _ _).alloc (Nat.le_refl _) _)
theorem PBox.drew (H : PBox b t P w) : PBox b t P w.drew := H
theorem PBox.congr (H : PBox b t P w) (h : ∀ y, y < 64 → P y = Q y) : PBox b t Q w := by
  unfold PBox at *
  rw [← pcells_congr h]
  exact H
theorem PBox.other (H : PBox b t P w) {g : Nat} (hg : b ≠ g) (o : Nat) (v : Value) : PBox b t P (w.setCell ⟨g, o, none⟩ v) := (Below.heap_setCell w ⟨g, o, none⟩ v b hg).trans H
theorem PBox.otherRow (H : PBox b t P w) {g : Nat} (hg : b ≠ g) (cs : Array Value) : PBox b t P (w.setRow g cs) := (setRow_other w g b cs hg).trans H
theorem PBox.cell (H : PBox b t P w) (j : Nat) (hj : j < 128) : w.cell? ⟨b, j, none⟩ = some (.int .u64 (wordOf P j)) := by
  rw [cell_of_row w b j (pcells P) t (0, 0) H]
  exact pcells_get P j hj
theorem PBox.left (H : PBox b t P w) (y : Nat) (hy : y < 64) : w.cell? ⟨b, y * 2, none⟩ = some (.int .u64 ((hi (P y)).toNat : Int)) := by
  rw [Nat.mul_comm y 2, H.cell _ (by omega), word_even]
theorem PBox.right (H : PBox b t P w) (y : Nat) (hy : y < 64) : w.cell? ⟨b, y * 2 + 1, none⟩ = some (.int .u64 ((lo (P y)).toNat : Int)) := by
  rw [Nat.mul_comm y 2, H.cell _ (by omega), word_odd]
theorem PBox.frozen (H : PBox b t P w) (j : Nat) : w.frozen? ⟨b, j, none⟩ = false := frozen_of_row w b j (pcells P) t H
theorem PBox.store (H : PBox b t P w) (Q : Pl) : PBox b t Q (w.setRow b (pcells Q)) := setRow_heap w b _ _ t (0, 0) H
/-- A row of the plane is stored, word by word. -/
theorem PBox.row (H : PBox b t P w) (y : Nat) (hy : y < 64) (h l : BitVec 64) : PBox b t (upd P y (h ++ l)) ((w.setCell ⟨b, y * 2, none⟩ (.int .u64 (h.toNat : Int))).setCell ⟨b, y * 2 + 1, none⟩ (.int .u64 (l.toNat : Int))) := by
  rw [Nat.mul_comm y 2]
  have e1 := setCell_eq_setRow w b (2 * y) (pcells P) t (0, 0) (.int .u64 (h.toNat : Int)) H
  have H1 : (w.setRow b ((pcells P).setIfInBounds (2 * y) (.int .u64 (h.toNat : Int)))).heap[b]? = _ := setRow_heap w b _ _ t (0, 0) H
  have e2 := setCell_eq_setRow _ b (2 * y + 1) _ t (0, 0) (.int .u64 (l.toNat : Int)) H1
  rw [e1, e2, pcells_upd P y h l hy]
  exact setRow_heap _ b _ _ t (0, 0) H1
end

theorem belowRow {B : Nat} {a w : World} (h : Below B a w) {g : Nat} (hg : B ≤ g) (cs : Array Value) : Below B a (w.setRow g cs) :=
  h.trans ⟨rfl, rfl, rfl, by simp [World.setRow], fun k hk => setRow_other w g k cs (by omega)⟩

section
variable {P : Program}
theorem run_part_agg (t : TypeId) (d : TypeDesc) (xs : Array Value) (off sz : Nat) (w : World) (hd : (match d with | .struct _ | .array _ _ => true | _ => false) = true) (hu : P.underlying t = some d) (hi : (P.info? t).map (·.size) = some sz) :
    (part t xs off).run P w = .ok (.agg (xs.extract off (off + sz))) w := by
  cases hq : P.info? t with
  | none => simp [hq] at hi
  | some i =>
    have hs : i.size = sz := by simpa [hq] using hi
    have hagg : (isAgg t).run P w = .ok true w := by
      unfold isAgg
      rw [Sem.run_bind, run_underlying hu w]
      cases d <;> simp_all
    simp [part, Sem.run_bind, hagg, sizeOf, typeInfo, hq, hs]
/-- An array whose elements are each equal to themselves is equal to itself. -/
theorem run_equal_array (d : Nat) (ta tr : TypeId) (dr : TypeDesc) (n sz : Nat) (xs : Array Value) (hd : (match dr with | .struct _ | .array _ _ => true | _ => false) = true) (ht : P.underlying ta = some (.array n tr)) (hu : P.underlying tr = some dr) (hi : (P.info? tr).map (·.size) = some sz)
    (h : ∀ i, i < n → ∀ w, (Op.equalIn d tr (.agg (xs.extract (i * sz) (i * sz + sz))) (.agg (xs.extract (i * sz) (i * sz + sz)))).run P w = .ok true w) (w : World) :
    (Op.equalIn (d + 1) ta (.agg xs) (.agg xs)).run P w = .ok true w := by
  cases hq : P.info? tr with
  | none => simp [hq] at hi
  | some i =>
    have hs : i.size = sz := by simpa [hq] using hi
    simp only [Op.equalIn, Sem.run_bind, run_underlying ht, Result.andThen_ok, sizeOf, typeInfo, hq, hs, Sem.run_pure]
    have go : ∀ l : List Nat, (∀ i ∈ l, i < n) → (forIn (m := Sem) l ((none : Option Bool), ()) (fun i _ => do
            let a ← part tr xs (i * sz)
            let b ← part tr xs (i * sz)
            let r ← Op.equalIn d tr a b
            if r = false then pure (ForInStep.done (some false, ())) else pure (ForInStep.yield (none, ())))).run P w = .ok (none, ()) w := by
      intro l
      induction l with
      | nil => intro _; simp
      | cons k l ih =>
        intro hl
        simp only [List.forIn_cons, Sem.run_bind, run_part_agg tr dr xs (k * sz) sz w hd hu hi, Result.andThen_ok, h k (hl k (by simp)) w]
        simp
        exact ih fun i hi => hl i (by simp [hi])
    have hgo := go (List.range' 0 n) fun i hi => by have := List.mem_range'_1.1 hi; omega
    simp [Sem.run_bind, hq, hs, Std.Legacy.Range.forIn_eq_forIn_range'] at hgo ⊢
    rw [hgo]
    simp
end
end Go.Proofs.Ytplmmfgmbfcjpaa
