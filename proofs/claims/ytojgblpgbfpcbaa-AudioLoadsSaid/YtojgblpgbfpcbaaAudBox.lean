/- Audio states as values: 17 cells; their blocks; '==' of patterns. -/
import Derived.Test.YtojgblpgbfpcbaaBlk
import Derived.Test.YtojgblpgbfpcbaaByt
import Derived.Test.YtojgblpgbfpcbaaAudNum
import Derived.KernelRfl
import Derived.RangeFuncBox
import Derived.Below
import Derived.Outline
import Derived.WalkSpells
import Derived.Deep.Cut
import Derived.BigQuiet
import Derived.Deep.QuietTactic
import Derived.Handy
import Derived.IntWalk
import Derived.Lib.Hide
import Derived.Test.YtojgblpgbfpcbaaNum
namespace Go.Proofs.Ytojgblpgbfpcbaa
open Go.RowKit Num
set_option linter.unusedVariables false
set_option linter.unusedSimpArgs false

/-- The cells of a pattern; of an audio state. -/
def pc (P : Nat → Int) : Array Value := ((List.range 16).map fun j => Value.int .u8 (P j)).toArray
def ac (P : Nat → Int) (p : Int) : Array Value := ((List.range 17).map fun j => Value.int .u8 (if j < 16 then P j else p)).toArray
theorem pc_size (P : Nat → Int) : (pc P).size = 16 := by simp [pc]
theorem ac_size (P : Nat → Int) (p : Int) : (ac P p).size = 17 := by simp [ac]
theorem pc_get (P : Nat → Int) (j : Nat) (hj : j < 16) : (pc P)[j]? = some (.int .u8 (P j)) := by simp [pc, hj]
theorem ac_get (P : Nat → Int) (p : Int) (j : Nat) (hj : j < 16) : (ac P p)[j]? = some (.int .u8 (P j)) := by
  have h : j < 17 := by omega
  simp [ac, h, hj]
theorem ac_last (P : Nat → Int) (p : Int) : (ac P p)[16]? = some (.int .u8 p) := by simp [ac]
theorem ac_get_all (P : Nat → Int) (p : Int) (j : Nat) (hj : j < 17) : (ac P p)[j]? = some (.int .u8 (if j < 16 then P j else p)) := by simp [ac, hj]
theorem pc_one (P : Nat → Int) : Ones (pc P) := by
  unfold Ones
  rw [Array.all_eq_true_iff_forall_mem]
  intro v hv
  simp only [pc, List.mem_toArray, List.mem_map, List.mem_range] at hv
  obtain ⟨j, _, rfl⟩ := hv
  rfl
theorem ac_one (P : Nat → Int) (p : Int) : Ones (ac P p) := by
  unfold Ones
  rw [Array.all_eq_true_iff_forall_mem]
  intro v hv
  simp only [ac, List.mem_toArray, List.mem_map, List.mem_range] at hv
  obtain ⟨j, _, rfl⟩ := hv
  rfl
theorem ac_pitch (P : Nat → Int) (p q : Int) : (ac P p).setIfInBounds 16 (.int .u8 q) = ac P q := by
  apply Array.ext_getElem?
  intro j
  rw [Array.getElem?_setIfInBounds, ac_size]
  by_cases h1 : 16 = j
  · subst h1
    rw [if_pos rfl, if_pos (by omega), ac_last]
  · rw [if_neg h1]
    by_cases h2 : j < 17
    · rw [ac_get_all _ _ _ h2, ac_get_all _ _ _ h2, if_pos (by omega), if_pos (by omega)]
    · rw [Array.getElem?_eq_none (by rw [ac_size]; omega), Array.getElem?_eq_none (by rw [ac_size]; omega)]
theorem ac_pattern (P : Nat → Int) (p : Int) : (ac P p).extract 0 (0 + 16) = pc P := by
  apply Array.ext_getElem?
  intro j
  rw [Array.getElem?_extract, ac_size]
  by_cases hj : j < 16
  · rw [if_pos (by omega), Nat.zero_add, ac_get _ _ _ hj, pc_get _ _ hj]
  · rw [if_neg (by omega), Array.getElem?_eq_none (by rw [pc_size]; omega)]
theorem ac_congr {P Q : Nat → Int} (h : ∀ j, j < 16 → P j = Q j) (p : Int) : ac P p = ac Q p := by
  apply Array.ext_getElem?
  intro j
  by_cases hj : j < 17
  · rw [ac_get_all _ _ _ hj, ac_get_all _ _ _ hj]
    by_cases h2 : j < 16
    · rw [if_pos h2, if_pos h2, h j h2]
    · rw [if_neg h2, if_neg h2]
  · rw [Array.getElem?_eq_none (by rw [ac_size]; omega), Array.getElem?_eq_none (by rw [ac_size]; omega)]
theorem ac_splice (P Q : Nat → Int) (p : Int) : splice8 (ac P p) 0 (pc Q) = ac Q p := by
  apply Array.ext_getElem?
  intro j
  unfold splice8
  rw [List.take_zero, List.nil_append, Nat.zero_add, pc_size, List.getElem?_toArray]
  by_cases h2 : j < 16
  · rw [List.getElem?_append_left (by simp [pc_size]; omega), ac_get _ _ _ h2, Array.getElem?_toList, pc_get _ _ h2]
  · rw [List.getElem?_append_right (by simp [pc_size]; omega), List.getElem?_drop]
    simp only [Array.length_toList, pc_size]
    rw [show 16 + (j - 16) = j by omega, Array.getElem?_toList]
    by_cases h3 : j < 17
    · rw [ac_get_all _ _ _ h3, ac_get_all _ _ _ h3, if_neg h2, if_neg h2]
    · rw [Array.getElem?_eq_none (by rw [ac_size]; omega), Array.getElem?_eq_none (by rw [ac_size]; omega)]
/-- A copy over a pattern of zeros. -/
theorem ac_list (P : Nat → Int) (p : Int) : ac P p = ((lstP P ++ [p]).map (Value.int .u8)).toArray := by
  apply Array.ext_getElem?
  intro j
  have e : ((lstP P ++ [p]).map (Value.int .u8)).toArray[j]? = ((lstP P ++ [p])[j]?).map (Value.int .u8) := by rw [← List.getElem?_map]; exact List.getElem?_toArray
  rw [e]
  by_cases h2 : j < 16
  · rw [ac_get _ _ _ h2, List.getElem?_append_left (by rw [lstP_len]; omega), List.getElem?_eq_getElem (by rw [lstP_len]; omega), lstP_get _ _ h2]
    rfl
  · by_cases h3 : j < 17
    · obtain rfl : j = 16 := by omega
      rw [ac_last, List.getElem?_append_right (by rw [lstP_len]; omega), lstP_len]
      rfl
    · rw [Array.getElem?_eq_none (by rw [ac_size]; omega), List.getElem?_eq_none (by simp [lstP_len]; omega)]
      rfl
theorem ac_copy (L : List Int) (p : Int) : (splice ((lstP zeroP ++ [p]).map (Value.int .u8)) 0 ((L.take 16).map (Value.int .u8))).toArray = ac (pad L) p := by
  rw [splice_map, ac_list]
  congr 2
  apply List.ext_getElem?
  intro j
  have ll : (L.take 16).length ≤ 16 := by rw [List.length_take]; omega
  rw [splice_get _ _ _ (by simp [lstP_len]; omega), if_neg (by omega), Nat.zero_add]
  by_cases h1 : j < (L.take 16).length
  · have h2 : j < L.length := by rw [List.length_take] at h1; omega
    rw [if_pos h1, Nat.sub_zero, List.getElem?_append_left (by rw [lstP_len]; omega), List.getElem?_eq_getElem h1, List.getElem_take, List.getElem?_eq_getElem (by rw [lstP_len]; omega), lstP_get _ _ (by omega), pad_in _ _ h2]
  · rw [if_neg h1]
    by_cases h2 : j < 16
    · rw [List.getElem?_append_left (by rw [lstP_len]; omega), List.getElem?_append_left (by rw [lstP_len]; omega), List.getElem?_eq_getElem (by rw [lstP_len]; omega), List.getElem?_eq_getElem (by rw [lstP_len]; omega), lstP_get _ _ h2, lstP_get _ _ h2,
        pad_out _ _ (by rw [List.length_take] at h1; omega)]
      rfl
    · rw [List.getElem?_append_right (by rw [lstP_len]; omega), List.getElem?_append_right (by rw [lstP_len]; omega), lstP_len, lstP_len]

theorem aggAud : AggT Try.prog 26 17 := ⟨⟨_, Try.underlying26, rfl⟩, by kernel_rfl⟩
theorem aggPat : AggT Try.prog 24 16 := ⟨⟨_, Try.underlying24, rfl⟩, by kernel_rfl⟩
theorem zeroAud : ZeroT Try.prog 26 (ac zeroP 0) := by
  unfold ZeroT
  rw [ac_size]
  kernel_rfl
theorem zeroA (w : World) : (zeroValue 26).run Try.prog w = .ok (.agg (ac zeroP 0)) w := run_alloc zeroAud
theorem built_new : Try.prog.built 26 [(1, .int .u8 64)] = some (ac zeroP 64) := by kernel_rfl
theorem built_zero : Try.prog.built 24 [] = some (pc zeroP) := by kernel_rfl
theorem below_new (w : World) (o : Obj) : Below w.heap.size w (w.alloc o) := (Below.refl _ _).alloc (Nat.le_refl _) _

/-- Block b is a variable that holds an audio state. -/
def AB (b : Nat) (P : Nat → Int) (p : Int) (w : World) : Prop := Blk b 26 (ac P p) w
section
variable {b : Nat} {P Q : Nat → Int} {p q : Int} {w w' : World}
theorem AB.lt (H : AB b P p w) : b < w.heap.size := Blk.lt H
theorem AB.below (H : AB b P p w) {n : Nat} (hb : Below n w w') (hn : b < n) : AB b P p w' := Blk.below H hb hn
theorem AB.step (H : AB b P p w) (hb : Below w.heap.size w w') : AB b P p w' := Blk.step H hb
theorem AB.new (w : World) (P : Nat → Int) (p : Int) : AB w.heap.size P p (w.alloc (.cells (ac P p) 26)) := Blk.new _ _ _
theorem AB.alloc (H : AB b P p w) (o : Obj) : AB b P p (w.alloc o) := Blk.alloc H o
theorem AB.drew (H : AB b P p w) : AB b P p w.drew := H
theorem AB.otherRow (H : AB b P p w) {g : Nat} (hg : b ≠ g) (ds : Array Value) : AB b P p (w.setRow g ds) := Blk.otherRow H hg ds
theorem AB.other (H : AB b P p w) {g : Nat} (hg : b ≠ g) (o : Nat) (v : Value) : AB b P p (w.setCell ⟨g, o, none⟩ v) := Blk.other H hg o v
theorem AB.cell (H : AB b P p w) {j : Nat} (hj : j < 16) : w.cell? ⟨b, j, none⟩ = some (.int .u8 (P j)) := by rw [Blk.cell H, ac_get _ _ _ hj]
theorem AB.pitch (H : AB b P p w) : w.cell? ⟨b, 16, none⟩ = some (.int .u8 p) := by rw [Blk.cell H, ac_last]
theorem AB.fz (H : AB b P p w) (j : Nat) : w.frozen? ⟨b, j, none⟩ = false := Blk.frozen H j
theorem AB.store (H : AB b P p w) (Q : Nat → Int) (q : Int) : AB b Q q (w.setRow b (ac Q q)) := Blk.store H _
theorem AB.tune (H : AB b P p w) (q : Int) : AB b P q (w.setCell ⟨b, 16, none⟩ (.int .u8 q)) := (Blk.put H 16 _).eq (ac_pitch P p q)
theorem AB.rd (H : AB b P p w) : Rd w (some ⟨b, 0, none⟩) (lstP P) := fun _ => by
  refine ⟨_, rfl, H.lt, fun j hj => ?_⟩
  have h16 : j < 16 := by rw [lstP_len] at hj; exact hj
  rw [add_pl, Nat.zero_add, H.cell h16, lstP_get _ _ h16]
end
theorem belowRowA {B : Nat} {a w : World} (h : Below B a w) {g : Nat} (hg : B ≤ g) (cs : Array Value) : Below B a (w.setRow g cs) := belowRow' h hg cs

/-! ### '==' of patterns -/
theorem eq_byte (x y : Int) (d : Nat) (w : World) : (Op.equalIn (d + 1) 5 (.int .u8 x) (.int .u8 y)).run Try.prog w = .ok (decide (x = y)) w := by
  have e : (x == y) = decide (x = y) := by by_cases h : x = y <;> simp [h]
  rw [← e]
  simp [Op.equalIn, run_underlying Try.underlying5, go_sem]
theorem part_byte (P : Nat → Int) (j : Nat) (hj : j < 16) (w : World) : (part 5 (pc P) j).run Try.prog w = .ok (.int .u8 (P j)) w := by
  simp [part, isAgg, Sem.run_bind, run_underlying Try.underlying5, pc_get P j hj]
theorem same_patsD (P Q : Nat → Int) (D : Nat) (hD : ∀ (x y : Int) (w : World), (Op.equalIn D 5 (.int .u8 x) (.int .u8 y)).run Try.prog w = .ok (decide (x = y)) w) (w : World) :
    (Op.equalIn (D + 1) 24 (.agg (pc P)) (.agg (pc Q))).run Try.prog w = .ok (eqP P Q) w := by
  have hi : (Try.prog.info? 5).map (·.size) = some 1 := by kernel_rfl
  cases hq : Try.prog.info? 5 with
  | none => simp [hq] at hi
  | some i =>
    have hs : i.size = 1 := by simpa [hq] using hi
    simp only [Op.equalIn, Sem.run_bind, run_underlying Try.underlying24, Result.andThen_ok, sizeOf, typeInfo, hq, hs, Sem.run_pure]
    have go : ∀ l : List Nat, (∀ i ∈ l, i < 16) → (forIn (m := Sem) l ((none : Option Bool), ()) (fun i _ => do
            let a ← part 5 (pc P) i
            let b ← part 5 (pc Q) i
            let r ← Op.equalIn D 5 a b
            if r = false then pure (ForInStep.done (some false, ())) else pure (ForInStep.yield (none, ())))).run Try.prog w = .ok ((if l.all (fun j => decide (P j = Q j)) then none else some false), ()) w := by
      intro l
      induction l with
      | nil => intro _; simp
      | cons k l ih =>
        intro hl
        simp only [List.forIn_cons, Sem.run_bind, part_byte P k (hl k (by simp)), part_byte Q k (hl k (by simp)), Result.andThen_ok, hD]
        by_cases hk : P k = Q k
        · simp [hk]
          have := ih fun i hi => hl i (by simp [hi])
          simpa using this
        · simp [hk]
    have hgo := go (List.range' 0 16) fun i hi => by have := List.mem_range'_1.1 hi; omega
    simp [Sem.run_bind, hq, hs, Std.Legacy.Range.forIn_eq_forIn_range'] at hgo ⊢
    rw [hgo]
    unfold eqP
    have ha : (List.range' 0 16).all (fun j => decide (P j = Q j)) = true ↔ ∀ x, x < 16 → P x = Q x := by simp [List.all_eq_true, List.mem_range'_1]
    by_cases hall : ∀ x, x < 16 → P x = Q x
    · rw [ha.2 hall]; simp only [Result.andThen_ok, if_pos hall]; simp
    · cases hb : (List.range' 0 16).all fun j => decide (P j = Q j)
      · simp only [Result.andThen_ok, if_neg hall]; simp
      · exact absurd (ha.1 hb) hall
theorem same_pats (P Q : Nat → Int) (d : Nat) (w : World) : (Op.equalIn (d + 2) 24 (.agg (pc P)) (.agg (pc Q))).run Try.prog w = .ok (eqP P Q) w := same_patsD P Q (d + 1) (fun x y w => eq_byte x y d w) w
end Go.Proofs.Ytojgblpgbfpcbaa
