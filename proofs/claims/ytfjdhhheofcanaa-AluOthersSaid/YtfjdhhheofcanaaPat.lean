/- Arrays of 16 bytes as values: their cells, blocks, '=='; a copy in a plain region. Of the program: the types of bytes only. -/
import Derived.Test.YtfjdhhheofcanaaBlk
import Derived.Test.YtfjdhhheofcanaaByt
import Derived.Test.YtfjdhhheofcanaaAudNum
import Derived.KernelRfl
import Derived.RangeFuncBox
import Derived.Below
import Derived.Outline
import Derived.WalkSpells
import Derived.Deep.Cut
import Derived.BigQuiet
import Derived.Deep.QuietTactic
import Derived.Handy
import Derived.IntWalk
import Derived.Lib.Hide
import Derived.Test.YtfjdhhheofcanaaNum
namespace Go.Proofs.Ytfjdhhheofcanaa
open Go.RowKit Num
set_option linter.unusedVariables false
set_option linter.unusedSimpArgs false

/-- The cells of a pattern. -/
def pc (P : Nat → Int) : Array Value := ((List.range 16).map fun j => Value.int .u8 (P j)).toArray
theorem pc_size (P : Nat → Int) : (pc P).size = 16 := by simp [pc]
theorem pc_get (P : Nat → Int) (j : Nat) (hj : j < 16) : (pc P)[j]? = some (.int .u8 (P j)) := by simp [pc, hj]
theorem pc_one (P : Nat → Int) : Ones (pc P) := by
  unfold Ones
  rw [Array.all_eq_true_iff_forall_mem]
  intro v hv
  simp only [pc, List.mem_toArray, List.mem_map, List.mem_range] at hv
  obtain ⟨j, _, rfl⟩ := hv
  rfl
theorem aggPat : AggT Try.prog 22 16 := ⟨⟨_, Try.underlying22, rfl⟩, by kernel_rfl⟩
theorem built_zero : Try.prog.built 22 [] = some (pc zeroPa) := by kernel_rfl
theorem below_newP (w : World) (o : Obj) : Below w.heap.size w (w.alloc o) := (Below.refl _ _).alloc (Nat.le_refl _) _
theorem pc_put (F : Nat → Int) (k : Nat) (hk : k < 16) (v : Int) : (pc F).setIfInBounds k (.int .u8 v) = pc fun j => if j = k then v else F j := by
  apply Array.ext_getElem?
  intro j
  rw [Array.getElem?_setIfInBounds, pc_size]
  by_cases h1 : k = j
  · subst h1
    rw [if_pos rfl, if_pos hk, pc_get _ _ hk, if_pos rfl]
  · rw [if_neg h1]
    by_cases h3 : j < 16
    · rw [pc_get _ _ h3, pc_get _ _ h3, if_neg (fun e => h1 e.symm)]
    · rw [Array.getElem?_eq_none (by rw [pc_size]; omega), Array.getElem?_eq_none (by rw [pc_size]; omega)]
theorem pc_congr {P Q : Nat → Int} (h : ∀ j, j < 16 → P j = Q j) : pc P = pc Q := by
  apply Array.ext_getElem?
  intro j
  by_cases h3 : j < 16
  · rw [pc_get _ _ h3, pc_get _ _ h3, h j h3]
  · rw [Array.getElem?_eq_none (by rw [pc_size]; omega), Array.getElem?_eq_none (by rw [pc_size]; omega)]
theorem pc_zeros : arr (List.replicate 16 0) = pc zeroPa := rfl
theorem pc_rd {g : Nat} {F : Nat → Int} {w : World} (H : Blk g 5 (pc F) w) : Rd w (some ⟨g, 0, none⟩) (lstP F) := fun _ => by
  refine ⟨_, rfl, H.lt, fun j hj => ?_⟩
  have h16 : j < 16 := by rw [lstP_len] at hj; exact hj
  rw [add_pl, Nat.zero_add, H.cell, pc_get _ _ h16, lstP_get _ _ h16]




theorem run_part_agg8 {P : Program} (t : TypeId) (d : TypeDesc) (xs : Array Value) (off sz : Nat) (w : World) (hd : (match d with | .struct _ | .array _ _ => true | _ => false) = true) (hu : P.underlying t = some d) (hi : (P.info? t).map (·.size) = some sz) :
    (part t xs off).run P w = .ok (.agg (xs.extract off (off + sz))) w := by
  cases hq : P.info? t with
  | none => simp [hq] at hi
  | some i =>
    have hs : i.size = sz := by simpa [hq] using hi
    have hagg : (isAgg t).run P w = .ok true w := by
      unfold isAgg
      rw [Sem.run_bind, run_underlying hu w]
      cases d <;> simp_all
    simp [part, Sem.run_bind, hagg, sizeOf, typeInfo, hq, hs]
/-! ### '==' of patterns -/
theorem eq_byte (x y : Int) (d : Nat) (w : World) : (Op.equalIn (d + 1) 5 (.int .u8 x) (.int .u8 y)).run Try.prog w = .ok (decide (x = y)) w := by
  have e : (x == y) = decide (x = y) := by by_cases h : x = y <;> simp [h]
  rw [← e]
  simp [Op.equalIn, run_underlying Try.underlying5, go_sem]
theorem part_byte (P : Nat → Int) (j : Nat) (hj : j < 16) (w : World) : (part 5 (pc P) j).run Try.prog w = .ok (.int .u8 (P j)) w := by
  simp [part, isAgg, Sem.run_bind, run_underlying Try.underlying5, pc_get P j hj]
theorem same_patsD (P Q : Nat → Int) (D : Nat) (hD : ∀ (x y : Int) (w : World), (Op.equalIn D 5 (.int .u8 x) (.int .u8 y)).run Try.prog w = .ok (decide (x = y)) w) (w : World) :
    (Op.equalIn (D + 1) 22 (.agg (pc P)) (.agg (pc Q))).run Try.prog w = .ok (eqP P Q) w := by
  have hi : (Try.prog.info? 5).map (·.size) = some 1 := by kernel_rfl
  cases hq : Try.prog.info? 5 with
  | none => simp [hq] at hi
  | some i =>
    have hs : i.size = 1 := by simpa [hq] using hi
    simp only [Op.equalIn, Sem.run_bind, run_underlying Try.underlying22, Result.andThen_ok, sizeOf, typeInfo, hq, hs, Sem.run_pure]
    have go : ∀ l : List Nat, (∀ i ∈ l, i < 16) → (forIn (m := Sem) l ((none : Option Bool), ()) (fun i _ => do
            let a ← part 5 (pc P) i
            let b ← part 5 (pc Q) i
            let r ← Op.equalIn D 5 a b
            if r = false then pure (ForInStep.done (some false, ())) else pure (ForInStep.yield (none, ())))).run Try.prog w = .ok ((if l.all (fun j => decide (P j = Q j)) then none else some false), ()) w := by
      intro l
      induction l with
      | nil => intro _; simp
      | cons k l ih =>
        intro hl
        simp only [List.forIn_cons, Sem.run_bind, part_byte P k (hl k (by simp)), part_byte Q k (hl k (by simp)), Result.andThen_ok, hD]
        by_cases hk : P k = Q k
        · simp [hk]
          have := ih fun i hi => hl i (by simp [hi])
          simpa using this
        · simp [hk]
    have hgo := go (List.range' 0 16) fun i hi => by have := List.mem_range'_1.1 hi; omega
    simp [Sem.run_bind, hq, hs, Std.Legacy.Range.forIn_eq_forIn_range'] at hgo ⊢
    rw [hgo]
    unfold eqP
    have ha : (List.range' 0 16).all (fun j => decide (P j = Q j)) = true ↔ ∀ x, x < 16 → P x = Q x := by simp [List.all_eq_true, List.mem_range'_1]
    by_cases hall : ∀ x, x < 16 → P x = Q x
    · rw [ha.2 hall]; simp only [Result.andThen_ok, if_pos hall]; simp
    · cases hb : (List.range' 0 16).all fun j => decide (P j = Q j)
      · simp only [Result.andThen_ok, if_neg hall]; simp
      · exact absurd (ha.1 hb) hall
theorem same_pats (P Q : Nat → Int) (d : Nat) (w : World) : (Op.equalIn (d + 2) 22 (.agg (pc P)) (.agg (pc Q))).run Try.prog w = .ok (eqP P Q) w := same_patsD P Q (d + 1) (fun x y w => eq_byte x y d w) w
end Go.Proofs.Ytfjdhhheofcanaa
