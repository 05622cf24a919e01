/- '==' of two planes. -/
import Derived.Test.YtplmmfgmbfcjpaaPlaneRows
namespace Go.Proofs.Ytplmmfgmbfcjpaa
open Go.RowKit Num
set_option linter.unusedVariables false
set_option linter.unusedSimpArgs false

section
variable {P : Program}
/-- '==' of two arrays, where it is known of each pair of elements. -/
theorem run_equal_array_by (d : Nat) (ta tr : TypeId) (dr : TypeDesc) (n sz : Nat) (xs ys : Array Value) (r : Nat → Bool) (hd : (match dr with | .struct _ | .array _ _ => true | _ => false) = true) (ht : P.underlying ta = some (.array n tr)) (hu : P.underlying tr = some dr) (hi : (P.info? tr).map (·.size) = some sz)
    (h : ∀ i, i < n → ∀ w, (Op.equalIn d tr (.agg (xs.extract (i * sz) (i * sz + sz))) (.agg (ys.extract (i * sz) (i * sz + sz)))).run P w = .ok (r i) w) (w : World) :
    (Op.equalIn (d + 1) ta (.agg xs) (.agg ys)).run P w = .ok ((List.range' 0 n).all r) w := by
  cases hq : P.info? tr with
  | none => simp [hq] at hi
  | some i =>
    have hs : i.size = sz := by simpa [hq] using hi
    simp only [Op.equalIn, Sem.run_bind, run_underlying ht, Result.andThen_ok, sizeOf, typeInfo, hq, hs, Sem.run_pure]
    have go : ∀ l : List Nat, (∀ i ∈ l, i < n) → (forIn (m := Sem) l ((none : Option Bool), ()) (fun i _ => do
            let a ← part tr xs (i * sz)
            let b ← part tr ys (i * sz)
            let r ← Op.equalIn d tr a b
            if r = false then pure (ForInStep.done (some false, ())) else pure (ForInStep.yield (none, ())))).run P w = .ok ((if l.all r then none else some false), ()) w := by
      intro l
      induction l with
      | nil => intro _; simp
      | cons k l ih =>
        intro hl
        simp only [List.forIn_cons, Sem.run_bind, run_part_agg tr dr xs (k * sz) sz w hd hu hi, run_part_agg tr dr ys (k * sz) sz w hd hu hi, Result.andThen_ok, h k (hl k (by simp)) w]
        cases hk : r k
        · simp [hk]
        · simp [hk]
          have := ih fun i hi => hl i (by simp [hi])
          simpa using this
    have hgo := go (List.range' 0 n) fun i hi => by have := List.mem_range'_1.1 hi; omega
    simp [Sem.run_bind, hq, hs, Std.Legacy.Range.forIn_eq_forIn_range'] at hgo ⊢
    rw [hgo]
    have ha : (List.range' 0 n).all r = true ↔ ∀ x, x < n → r x = true := by simp [List.all_eq_true, List.mem_range'_1]
    by_cases hall : ∀ x, x < n → r x = true
    · rw [ha.2 hall]; simp only [Result.andThen_ok, if_pos hall]; simp
    · cases hb : (List.range' 0 n).all r
      · simp only [Result.andThen_ok, if_neg hall]; simp
      · exact absurd (ha.1 hb) hall
end
/-- Are two planes one? -/
def samePl (A B : Pl) : Bool := (List.range' 0 64).all fun y => decide (A y = B y)
theorem samePl_iff (A B : Pl) : samePl A B = true ↔ ∀ y, y < 64 → A y = B y := by
  unfold samePl
  rw [List.all_eq_true]
  constructor
  · intro h y hy
    have := h y (by rw [List.mem_range'_1]; omega)
    exact of_decide_eq_true this
  · intro h y hy
    rw [List.mem_range'_1] at hy
    exact decide_eq_true (h y (by omega))
theorem same_row (h l h' l' : BitVec 64) (d : Nat) (w : World) : (Op.equalIn (d + 2) 26 (.agg #[.int .u64 (h.toNat : Int), .int .u64 (l.toNat : Int)]) (.agg #[.int .u64 (h'.toNat : Int), .int .u64 (l'.toNat : Int)])).run Try.prog w = .ok (decide (h ++ l = h' ++ l')) w := by
  have ht : Try.prog.underlying 26 = some (.struct (Try.prog.fieldsOf 26)) := by kernel_rfl
  have hp : Try.prog.stoodInHeld 26 = false := by kernel_rfl
  rw [run_equalIn_struct (P := Try.prog) w (d + 1) 26 _ _ ht hp]
  simp [Program.fieldsOf, Try.underlying26, Op.eqFields, go_sem]
  have e : h ++ l = h' ++ l' ↔ ((h.toNat : Int) = h'.toNat ∧ (l.toNat : Int) = l'.toNat) := by
    rw [app_inj, ← BitVec.toNat_inj, ← BitVec.toNat_inj]
    omega
  by_cases e1 : (h.toNat : Int) = h'.toNat
  · by_cases e2 : (l.toNat : Int) = l'.toNat
    · rw [if_pos e1, if_pos e2, decide_eq_true (e.2 ⟨e1, e2⟩)]
    · rw [if_pos e1, if_neg e2, decide_eq_false fun q => e2 (e.1 q).2]
  · rw [if_neg e1, decide_eq_false fun q => e1 (e.1 q).1]
theorem extract_all (C : Pl) : (pcells C).extract 0 (0 + 128) = pcells C := by
  apply Array.ext_getElem?
  intro j
  rw [Array.getElem?_extract, pcells_size]
  by_cases hj : j < 128
  · rw [if_pos (by omega), Nat.zero_add]
  · rw [if_neg (by omega), Array.getElem?_eq_none (by rw [pcells_size]; omega)]
theorem same_planes (A B : Pl) (d : Nat) (w : World) : (Op.equalIn (d + 4) 29 (.agg (pcells A)) (.agg (pcells B))).run Try.prog w = .ok (samePl A B) w := by
  have ht : Try.prog.underlying 29 = some (.struct (Try.prog.fieldsOf 29)) := by kernel_rfl
  have hp : Try.prog.stoodInHeld 29 = false := by kernel_rfl
  rw [run_equalIn_struct (P := Try.prog) w (d + 3) 29 _ _ ht hp]
  have hx : ∀ C : Pl, (part 27 (pcells C) 0).run Try.prog w = .ok (.agg (pcells C)) w := by
    intro C
    rw [run_part_agg (P := Try.prog) 27 _ (pcells C) 0 128 w rfl Try.underlying27 sizeRows, extract_all]
  have he : (Op.equalIn (d + 3) 27 (.agg (pcells A)) (.agg (pcells B))).run Try.prog w = .ok (samePl A B) w := run_equal_array_by (P := Try.prog) (d + 2) 27 26 _ 64 2 (pcells A) (pcells B) (fun y => decide (A y = B y)) rfl Try.underlying27 Try.underlying26 sizeRow (fun y hy w => by
    rw [extract_row A y hy, extract_row B y hy, same_row, hi_lo, hi_lo]) w
  have hxA := hx A
  have hxB := hx B
  clear hx ht hp
  generalize samePl A B = v at *
  generalize pcells A = CA at *
  generalize pcells B = CB at *
  simp only [Program.fieldsOf, Try.underlying29, Op.eqFields]
  rw [if_pos (by decide), Sem.run_bind, hxA, Result.andThen_ok, Sem.run_bind, hxB, Result.andThen_ok, Sem.run_bind, he, Result.andThen_ok]
  cases v
  · rw [if_pos (by decide), Sem.run_pure]
  · rw [if_neg (by decide), Sem.run_pure]
theorem eq_planes (A B : Pl) (w : World) : (binOp .eql 29 (.agg (pcells A)) (.agg (pcells B))).run Try.prog w = .ok (.bool (samePl A B)) w := by
  have h := same_planes A B 9996 w
  have e : (10000 : Nat) = 9996 + 4 := by decide
  rw [run_eql_struct, e, h]
  simp only [Result.andThen_ok]
theorem ne_planes (A B : Pl) (w : World) : (binOp .neq 29 (.agg (pcells A)) (.agg (pcells B))).run Try.prog w = .ok (.bool (!samePl A B)) w := by
  have h := same_planes A B 9996 w
  have e : (10000 : Nat) = 9996 + 4 := by decide
  rw [run_neq_struct, e, h]
  simp only [Result.andThen_ok]
theorem eqGuardPlane : Try.prog.eqGuardType Try.prog.depth 29 = false := by kernel_rfl
end Go.Proofs.Ytplmmfgmbfcjpaa
