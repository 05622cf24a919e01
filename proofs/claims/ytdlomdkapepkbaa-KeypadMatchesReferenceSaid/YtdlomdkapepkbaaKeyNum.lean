/- Plain facts on keypads: events, lists of them, releases. Nothing of the program. -/
import Derived.WalkKit
namespace Go.Proofs.Ytdlomdkapepkbaa
set_option linter.unusedVariables false

/-- An event. -/
structure Ev where
  k : Int
  d : Bool
instance : Inhabited Ev := ⟨⟨0, false⟩⟩
/-- The keypad behind an event; is it a release? -/
def ap (K : Nat → Bool) (e : Ev) : Nat → Bool := fun j => if (0 ≤ e.k ∧ e.k ≤ 15) ∧ j = e.k.toNat then e.d else K j
def rel (K : Nat → Bool) (e : Ev) : Bool := decide (0 ≤ e.k ∧ e.k ≤ 15) && (K e.k.toNat && !e.d)
/-- Behind a list of events; the keys that are released. -/
def aft (K : Nat → Bool) (l : List Ev) : Nat → Bool := l.foldl ap K
def one (K : Nat → Bool) (e : Ev) : List Int := if rel K e = true then [e.k] else []
def rls (K : Nat → Bool) : List Ev → List Int
  | [] => []
  | e :: l => one K e ++ rls (ap K e) l
/-- No key is down. -/
def up : Nat → Bool := fun _ => false

theorem ap_in {K : Nat → Bool} {e : Ev} {n : Nat} (h : e.k = (n : Int)) (hn : n < 16) : ap K e = fun j => if j = n then e.d else K j := by
  funext j
  unfold ap
  rw [h]
  by_cases hj : j = n
  · rw [if_pos ⟨⟨by omega, by omega⟩, by omega⟩, if_pos hj]
  · rw [if_neg (fun q => hj (by omega)), if_neg hj]
theorem ap_out {K : Nat → Bool} {e : Ev} (h : ¬ (0 ≤ e.k ∧ e.k ≤ 15)) : ap K e = K := by
  funext j
  unfold ap
  rw [if_neg (fun q => h q.1)]
theorem rel_in {K : Nat → Bool} {e : Ev} {n : Nat} (h : e.k = (n : Int)) (hn : n < 16) : rel K e = (K n && !e.d) := by
  unfold rel
  rw [h, decide_eq_true (by omega), Bool.true_and, Int.toNat_natCast]
theorem rel_out {K : Nat → Bool} {e : Ev} (h : ¬ (0 ≤ e.k ∧ e.k ≤ 15)) : rel K e = false := by
  unfold rel
  rw [decide_eq_false h, Bool.false_and]
/-- An event is one of a key or of none. -/
theorem key_or (k : Int) : (∃ n : Nat, k = (n : Int) ∧ n < 16) ∨ ¬ (0 ≤ k ∧ k ≤ 15) := by
  by_cases h : 0 ≤ k ∧ k ≤ 15
  · exact .inl ⟨k.toNat, by omega, by omega⟩
  · exact .inr h
theorem ap_twice (K : Nat → Bool) (e : Ev) : ap (ap K e) e = ap K e := by
  funext j
  unfold ap
  by_cases h : (0 ≤ e.k ∧ e.k ≤ 15) ∧ j = e.k.toNat
  · rw [if_pos h, if_pos h]
  · rw [if_neg h, if_neg h]
theorem rel_twice (K : Nat → Bool) (e : Ev) : rel (ap K e) e = false := by
  rcases key_or e.k with ⟨n, h, hn⟩ | h
  · rw [rel_in h hn, ap_in h hn]
    simp
  · exact rel_out h
theorem ap_other (K : Nat → Bool) (e : Ev) (j : Nat) (h : (j : Int) ≠ e.k) : ap K e j = K j := by
  unfold ap
  rw [if_neg]
  rintro ⟨⟨h1, h2⟩, h3⟩
  omega
theorem ap_same (K : Nat → Bool) (e : Ev) (j : Nat) (hj : j < 16) (h : (j : Int) = e.k) : ap K e j = e.d := by
  unfold ap
  rw [if_pos]
  exact ⟨⟨by omega, by omega⟩, by omega⟩
theorem rel_same (K : Nat → Bool) (e : Ev) (j : Nat) (hj : j < 16) (h : (j : Int) = e.k) : rel K e = (K j && !(ap K e j)) := by
  rw [ap_same K e j hj h, rel_in h.symm hj]

theorem aft_nil (K : Nat → Bool) : aft K [] = K := rfl
theorem aft_cons (K : Nat → Bool) (e : Ev) (l : List Ev) : aft K (e :: l) = aft (ap K e) l := rfl
theorem aft_app (K : Nat → Bool) (l m : List Ev) : aft K (l ++ m) = aft (aft K l) m := List.foldl_append
theorem rls_app : ∀ (K : Nat → Bool) (l m : List Ev), rls K (l ++ m) = rls K l ++ rls (aft K l) m
  | _, [], _ => rfl
  | K, e :: l, m => by
    rw [List.cons_append, rls, rls, rls_app (ap K e) l m, aft_cons, List.append_assoc]
theorem take_snoc (l : List Ev) (k : Nat) (h : k < l.length) : l.take (k + 1) = l.take k ++ [l[k]] := by
  rw [List.take_succ_eq_append_getElem h]
theorem aft_succ (K : Nat → Bool) (l : List Ev) (k : Nat) (h : k < l.length) : aft K (l.take (k + 1)) = ap (aft K (l.take k)) l[k] := by
  rw [take_snoc l k h, aft_app]
  rfl
theorem rls_succ (K : Nat → Bool) (l : List Ev) (k : Nat) (h : k < l.length) : rls K (l.take (k + 1)) = rls K (l.take k) ++ one (aft K (l.take k)) l[k] := by
  rw [take_snoc l k h, rls_app]
  simp [rls]
theorem rls_le : ∀ (K : Nat → Bool) (l : List Ev), (rls K l).length ≤ l.length
  | _, [] => Nat.le_refl _
  | K, e :: l => by
    have := rls_le (ap K e) l
    rw [rls, List.length_append, List.length_cons]
    unfold one
    split <;> simp <;> omega

/-- Is a key down behind a list of events? -/
def dn (l : List Ev) (key : Int) : Bool := decide (0 ≤ key ∧ key ≤ 15) && aft up l key.toNat
theorem dn_nil (key : Int) : dn [] key = false := by
  unfold dn
  rw [aft_nil]
  simp [up]
theorem dn_in (l : List Ev) (k : Nat) (h : k < 16) : dn l (k : Int) = aft up l k := by
  unfold dn
  rw [decide_eq_true (by omega), Bool.true_and, Int.toNat_natCast]
theorem dn_hit (l : List Ev) (k : Nat) (h : k < l.length) (key : Int) (hk : l[k].k = key) : dn (l.take (k + 1)) key = (l[k].d && decide (0 ≤ key ∧ key ≤ 15)) := by
  unfold dn
  rw [aft_succ _ _ _ h]
  by_cases hq : 0 ≤ key ∧ key ≤ 15
  · rw [decide_eq_true hq, ap_same _ _ _ (by omega) (by omega)]
    simp
  · rw [decide_eq_false hq]
    simp
theorem dn_miss (l : List Ev) (k : Nat) (h : k < l.length) (key : Int) (hk : l[k].k ≠ key) : dn (l.take (k + 1)) key = dn (l.take k) key := by
  unfold dn
  rw [aft_succ _ _ _ h]
  by_cases hq : 0 ≤ key ∧ key ≤ 15
  · rw [ap_other _ _ _ (by omega)]
  · rw [decide_eq_false hq]
    simp
theorem dn_rel (l : List Ev) (e : Ev) : (dn l e.k && !e.d) = rel (aft up l) e := by
  unfold dn rel
  rw [Bool.and_assoc]
/-- The releases from an index on. -/
def rfr (l : List Ev) (f : Nat) : List Int := rls (aft up (l.take f)) (l.drop f)
/-- Of them, those up to an index. -/
def rft (l : List Ev) (f k : Nat) : List Int := rls (aft up (l.take f)) ((l.drop f).take (k - f))
theorem rft_zero (l : List Ev) (f : Nat) : rft l f f = [] := by
  unfold rft
  rw [Nat.sub_self, List.take_zero]
  rfl
theorem rft_succ (l : List Ev) (f k : Nat) (hf : f ≤ k) (h : k < l.length) : rft l f (k + 1) = rft l f k ++ one (aft up (l.take k)) l[k] := by
  unfold rft
  have hl : k - f < (l.drop f).length := by rw [List.length_drop]; omega
  rw [show k + 1 - f = (k - f) + 1 by omega, rls_succ _ _ _ hl]
  have e1 : (l.drop f)[k - f]'hl = l[k] := by
    rw [List.getElem_drop]
    congr 1
    omega
  have e2 : aft (aft up (l.take f)) ((l.drop f).take (k - f)) = aft up (l.take k) := by
    rw [← aft_app]
    congr 1
    rw [show k = f + (k - f) by omega, List.take_add]
    simp
  rw [e1, e2]
theorem rft_all (l : List Ev) (f : Nat) (h : f ≤ l.length) : rft l f l.length = rfr l f := by
  unfold rft rfr
  rw [List.take_of_length_le (i := l.length - f) (l := l.drop f) (by rw [List.length_drop]; omega)]
theorem rft_le (l : List Ev) (f k : Nat) : (rft l f k).length ≤ l.length := by
  unfold rft
  refine Nat.le_trans (rls_le _ _) ?_
  rw [List.length_take, List.length_drop]
  omega
theorem one_le (K : Nat → Bool) (e : Ev) : (one K e).length ≤ 1 := by
  unfold one
  split <;> simp
/-- The whole list's releases: of the first ones, then of the rest. -/
theorem rls_split (K : Nat → Bool) (l : List Ev) (k : Nat) : rls K l = rls K (l.take k) ++ rls (aft K (l.take k)) (l.drop k) := by
  rw [← rls_app, List.take_append_drop]
theorem aft_split (K : Nat → Bool) (l : List Ev) (k : Nat) : aft (aft K (l.take k)) (l.drop k) = aft K l := by
  rw [← aft_app, List.take_append_drop]
theorem rfr_zero (l : List Ev) : rfr l 0 = rls up l := rfl

/-- The least key below b at which K holds, from a on; -1 if there is none. -/
def lowTo (K : Nat → Bool) (a : Nat) : Nat → Int
  | 0 => -1
  | n + 1 => if K a then (a : Int) else lowTo K (a + 1) n
def low (K : Nat → Bool) : Int := lowTo K 0 16
theorem lowTo_hit {K : Nat → Bool} {a n : Nat} (h : K a = true) : lowTo K a (n + 1) = a := by
  rw [lowTo, if_pos h]
theorem lowTo_miss {K : Nat → Bool} {a n : Nat} (h : K a = false) : lowTo K a (n + 1) = lowTo K (a + 1) n := by
  rw [lowTo, if_neg (by rw [h]; decide)]
/-- Behind j rounds. -/
theorem low_at {K : Nat → Bool} : ∀ {j n : Nat}, (∀ i, i < j → K i = false) → lowTo K 0 (j + n) = lowTo K j n
  | 0, n, _ => by rw [Nat.zero_add]
  | j + 1, n, h => by
    rw [show j + 1 + n = j + (n + 1) by omega, low_at (fun i hi => h i (by omega)), lowTo_miss (h j (by omega))]
theorem lowTo_get {K : Nat → Bool} {j n : Nat} (hj : j < n) (h : ∀ i, i < j → K i = false) (hk : K j = true) : lowTo K 0 n = j := by
  rw [show n = j + ((n - j - 1) + 1) by omega, low_at h, lowTo_hit hk]
theorem lowTo_none {K : Nat → Bool} {n : Nat} (h : ∀ i, i < n → K i = false) : lowTo K 0 n = -1 := by
  have := low_at (K := K) (j := n) (n := 0) h
  rw [Nat.add_zero] at this
  rw [this, lowTo]
end Go.Proofs.Ytdlomdkapepkbaa
