/- Lists of 65536 bytes, and bytes laid over them with wrapping: nothing of the program. -/
import Derived.Laws.CopyOwn
import Derived.Test.YtllfakimcgbppaaDoorFontNum
namespace Go.Proofs.YtllfakimcgbppaaDoor
set_option linter.unusedVariables false

/-- The bytes b laid over the memory M from the address a on. -/
def put (M : List Int) (a : Int) : List Int → List Int
  | [] => M
  | x :: b => put (M.set (a % 65536).toNat x) (a + 1) b
theorem put_nil (M : List Int) (a : Int) : put M a [] = M := rfl
theorem put_cons (M : List Int) (a x : Int) (b : List Int) : put M a (x :: b) = put (M.set (a % 65536).toNat x) (a + 1) b := rfl
theorem put_len (b : List Int) : ∀ (M : List Int) (a : Int), (put M a b).length = M.length := by
  induction b with
  | nil => intro M a; rfl
  | cons x b ih => intro M a; rw [put_cons, ih, List.length_set]
theorem put_append (b c : List Int) : ∀ (M : List Int) (a : Int), put M a (b ++ c) = put (put M a b) (a + b.length) c := by
  induction b with
  | nil => intro M a; simp [put_nil]
  | cons x b ih =>
    intro M a
    rw [List.cons_append, put_cons, put_cons, ih]
    congr 1
    simp
    omega
theorem put_snoc (M : List Int) (a : Int) (b : List Int) (x : Int) : put M a (b ++ [x]) = (put M a b).set ((a + b.length) % 65536).toNat x := by
  rw [put_append]
  rfl
theorem put_get (b : List Int) : ∀ (M : List Int) (a : Int) (hb : b.length ≤ 65536) (hM : M.length = 65536) (j : Nat) (hj : j < 65536),
    (put M a b)[j]? = if (((j : Int) - a) % 65536).toNat < b.length then b[(((j : Int) - a) % 65536).toNat]? else M[j]? := by
  induction b with
  | nil => intro M a hb hM j hj; simp [put_nil]
  | cons x b ih =>
    intro M a hb hM j hj
    simp only [List.length_cons] at hb ⊢
    rw [put_cons, ih _ _ (by omega) (by rw [List.length_set]; exact hM) j hj]
    by_cases h0 : (((j : Int) - a) % 65536).toNat = 0
    · have e : (a % 65536).toNat = j := by omega
      rw [if_neg (by omega), if_pos (by omega), h0, e, List.getElem?_set_self (by omega)]
      rfl
    · obtain ⟨k, hk⟩ : ∃ k, (((j : Int) - a) % 65536).toNat = k + 1 := ⟨_, (Nat.succ_pred h0).symm⟩
      have e1 : (((j : Int) - (a + 1)) % 65536).toNat = k := by omega
      rw [hk, e1, List.getElem?_cons_succ, List.getElem?_set_ne (by omega)]
      by_cases h : k < b.length
      · rw [if_pos h, if_pos (by omega)]
      · rw [if_neg h, if_neg (by omega)]
/-- Beyond the memory's end nothing is. -/
theorem get_over {M : List Int} (hM : M.length = 65536) {j : Nat} (h : ¬ j < 65536) : M[j]? = none := List.getElem?_eq_none (by omega)

theorem ext_mem {M N : List Int} (hM : M.length = 65536) (hN : N.length = 65536) (h : ∀ j, j < 65536 → M[j]? = N[j]?) : M = N := by
  apply List.ext_getElem?
  intro j
  by_cases hj : j < 65536
  · exact h j hj
  · rw [get_over hM hj, get_over hN hj]

theorem splice_len {α : Type} (L : List α) (off : Nat) (cs : List α) (h : off + cs.length ≤ L.length) : (splice L off cs).length = L.length := length_splice L off cs h
theorem splice_get {α : Type} (L : List α) (off : Nat) (cs : List α) (h : off + cs.length ≤ L.length) (j : Nat) :
    (splice L off cs)[j]? = if j < off then L[j]? else if j < off + cs.length then cs[j - off]? else L[j]? := by
  unfold splice
  by_cases h1 : j < off
  · rw [if_pos h1, List.getElem?_append_left (by simp; omega), List.getElem?_take, if_pos h1]
  · rw [if_neg h1, List.getElem?_append_right (by simp; omega)]
    have e : (L.take off).length = off := by simp; omega
    rw [e]
    by_cases h2 : j < off + cs.length
    · rw [if_pos h2, List.getElem?_append_left (by omega)]
    · rw [if_neg h2, List.getElem?_append_right (by omega), List.getElem?_drop]
      congr 1
      omega
theorem splice_map {α β : Type} (f : α → β) (L : List α) (off : Nat) (cs : List α) : splice (L.map f) off (cs.map f) = (splice L off cs).map f := by
  simp [splice]
/-- A copy that does not leave the memory. -/
theorem splice_put (M b : List Int) (off : Nat) (hM : M.length = 65536) (h : off + b.length ≤ 65536) : splice M off b = put M off b := by
  refine ext_mem (by rw [splice_len _ _ _ (by omega)]; exact hM) (by rw [put_len]; exact hM) fun j hj => ?_
  rw [splice_get _ _ _ (by omega), put_get b M off (by omega) hM j hj]
  by_cases h1 : j < off
  · rw [if_pos h1, if_neg (by omega)]
  · rw [if_neg h1]
    by_cases h2 : j < off + b.length
    · rw [if_pos h2, if_pos (by omega)]
      congr 1
      omega
    · rw [if_neg h2, if_neg (by omega)]
/-- The two copies of a write. -/
theorem splice_write (M b : List Int) (a : Int) (at_ d : Nat) (ha : (a % 65536).toNat = at_) (hd : d = min b.length (65536 - at_)) (hM : M.length = 65536) (hb : b.length ≤ 65536) :
    splice (splice M at_ (b.take d)) 0 (b.drop d) = put M a b := by
  have l1 : (b.take d).length = d := by rw [List.length_take]; omega
  have l2 : (b.drop d).length = b.length - d := List.length_drop
  have l3 : (splice M at_ (b.take d)).length = 65536 := by rw [splice_len _ _ _ (by omega)]; exact hM
  refine ext_mem (by rw [splice_len _ _ _ (by omega)]; exact l3) (by rw [put_len]; exact hM) fun j hj => ?_
  rw [splice_get _ _ _ (by omega), splice_get _ _ _ (by omega), put_get b M a hb hM j hj, if_neg (by omega), l1, l2]
  by_cases h1 : j < b.length - d
  · rw [if_pos (by omega), if_pos (by omega), List.getElem?_drop]
    congr 1
    omega
  · rw [if_neg (by omega)]
    by_cases h2 : j < at_
    · rw [if_pos h2, if_neg (by omega)]
    · rw [if_neg h2]
      by_cases h3 : j < at_ + d
      · rw [if_pos h3, if_pos (by omega), List.getElem?_take, if_pos (by omega)]
        congr 1
        omega
      · rw [if_neg h3, if_neg (by omega)]

theorem splice_write2 (M b : List Int) (a : Int) (k d : Nat) (ha : a % 65536 = k) (hd : d = min b.length (65536 - k)) (hM : M.length = 65536) (hb : b.length ≤ 65536) :
    splice (splice M k (b.take (65536 - k))) 0 ((b.drop d).take 65536) = put M a b := by
  have e1 : (b.drop d).take 65536 = b.drop d := List.take_of_length_le (by rw [List.length_drop]; omega)
  have e2 : b.take (65536 - k) = b.take d := by
    by_cases h : b.length ≤ 65536 - k
    · rw [List.take_of_length_le h, List.take_of_length_le (by omega)]
    · have e : d = 65536 - k := by omega
      rw [e]
  rw [e1, e2]
  exact splice_write M b a k d (by omega) (by omega) hM hb

/-- The n bytes from the address a on. -/
def seg (M : List Int) (a : Int) (n : Nat) : List Int := (List.range n).map fun i : Nat => M.getD ((a + (i : Int)) % 65536).toNat 0
theorem seg_len (M : List Int) (a : Int) (n : Nat) : (seg M a n).length = n := by simp [seg]
theorem seg_succ (M : List Int) (a : Int) (n : Nat) : seg M a (n + 1) = seg M a n ++ [M.getD ((a + (n : Int)) % 65536).toNat 0] := by simp [seg, List.range_succ]
theorem seg_get (M : List Int) (a : Int) (n j : Nat) (hM : M.length = 65536) (hj : j < n) : (seg M a n)[j]? = M[((a + (j : Int)) % 65536).toNat]? := by
  have h : ((a + (j : Int)) % 65536).toNat < M.length := by omega
  simp [seg, hj, h]
/-- The two copies of a read. -/
theorem splice_read (M Z : List Int) (a : Int) (at_ n d : Nat) (ha : (a % 65536).toNat = at_) (hd : d = min (65536 - at_) n) (hM : M.length = 65536) (hn : n ≤ 65536) (hZ : Z.length = n) :
    splice (splice Z 0 ((M.drop at_).take d)) d (M.take (n - d)) = seg M a n := by
  have l1 : ((M.drop at_).take d).length = d := by rw [List.length_take, List.length_drop]; omega
  have l2 : (M.take (n - d)).length = n - d := by rw [List.length_take]; omega
  have l3 : (splice Z 0 ((M.drop at_).take d)).length = n := by rw [splice_len _ _ _ (by omega)]; exact hZ
  apply List.ext_getElem?
  intro j
  by_cases hj : j < n
  · rw [seg_get M a n j hM hj, splice_get _ _ _ (by omega), splice_get _ _ _ (by omega), l1, l2]
    by_cases h1 : j < d
    · rw [if_pos h1, if_neg (by omega), if_pos (by omega), List.getElem?_take, if_pos (by omega), List.getElem?_drop]
      congr 1
      omega
    · rw [if_neg h1, if_pos (by omega), List.getElem?_take, if_pos (by omega)]
      congr 1
      omega
  · rw [List.getElem?_eq_none (by rw [splice_len _ _ _ (by omega)]; omega), List.getElem?_eq_none (by rw [seg_len]; omega)]
theorem splice_read2 (M Z : List Int) (a : Int) (k n d : Nat) (ha : a % 65536 = k) (hd : d = min (65536 - k) n) (hM : M.length = 65536) (hn : n ≤ 65536) (hZ : Z.length = n) :
    splice (splice Z 0 ((M.drop k).take n)) d (M.take (n - d)) = seg M a n := by
  have e : (M.drop k).take n = (M.drop k).take d := by
    by_cases h : n ≤ 65536 - k
    · have e : d = n := by omega
      rw [e]
    · rw [List.take_of_length_le (by rw [List.length_drop]; omega), List.take_of_length_le (by rw [List.length_drop]; omega)]
  rw [e]
  exact splice_read M Z a k n d (by omega) (by omega) hM hn hZ
theorem seg_all (M : List Int) (hM : M.length = 65536) : seg M 0 65536 = M := by
  refine ext_mem (seg_len _ _ _) hM fun j hj => ?_
  rw [seg_get M 0 _ j hM hj]
  congr 1
  omega
/-- What was written is read. -/
theorem seg_put (M b : List Int) (a : Int) (hM : M.length = 65536) (hb : b.length ≤ 65536) : seg (put M a b) a b.length = b := by
  apply List.ext_getElem?
  intro j
  by_cases hj : j < b.length
  · rw [seg_get _ _ _ _ (by rw [put_len]; exact hM) hj, put_get b M a hb hM _ (by omega)]
    have e : (((((a + (j : Int)) % 65536).toNat : Nat) : Int) - a) % 65536 = j := by omega
    rw [e, if_pos (by omega)]
    simp
  · rw [List.getElem?_eq_none (by rw [seg_len]; omega), List.getElem?_eq_none (by omega)]
/-- A second write to the same place, not shorter. -/
theorem put_put (M b c : List Int) (a : Int) (hM : M.length = 65536) (hb : b.length ≤ 65536) (h : c.length ≤ b.length) : put (put M a c) a b = put M a b := by
  have l1 : (put M a c).length = 65536 := by rw [put_len]; exact hM
  refine ext_mem (by rw [put_len]; exact l1) (by rw [put_len]; exact hM) fun j hj => ?_
  rw [put_get b _ a hb l1 j hj, put_get b M a hb hM j hj, put_get c M a (by omega) hM j hj]
  by_cases h1 : (((j : Int) - a) % 65536).toNat < b.length
  · rw [if_pos h1, if_pos h1]
  · rw [if_neg h1, if_neg h1, if_neg (by omega)]
theorem put_shift (M b : List Int) (a a' : Int) (h : a % 65536 = a' % 65536) (hM : M.length = 65536) (hb : b.length ≤ 65536) : put M a b = put M a' b := by
  refine ext_mem (by rw [put_len]; exact hM) (by rw [put_len]; exact hM) fun j hj => ?_
  rw [put_get b M a hb hM j hj, put_get b M a' hb hM j hj]
  have e : ((j : Int) - a) % 65536 = ((j : Int) - a') % 65536 := by omega
  rw [e]

/-- The initial memory for a ROM. -/
def zeros : List Int := List.replicate 65536 0
theorem zeros_len : zeros.length = 65536 := List.length_replicate
theorem zeros_get (j : Nat) (h : j < 65536) : zeros[j]? = some 0 := by unfold zeros; rw [List.getElem?_replicate, if_pos h]
def initial (rom : List Int) : List Int := put (put (put zeros 80 smallL) 160 bigL) 512 rom
theorem initial_len (rom : List Int) : (initial rom).length = 65536 := by unfold initial; rw [put_len, put_len, put_len, zeros_len]
end Go.Proofs.YtllfakimcgbppaaDoor
