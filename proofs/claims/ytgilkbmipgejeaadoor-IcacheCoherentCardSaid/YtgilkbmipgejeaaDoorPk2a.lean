/- Texts put together: DecLaw, IcNum, DecAllow, IcRm. -/
import Derived.Test.YtgilkbmipgejeaaDoorKDecFin2
import Derived.Test.YtgilkbmipgejeaaDoorPk0a
import Derived.Test.YtgilkbmipgejeaaDoorKDecFind
/- What the laws of layer 14 ask of decoded instructions. Nothing of the program. -/
namespace Go.Proofs.YtgilkbmipgejeaaDoor.Dec
set_option linter.unusedVariables false
set_option linter.unusedSimpArgs false

theorem decNo {b0 b1 b2 b3 : Nat} {l : Int} (h : ok b0 b1 l = false) : dec b0 b1 b2 b3 l = ⟨0, 0, 0, 0, 0, 0, skl b0 b1 l⟩ := by
  unfold dec
  rw [h]
  rfl
theorem decYes {b0 b1 b2 b3 : Nat} {l : Int} (h : ok b0 b1 l = true) {r : Rl} (hr : top (b0 * 256 + b1) = r) : dec b0 b1 b2 b3 l = ⟨r.op, pX r.pk (dx b0 : Nat), pY r.pk (b1 / 16 : Nat), pN r.pk (dx b0 : Nat) (b1 % 16 : Nat), pNN r.pk (b1 : Nat), pA r.pk (dx b0 * 256 + b1 : Nat) (b2 * 256 + b3 : Nat), skl b0 b1 l⟩ := by
  unfold dec
  rw [h, hr]
  rfl
theorem ok_op {b0 b1 : Nat} {l : Int} (h : ok b0 b1 l = true) : (top (b0 * 256 + b1)).op ≠ 0 := by
  unfold ok at h
  intro e
  rw [e] at h
  cases h
/-- What is allowed for a level is allowed for a level from the rule's own on, and for greater ones. -/
theorem ok_level {b0 b1 : Nat} {l : Int} (h : ok b0 b1 l = true) : ((top (b0 * 256 + b1)).level : Int) ≤ l ∧ l ≤ 3 := by
  have k := kind_top (b0 * 256 + b1)
  have ho := ok_op h
  unfold ok at h
  generalize top (b0 * 256 + b1) = r at *
  obtain ⟨_, _, _, _, _, _, _, hr, hf⟩ := k
  rw [Bool.and_eq_true] at h
  have h2 := h.2
  unfold alw at h2
  by_cases hc : r.op = 43 ∨ r.op = 44
  · rw [show (r.op == 43 || r.op == 44) = true by simpa using hc] at h2
    have h3 := of_decide_eq_true (show alwF l (dx b0 : Nat) = true from h2)
    have := (hf hc).2
    omega
  · rw [show (r.op == 43 || r.op == 44) = false by simpa using hc] at h2
    rw [show (bif false then alwF l (dx b0 : Nat) else (decide ((r.level : Int) ≤ l) && decide (l ≤ 3))) = (decide ((r.level : Int) ≤ l) && decide (l ≤ 3)) from rfl, Bool.and_eq_true] at h2
    exact ⟨of_decide_eq_true h2.1, of_decide_eq_true h2.2⟩
theorem ok_mono {b0 b1 : Nat} {l m : Int} (h : ok b0 b1 l = true) (hm : l ≤ m) (h3 : m ≤ 3) : ok b0 b1 m = true := by
  have k := kind_top (b0 * 256 + b1)
  have ho := ok_op h
  unfold ok at h ⊢
  generalize top (b0 * 256 + b1) = r at *
  rw [Bool.and_eq_true] at h ⊢
  refine ⟨h.1, ?_⟩
  have h2 := h.2
  have hd : dx b0 < 16 := by unfold dx; omega
  unfold alw at h2 ⊢
  by_cases hc : r.op = 43 ∨ r.op = 44
  · rw [show (r.op == 43 || r.op == 44) = true by simpa using hc] at h2 ⊢
    have h4 := of_decide_eq_true (show alwF l (dx b0 : Nat) = true from h2)
    show alwF m (dx b0 : Nat) = true
    unfold alwF
    exact decide_eq_true (by omega)
  · rw [show (r.op == 43 || r.op == 44) = false by simpa using hc] at h2 ⊢
    rw [show (bif false then alwF l (dx b0 : Nat) else (decide ((r.level : Int) ≤ l) && decide (l ≤ 3))) = (decide ((r.level : Int) ≤ l) && decide (l ≤ 3)) from rfl, Bool.and_eq_true] at h2
    have h4 := of_decide_eq_true h2.1
    show (decide ((r.level : Int) ≤ m) && decide (m ≤ 3)) = true
    rw [decide_eq_true (by omega), decide_eq_true h3]
    rfl
theorem ok_other {b0 b1 : Nat} {l : Int} (h : ¬ (1 ≤ l ∧ l ≤ 3)) : ok b0 b1 l = false := by
  cases hk : ok b0 b1 l
  · rfl
  · exfalso
    have h1 := ok_level hk
    have k := kind_top (b0 * 256 + b1)
    have ho := ok_op hk
    obtain ⟨_, _, _, _, _, _, _, hr, _⟩ := k
    have : 1 ≤ (top (b0 * 256 + b1)).level := by
      rcases hr with hr | hr
      · exact absurd hr ho
      · exact hr.2.1
    omega
theorem dec_other {b0 b1 b2 b3 : Nat} {l : Int} (h0 : b0 < 256) (h1 : b1 < 256) (h : ¬ (1 ≤ l ∧ l ≤ 3)) : dec b0 b1 b2 b3 l = ⟨0, 0, 0, 0, 0, 0, 2⟩ ∧ skl b0 b1 l = 2 := by
  have k := ok_other (b0 := b0) (b1 := b1) h
  have s := skl_no h0 h1 k
  rw [decNo k, s]
  exact ⟨rfl, rfl⟩

/-- A decoded instruction: illegal, or of a rule. -/
theorem dec_cases (b0 b1 b2 b3 : Nat) (l : Int) (h0 : b0 < 256) (h1 : b1 < 256) : (ok b0 b1 l = false ∧ dec b0 b1 b2 b3 l = ⟨0, 0, 0, 0, 0, 0, 2⟩ ∧ skl b0 b1 l = 2) ∨
    (ok b0 b1 l = true ∧ ∃ r : Rl, top (b0 * 256 + b1) = r ∧ KindOk r ∧ r.op ≠ 0 ∧ skl b0 b1 l = (if r.op = 48 then 4 else 2) ∧ dec b0 b1 b2 b3 l = ⟨r.op, pX r.pk (dx b0 : Nat), pY r.pk (b1 / 16 : Nat), pN r.pk (dx b0 : Nat) (b1 % 16 : Nat), pNN r.pk (b1 : Nat), pA r.pk (dx b0 * 256 + b1 : Nat) (b2 * 256 + b3 : Nat), if r.op = 48 then 4 else 2⟩) := by
  cases hk : ok b0 b1 l
  · left
    have s := skl_no h0 h1 hk
    exact ⟨rfl, by rw [decNo hk, s], s⟩
  · right
    have s := skl_ok h0 h1 hk
    exact ⟨rfl, _, rfl, kind_top _, ok_op hk, s, by rw [decYes hk rfl, s]⟩
theorem op_long {r : Rl} (k : KindOk r) : r.op = 48 ↔ r.pk = .pNext := by
  obtain ⟨_, _, _, _, _, _, h, _⟩ := k
  constructor
  · intro e
    rw [e] at h
    generalize r.pk = p at *
    cases p <;> first | rfl | cases h
  · intro e
    rw [e] at h
    have := eq_of_beq (show (((r.op : Nat) : Int) == 48) = true from h)
    omega
theorem op_planes {r : Rl} (k : KindOk r) (e : r.pk = .pPlanes) : r.op = 49 := by
  obtain ⟨_, _, _, _, _, h, _⟩ := k
  rw [e] at h
  have := eq_of_beq (show (((r.op : Nat) : Int) == 49) = true from h)
  omega
/-- The third and the fourth byte. -/
theorem dec_tail (b0 b1 b2 b3 c d : Nat) (l : Int) (h0 : b0 < 256) (h1 : b1 < 256) :
    ((dec b0 b1 b2 b3 l).op = 48 ∧ (dec b0 b1 c d l).op = 48 ∧ (dec b0 b1 c d l).addr = (c : Int) * 256 + d ∧ (dec b0 b1 b2 b3 l).len = skl b0 b1 l) ∨
    (¬ (dec b0 b1 b2 b3 l).op = 48 ∧ dec b0 b1 c d l = dec b0 b1 b2 b3 l ∧ (dec b0 b1 b2 b3 l).len = skl b0 b1 l) := by
  rcases dec_cases b0 b1 b2 b3 l h0 h1 with ⟨k, e, s⟩ | ⟨k, r, hr, kr, ho, s, e⟩
  · right
    rw [e, s]
    refine ⟨by decide, ?_, rfl⟩
    rw [decNo k, s]
  · have e2 : dec b0 b1 c d l = ⟨r.op, pX r.pk (dx b0 : Nat), pY r.pk (b1 / 16 : Nat), pN r.pk (dx b0 : Nat) (b1 % 16 : Nat), pNN r.pk (b1 : Nat), pA r.pk (dx b0 * 256 + b1 : Nat) (c * 256 + d : Nat), skl b0 b1 l⟩ := decYes k hr
    by_cases h48 : r.op = 48
    · left
      rw [e, e2]
      refine ⟨by simp only; omega, by simp only; omega, ?_, by rw [s]⟩
      simp only
      rw [(op_long kr).1 h48]
      show ((c * 256 + d : Nat) : Int) = _
      omega
    · right
      have hp : r.pk ≠ .pNext := fun h => h48 ((op_long kr).2 h)
      rw [e, e2, s]
      refine ⟨by simp only; omega, ?_, rfl⟩
      have : ∀ (p : Pk) (u v1 v2 : Int), p ≠ .pNext → pA p u v1 = pA p u v2 := fun p u v1 v2 hp => by cases p <;> first | rfl | exact absurd rfl hp
      rw [this r.pk _ _ ((b2 * 256 + b3 : Nat) : Int) hp]
/-- The ranges of the fields. -/
theorem dec_range (b0 b1 b2 b3 : Nat) (l : Int) (h0 : b0 < 256) (h1 : b1 < 256) (h2 : b2 < 256) (h3 : b3 < 256) {i : Ins} (hi : dec b0 b1 b2 b3 l = i) :
    (0 ≤ i.op ∧ i.op ≤ 51) ∧ (0 ≤ i.x ∧ i.x ≤ 15) ∧ (0 ≤ i.y ∧ i.y ≤ 15) ∧ (0 ≤ i.n ∧ i.n ≤ 15) ∧ (0 ≤ i.nn ∧ i.nn ≤ 255) ∧ (0 ≤ i.addr ∧ i.addr ≤ 65535) := by
  subst hi
  rcases dec_cases b0 b1 b2 b3 l h0 h1 with ⟨k, e, s⟩ | ⟨k, r, hr, kr, ho, s, e⟩
  · rw [e]; simp only; omega
  · rw [e]
    have hop : r.op ≤ 51 := by
      obtain ⟨_, _, _, _, _, _, _, hr, _⟩ := kr
      rcases hr with hr | hr
      · omega
      · exact hr.2.2.2.1
    have hd : dx b0 < 16 := by unfold dx; omega
    simp only
    generalize r.pk = p
    refine ⟨by omega, ?_, ?_, ?_, ?_, ?_⟩
    all_goals (cases p <;> simp only [pX, pY, pN, pNN, pA] <;> omega)
/-- The law's fields. -/
theorem dec_total (b0 b1 b2 b3 : Nat) (l : Int) (h0 : b0 < 256) (h1 : b1 < 256) (hl : 1 ≤ l ∧ l ≤ 3) :
    (dec b0 b1 b2 b3 l = ⟨0, 0, 0, 0, 0, 0, 2⟩) ∨ ((dec b0 b1 b2 b3 l).op ≠ 0 ∧ (∀ m : Int, l ≤ m → m ≤ 3 → dec b0 b1 b2 b3 m = dec b0 b1 b2 b3 l) ∧ 1 ≤ lv (dec b0 b1 b2 b3 l).op ∧ lv (dec b0 b1 b2 b3 l).op ≤ l ∧ (((dec b0 b1 b2 b3 l).op = 48 ∧ (dec b0 b1 b2 b3 l).len = 4) ∨ (¬ (dec b0 b1 b2 b3 l).op = 48 ∧ (dec b0 b1 b2 b3 l).len = 2))) := by
  rcases dec_cases b0 b1 b2 b3 l h0 h1 with ⟨k, e, s⟩ | ⟨k, r, hr, kr, ho, s, e⟩
  · exact .inl e
  · right
    have hlv := ok_level k
    rw [hr] at hlv
    have hrr : lv r.op = r.level ∧ 1 ≤ r.level := by
      obtain ⟨_, _, _, _, _, _, _, hr, _⟩ := kr
      rcases hr with hr | hr
      · omega
      · exact ⟨hr.2.2.2.2, hr.2.1⟩
    refine ⟨by rw [e]; simp only; omega, fun m hm h3 => ?_, by rw [e]; simp only; omega, by rw [e]; simp only; omega, ?_⟩
    · have km := ok_mono k hm h3
      have sm := skl_ok h0 h1 km
      rw [hr] at sm
      rw [e, decYes km hr, sm]
    · rw [e]
      by_cases h48 : r.op = 48
      · left
        simp only
        rw [if_pos h48]
        exact ⟨by omega, rfl⟩
      · right
        simp only
        rw [if_neg h48]
        exact ⟨by omega, rfl⟩
end Go.Proofs.YtgilkbmipgejeaaDoor.Dec
/- Entries of a cache, and what a write leaves of the memory. Nothing of the program. -/
namespace Go.Proofs.YtgilkbmipgejeaaDoor
open Num Dec
set_option linter.unusedVariables false
set_option linter.unusedSimpArgs false

/-- Is one of the four bytes at x in the span of n bytes at a? -/
def hitB (x a n : Int) : Bool := decide ((x - a) % 65536 < n) || (decide ((x + 1 - a) % 65536 < n) || (decide ((x + 2 - a) % 65536 < n) || decide ((x + 3 - a) % 65536 < n)))
theorem hit_no {x a n : Int} (h : hitB x a n = false) : ∀ k : Int, 0 ≤ k → k < 4 → ¬ (x + k - a) % 65536 < n := by
  unfold hitB at h
  simp only [Bool.or_eq_false_iff, decide_eq_false_iff_not] at h
  obtain ⟨h0, h1, h2, h3⟩ := h
  intro k k0 k4
  have : k = 0 ∨ k = 1 ∨ k = 2 ∨ k = 3 := by omega
  rcases this with rfl | rfl | rfl | rfl
  · rwa [Int.add_zero]
  · exact h1
  · exact h2
  · exact h3
theorem hit_yes {x a n : Int} (h : hitB x a n = true) : ∃ k : Int, 0 ≤ k ∧ k < 4 ∧ (x + k - a) % 65536 < n := by
  unfold hitB at h
  simp only [Bool.or_eq_true, decide_eq_true_eq] at h
  rcases h with h | h | h | h
  · exact ⟨0, by omega, by omega, by rwa [Int.add_zero]⟩
  · exact ⟨1, by omega, by omega, h⟩
  · exact ⟨2, by omega, by omega, h⟩
  · exact ⟨3, by omega, by omega, h⟩
theorem hit_iff {x a n : Int} : hitB x a n = true ↔ ∃ k : Int, 0 ≤ k ∧ k < 4 ∧ (x + k - a) % 65536 < n := by
  refine ⟨hit_yes, fun ⟨k, k0, k4, h⟩ => ?_⟩
  cases hb : hitB x a n
  · exact absurd h (hit_no hb k k0 k4)
  · rfl
/-- The same, as layer 3 says it: one of the two starts is in the other span. -/
theorem hit_overlap {x a n : Int} (hn : 0 ≤ n) : hitB x a n = (decide (0 < n) && (decide ((a - x) % 65536 < 4) || decide ((x - a) % 65536 < n))) := by
  have h2 : ∀ b c : Bool, (b = true ↔ c = true) → b = c := fun b c h => by
    cases b <;> cases c
    · rfl
    · exact (h.2 rfl)
    · exact (h.1 rfl).symm
    · rfl
  apply h2
  rw [hit_iff]
  simp only [Bool.and_eq_true, Bool.or_eq_true, decide_eq_true_eq]
  constructor
  · rintro ⟨k, k0, k4, h⟩
    have : k = 0 ∨ k = 1 ∨ k = 2 ∨ k = 3 := by omega
    rcases this with rfl | rfl | rfl | rfl <;> omega
  · rintro ⟨n0, h | h⟩
    · exact ⟨(a - x) % 65536, by omega, h, by omega⟩
    · exact ⟨0, by omega, by omega, by omega⟩
/-- A write elsewhere leaves the four bytes. -/
theorem seg_miss (M b : List Int) (x a : Int) (hM : M.length = 65536) (hb : b.length ≤ 65536) (h : hitB x a b.length = false) : seg (put M a b) x 4 = seg M x 4 := by
  apply List.ext_getElem?
  intro j
  by_cases hj : j < 4
  · rw [seg_get _ x 4 j (by rw [put_len]; exact hM) hj, seg_get M x 4 j hM hj]
    have hk := hit_no h (j : Int) (by omega) (by omega)
    have hlt : ((x + (j : Int)) % 65536).toNat < 65536 := by omega
    rw [put_get b M a hb hM _ hlt]
    rw [if_neg]
    omega
  · rw [List.getElem?_eq_none (by rw [seg_len]; omega), List.getElem?_eq_none (by rw [seg_len]; omega)]
/-- What the bytes at an address are decoded to. -/
def byAt (M : List Int) (x : Int) (k : Nat) : Nat := ((seg M x 4).getD k 0).toNat
def decAt (M : List Int) (x l : Int) : Ins := dec (byAt M x 0) (byAt M x 1) (byAt M x 2) (byAt M x 3) l
theorem decAt_miss (M b : List Int) (x a l : Int) (hM : M.length = 65536) (hb : b.length ≤ 65536) (h : hitB x a b.length = false) : decAt (put M a b) x l = decAt M x l := by
  unfold decAt byAt
  rw [seg_miss M b x a hM hb h]
/-- The entries of the reference: addresses, each once, and instructions. -/
abbrev Ents := List (Nat × Ins)
def dropE (l : Ents) (a n : Int) : Ents := l.filter fun p => !hitB (p.1 : Int) a n
def lookE (l : Ents) (x : Nat) : Option Ins := match l with
  | [] => none
  | p :: t => if p.1 = x then some p.2 else lookE t x
/-- The place of an entry, -1 if there is none. -/
def findE (l : Ents) (x : Nat) : Int := match l with
  | [] => -1
  | p :: t => if p.1 = x then 0 else if findE t x < 0 then -1 else findE t x + 1
theorem find_range : ∀ (l : Ents) (x : Nat), findE l x = -1 ∨ (0 ≤ findE l x ∧ findE l x < l.length)
  | [], x => .inl rfl
  | p :: t, x => by
    unfold findE
    have ih := find_range t x
    by_cases h : p.1 = x
    · rw [if_pos h]; right; simp only [List.length_cons]; omega
    · rw [if_neg h]
      split
      · exact .inl rfl
      · right; simp only [List.length_cons]; omega
theorem find_look : ∀ (l : Ents) (x : Nat), (findE l x = -1 ∧ lookE l x = none) ∨ ∃ (k : Nat) (h : k < l.length), findE l x = k ∧ lookE l x = some l[k].2
  | [], x => .inl ⟨rfl, rfl⟩
  | p :: t, x => by
    unfold findE lookE
    by_cases h : p.1 = x
    · rw [if_pos h, if_pos h]
      exact .inr ⟨0, by simp, rfl, rfl⟩
    · rw [if_neg h, if_neg h]
      rcases find_look t x with ⟨h1, h2⟩ | ⟨k, hk, h1, h2⟩
      · rw [h1, h2]
        exact .inl ⟨by decide, rfl⟩
      · rw [h1, h2, if_neg (by omega)]
        exact .inr ⟨k + 1, by simpa using hk, by omega, by simp⟩
theorem look_drop : ∀ (l : Ents) (a n : Int) (x : Nat), lookE (dropE l a n) x = if hitB (x : Int) a n = true then none else lookE l x
  | [], a, n, x => by simp [dropE, lookE]
  | p :: t, a, n, x => by
    have ih := look_drop t a n x
    unfold dropE at ih ⊢
    rw [List.filter_cons]
    cases hp : hitB (p.1 : Int) a n
    · simp only [Bool.not_false, if_true]
      unfold lookE
      by_cases h : p.1 = x
      · rw [if_pos h, if_pos h]
        rw [h] at hp
        rw [hp]
        simp
      · rw [if_neg h, if_neg h, ih]
    · simp only [Bool.not_true, Bool.false_eq_true, if_false]
      rw [ih]
      by_cases h : p.1 = x
      · rw [h] at hp
        rw [hp]
        simp
      · show _ = if hitB (x : Int) a n = true then none else lookE (p :: t) x
        conv => rhs; unfold lookE
        rw [if_neg h]
theorem look_snoc : ∀ (l : Ents) (y : Nat) (i : Ins) (x : Nat), lookE (l ++ [(y, i)]) x = match lookE l x with | some j => some j | none => if y = x then some i else none
  | [], y, i, x => by simp [lookE]
  | p :: t, y, i, x => by
    rw [List.cons_append]
    unfold lookE
    by_cases h : p.1 = x
    · rw [if_pos h, if_pos h]
    · rw [if_neg h, if_neg h, look_snoc t y i x]
/-- Each address once. -/
def Once (l : Ents) : Prop := (l.map (·.1)).Nodup
theorem Once.drop {l : Ents} (h : Once l) (a n : Int) : Once (dropE l a n) := by
  unfold Once dropE at *
  exact h.sublist ((List.filter_sublist).map _)
theorem look_none {l : Ents} {x : Nat} (h : lookE l x = none) : x ∉ l.map (·.1) := by
  induction l with
  | nil => simp
  | cons p t ih =>
    unfold lookE at h
    by_cases e : p.1 = x
    · rw [if_pos e] at h; cases h
    · rw [if_neg e] at h
      rw [List.map_cons, List.mem_cons, not_or]
      exact ⟨fun c => e c.symm, ih h⟩
theorem Once.snoc {l : Ents} (h : Once l) {y : Nat} (i : Ins) (hn : lookE l y = none) : Once (l ++ [(y, i)]) := by
  unfold Once at *
  rw [List.map_append, List.nodup_append]
  refine ⟨h, by simp, ?_⟩
  intro a ha b hb
  simp at hb
  subst hb
  intro e
  exact look_none hn (e ▸ ha)
end Go.Proofs.YtgilkbmipgejeaaDoor
/- Whether a rule is allowed for a level. -/
namespace Go.Proofs.YtgilkbmipgejeaaDoor
open Go.RowKit Num Dec
set_option linter.unusedVariables false
set_option linter.unusedSimpArgs false

theorem below_new' (w : World) (o : Obj) : Below w.heap.size w (w.alloc o) := (Below.refl _ _).alloc (Nat.le_refl _) o
theorem alw_flag {r : Rl} {l x : Int} (h : (r.op : Int) = 43 ∨ (r.op : Int) = 44) : alw r l x = allow l x := by
  unfold alw
  rw [show (r.op == 43 || r.op == 44) = true by simp; omega]
  rfl
theorem alw_plain {r : Rl} {l x : Int} (h : ¬ (r.op : Int) = 43) (h' : ¬ (r.op : Int) = 44) : alw r l x = (decide ((r.level : Int) ≤ l) && decide (l ≤ 3)) := by
  unfold alw
  rw [show (r.op == 43 || r.op == 44) = false by simp; omega]
  rfl

set_option maxRecDepth 100000 in
set_option maxHeartbeats 2000000 in
theorem allows_any (r : Rl) (l x : Int) (w : World) (hl : (Lit.int .i64 l).wf = true) : Calls Tryd.prog 62 #[.agg (rcs r), .int .i64 l, .int .i64 x] w fun e w' => e = .returned (.bool (alw r l x)) ∧ Below w.heap.size w w' := by
  have HL := Lib.hid hl
  clear hl
  obtain ⟨m, c, o, lv, p⟩ := r
  unfold rcs
  simp only
  by_cases h1 : (o : Int) = 43
  · have F := Lib.hid (alw_flag (r := ⟨m, c, o, lv, p⟩) (l := l) (x := x) (.inl h1))
    have h1' : ((o : Int) == 43) = true := by simpa using h1
    go_enter Tryd.func62, Tryd.ntmps62
    go_wp2_with fail
    refine (allowed_any l x _ HL.out).mono ?_
    rintro e w1 ⟨rfl, b1⟩
    have B1 := Lib.hid b1
    clear b1
    go_wp2_with fail
    go_ret
    exact ⟨by rw [F.out]; rfl, (below_new' _ _).trans (B1.out.mono (by simp))⟩
  · have h1' : ((o : Int) == 43) = false := by simpa using h1
    by_cases h2 : (o : Int) = 44
    · have F := Lib.hid (alw_flag (r := ⟨m, c, o, lv, p⟩) (l := l) (x := x) (.inr h2))
      have h2' : ((o : Int) == 44) = true := by simpa using h2
      go_enter Tryd.func62, Tryd.ntmps62
      go_wp2_with fail
      refine (allowed_any l x _ HL.out).mono ?_
      rintro e w1 ⟨rfl, b1⟩
      have B1 := Lib.hid b1
      clear b1
      go_wp2_with fail
      go_ret
      exact ⟨by rw [F.out]; rfl, (below_new' _ _).trans (B1.out.mono (by simp))⟩
    · have F := Lib.hid (alw_plain (r := ⟨m, c, o, lv, p⟩) (l := l) (x := x) h1 h2)
      have h2' : ((o : Int) == 44) = false := by simpa using h2
      by_cases h3 : (lv : Int) ≤ l
      · have h3' : decide ((lv : Int) ≤ l) = true := by simpa using h3
        go_enter Tryd.func62, Tryd.ntmps62
        go_wp2
        go_ret
        exact ⟨by rw [F.out, h3']; rfl, below_new' _ _⟩
      · have h3' : decide ((lv : Int) ≤ l) = false := by simpa using h3
        go_enter Tryd.func62, Tryd.ntmps62
        go_wp2
        go_ret
        exact ⟨by rw [F.out, h3']; rfl, below_new' _ _⟩
end Go.Proofs.YtgilkbmipgejeaaDoor
/- Entries taken out one address after the other. Nothing of the program. -/
namespace Go.Proofs.YtgilkbmipgejeaaDoor
open Num Dec
set_option linter.unusedVariables false
set_option linter.unusedSimpArgs false

def rmE (l : Ents) (x : Nat) : Ents := l.filter fun p => decide (p.1 ≠ x)
theorem look_rm : ∀ (l : Ents) (x y : Nat), lookE (rmE l x) y = if y = x then none else lookE l y
  | [], x, y => by simp [rmE, lookE]
  | p :: t, x, y => by
    have ih := look_rm t x y
    unfold rmE at ih ⊢
    rw [List.filter_cons]
    by_cases hp : p.1 = x
    · rw [if_neg (by simp [hp]), ih]
      by_cases h : y = x
      · rw [if_pos h, if_pos h]
      · rw [if_neg h, if_neg h]
        conv => rhs; unfold lookE
        rw [if_neg (by omega)]
    · rw [if_pos (by simp [hp])]
      unfold lookE
      by_cases h : p.1 = y
      · rw [if_pos h, if_neg (by omega), if_pos h]
      · rw [if_neg h, ih, if_neg h]
theorem rm_none : ∀ (l : Ents) (x : Nat), lookE l x = none → rmE l x = l
  | [], x, _ => rfl
  | p :: t, x, h => by
    unfold lookE at h
    by_cases hp : p.1 = x
    · rw [if_pos hp] at h; cases h
    · rw [if_neg hp] at h
      have ih := rm_none t x h
      unfold rmE at ih ⊢
      rw [List.filter_cons, if_pos (by simp [hp]), ih]
theorem rm_len : ∀ (l : Ents) (x : Nat) (i : Ins), Once l → lookE l x = some i → (rmE l x).length + 1 = l.length
  | p :: t, x, i, ho, h => by
    unfold Once at ho
    rw [List.map_cons, List.nodup_cons] at ho
    unfold lookE at h
    by_cases hp : p.1 = x
    · have hn : lookE t x = none := by
        cases hq : lookE t x with
        | none => rfl
        | some j =>
          exfalso
          apply ho.1
          rw [hp]
          clear ho h
          induction t with
          | nil => simp [lookE] at hq
          | cons q t ih =>
            unfold lookE at hq
            by_cases e : q.1 = x
            · simp [e]
            · rw [if_neg e] at hq
              rw [List.map_cons, List.mem_cons]
              exact .inr (ih hq)
      have e := rm_none t x hn
      unfold rmE at e ⊢
      rw [List.filter_cons, if_neg (by simp [hp]), e, List.length_cons]
    · rw [if_neg hp] at h
      have ih := rm_len t x i ho.2 h
      unfold rmE at ih ⊢
      rw [List.filter_cons, if_pos (by simp [hp]), List.length_cons, List.length_cons]
      omega
theorem Once.rm {l : Ents} (h : Once l) (x : Nat) : Once (rmE l x) := by
  unfold Once rmE at *
  exact h.sublist ((List.filter_sublist).map _)
theorem rm_mem {l : Ents} {x : Nat} {p : Nat × Ins} (h : p ∈ rmE l x) : p ∈ l := by
  unfold rmE at h
  exact (List.mem_filter.1 h).1
theorem rm_le (l : Ents) (x : Nat) : (rmE l x).length ≤ l.length := List.length_filter_le _ _
/-- The first j addresses behind a are taken out. -/
def rmN (l : Ents) (a : Int) : Nat → Ents
  | 0 => l
  | j + 1 => rmE (rmN l a j) ((a + (j : Int)) % 65536).toNat
theorem rmN_filter (l : Ents) (a : Int) : ∀ j, rmN l a j = l.filter fun p => decide (∀ k, k < j → p.1 ≠ ((a + (k : Int)) % 65536).toNat)
  | 0 => by
    unfold rmN
    rw [eq_comm, List.filter_eq_self]
    intro p _
    simp
  | j + 1 => by
    unfold rmN
    rw [rmN_filter l a j]
    unfold rmE
    rw [List.filter_filter]
    apply List.filter_congr
    intro p _
    rw [← Bool.decide_and, decide_eq_decide]
    constructor
    · rintro ⟨h1, h2⟩ k hk
      by_cases e : k = j
      · subst e; exact h1
      · exact h2 k (by omega)
    · intro h
      exact ⟨h j (by omega), fun k hk => h k (by omega)⟩
/-- A span as the walk of the landed code goes over it. -/
def spanN (n : Int) : Nat := (min n 65533 + 3).toNat
theorem rmN_drop (l : Ents) (a n : Int) (hl : ∀ p ∈ l, p.1 < 65536) (n0 : 0 < n) (n1 : n ≤ 65536) : rmN l (a - 3) (spanN n) = dropE l a n := by
  rw [rmN_filter]
  unfold dropE
  apply List.filter_congr
  intro p hp
  have hp := hl p hp
  rw [Bool.eq_iff_iff, decide_eq_true_eq, Bool.not_eq_true', ← Bool.not_eq_true, hit_iff]
  unfold spanN
  constructor
  · rintro h ⟨k, k0, k4, hk⟩
    by_cases hs : n ≤ 65533
    · refine h (3 - k + ((p.1 : Int) + k - a) % 65536).toNat (by omega) ?_
      omega
    · refine h (((p.1 : Int) - a + 3) % 65536).toNat (by omega) ?_
      omega
  · intro h j hj e
    apply h
    by_cases h3 : j < 3
    · exact ⟨3 - (j : Int), by omega, by omega, by omega⟩
    · by_cases hs : n ≤ 65533
      · exact ⟨0, by omega, by omega, by omega⟩
      · by_cases h4 : (j : Int) - 3 < n
        · exact ⟨0, by omega, by omega, by omega⟩
        · exact ⟨3, by omega, by omega, by omega⟩
theorem rmN_le (l : Ents) (a : Int) : ∀ j, (rmN l a j).length ≤ l.length
  | 0 => Nat.le_refl _
  | j + 1 => Nat.le_trans (rm_le _ _) (rmN_le l a j)
/-- Spans one after the other, those without bytes left out. -/
def dropL (l : Ents) : List (Int × Int) → Ents
  | [] => l
  | s :: t => dropL (if 0 < s.2 then dropE l s.1 s.2 else l) t
theorem dropL_snoc (l : Ents) (s : Int × Int) : ∀ t, dropL l (t ++ [s]) = if 0 < s.2 then dropE (dropL l t) s.1 s.2 else dropL l t
  | [] => rfl
  | x :: t => by
    rw [List.cons_append]
    unfold dropL
    exact dropL_snoc _ s t
theorem drop_nothing (l : Ents) (a n : Int) (h : ¬ 0 < n) : dropE l a n = l := by
  unfold dropE
  rw [List.filter_eq_self]
  intro p _
  have : hitB (p.1 : Int) a n = false := by
    unfold hitB
    simp
    omega
  rw [this]
  rfl
theorem dropL_one (l : Ents) (a n : Int) : dropL l [(a, n)] = dropE l a n := by
  unfold dropL dropL
  by_cases h : 0 < n
  · rw [if_pos h]
  · rw [if_neg h, drop_nothing l a n h]
theorem dropE_lenLe (l : Ents) (a n : Int) : (dropE l a n).length ≤ l.length := List.length_filter_le _ _
theorem dropL_le : ∀ (t : List (Int × Int)) (l : Ents), (dropL l t).length ≤ l.length
  | [], l => Nat.le_refl _
  | s :: t, l => by
    unfold dropL
    refine Nat.le_trans (dropL_le t _) ?_
    split
    · exact dropE_lenLe _ _ _
    · exact Nat.le_refl _
end Go.Proofs.YtgilkbmipgejeaaDoor
