/- What the laws of layer 14 ask of decoded instructions. Nothing of the program. -/
import Derived.Test.YthfiaemdpfffcaaGreatDoorDecFin2
namespace Go.Proofs.YthfiaemdpfffcaaGreatDoor.Dec
set_option linter.unusedVariables false
set_option linter.unusedSimpArgs false

theorem decNo {b0 b1 b2 b3 : Nat} {l : Int} (h : ok b0 b1 l = false) : dec b0 b1 b2 b3 l = ⟨0, 0, 0, 0, 0, 0, skl b0 b1 l⟩ := by
  unfold dec
  rw [h]
  rfl
theorem decYes {b0 b1 b2 b3 : Nat} {l : Int} (h : ok b0 b1 l = true) {r : Rl} (hr : top (b0 * 256 + b1) = r) : dec b0 b1 b2 b3 l = ⟨r.op, pX r.pk (dx b0 : Nat), pY r.pk (b1 / 16 : Nat), pN r.pk (dx b0 : Nat) (b1 % 16 : Nat), pNN r.pk (b1 : Nat), pA r.pk (dx b0 * 256 + b1 : Nat) (b2 * 256 + b3 : Nat), skl b0 b1 l⟩ := by
  unfold dec
  rw [h, hr]
  rfl
theorem ok_op {b0 b1 : Nat} {l : Int} (h : ok b0 b1 l = true) : (top (b0 * 256 + b1)).op ≠ 0 := by
  unfold ok at h
  intro e
  rw [e] at h
  cases h
/-- What is allowed for a level is allowed for a level from the rule's own on, and for greater ones. -/
theorem ok_level {b0 b1 : Nat} {l : Int} (h : ok b0 b1 l = true) : ((top (b0 * 256 + b1)).level : Int) ≤ l ∧ l ≤ 3 := by
  have k := kind_top (b0 * 256 + b1)
  have ho := ok_op h
  unfold ok at h
  generalize top (b0 * 256 + b1) = r at *
  obtain ⟨_, _, _, _, _, _, _, hr, hf⟩ := k
  rw [Bool.and_eq_true] at h
  have h2 := h.2
  unfold alw at h2
  by_cases hc : r.op = 43 ∨ r.op = 44
  · rw [show (r.op == 43 || r.op == 44) = true by simpa using hc] at h2
    have h3 := of_decide_eq_true (show alwF l (dx b0 : Nat) = true from h2)
    have := (hf hc).2
    omega
  · rw [show (r.op == 43 || r.op == 44) = false by simpa using hc] at h2
    rw [show (bif false then alwF l (dx b0 : Nat) else (decide ((r.level : Int) ≤ l) && decide (l ≤ 3))) = (decide ((r.level : Int) ≤ l) && decide (l ≤ 3)) from rfl, Bool.and_eq_true] at h2
    exact ⟨of_decide_eq_true h2.1, of_decide_eq_true h2.2⟩
theorem ok_mono {b0 b1 : Nat} {l m : Int} (h : ok b0 b1 l = true) (hm : l ≤ m) (h3 : m ≤ 3) : ok b0 b1 m = true := by
  have k := kind_top (b0 * 256 + b1)
  have ho := ok_op h
  unfold ok at h ⊢
  generalize top (b0 * 256 + b1) = r at *
  rw [Bool.and_eq_true] at h ⊢
  refine ⟨h.1, ?_⟩
  have h2 := h.2
  have hd : dx b0 < 16 := by unfold dx; omega
  unfold alw at h2 ⊢
  by_cases hc : r.op = 43 ∨ r.op = 44
  · rw [show (r.op == 43 || r.op == 44) = true by simpa using hc] at h2 ⊢
    have h4 := of_decide_eq_true (show alwF l (dx b0 : Nat) = true from h2)
    show alwF m (dx b0 : Nat) = true
    unfold alwF
    exact decide_eq_true (by omega)
  · rw [show (r.op == 43 || r.op == 44) = false by simpa using hc] at h2 ⊢
    rw [show (bif false then alwF l (dx b0 : Nat) else (decide ((r.level : Int) ≤ l) && decide (l ≤ 3))) = (decide ((r.level : Int) ≤ l) && decide (l ≤ 3)) from rfl, Bool.and_eq_true] at h2
    have h4 := of_decide_eq_true h2.1
    show (decide ((r.level : Int) ≤ m) && decide (m ≤ 3)) = true
    rw [decide_eq_true (by omega), decide_eq_true h3]
    rfl
theorem ok_other {b0 b1 : Nat} {l : Int} (h : ¬ (1 ≤ l ∧ l ≤ 3)) : ok b0 b1 l = false := by
  cases hk : ok b0 b1 l
  · rfl
  · exfalso
    have h1 := ok_level hk
    have k := kind_top (b0 * 256 + b1)
    have ho := ok_op hk
    obtain ⟨_, _, _, _, _, _, _, hr, _⟩ := k
    have : 1 ≤ (top (b0 * 256 + b1)).level := by
      rcases hr with hr | hr
      · exact absurd hr ho
      · exact hr.2.1
    omega
theorem dec_other {b0 b1 b2 b3 : Nat} {l : Int} (h0 : b0 < 256) (h1 : b1 < 256) (h : ¬ (1 ≤ l ∧ l ≤ 3)) : dec b0 b1 b2 b3 l = ⟨0, 0, 0, 0, 0, 0, 2⟩ ∧ skl b0 b1 l = 2 := by
  have k := ok_other (b0 := b0) (b1 := b1) h
  have s := skl_no h0 h1 k
  rw [decNo k, s]
  exact ⟨rfl, rfl⟩

/-- A decoded instruction: illegal, or of a rule. -/
theorem dec_cases (b0 b1 b2 b3 : Nat) (l : Int) (h0 : b0 < 256) (h1 : b1 < 256) : (ok b0 b1 l = false ∧ dec b0 b1 b2 b3 l = ⟨0, 0, 0, 0, 0, 0, 2⟩ ∧ skl b0 b1 l = 2) ∨
    (ok b0 b1 l = true ∧ ∃ r : Rl, top (b0 * 256 + b1) = r ∧ KindOk r ∧ r.op ≠ 0 ∧ skl b0 b1 l = (if r.op = 48 then 4 else 2) ∧ dec b0 b1 b2 b3 l = ⟨r.op, pX r.pk (dx b0 : Nat), pY r.pk (b1 / 16 : Nat), pN r.pk (dx b0 : Nat) (b1 % 16 : Nat), pNN r.pk (b1 : Nat), pA r.pk (dx b0 * 256 + b1 : Nat) (b2 * 256 + b3 : Nat), if r.op = 48 then 4 else 2⟩) := by
  cases hk : ok b0 b1 l
  · left
    have s := skl_no h0 h1 hk
    exact ⟨rfl, by rw [decNo hk, s], s⟩
  · right
    have s := skl_ok h0 h1 hk
    exact ⟨rfl, _, rfl, kind_top _, ok_op hk, s, by rw [decYes hk rfl, s]⟩
theorem op_long {r : Rl} (k : KindOk r) : r.op = 48 ↔ r.pk = .pNext := by
  obtain ⟨_, _, _, _, _, _, h, _⟩ := k
  constructor
  · intro e
    rw [e] at h
    generalize r.pk = p at *
    cases p <;> first | rfl | cases h
  · intro e
    rw [e] at h
    have := eq_of_beq (show (((r.op : Nat) : Int) == 48) = true from h)
    omega
theorem op_planes {r : Rl} (k : KindOk r) (e : r.pk = .pPlanes) : r.op = 49 := by
  obtain ⟨_, _, _, _, _, h, _⟩ := k
  rw [e] at h
  have := eq_of_beq (show (((r.op : Nat) : Int) == 49) = true from h)
  omega
/-- The third and the fourth byte. -/
theorem dec_tail (b0 b1 b2 b3 c d : Nat) (l : Int) (h0 : b0 < 256) (h1 : b1 < 256) :
    ((dec b0 b1 b2 b3 l).op = 48 ∧ (dec b0 b1 c d l).op = 48 ∧ (dec b0 b1 c d l).addr = (c : Int) * 256 + d ∧ (dec b0 b1 b2 b3 l).len = skl b0 b1 l) ∨
    (¬ (dec b0 b1 b2 b3 l).op = 48 ∧ dec b0 b1 c d l = dec b0 b1 b2 b3 l ∧ (dec b0 b1 b2 b3 l).len = skl b0 b1 l) := by
  rcases dec_cases b0 b1 b2 b3 l h0 h1 with ⟨k, e, s⟩ | ⟨k, r, hr, kr, ho, s, e⟩
  · right
    rw [e, s]
    refine ⟨by decide, ?_, rfl⟩
    rw [decNo k, s]
  · have e2 : dec b0 b1 c d l = ⟨r.op, pX r.pk (dx b0 : Nat), pY r.pk (b1 / 16 : Nat), pN r.pk (dx b0 : Nat) (b1 % 16 : Nat), pNN r.pk (b1 : Nat), pA r.pk (dx b0 * 256 + b1 : Nat) (c * 256 + d : Nat), skl b0 b1 l⟩ := decYes k hr
    by_cases h48 : r.op = 48
    · left
      rw [e, e2]
      refine ⟨by simp only; omega, by simp only; omega, ?_, by rw [s]⟩
      simp only
      rw [(op_long kr).1 h48]
      show ((c * 256 + d : Nat) : Int) = _
      omega
    · right
      have hp : r.pk ≠ .pNext := fun h => h48 ((op_long kr).2 h)
      rw [e, e2, s]
      refine ⟨by simp only; omega, ?_, rfl⟩
      have : ∀ (p : Pk) (u v1 v2 : Int), p ≠ .pNext → pA p u v1 = pA p u v2 := fun p u v1 v2 hp => by cases p <;> first | rfl | exact absurd rfl hp
      rw [this r.pk _ _ ((b2 * 256 + b3 : Nat) : Int) hp]
/-- The ranges of the fields. -/
theorem dec_range (b0 b1 b2 b3 : Nat) (l : Int) (h0 : b0 < 256) (h1 : b1 < 256) (h2 : b2 < 256) (h3 : b3 < 256) {i : Ins} (hi : dec b0 b1 b2 b3 l = i) :
    (0 ≤ i.op ∧ i.op ≤ 51) ∧ (0 ≤ i.x ∧ i.x ≤ 15) ∧ (0 ≤ i.y ∧ i.y ≤ 15) ∧ (0 ≤ i.n ∧ i.n ≤ 15) ∧ (0 ≤ i.nn ∧ i.nn ≤ 255) ∧ (0 ≤ i.addr ∧ i.addr ≤ 65535) := by
  subst hi
  rcases dec_cases b0 b1 b2 b3 l h0 h1 with ⟨k, e, s⟩ | ⟨k, r, hr, kr, ho, s, e⟩
  · rw [e]; simp only; omega
  · rw [e]
    have hop : r.op ≤ 51 := by
      obtain ⟨_, _, _, _, _, _, _, hr, _⟩ := kr
      rcases hr with hr | hr
      · omega
      · exact hr.2.2.2.1
    have hd : dx b0 < 16 := by unfold dx; omega
    simp only
    generalize r.pk = p
    refine ⟨by omega, ?_, ?_, ?_, ?_, ?_⟩
    all_goals (cases p <;> simp only [pX, pY, pN, pNN, pA] <;> omega)
/-- The law's fields. -/
theorem dec_total (b0 b1 b2 b3 : Nat) (l : Int) (h0 : b0 < 256) (h1 : b1 < 256) (hl : 1 ≤ l ∧ l ≤ 3) :
    (dec b0 b1 b2 b3 l = ⟨0, 0, 0, 0, 0, 0, 2⟩) ∨ ((dec b0 b1 b2 b3 l).op ≠ 0 ∧ (∀ m : Int, l ≤ m → m ≤ 3 → dec b0 b1 b2 b3 m = dec b0 b1 b2 b3 l) ∧ 1 ≤ lv (dec b0 b1 b2 b3 l).op ∧ lv (dec b0 b1 b2 b3 l).op ≤ l ∧ (((dec b0 b1 b2 b3 l).op = 48 ∧ (dec b0 b1 b2 b3 l).len = 4) ∨ (¬ (dec b0 b1 b2 b3 l).op = 48 ∧ (dec b0 b1 b2 b3 l).len = 2))) := by
  rcases dec_cases b0 b1 b2 b3 l h0 h1 with ⟨k, e, s⟩ | ⟨k, r, hr, kr, ho, s, e⟩
  · exact .inl e
  · right
    have hlv := ok_level k
    rw [hr] at hlv
    have hrr : lv r.op = r.level ∧ 1 ≤ r.level := by
      obtain ⟨_, _, _, _, _, _, _, hr, _⟩ := kr
      rcases hr with hr | hr
      · omega
      · exact ⟨hr.2.2.2.2, hr.2.1⟩
    refine ⟨by rw [e]; simp only; omega, fun m hm h3 => ?_, by rw [e]; simp only; omega, by rw [e]; simp only; omega, ?_⟩
    · have km := ok_mono k hm h3
      have sm := skl_ok h0 h1 km
      rw [hr] at sm
      rw [e, decYes km hr, sm]
    · rw [e]
      by_cases h48 : r.op = 48
      · left
        simp only
        rw [if_pos h48]
        exact ⟨by omega, rfl⟩
      · right
        simp only
        rw [if_neg h48]
        exact ⟨by omega, rfl⟩
end Go.Proofs.YthfiaemdpfffcaaGreatDoor.Dec
