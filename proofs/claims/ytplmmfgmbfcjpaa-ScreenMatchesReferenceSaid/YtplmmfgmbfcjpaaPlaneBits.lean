/- Slices of 16-bit numbers that read as lists; one row of a plane of pixels, made from the left. -/
import Derived.Test.YtplmmfgmbfcjpaaPlaneRefSc
namespace Go.Proofs.Ytplmmfgmbfcjpaa
open Go.RowKit Num
set_option linter.unusedVariables false
set_option linter.unusedSimpArgs false

/-- The slice at A reads as the numbers L. -/
def Rd16 (w : World) (A : Option Addr) (L : List Nat) : Prop := L ≠ [] → ∃ ad, A = some ad ∧ ad.block < w.heap.size ∧ ∀ j (h : j < L.length), w.cell? (ad.add j) = some (.int .u16 (L[j] : Int))
theorem add_block16 (a : Addr) (n : Nat) : (a.add n).block = a.block := by unfold Addr.add; split <;> rfl
section
variable {w w' : World} {A : Option Addr} {L : List Nat}
theorem Rd16.nil : Rd16 w A [] := fun h => absurd rfl h
theorem Rd16.at_ (h : Rd16 w A L) {k : Nat} (hk : k < L.length) : ∃ ad, A = some ad ∧ ad.block < w.heap.size ∧ w.cell? (ad.add k) = some (.int .u16 (L.getD k 0 : Int)) := by
  obtain ⟨ad, hA, hb, hc⟩ := h (by rintro rfl; simp at hk)
  exact ⟨ad, hA, hb, by rw [hc k hk]; simp [hk]⟩
theorem Rd16.below (h : Rd16 w A L) (hb : Below w.heap.size w w') : Rd16 w' A L := fun hne => by
  obtain ⟨ad, hA, hlt, hc⟩ := h hne
  exact ⟨ad, hA, Nat.lt_of_lt_of_le hlt hb.size, fun j hj => (hb.cell (p := ad.add j) (by rw [add_block16]; exact hlt)).trans (hc j hj)⟩
end
/-- The numbers of a list. -/
def nth (L : List Nat) (i : Nat) : Nat := L.getD i 0
theorem nth_le {L : List Nat} (h : ∀ x ∈ L, x ≤ 65535) (i : Nat) : nth L i ≤ 65535 := by
  unfold nth
  rw [List.getD_eq_getElem?_getD]
  rcases Nat.lt_or_ge i L.length with hi | hi
  · rw [List.getElem?_eq_getElem hi]; exact h _ (List.getElem_mem hi)
  · rw [List.getElem?_eq_none hi]; simp

/-- The first k pixels of row a are turned to those of R. -/
def rowTo (R : Nat → Bool) (a k : Nat) (F : Nat → Bool) (j : Nat) : Bool := if j / 128 = a ∧ j % 128 < k then R (j % 128) else F j
theorem rowTo_zero (R : Nat → Bool) (a : Nat) (F : Nat → Bool) (j : Nat) : rowTo R a 0 F j = F j := by
  rw [rowTo, if_neg (by omega)]
theorem rowTo_set (R : Nat → Bool) (a k : Nat) (F : Nat → Bool) (q : Nat) (hk : k < 128) (hq : q = 128 * a + k) (v : Bool) (hv : R k = v) (j : Nat) : (if j = q then v else rowTo R a k F j) = rowTo R a (k + 1) F j := by
  subst hq hv
  unfold rowTo
  by_cases e : j = 128 * a + k
  · subst e
    rw [if_pos rfl, if_pos (by omega), show (128 * a + k) % 128 = k by omega]
  · rw [if_neg e]
    by_cases e2 : j / 128 = a ∧ j % 128 < k
    · rw [if_pos e2, if_pos (by omega)]
    · rw [if_neg e2, if_neg (by omega)]
theorem rsp_none (bits : Nat → Nat) (c x y m h : Nat) (clip : Bool) (hy : y < h) (j : Nat) : rspF bits 0 c x y m h clip j = false := by
  rw [rspF, spr_none _ _ _ _ _ _ _ hy, px_zero]
theorem rsp_in (bits : Nat → Nat) (i c x y m h : Nat) (clip : Bool) (c1 : c ≤ 16) (hm : 16 ≤ m) (m1 : m ≤ 128) (hx : x < m) (hi : i < h) (hy : y < h) (hin : y + i < h) (a : Nat) (ha : a = y + i) (j : Nat) :
    rowTo (spF (bits i) c x m clip c) a 128 (rspF bits i c x y m h clip) j = rspF bits (i + 1) c x y m h clip j := by
  subst ha
  unfold rowTo rspF
  rw [spr_in bits i c x y m h clip hi hy hin]
  by_cases e : j / 128 = y + i
  · rw [if_pos (by omega), if_pos e, px_sprite _ _ _ _ _ c1 hm m1 hx _ (by omega)]
  · rw [if_neg (by omega), if_neg e]
theorem rsp_out (bits : Nat → Nat) (i c x y m h : Nat) (c1 : c ≤ 16) (hm : 16 ≤ m) (m1 : m ≤ 128) (hx : x < m) (hi : i < h) (hy : y < h) (hin : h ≤ y + i) (a : Nat) (ha : a = y + i - h) (j : Nat) :
    rowTo (spF (bits i) c x m false c) a 128 (rspF bits i c x y m h false) j = rspF bits (i + 1) c x y m h false j := by
  subst ha
  unfold rowTo rspF
  rw [spr_out bits i c x y m h hi hy hin]
  by_cases e : j / 128 = y + i - h
  · rw [if_pos (by omega), if_pos e, px_sprite _ _ _ _ _ c1 hm m1 hx _ (by omega)]
  · rw [if_neg (by omega), if_neg e]
theorem rsp_lost (bits : Nat → Nat) (i c x y m h : Nat) (hin : h ≤ y + i) (j : Nat) : rspF bits (i + 1) c x y m h true j = rspF bits i c x y m h true j := by
  unfold rspF
  rw [spr_lost bits i c x y m h hin]
theorem stillOf {f : FuncId} {args : Array Value} {v : Value} {w : World} (h : Calls Try.prog f args w fun e w' => e = .returned v ∧ w = w') : Calls Try.prog f args w fun e w' => e = .returned v ∧ w' = w :=
  h.mono fun _ _ h => ⟨h.1, h.2.symm⟩
end Go.Proofs.Ytplmmfgmbfcjpaa
