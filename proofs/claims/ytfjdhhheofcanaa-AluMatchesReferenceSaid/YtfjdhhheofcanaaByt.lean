/- Slices of bytes that read as lists; copies of them; what a write leaves alone. Of the program: the types of bytes only. -/
import Derived.Test.YtfjdhhheofcanaaProg
import Derived.Test.YtfjdhhheofcanaaSpl
import Derived.Test.YtfjdhhheofcanaaArr
import Derived.Below
import Derived.Laws.CopyOwn
import Derived.Deep.WholeRow
import Derived.Deep.OwnRows
import Derived.KernelRfl
namespace Go.Proofs.Ytfjdhhheofcanaa
open Go.RowKit Num
set_option linter.unusedVariables false

theorem infoByte : (Try.prog.info? 5).map (fun i => (i.zero, i.size, i.bytes)) = some (some (.int .u8 0), 1, 1) := by kernel_rfl

/-- Two worlds that agree but for the blocks p and g, and new ones. -/
structure Apart (p : Nat) (g : Option Nat) (w w' : World) : Prop where
  os : w'.os = w.os
  tape : w'.tape = w.tape
  output : w'.output = w.output
  size : w.heap.size ≤ w'.heap.size
  block : ∀ k, k < w.heap.size → k ≠ p → some k ≠ g → w'.heap[k]? = w.heap[k]?
section
variable {p : Nat} {g : Option Nat} {u w w' : World}
theorem Apart.refl : Apart p g w w := ⟨rfl, rfl, rfl, Nat.le_refl _, fun _ _ _ _ => rfl⟩
theorem Apart.trans (h : Apart p g u w) (k : Apart p g w w') : Apart p g u w' :=
  ⟨k.os.trans h.os, k.tape.trans h.tape, k.output.trans h.output, Nat.le_trans h.size k.size, fun i hi h1 h2 => (k.block i (Nat.lt_of_lt_of_le hi h.size) h1 h2).trans (h.block i hi h1 h2)⟩
theorem Apart.drew (h : Apart p g u w) : Apart p g u w.drew := ⟨h.os, h.tape, h.output, h.size, h.block⟩
theorem Apart.of_grown (h : w.grownBy w' g) : Apart p g w w' := ⟨h.os, h.tape, h.output, h.size, fun k hk _ hg => h.block k hk hg⟩
theorem Apart.of_below (h : Below w.heap.size w w') : Apart p g w w' := ⟨h.os, h.tape, h.output, h.size, fun k hk _ _ => h.block k hk⟩
theorem Apart.setRow (cs : Array Value) : Apart p g w (w.setRow p cs) := ⟨rfl, rfl, rfl, by simp [World.setRow], fun k hk hp _ => setRow_other w p k cs hp⟩
theorem Apart.setCell (o : Nat) (v : Value) : Apart p g w (w.setCell ⟨p, o, none⟩ v) := ⟨rfl, rfl, rfl, by simp, fun k hk hp _ => Below.heap_setCell w _ v k hp⟩
theorem Apart.below (h : Apart p g w w') {B : Nat} (hB : B ≤ w.heap.size) (hp : B ≤ p) (hg : ∀ k, g = some k → B ≤ k) : Below B w w' :=
  ⟨h.os, h.tape, h.output, h.size, fun k hk => h.block k (by omega) (by omega) (fun e => by have := hg k e.symm; omega)⟩
end

/-- The slice at A reads as the bytes L. -/
def Rd (w : World) (A : Option Addr) (L : List Int) : Prop := L ≠ [] → ∃ ad, A = some ad ∧ ad.block < w.heap.size ∧ ∀ j (h : j < L.length), w.cell? (ad.add j) = some (.int .u8 L[j])
theorem add_block (a : Addr) (n : Nat) : (a.add n).block = a.block := by unfold Addr.add; split <;> rfl
theorem add_add (a : Addr) (i j : Nat) : (a.add i).add j = a.add (i + j) := by
  unfold Addr.add
  by_cases hi : i = 0 <;> by_cases hj : j = 0 <;> simp [hi, hj, Nat.add_assoc]
theorem add_pl (g o j : Nat) : (⟨g, o, none⟩ : Addr).add j = ⟨g, o + j, none⟩ := by unfold Addr.add; split <;> simp_all
section
variable {w w' : World} {A : Option Addr} {L : List Int}
theorem Rd.nil : Rd w A [] := fun h => absurd rfl h
theorem Rd.at_ (h : Rd w A L) {k : Nat} (hk : k < L.length) : ∃ ad, A = some ad ∧ ad.block < w.heap.size ∧ w.cell? (ad.add k) = some (.int .u8 L[k]) := by
  obtain ⟨ad, e, hb, hc⟩ := h (by rintro rfl; simp at hk)
  exact ⟨ad, e, hb, hc k hk⟩
theorem Rd.block_lt' (h : Rd w A L) (hne : L ≠ []) {ad : Addr} (e : A = some ad) : ad.block < w.heap.size := by
  obtain ⟨ad', e', hb, _⟩ := h hne
  rw [e] at e'
  injection e' with e'
  rw [e']
  exact hb
theorem Rd.keep (h : Rd w A L) (hs : w.heap.size ≤ w'.heap.size) (hk : ∀ ad, A = some ad → ad.block < w.heap.size → w'.heap[ad.block]? = w.heap[ad.block]?) : Rd w' A L := fun hne => by
  obtain ⟨ad, rfl, hb, hc⟩ := h hne
  exact ⟨ad, rfl, by omega, fun j hj => (World.cell?_of_block (a := ad.add j) (by rw [add_block]; exact hk ad rfl hb)).trans (hc j hj)⟩
theorem Rd.below (h : Rd w A L) (hb : Below w.heap.size w w') : Rd w' A L := fun hne => by
  obtain ⟨ad, rfl, hlt, hc⟩ := h hne
  exact ⟨ad, rfl, Nat.lt_of_lt_of_le hlt hb.size, fun j hj => (hb.cell (p := ad.add j) (by rw [add_block]; exact hlt)).trans (hc j hj)⟩
theorem Rd.of_row (h : Row (Value.int .u8) w A L) : Rd w A L := fun hne => by
  obtain ⟨b, o, rfl, hb, hc⟩ := h hne
  exact ⟨_, rfl, hb, fun j hj => by rw [add_pl]; exact hc j hj⟩
theorem Rd.cut (h : Rd w A L) {k cap : Nat} (hc : L.length ≤ cap) : Rd w (if cap = k then A else A.map (·.add k)) (L.drop k) := fun hne => by
  have hk : k < L.length := by
    rcases Nat.lt_or_ge k L.length with h1 | h1
    · exact h1
    · exact absurd (List.drop_eq_nil_of_le h1) hne
  obtain ⟨ad, rfl, hlt, hcell⟩ := h (by rintro rfl; simp at hk)
  rw [if_neg (by omega)]
  refine ⟨ad.add k, rfl, by rw [add_block]; exact hlt, fun j hj => ?_⟩
  rw [List.length_drop] at hj
  rw [add_add, hcell (k + j) (by omega), List.getElem_drop]
end
/-- A row of the call's own lies in a block of its element's type. -/
theorem own_rd {w : World} {base : Nat} {e : TypeId} {n c : Nat} {A : Option Addr} {L : List Int} (h : w.ownsRow base e 1 (.slice A n c) n (L.map (Value.int .u8))) : Rd w A L := Rd.of_row (Row.of_own h)
/-- A row of the call's own is kept where its block is not written. -/
theorem own_apart {w w' : World} {base size n : Nat} {e : TypeId} {v : Value} {xs : List Value} {p : Nat} {g : Option Nat} (h : w.ownsRow base e size v n xs) (ha : Apart p g w w')
    (hp : v.ownBlock ≠ some p) (hg : ∀ k, g = some k → v.ownBlock ≠ some k) : w'.ownsRow base e size v n xs := by
  refine ⟨h.1, h.2.imp id ?_⟩
  rintro ⟨b, cap, cur, rfl, hb, hh, r⟩
  refine ⟨b, cap, cur, rfl, hb, (ha.block b ((Array.getElem?_eq_some_iff.1 hh).1) (fun e => hp (by rw [← e]; rfl)) (fun e => hg b e.symm rfl)).trans hh, r⟩
theorem own_tag {w : World} {base size n : Nat} {e t : TypeId} {v : Value} {xs : List Value} {b : Nat} {cs : Array Value} {fr : Nat × Nat} (h : w.ownsRow base e size v n xs) (hb : w.heap[b]? = some (.cells cs t fr)) (hne : e ≠ t) : v.ownBlock ≠ some b := by
  rcases h.2 with ⟨rfl, _⟩ | ⟨g, cap, cur, rfl, _, hh, _⟩
  · intro c; cases c
  · intro c
    injection c with c
    have c : g = b := c
    subst c
    rw [hh] at hb
    injection hb with hb
    injection hb with _ ht _
    exact hne ht
theorem own_block {w : World} {base size n : Nat} {e : TypeId} {v : Value} {xs : List Value} (h : w.ownsRow base e size v n xs) {b : Nat} (hb : v.ownBlock = some b) : base ≤ b ∧ ∃ cs, w.heap[b]? = some (.cells cs e (0, 0)) := by
  rcases h.2 with ⟨rfl, _⟩ | ⟨g, cap, cur, rfl, hg, hh, _⟩
  · cases hb
  · injection hb with hb
    have hb : g = b := hb
    subst hb
    exact ⟨hg, cur, hh⟩
















































theorem int_cells (L : List Int) : ∀ u ∈ L.map (Value.int .u8), u.oneCell' = true := fun u hu => by
  obtain ⟨y, _, rfl⟩ := List.mem_map.1 hu
  rfl
theorem rd_cells {w : World} {ad : Addr} {L : List Int} (hc : ∀ j (h : j < L.length), w.cell? (ad.add j) = some (.int .u8 L[j])) : ∀ j u, (L.map (Value.int .u8))[j]? = some u → w.cell? (ad.add j) = some u := fun j u hu => by
  rw [List.getElem?_map] at hu
  by_cases hj : j < L.length
  · rw [List.getElem?_eq_getElem hj] at hu
    rw [hc j hj]
    exact hu
  · rw [List.getElem?_eq_none (by omega)] at hu
    cases hu





















end Go.Proofs.Ytfjdhhheofcanaa
