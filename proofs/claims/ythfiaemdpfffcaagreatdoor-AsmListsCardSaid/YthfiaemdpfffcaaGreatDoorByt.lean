/- Slices of bytes that read as lists; copies of them; what a write leaves alone. Of the program: the types of bytes only. -/
import Derived.Test.YthfiaemdpfffcaaGreatDoorProg
import Derived.Test.YthfiaemdpfffcaaGreatDoorSpl
import Derived.Test.YthfiaemdpfffcaaGreatDoorArr
import Derived.Below
import Derived.Laws.CopyOwn
import Derived.Deep.WholeRow
import Derived.Deep.OwnRows
import Derived.KernelRfl
namespace Go.Proofs.YthfiaemdpfffcaaGreatDoor
open Go.RowKit Num
set_option linter.unusedVariables false

theorem infoByte : (Tryz.prog.info? 5).map (fun i => (i.zero, i.size, i.bytes)) = some (some (.int .u8 0), 1, 1) := by kernel_rfl

/-- Two worlds that agree but for the blocks p and g, and new ones. -/
structure Apart (p : Nat) (g : Option Nat) (w w' : World) : Prop where
  os : w'.os = w.os
  tape : w'.tape = w.tape
  output : w'.output = w.output
  size : w.heap.size ≤ w'.heap.size
  block : ∀ k, k < w.heap.size → k ≠ p → some k ≠ g → w'.heap[k]? = w.heap[k]?
section
variable {p : Nat} {g : Option Nat} {u w w' : World}
theorem Apart.refl : Apart p g w w := ⟨rfl, rfl, rfl, Nat.le_refl _, fun _ _ _ _ => rfl⟩
theorem Apart.trans (h : Apart p g u w) (k : Apart p g w w') : Apart p g u w' :=
  ⟨k.os.trans h.os, k.tape.trans h.tape, k.output.trans h.output, Nat.le_trans h.size k.size, fun i hi h1 h2 => (k.block i (Nat.lt_of_lt_of_le hi h.size) h1 h2).trans (h.block i hi h1 h2)⟩
theorem Apart.drew (h : Apart p g u w) : Apart p g u w.drew := ⟨h.os, h.tape, h.output, h.size, h.block⟩
theorem Apart.of_grown (h : w.grownBy w' g) : Apart p g w w' := ⟨h.os, h.tape, h.output, h.size, fun k hk _ hg => h.block k hk hg⟩
theorem Apart.of_below (h : Below w.heap.size w w') : Apart p g w w' := ⟨h.os, h.tape, h.output, h.size, fun k hk _ _ => h.block k hk⟩
theorem Apart.setRow (cs : Array Value) : Apart p g w (w.setRow p cs) := ⟨rfl, rfl, rfl, by simp [World.setRow], fun k hk hp _ => setRow_other w p k cs hp⟩
theorem Apart.setCell (o : Nat) (v : Value) : Apart p g w (w.setCell ⟨p, o, none⟩ v) := ⟨rfl, rfl, rfl, by simp, fun k hk hp _ => Below.heap_setCell w _ v k hp⟩
theorem Apart.below (h : Apart p g w w') {B : Nat} (hB : B ≤ w.heap.size) (hp : B ≤ p) (hg : ∀ k, g = some k → B ≤ k) : Below B w w' :=
  ⟨h.os, h.tape, h.output, h.size, fun k hk => h.block k (by omega) (by omega) (fun e => by have := hg k e.symm; omega)⟩
end

/-- The slice at A reads as the bytes L. -/
def Rd (w : World) (A : Option Addr) (L : List Int) : Prop := L ≠ [] → ∃ ad, A = some ad ∧ ad.block < w.heap.size ∧ ∀ j (h : j < L.length), w.cell? (ad.add j) = some (.int .u8 L[j])
theorem add_block (a : Addr) (n : Nat) : (a.add n).block = a.block := by unfold Addr.add; split <;> rfl
theorem add_add (a : Addr) (i j : Nat) : (a.add i).add j = a.add (i + j) := by
  unfold Addr.add
  by_cases hi : i = 0 <;> by_cases hj : j = 0 <;> simp [hi, hj, Nat.add_assoc]
theorem add_pl (g o j : Nat) : (⟨g, o, none⟩ : Addr).add j = ⟨g, o + j, none⟩ := by unfold Addr.add; split <;> simp_all
section
variable {w w' : World} {A : Option Addr} {L : List Int}
theorem Rd.nil : Rd w A [] := fun h => absurd rfl h
theorem Rd.at_ (h : Rd w A L) {k : Nat} (hk : k < L.length) : ∃ ad, A = some ad ∧ ad.block < w.heap.size ∧ w.cell? (ad.add k) = some (.int .u8 L[k]) := by
  obtain ⟨ad, e, hb, hc⟩ := h (by rintro rfl; simp at hk)
  exact ⟨ad, e, hb, hc k hk⟩
theorem Rd.block_lt' (h : Rd w A L) (hne : L ≠ []) {ad : Addr} (e : A = some ad) : ad.block < w.heap.size := by
  obtain ⟨ad', e', hb, _⟩ := h hne
  rw [e] at e'
  injection e' with e'
  rw [e']
  exact hb
theorem Rd.keep (h : Rd w A L) (hs : w.heap.size ≤ w'.heap.size) (hk : ∀ ad, A = some ad → ad.block < w.heap.size → w'.heap[ad.block]? = w.heap[ad.block]?) : Rd w' A L := fun hne => by
  obtain ⟨ad, rfl, hb, hc⟩ := h hne
  exact ⟨ad, rfl, by omega, fun j hj => (World.cell?_of_block (a := ad.add j) (by rw [add_block]; exact hk ad rfl hb)).trans (hc j hj)⟩
theorem Rd.below (h : Rd w A L) (hb : Below w.heap.size w w') : Rd w' A L := fun hne => by
  obtain ⟨ad, rfl, hlt, hc⟩ := h hne
  exact ⟨ad, rfl, Nat.lt_of_lt_of_le hlt hb.size, fun j hj => (hb.cell (p := ad.add j) (by rw [add_block]; exact hlt)).trans (hc j hj)⟩
theorem Rd.of_row (h : Row (Value.int .u8) w A L) : Rd w A L := fun hne => by
  obtain ⟨b, o, rfl, hb, hc⟩ := h hne
  exact ⟨_, rfl, hb, fun j hj => by rw [add_pl]; exact hc j hj⟩
theorem Rd.cut (h : Rd w A L) {k cap : Nat} (hc : L.length ≤ cap) : Rd w (if cap = k then A else A.map (·.add k)) (L.drop k) := fun hne => by
  have hk : k < L.length := by
    rcases Nat.lt_or_ge k L.length with h1 | h1
    · exact h1
    · exact absurd (List.drop_eq_nil_of_le h1) hne
  obtain ⟨ad, rfl, hlt, hcell⟩ := h (by rintro rfl; simp at hk)
  rw [if_neg (by omega)]
  refine ⟨ad.add k, rfl, by rw [add_block]; exact hlt, fun j hj => ?_⟩
  rw [List.length_drop] at hj
  rw [add_add, hcell (k + j) (by omega), List.getElem_drop]
end
/-- A row of the call's own lies in a block of its element's type. -/
theorem own_rd {w : World} {base : Nat} {e : TypeId} {n c : Nat} {A : Option Addr} {L : List Int} (h : w.ownsRow base e 1 (.slice A n c) n (L.map (Value.int .u8))) : Rd w A L := Rd.of_row (Row.of_own h)
/-- A row of the call's own is kept where its block is not written. -/
theorem own_apart {w w' : World} {base size n : Nat} {e : TypeId} {v : Value} {xs : List Value} {p : Nat} {g : Option Nat} (h : w.ownsRow base e size v n xs) (ha : Apart p g w w')
    (hp : v.ownBlock ≠ some p) (hg : ∀ k, g = some k → v.ownBlock ≠ some k) : w'.ownsRow base e size v n xs := by
  refine ⟨h.1, h.2.imp id ?_⟩
  rintro ⟨b, cap, cur, rfl, hb, hh, r⟩
  refine ⟨b, cap, cur, rfl, hb, (ha.block b ((Array.getElem?_eq_some_iff.1 hh).1) (fun e => hp (by rw [← e]; rfl)) (fun e => hg b e.symm rfl)).trans hh, r⟩
theorem own_tag {w : World} {base size n : Nat} {e t : TypeId} {v : Value} {xs : List Value} {b : Nat} {cs : Array Value} {fr : Nat × Nat} (h : w.ownsRow base e size v n xs) (hb : w.heap[b]? = some (.cells cs t fr)) (hne : e ≠ t) : v.ownBlock ≠ some b := by
  rcases h.2 with ⟨rfl, _⟩ | ⟨g, cap, cur, rfl, _, hh, _⟩
  · intro c; cases c
  · intro c
    injection c with c
    have c : g = b := c
    subst c
    rw [hh] at hb
    injection hb with hb
    injection hb with _ ht _
    exact hne ht
theorem own_block {w : World} {base size n : Nat} {e : TypeId} {v : Value} {xs : List Value} (h : w.ownsRow base e size v n xs) {b : Nat} (hb : v.ownBlock = some b) : base ≤ b ∧ ∃ cs, w.heap[b]? = some (.cells cs e (0, 0)) := by
  rcases h.2 with ⟨rfl, _⟩ | ⟨g, cap, cur, rfl, hg, hh, _⟩
  · cases hb
  · injection hb with hb
    have hb : g = b := hb
    subst hb
    exact ⟨hg, cur, hh⟩

/-- A copy whose run is known. -/
theorem wp_copy_run {o : Oper} {a : Act} {w w' : World} {K : Act → World → Prop} {Q : Exit → Act → World → Prop} (d s : Operand)
    (ho : o.op = .call { callee := .builtin .copy, args := #[d, s], argTypes := #[22, 22] }) (ty : TypeId) (ht : o.type = ty) (X Y r : Value) (hd : a.eval d = X) (hs : a.eval s = Y)
    (hrun : (Builtin.copy_ #[22, 22] ty #[X, Y]).run Tryz.prog w = .ok r w') (t : Nat) (hdst : o.dst = some t) (h : K ⟨a.tmps.setIfInBounds t r, a.defers⟩ w') : o.wp Tryz.prog a w K Q := by
  subst ht
  replace h : K (a.put o.dst r) w' := by rw [hdst]; exact h
  unfold Oper.wp
  simp [execOp, ho, resolve, invoke, builtin, hd, hs, hrun, Result.andThen]
  exact h
/-- A copy into a block, from a place on; the source nil or not. -/
theorem run_copy_gen {w : World} (ty : TypeId) (p off n c : Nat) (dp : Option Addr) (hdp : 0 < n → dp = some ⟨p, off, none⟩) (A : Option Addr) (m k d : Nat) (hd : d = min m n)
    (L : List Int) (hL : L.length = m) (hR : Rd w A L) (cur : List Value) (t : TypeId) (hp : w.heap[p]? = some (.cells cur.toArray t (0, 0))) (hn : off + n ≤ cur.length) :
    ∃ w', (Builtin.copy_ #[22, 22] ty #[.slice dp n c, .slice A m k]).run Tryz.prog w = .ok (.int .i64 (d : Int)) w' ∧ w'.heap[p]? = some (.cells (splice cur off ((L.take n).map (Value.int .u8))).toArray t (0, 0)) ∧ ∀ g, Apart p g w w' := by
  have hl : ((L.take n).map (Value.int .u8)).length = d := by rw [List.length_map, List.length_take, hL, hd]; exact Nat.min_comm _ _
  have hu : Tryz.prog.underlying 22 = some (.slice 5) := Tryz.underlying22
  have hz : (Tryz.prog.info? 5).map (·.size) = some 1 := by kernel_rfl
  have hmn : Nat.min m n = d := hd.symm
  by_cases h0 : d = 0
  · have hrun := run_copy_none (P := Tryz.prog) w 22 22 ty 5 dp A n c m k hu hz (by rw [hmn, h0])
    have e0 : L.take n = [] := List.eq_nil_of_length_eq_zero (by rw [List.length_map] at hl; omega)
    refine ⟨w, by rw [hrun, h0]; rfl, by rw [e0]; simpa [splice] using hp, fun g => Apart.refl⟩
  · obtain rfl := hdp (by omega)
    obtain ⟨ad, rfl, hb, hc⟩ := hR (by rintro rfl; simp at hL; omega)
    have hrun := run_copy_row (P := Tryz.prog) w 22 22 ty 5 p off n c ad m k cur.toArray t ((L.take n).map (Value.int .u8)) hu hz hp (by rw [hl, hmn])
      (fun j x hx => by
        rw [List.getElem?_map] at hx
        by_cases hj : j < (L.take n).length
        · rw [List.getElem?_eq_getElem hj] at hx
          have hj2 : j < L.length := by rw [List.length_take] at hj; omega
          rw [hc j hj2, ← hx, List.getElem_take]
          rfl
        · rw [List.getElem?_eq_none (by omega)] at hx
          cases hx)
      (by rw [hl]; simp; omega) (fun x hx => by obtain ⟨y, _, rfl⟩ := List.mem_map.1 hx; rfl)
    have e1 : cur.toArray.toList.take off ++ (L.take n).map (Value.int .u8) ++ cur.toArray.toList.drop (off + ((L.take n).map (Value.int .u8)).length) = splice cur off ((L.take n).map (Value.int .u8)) := by
      unfold splice
      rw [List.append_assoc]
    rw [e1, hl] at hrun
    exact ⟨_, hrun, setRow_heap w p _ _ _ _ hp, fun g => Apart.setRow _⟩
/-- A copy into a new row of bytes. -/
theorem run_copy_bytes {w : World} (ty : TypeId) (p off n c : Nat) (dp : Option Addr) (hdp : 0 < n → dp = some ⟨p, off, none⟩) (A : Option Addr) (m k d : Nat) (hd : d = min m n)
    (L : List Int) (hL : L.length = m) (hR : Rd w A L) (Z : List Int) (t : TypeId) (hp : w.heap[p]? = some (.cells (arr Z) t (0, 0))) (hn : off + n ≤ Z.length) :
    ∃ w', (Builtin.copy_ #[22, 22] ty #[.slice dp n c, .slice A m k]).run Tryz.prog w = .ok (.int .i64 (d : Int)) w' ∧ w'.heap[p]? = some (.cells (arr (splice Z off (L.take n))) t (0, 0)) ∧ ∀ g, Apart p g w w' := by
  obtain ⟨w', h0, h1, h2⟩ := run_copy_gen ty p off n c dp hdp A m k d hd L hL hR (Z.map (Value.int .u8)) t hp (by simpa using hn)
  refine ⟨w', h0, ?_, h2⟩
  rw [h1, splice_map]
  rfl
theorem int_cells (L : List Int) : ∀ u ∈ L.map (Value.int .u8), u.oneCell' = true := fun u hu => by
  obtain ⟨y, _, rfl⟩ := List.mem_map.1 hu
  rfl
theorem rd_cells {w : World} {ad : Addr} {L : List Int} (hc : ∀ j (h : j < L.length), w.cell? (ad.add j) = some (.int .u8 L[j])) : ∀ j u, (L.map (Value.int .u8))[j]? = some u → w.cell? (ad.add j) = some u := fun j u hu => by
  rw [List.getElem?_map] at hu
  by_cases hj : j < L.length
  · rw [List.getElem?_eq_getElem hj] at hu
    rw [hc j hj]
    exact hu
  · rw [List.getElem?_eq_none (by omega)] at hu
    cases hu
set_option maxRecDepth 100000 in
theorem make_bytes (n : Nat) (x : Int) (hx : x = n) (hn : n ≤ 1000000) (w : World) : (Instr.makeSlice 22 (.int .i64 x) (.int .i64 x)).run Tryz.prog w = .ok (.slice (some ⟨w.heap.size, 0, none⟩) n n) (w.alloc (.cells (arr (List.replicate n 0)) 5)) := by
  subst hx
  obtain ⟨i0, hi, hz0, hz1, hz2⟩ := info_parts infoByte
  have h := run_make_row (P := Tryz.prog) 22 5 i0 (.int .u8 0) Tryz.underlying22 hi hz0 hz1 rfl .i64 .i64 n (by rw [hz2]; omega) (by omega) w
  rw [h]
  congr 3
  apply Array.ext'
  unfold arr
  rw [toList_madeCells_one, List.map_replicate]
set_option maxRecDepth 100000 in
theorem cut_row (g n d : Nat) (hd : d ≤ n) (D : Option Addr) (hD : D = if n = d then some ⟨g, 0, none⟩ else some ⟨g, d, none⟩) (w : World) :
    (Instr.sliceAt 22 (.slice (some ⟨g, 0, none⟩) n n) (some (.int .i64 (d : Int))) none none).run Tryz.prog w = .ok (.slice D (n - d) (n - d)) w := by
  rw [run_sliceAt_slice (P := Tryz.prog) w 22 _ _ _ _ Tryz.underlying22, run_slice_l (P := Tryz.prog) w 22 _ n n Tryz.underlying22 .i64 d (by omega) (by omega), hD]
  show Result.ok (sliced _ _ _ _ 1) w = _
  unfold sliced
  by_cases h : n = d
  · subst h
    simp
  · rw [if_neg (by simpa using h), if_neg h]
    simp [add_pl]
end Go.Proofs.YthfiaemdpfffcaaGreatDoor
