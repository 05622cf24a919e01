/- Texts put together: Spl, Row, Num, Arr, Byt, Kept, FontNum, MemNum, DecNum, MemBlk, Mix, AddrNum, FontAdd, FontCat, FontTab, Mem, MemLog, MemWrite, MemNew, MemBytes, Tail, Opc, Calm, Blk, FlaAllow, Plain, Late, BytOpen, IcOpen, Right, IcFew, Words16, LaidTab, Cells. -/
import Derived.Laws.CopyOwn
import Derived.Test.YtgilkbmipgejeaaDoorProg
import Derived.WalkKit
import Derived.Below
import Derived.Laws.OwnMore
import Derived.Deep.AppendLies
import Derived.Handy
import Derived.Lib.Hide
import Derived.Maps.AppendAt
import Derived.Deep.Cut
import Derived.Deep.WholeRow
import Derived.Deep.OwnRows
import Derived.KernelRfl
import Derived.Laws.BitsLemmas
import Derived.OrdersHeld
import Derived.BigQuiet
import Derived.Deep.QuietTactic
import Derived.IntWalk
import Derived.StillTailTactics
import Derived.Test.YtgilkbmipgejeaaDoorRows
import Derived.WalkSpells
import Derived.WalkLawsBesides
import Derived.Deep.MidRow
import Derived.Laws.CopyRow
import Derived.Lib.MinMax
import Derived.Maps.OwnSet
import Derived.Maps.Views
import Derived.Carry
import Derived.ProofKit
import Derived.OpenShut
import Derived.ChangeSlices
import Derived.Deep.SlicePairs
import Derived.ChangeOld
import Derived.LoopTactic
import Derived.ShutString
import Derived.LaidMore
/- A part of a list turned: nothing of the program. -/
namespace Go.Proofs.YtgilkbmipgejeaaDoor
set_option linter.unusedVariables false

theorem splice_len {α : Type} (L : List α) (off : Nat) (cs : List α) (h : off + cs.length ≤ L.length) : (splice L off cs).length = L.length := length_splice L off cs h
theorem splice_get {α : Type} (L : List α) (off : Nat) (cs : List α) (h : off + cs.length ≤ L.length) (j : Nat) :
    (splice L off cs)[j]? = if j < off then L[j]? else if j < off + cs.length then cs[j - off]? else L[j]? := by
  unfold splice
  by_cases h1 : j < off
  · rw [if_pos h1, List.getElem?_append_left (by simp; omega), List.getElem?_take, if_pos h1]
  · rw [if_neg h1, List.getElem?_append_right (by simp; omega)]
    have e : (L.take off).length = off := by simp; omega
    rw [e]
    by_cases h2 : j < off + cs.length
    · rw [if_pos h2, List.getElem?_append_left (by omega)]
    · rw [if_neg h2, List.getElem?_append_right (by omega), List.getElem?_drop]
      congr 1
      omega
theorem splice_map {α β : Type} (f : α → β) (L : List α) (off : Nat) (cs : List α) : splice (L.map f) off (cs.map f) = (splice L off cs).map f := by
  simp [splice]
end Go.Proofs.YtgilkbmipgejeaaDoor
/- Slices that read as lists: nothing of the program. -/
namespace Go.Proofs.YtgilkbmipgejeaaDoor
set_option linter.unusedVariables false
open Go.RowKit

/-- The slice whose array begins at A holds the list L; of an empty one nothing is asked. -/
def Row {α : Type} (enc : α → Value) (w : World) (A : Option Addr) (L : List α) : Prop :=
  L ≠ [] → ∃ b o, A = some ⟨b, o, none⟩ ∧ b < w.heap.size ∧ ∀ j (h : j < L.length), w.cell? ⟨b, o + j, none⟩ = some (enc L[j])

section
variable {α : Type} {enc : α → Value} {w w' : World} {A : Option Addr} {L : List α}
theorem Row.nil : Row enc w A [] := fun h => absurd rfl h
theorem Row.at_ (h : Row enc w A L) {k : Nat} (hk : k < L.length) : ∃ b o, A = some ⟨b, o, none⟩ ∧ b < w.heap.size ∧ w.cell? ⟨b, o + k, none⟩ = some (enc L[k]) := by
  obtain ⟨b, o, hA, hb, hc⟩ := h (by rintro rfl; simp at hk)
  exact ⟨b, o, hA, hb, hc k hk⟩
theorem Row.below (h : Row enc w A L) (hb : Below w.heap.size w w') : Row enc w' A L := fun hne => by
  obtain ⟨b, o, hA, hlt, hc⟩ := h hne
  exact ⟨b, o, hA, Nat.lt_of_lt_of_le hlt hb.size, fun j hj => (hb.cell (p := ⟨b, o + j, none⟩) hlt).trans (hc j hj)⟩
theorem Row.of_own {base : Nat} {e : TypeId} {n c : Nat} (h : w.ownsRow base e 1 (.slice A n c) n (L.map enc)) : Row enc w A L := fun hne => by
  have hl : L.length = n := by have := h.1; simpa using this
  have hpos : 0 < n := by rw [← hl]; exact List.length_pos_iff.2 hne
  obtain ⟨g, cap, hv, _, hlt⟩ := h.form hpos
  have hA : A = some ⟨g, 0, none⟩ := by injection hv
  subst hA
  refine ⟨g, 0, rfl, hlt, fun j hj => ?_⟩
  have := h.cellAt (g := g) j (by omega)
  rw [Nat.zero_add, this]
  simp [hj]
/-- Two rows of one list: the same value at each place. -/
theorem Row.size_pos (h : Row enc w A L) (hne : L ≠ []) : A.isSome = true := by
  obtain ⟨b, o, rfl, _⟩ := h hne
  rfl
end

/-- A slice value that owns a row is a slice of as many elements. -/
theorem own_form {w : World} {base n : Nat} {e : TypeId} {v : Value} {xs : List Value} (h : w.ownsRow base e 1 v n xs) : ∃ A cap, v = .slice A n cap := by
  rcases h.2 with ⟨rfl, rfl⟩ | ⟨g, cap, cur, rfl, _⟩
  · exact ⟨none, 0, rfl⟩
  · exact ⟨_, cap, rfl⟩
theorem own_mono {w : World} {base base' size n : Nat} {e : TypeId} {v : Value} {xs : List Value} (h : w.ownsRow base e size v n xs) (hb : base' ≤ base) : w.ownsRow base' e size v n xs := by
  refine ⟨h.1, h.2.imp id ?_⟩
  rintro ⟨g, cap, cur, hv, hg, r⟩
  exact ⟨g, cap, cur, hv, Nat.le_trans hb hg, r⟩
end Go.Proofs.YtgilkbmipgejeaaDoor
/- Plain facts on numbers: masks and joins of non-negative int values. Nothing of the program. -/
namespace Go.Proofs.YtgilkbmipgejeaaDoor.Num
set_option linter.unusedVariables false
open Go.RowKit

theorem wraps_i64 (n : Int) (h₀ : 0 ≤ n) (h₁ : n < 2 ^ 62) : IntKind.i64.wrap n = n := by rw [IntKind.wrap_i64]; omega

theorem or256 (h l : Int) (h0 : 0 ≤ h) (h1 : h ≤ 255) (l0 : 0 ≤ l) (l1 : l ≤ 255) : bits .or .i64 (h * 256) l = h * 256 + l :=
  bits_join .i64 62 (by decide) wraps_i64 8 (h * 256) l (by omega) (by omega) (by omega) l0 (by omega) (by omega)
theorem and15 (x : Int) (h0 : 0 ≤ x) (h1 : x ≤ 4294967295) : bits .and .i64 x 15 = x % 16 :=
  bits_mask .i64 62 (by decide) wraps_i64 4 (by decide) x h0 (by omega)
theorem and255 (x : Int) (h0 : 0 ≤ x) (h1 : x ≤ 4294967295) : bits .and .i64 x 255 = x % 256 :=
  bits_mask .i64 62 (by decide) wraps_i64 8 (by decide) x h0 (by omega)
theorem and4095 (x : Int) (h0 : 0 ≤ x) (h1 : x ≤ 4294967295) : bits .and .i64 x 4095 = x % 4096 :=
  bits_mask .i64 62 (by decide) wraps_i64 12 (by decide) x h0 (by omega)
theorem tmod_neg (n k : Int) (h : n < 0) : n.tmod k = -((-n) % k) := by
  have e := Int.neg_tmod (-n) k
  rw [Int.neg_neg] at e
  rw [e, Int.tmod_eq_emod_of_nonneg (by omega)]
theorem tmod_pos (n k : Int) (h : 0 ≤ n) : n.tmod k = n % k := Int.tmod_eq_emod_of_nonneg h
theorem mod16 (n : Int) : (n.tmod 65536 < 0 → n.tmod 65536 + 65536 = n % 65536) ∧ (¬ n.tmod 65536 < 0 → n.tmod 65536 = n % 65536) := by
  by_cases h : n < 0
  · rw [tmod_neg n 65536 h]; omega
  · rw [tmod_pos n 65536 (by omega)]; omega

theorem ret_int {k : IntKind} {a b : Int} (h : a = b) : Ending.returned (.int k a) = .returned (.int k b) := by rw [h]
theorem ret_agg6 {a b c d e f a' b' c' d' e' f' : Int} (h1 : a = a') (h2 : b = b') (h3 : c = c') (h4 : d = d') (h5 : e = e') (h6 : f = f') :
    Ending.returned (.agg #[.int .i64 a, .int .i64 b, .int .i64 c, .int .i64 d, .int .i64 e, .int .i64 f]) = .returned (.agg #[.int .i64 a', .int .i64 b', .int .i64 c', .int .i64 d', .int .i64 e', .int .i64 f']) := by
  rw [h1, h2, h3, h4, h5, h6]
theorem ret_join {a b a' b' : Int} (h1 : a = a') (h2 : b = b') :
    Ending.returned (.tuple #[.int .u8 a, .int .u8 b, .int .i64 0]) = .returned (.tuple #[.int .u8 a', .int .u8 b', .int .i64 0]) := by
  rw [h1, h2]

theorem bd_u8 {a : Int} (h : (Lit.int .u8 a).wf = true) : 0 ≤ a ∧ a ≤ 255 := by
  simp [Lit.wf, IntKind.min, IntKind.max, IntKind.signed, IntKind.bits] at h
  omega
theorem bd_i8 {a : Int} (h : (Lit.int .i8 a).wf = true) : -128 ≤ a ∧ a ≤ 127 := by
  simp [Lit.wf, IntKind.min, IntKind.max, IntKind.signed, IntKind.bits] at h
  omega
theorem bd_u16 {a : Int} (h : (Lit.int .u16 a).wf = true) : 0 ≤ a ∧ a ≤ 65535 := by
  simp [Lit.wf, IntKind.min, IntKind.max, IntKind.signed, IntKind.bits] at h
  omega
theorem bd_u32 {a : Int} (h : (Lit.int .u32 a).wf = true) : 0 ≤ a ∧ a ≤ 4294967295 := by
  simp [Lit.wf, IntKind.min, IntKind.max, IntKind.signed, IntKind.bits] at h
  omega
theorem bd_i64 {a : Int} (h : (Lit.int .i64 a).wf = true) : -9223372036854775808 ≤ a ∧ a ≤ 9223372036854775807 := by
  simp [Lit.wf, IntKind.min, IntKind.max, IntKind.signed, IntKind.bits] at h
  omega
end Go.Proofs.YtgilkbmipgejeaaDoor.Num
/- Arrays of bytes as values, and their loads: nothing of the program. -/
namespace Go.Proofs.YtgilkbmipgejeaaDoor
open Go.RowKit Num
set_option linter.unusedVariables false

/-- The cells of a list of bytes. -/
def arr (L : List Int) : Array Value := (L.map (Value.int .u8)).toArray
theorem arr_size (L : List Int) : (arr L).size = L.length := by simp [arr]
theorem arr_get (L : List Int) (j : Nat) (h : j < L.length) : (arr L)[j]? = some (.int .u8 L[j]) := by simp [arr, h]

/-- The load of a whole array, whose cells lie one after the other from an address on. -/
theorem wpList_load_part {P : Program} {ops : Array Oper} {rest : List Oper} {o : Oper} {a : Act} {w : World} {Q : Exit → Act → World → Prop} (hgd : o.guard = none) (ty : TypeId) (x : Operand) (ho : o.op = .load ty x)
    (ad : Addr) (hx : a.eval x = .pointer (some ad)) (L : List Int) (d : TypeDesc) (hc : ∀ j (h : j < L.length), w.cell? (ad.add j) = some (.int .u8 L[j]))
    (hu : P.underlying ty = some d) (hd : (match d with | .struct _ | .array _ _ => true | _ => false) = true) (hi : (P.info? ty).map (·.size) = some L.length)
    (h : wpList P ops Q rest (a.put o.dst (.agg (arr L))) w) : wpList P ops Q (o :: rest) a w := by
  have hl : (loadCells ad (L.map (Value.int .u8)).length).run P w = .ok (L.map (Value.int .u8)).toArray w :=
    run_loadCells_list (P := P) w ad (L.map (Value.int .u8)) (fun j v hv => by
      rw [List.getElem?_map] at hv
      by_cases hj : j < L.length
      · rw [List.getElem?_eq_getElem hj] at hv
        rw [hc j hj]
        exact hv
      · rw [List.getElem?_eq_none (Nat.le_of_not_lt hj)] at hv
        cases hv)
  rw [List.length_map] at hl
  refine wpList_plain hgd fun K hK => ?_
  have hlv : (loadVar ty ad).run P w = .ok (.agg (arr L)) w := by
    cases hq : P.info? ty with
    | none => simp [hq] at hi
    | some i =>
      have hs : i.size = L.length := by simpa [hq] using hi
      have hagg : (isAgg ty).run P w = .ok true w := by
        unfold isAgg
        rw [Sem.run_bind, run_underlying hu w]
        cases d <;> simp_all
      simp [loadVar, Sem.run_bind, hagg, sizeOf, typeInfo, hq, hs, hl, arr]
  unfold Oper.wp execOp
  simp only [ho, hx, Instr.loadAt, Instr.sureAddr, Sem.run_bind, Sem.run_pure, Result.andThen_ok, hlv]
  exact hK _ _ h

/-- A block of another type is not a row's own block. -/
theorem block_not_row {W : World} {B : Nat} {t e : TypeId} {cs : Array Value} (h : W.heap[B]? = some (.cells cs t (0, 0))) (hte : t ≠ e) {base size k : Nat} {v : Value} {xs : List Value} (hr : W.ownsRow base e size v k xs) : some B ≠ v.ownBlock := by
  rcases hr.2 with ⟨rfl, _⟩ | ⟨g, cap, cur, rfl, _, hg, _⟩
  · intro c; simp [Value.ownBlock] at c
  · intro c
    simp only [Value.ownBlock, Option.some.injEq] at c
    subst c
    rw [hg] at h
    simp only [Option.some.injEq, Obj.cells.injEq] at h
    exact hte h.2.1.symm
theorem block_kept {w w' : World} {B : Nat} {o : Obj} {row : Option Nat} (tmp : Obj) (h : w.heap[B]? = some o) (hg : (w.alloc tmp).grownBy w' row) (hne : some B ≠ row) : w'.heap[B]? = some o := by
  have hlt : B < w.heap.size := (Array.getElem?_eq_some_iff.1 h).1
  rw [hg.block B (by simp; omega) hne, heap_alloc_old w tmp hlt]
  exact h
theorem take_step {X : List Int} {k : Nat} (h : k < X.length) : X.take (k + 1) = X.take k ++ [X[k]] := by simp
/-- A call that hands back a new slice of the bytes L. -/
def Gives (ty : TypeId) (L : List Int) (w : World) (e : Ending) (w' : World) : Prop := ∃ v, e = .returned v ∧ w'.ownsRow w.heap.size ty 1 v L.length (L.map (Value.int .u8)) ∧ Below w.heap.size w w'
end Go.Proofs.YtgilkbmipgejeaaDoor
/- Slices of bytes that read as lists; copies of them; what a write leaves alone. Of the program: the types of bytes only. -/
namespace Go.Proofs.YtgilkbmipgejeaaDoor
open Go.RowKit Num
set_option linter.unusedVariables false

theorem infoByte : (Tryd.prog.info? 5).map (fun i => (i.zero, i.size, i.bytes)) = some (some (.int .u8 0), 1, 1) := by kernel_rfl

/-- Two worlds that agree but for the blocks p and g, and new ones. -/
structure Apart (p : Nat) (g : Option Nat) (w w' : World) : Prop where
  os : w'.os = w.os
  tape : w'.tape = w.tape
  output : w'.output = w.output
  size : w.heap.size ≤ w'.heap.size
  block : ∀ k, k < w.heap.size → k ≠ p → some k ≠ g → w'.heap[k]? = w.heap[k]?
section
variable {p : Nat} {g : Option Nat} {u w w' : World}
theorem Apart.refl : Apart p g w w := ⟨rfl, rfl, rfl, Nat.le_refl _, fun _ _ _ _ => rfl⟩
theorem Apart.trans (h : Apart p g u w) (k : Apart p g w w') : Apart p g u w' :=
  ⟨k.os.trans h.os, k.tape.trans h.tape, k.output.trans h.output, Nat.le_trans h.size k.size, fun i hi h1 h2 => (k.block i (Nat.lt_of_lt_of_le hi h.size) h1 h2).trans (h.block i hi h1 h2)⟩
theorem Apart.drew (h : Apart p g u w) : Apart p g u w.drew := ⟨h.os, h.tape, h.output, h.size, h.block⟩
theorem Apart.of_grown (h : w.grownBy w' g) : Apart p g w w' := ⟨h.os, h.tape, h.output, h.size, fun k hk _ hg => h.block k hk hg⟩
theorem Apart.of_below (h : Below w.heap.size w w') : Apart p g w w' := ⟨h.os, h.tape, h.output, h.size, fun k hk _ _ => h.block k hk⟩
theorem Apart.setRow (cs : Array Value) : Apart p g w (w.setRow p cs) := ⟨rfl, rfl, rfl, by simp [World.setRow], fun k hk hp _ => setRow_other w p k cs hp⟩
theorem Apart.setCell (o : Nat) (v : Value) : Apart p g w (w.setCell ⟨p, o, none⟩ v) := ⟨rfl, rfl, rfl, by simp, fun k hk hp _ => Below.heap_setCell w _ v k hp⟩
theorem Apart.below (h : Apart p g w w') {B : Nat} (hB : B ≤ w.heap.size) (hp : B ≤ p) (hg : ∀ k, g = some k → B ≤ k) : Below B w w' :=
  ⟨h.os, h.tape, h.output, h.size, fun k hk => h.block k (by omega) (by omega) (fun e => by have := hg k e.symm; omega)⟩
end

/-- The slice at A reads as the bytes L. -/
def Rd (w : World) (A : Option Addr) (L : List Int) : Prop := L ≠ [] → ∃ ad, A = some ad ∧ ad.block < w.heap.size ∧ ∀ j (h : j < L.length), w.cell? (ad.add j) = some (.int .u8 L[j])
theorem add_block (a : Addr) (n : Nat) : (a.add n).block = a.block := by unfold Addr.add; split <;> rfl
theorem add_add (a : Addr) (i j : Nat) : (a.add i).add j = a.add (i + j) := by
  unfold Addr.add
  by_cases hi : i = 0 <;> by_cases hj : j = 0 <;> simp [hi, hj, Nat.add_assoc]
theorem add_pl (g o j : Nat) : (⟨g, o, none⟩ : Addr).add j = ⟨g, o + j, none⟩ := by unfold Addr.add; split <;> simp_all
section
variable {w w' : World} {A : Option Addr} {L : List Int}
theorem Rd.nil : Rd w A [] := fun h => absurd rfl h
theorem Rd.at_ (h : Rd w A L) {k : Nat} (hk : k < L.length) : ∃ ad, A = some ad ∧ ad.block < w.heap.size ∧ w.cell? (ad.add k) = some (.int .u8 L[k]) := by
  obtain ⟨ad, e, hb, hc⟩ := h (by rintro rfl; simp at hk)
  exact ⟨ad, e, hb, hc k hk⟩
theorem Rd.block_lt' (h : Rd w A L) (hne : L ≠ []) {ad : Addr} (e : A = some ad) : ad.block < w.heap.size := by
  obtain ⟨ad', e', hb, _⟩ := h hne
  rw [e] at e'
  injection e' with e'
  rw [e']
  exact hb
theorem Rd.keep (h : Rd w A L) (hs : w.heap.size ≤ w'.heap.size) (hk : ∀ ad, A = some ad → ad.block < w.heap.size → w'.heap[ad.block]? = w.heap[ad.block]?) : Rd w' A L := fun hne => by
  obtain ⟨ad, rfl, hb, hc⟩ := h hne
  exact ⟨ad, rfl, by omega, fun j hj => (World.cell?_of_block (a := ad.add j) (by rw [add_block]; exact hk ad rfl hb)).trans (hc j hj)⟩
theorem Rd.below (h : Rd w A L) (hb : Below w.heap.size w w') : Rd w' A L := fun hne => by
  obtain ⟨ad, rfl, hlt, hc⟩ := h hne
  exact ⟨ad, rfl, Nat.lt_of_lt_of_le hlt hb.size, fun j hj => (hb.cell (p := ad.add j) (by rw [add_block]; exact hlt)).trans (hc j hj)⟩
theorem Rd.of_row (h : Row (Value.int .u8) w A L) : Rd w A L := fun hne => by
  obtain ⟨b, o, rfl, hb, hc⟩ := h hne
  exact ⟨_, rfl, hb, fun j hj => by rw [add_pl]; exact hc j hj⟩
theorem Rd.cut (h : Rd w A L) {k cap : Nat} (hc : L.length ≤ cap) : Rd w (if cap = k then A else A.map (·.add k)) (L.drop k) := fun hne => by
  have hk : k < L.length := by
    rcases Nat.lt_or_ge k L.length with h1 | h1
    · exact h1
    · exact absurd (List.drop_eq_nil_of_le h1) hne
  obtain ⟨ad, rfl, hlt, hcell⟩ := h (by rintro rfl; simp at hk)
  rw [if_neg (by omega)]
  refine ⟨ad.add k, rfl, by rw [add_block]; exact hlt, fun j hj => ?_⟩
  rw [List.length_drop] at hj
  rw [add_add, hcell (k + j) (by omega), List.getElem_drop]
end
/-- A row of the call's own lies in a block of its element's type. -/
theorem own_rd {w : World} {base : Nat} {e : TypeId} {n c : Nat} {A : Option Addr} {L : List Int} (h : w.ownsRow base e 1 (.slice A n c) n (L.map (Value.int .u8))) : Rd w A L := Rd.of_row (Row.of_own h)
/-- A row of the call's own is kept where its block is not written. -/
theorem own_apart {w w' : World} {base size n : Nat} {e : TypeId} {v : Value} {xs : List Value} {p : Nat} {g : Option Nat} (h : w.ownsRow base e size v n xs) (ha : Apart p g w w')
    (hp : v.ownBlock ≠ some p) (hg : ∀ k, g = some k → v.ownBlock ≠ some k) : w'.ownsRow base e size v n xs := by
  refine ⟨h.1, h.2.imp id ?_⟩
  rintro ⟨b, cap, cur, rfl, hb, hh, r⟩
  refine ⟨b, cap, cur, rfl, hb, (ha.block b ((Array.getElem?_eq_some_iff.1 hh).1) (fun e => hp (by rw [← e]; rfl)) (fun e => hg b e.symm rfl)).trans hh, r⟩
theorem own_tag {w : World} {base size n : Nat} {e t : TypeId} {v : Value} {xs : List Value} {b : Nat} {cs : Array Value} {fr : Nat × Nat} (h : w.ownsRow base e size v n xs) (hb : w.heap[b]? = some (.cells cs t fr)) (hne : e ≠ t) : v.ownBlock ≠ some b := by
  rcases h.2 with ⟨rfl, _⟩ | ⟨g, cap, cur, rfl, _, hh, _⟩
  · intro c; cases c
  · intro c
    injection c with c
    have c : g = b := c
    subst c
    rw [hh] at hb
    injection hb with hb
    injection hb with _ ht _
    exact hne ht
theorem own_block {w : World} {base size n : Nat} {e : TypeId} {v : Value} {xs : List Value} (h : w.ownsRow base e size v n xs) {b : Nat} (hb : v.ownBlock = some b) : base ≤ b ∧ ∃ cs, w.heap[b]? = some (.cells cs e (0, 0)) := by
  rcases h.2 with ⟨rfl, _⟩ | ⟨g, cap, cur, rfl, hg, hh, _⟩
  · cases hb
  · injection hb with hb
    have hb : g = b := hb
    subst hb
    exact ⟨hg, cur, hh⟩

/-- A copy whose run is known. -/
theorem wp_copy_run {o : Oper} {a : Act} {w w' : World} {K : Act → World → Prop} {Q : Exit → Act → World → Prop} (d s : Operand)
    (ho : o.op = .call { callee := .builtin .copy, args := #[d, s], argTypes := #[22, 22] }) (ty : TypeId) (ht : o.type = ty) (X Y r : Value) (hd : a.eval d = X) (hs : a.eval s = Y)
    (hrun : (Builtin.copy_ #[22, 22] ty #[X, Y]).run Tryd.prog w = .ok r w') (t : Nat) (hdst : o.dst = some t) (h : K ⟨a.tmps.setIfInBounds t r, a.defers⟩ w') : o.wp Tryd.prog a w K Q := by
  subst ht
  replace h : K (a.put o.dst r) w' := by rw [hdst]; exact h
  unfold Oper.wp
  simp [execOp, ho, resolve, invoke, builtin, hd, hs, hrun, Result.andThen]
  exact h
/-- A copy into a block, from a place on; the source nil or not. -/
theorem run_copy_gen {w : World} (ty : TypeId) (p off n c : Nat) (dp : Option Addr) (hdp : 0 < n → dp = some ⟨p, off, none⟩) (A : Option Addr) (m k d : Nat) (hd : d = min m n)
    (L : List Int) (hL : L.length = m) (hR : Rd w A L) (cur : List Value) (t : TypeId) (hp : w.heap[p]? = some (.cells cur.toArray t (0, 0))) (hn : off + n ≤ cur.length) :
    ∃ w', (Builtin.copy_ #[22, 22] ty #[.slice dp n c, .slice A m k]).run Tryd.prog w = .ok (.int .i64 (d : Int)) w' ∧ w'.heap[p]? = some (.cells (splice cur off ((L.take n).map (Value.int .u8))).toArray t (0, 0)) ∧ ∀ g, Apart p g w w' := by
  have hl : ((L.take n).map (Value.int .u8)).length = d := by rw [List.length_map, List.length_take, hL, hd]; exact Nat.min_comm _ _
  have hu : Tryd.prog.underlying 22 = some (.slice 5) := Tryd.underlying22
  have hz : (Tryd.prog.info? 5).map (·.size) = some 1 := by kernel_rfl
  have hmn : Nat.min m n = d := hd.symm
  by_cases h0 : d = 0
  · have hrun := run_copy_none (P := Tryd.prog) w 22 22 ty 5 dp A n c m k hu hz (by rw [hmn, h0])
    have e0 : L.take n = [] := List.eq_nil_of_length_eq_zero (by rw [List.length_map] at hl; omega)
    refine ⟨w, by rw [hrun, h0]; rfl, by rw [e0]; simpa [splice] using hp, fun g => Apart.refl⟩
  · obtain rfl := hdp (by omega)
    obtain ⟨ad, rfl, hb, hc⟩ := hR (by rintro rfl; simp at hL; omega)
    have hrun := run_copy_row (P := Tryd.prog) w 22 22 ty 5 p off n c ad m k cur.toArray t ((L.take n).map (Value.int .u8)) hu hz hp (by rw [hl, hmn])
      (fun j x hx => by
        rw [List.getElem?_map] at hx
        by_cases hj : j < (L.take n).length
        · rw [List.getElem?_eq_getElem hj] at hx
          have hj2 : j < L.length := by rw [List.length_take] at hj; omega
          rw [hc j hj2, ← hx, List.getElem_take]
          rfl
        · rw [List.getElem?_eq_none (by omega)] at hx
          cases hx)
      (by rw [hl]; simp; omega) (fun x hx => by obtain ⟨y, _, rfl⟩ := List.mem_map.1 hx; rfl)
    have e1 : cur.toArray.toList.take off ++ (L.take n).map (Value.int .u8) ++ cur.toArray.toList.drop (off + ((L.take n).map (Value.int .u8)).length) = splice cur off ((L.take n).map (Value.int .u8)) := by
      unfold splice
      rw [List.append_assoc]
    rw [e1, hl] at hrun
    exact ⟨_, hrun, setRow_heap w p _ _ _ _ hp, fun g => Apart.setRow _⟩
/-- A copy into a new row of bytes. -/
theorem run_copy_bytes {w : World} (ty : TypeId) (p off n c : Nat) (dp : Option Addr) (hdp : 0 < n → dp = some ⟨p, off, none⟩) (A : Option Addr) (m k d : Nat) (hd : d = min m n)
    (L : List Int) (hL : L.length = m) (hR : Rd w A L) (Z : List Int) (t : TypeId) (hp : w.heap[p]? = some (.cells (arr Z) t (0, 0))) (hn : off + n ≤ Z.length) :
    ∃ w', (Builtin.copy_ #[22, 22] ty #[.slice dp n c, .slice A m k]).run Tryd.prog w = .ok (.int .i64 (d : Int)) w' ∧ w'.heap[p]? = some (.cells (arr (splice Z off (L.take n))) t (0, 0)) ∧ ∀ g, Apart p g w w' := by
  obtain ⟨w', h0, h1, h2⟩ := run_copy_gen ty p off n c dp hdp A m k d hd L hL hR (Z.map (Value.int .u8)) t hp (by simpa using hn)
  refine ⟨w', h0, ?_, h2⟩
  rw [h1, splice_map]
  rfl
theorem int_cells (L : List Int) : ∀ u ∈ L.map (Value.int .u8), u.oneCell' = true := fun u hu => by
  obtain ⟨y, _, rfl⟩ := List.mem_map.1 hu
  rfl
theorem rd_cells {w : World} {ad : Addr} {L : List Int} (hc : ∀ j (h : j < L.length), w.cell? (ad.add j) = some (.int .u8 L[j])) : ∀ j u, (L.map (Value.int .u8))[j]? = some u → w.cell? (ad.add j) = some u := fun j u hu => by
  rw [List.getElem?_map] at hu
  by_cases hj : j < L.length
  · rw [List.getElem?_eq_getElem hj] at hu
    rw [hc j hj]
    exact hu
  · rw [List.getElem?_eq_none (by omega)] at hu
    cases hu
set_option maxRecDepth 100000 in
theorem make_bytes (n : Nat) (x : Int) (hx : x = n) (hn : n ≤ 1000000) (w : World) : (Instr.makeSlice 22 (.int .i64 x) (.int .i64 x)).run Tryd.prog w = .ok (.slice (some ⟨w.heap.size, 0, none⟩) n n) (w.alloc (.cells (arr (List.replicate n 0)) 5)) := by
  subst hx
  obtain ⟨i0, hi, hz0, hz1, hz2⟩ := info_parts infoByte
  have h := run_make_row (P := Tryd.prog) 22 5 i0 (.int .u8 0) Tryd.underlying22 hi hz0 hz1 rfl .i64 .i64 n (by rw [hz2]; omega) (by omega) w
  rw [h]
  congr 3
  apply Array.ext'
  unfold arr
  rw [toList_madeCells_one, List.map_replicate]
set_option maxRecDepth 100000 in
theorem cut_row (g n d : Nat) (hd : d ≤ n) (D : Option Addr) (hD : D = if n = d then some ⟨g, 0, none⟩ else some ⟨g, d, none⟩) (w : World) :
    (Instr.sliceAt 22 (.slice (some ⟨g, 0, none⟩) n n) (some (.int .i64 (d : Int))) none none).run Tryd.prog w = .ok (.slice D (n - d) (n - d)) w := by
  rw [run_sliceAt_slice (P := Tryd.prog) w 22 _ _ _ _ Tryd.underlying22, run_slice_l (P := Tryd.prog) w 22 _ n n Tryd.underlying22 .i64 d (by omega) (by omega), hD]
  show Result.ok (sliced _ _ _ _ 1) w = _
  unfold sliced
  by_cases h : n = d
  · subst h
    simp
  · rw [if_neg (by simpa using h), if_neg h]
    simp [add_pl]
end Go.Proofs.YtgilkbmipgejeaaDoor
/- What is kept where only the blocks of a set are written. Of the program: the types of bytes only. -/
namespace Go.Proofs.YtgilkbmipgejeaaDoor
open Go.RowKit Num
set_option linter.unusedVariables false

/-- Two worlds that agree but for the blocks of O, and new ones. -/
structure Kept (O : Nat → Prop) (w w' : World) : Prop where
  os : w'.os = w.os
  tape : w'.tape = w.tape
  output : w'.output = w.output
  size : w.heap.size ≤ w'.heap.size
  block : ∀ k, k < w.heap.size → ¬ O k → w'.heap[k]? = w.heap[k]?
/-- A set that has grown by new blocks only. -/
def Grew (O O' : Nat → Prop) (n : Nat) : Prop := ∀ k, O' k → O k ∨ n ≤ k
section
variable {O O' O2 : Nat → Prop} {u w w' : World} {n m : Nat}
theorem Grew.refl : Grew O O n := fun _ h => .inl h
theorem Grew.trans (h : Grew O O' n) (h2 : Grew O' O2 m) (hm : n ≤ m) : Grew O O2 n := fun k hk => by
  rcases h2 k hk with h3 | h3
  · exact h k h3
  · exact .inr (Nat.le_trans hm h3)
theorem Grew.away (h : Grew O O' n) {k : Nat} (hk : k < n) (ho : ¬ O k) : ¬ O' k := fun c => by
  rcases h k c with h1 | h1
  · exact ho h1
  · omega
theorem Grew.above (h : Grew O O' n) {B : Nat} (hB : B ≤ n) (ho : ∀ k, O k → B ≤ k) : ∀ k, O' k → B ≤ k := fun k hk => by
  rcases h k hk with h1 | h1
  · exact ho k h1
  · omega
theorem Kept.refl : Kept O w w := ⟨rfl, rfl, rfl, Nat.le_refl _, fun _ _ _ => rfl⟩
theorem Kept.mono (h : Kept O w w') (ho : ∀ k, k < w.heap.size → O k → O' k) : Kept O' w w' := ⟨h.os, h.tape, h.output, h.size, fun k hk hn => h.block k hk fun c => hn (ho k hk c)⟩
theorem Kept.trans (h : Kept O u w) (k : Kept O' w w') (hg : Grew O O' u.heap.size) : Kept O u w' :=
  ⟨k.os.trans h.os, k.tape.trans h.tape, k.output.trans h.output, Nat.le_trans h.size k.size, fun i hi hn => (k.block i (Nat.lt_of_lt_of_le hi h.size) (hg.away hi hn)).trans (h.block i hi hn)⟩
theorem Kept.of_below (h : Below w.heap.size w w') : Kept O w w' := ⟨h.os, h.tape, h.output, h.size, fun k hk _ => h.block k hk⟩
theorem Kept.of_apart {p : Nat} {g : Option Nat} (h : Apart p g w w') : Kept (fun k => k = p ∨ some k = g) w w' := ⟨h.os, h.tape, h.output, h.size, fun k hk hn => h.block k hk (fun e => hn (.inl e)) (fun e => hn (.inr e))⟩
theorem Kept.below (h : Kept O w w') {B : Nat} (hB : B ≤ w.heap.size) (ho : ∀ k, O k → B ≤ k) : Below B w w' :=
  ⟨h.os, h.tape, h.output, h.size, fun k hk => h.block k (by omega) fun c => by have := ho k c; omega⟩
theorem Kept.cell (h : Kept O w w') {a : Addr} (ha : a.block < w.heap.size) (hn : ¬ O a.block) : w'.cell? a = w.cell? a := World.cell?_of_block (h.block _ ha hn)
theorem Rd.kept {A : Option Addr} {L : List Int} (h : Rd w A L) (k : Kept O w w') (hn : ∀ ad, A = some ad → ¬ O ad.block) : Rd w' A L := h.keep k.size fun ad e hlt => k.block _ hlt (hn ad e)
theorem own_kept {base size len : Nat} {e : TypeId} {v : Value} {xs : List Value} (h : w.ownsRow base e size v len xs) (k : Kept O w w') (hn : ∀ b, v.ownBlock = some b → ¬ O b) : w'.ownsRow base e size v len xs := by
  refine ⟨h.1, h.2.imp id ?_⟩
  rintro ⟨b, cap, cur, rfl, hb, hh, r⟩
  exact ⟨b, cap, cur, rfl, hb, (k.block b (Array.getElem?_eq_some_iff.1 hh).1 (hn b rfl)).trans hh, r⟩
end
end Go.Proofs.YtgilkbmipgejeaaDoor
/- The bytes of the fonts, their glyphs, and digits of base 16: plain lists. -/
namespace Go.Proofs.YtgilkbmipgejeaaDoor
set_option linter.unusedVariables false

def smallL : List Int := [240, 144, 144, 144, 240, 32, 96, 32, 32, 112, 240, 16, 240, 128, 240, 240, 16, 240, 16, 240, 144, 144, 240, 16, 16, 240, 128, 240, 16, 240, 240, 128, 240, 144, 240, 240, 16, 32, 64, 64, 240, 144, 240, 144, 240, 240, 144, 240, 16, 240, 240, 144, 240, 144, 144, 224, 144, 224, 144, 224, 240, 128, 128, 128, 240, 224, 144, 144, 144, 224, 240, 128, 240, 128, 240, 240, 128, 240, 128, 128]
def bigL : List Int := [60, 126, 231, 195, 195, 195, 195, 231, 126, 60, 24, 56, 88, 24, 24, 24, 24, 24, 24, 60, 62, 127, 195, 6, 12, 24, 48, 96, 255, 255, 60, 126, 195, 3, 14, 14, 3, 195, 126, 60, 6, 14, 30, 54, 102, 198, 255, 255, 6, 6, 255, 255, 192, 192, 252, 254, 3, 195, 126, 60, 62, 124, 224, 192, 252, 254, 195, 195, 126, 60, 255, 255, 3, 6, 12, 24, 48, 96, 96, 96, 60, 126, 195, 195, 126, 126, 195, 195, 126, 60, 60, 126, 195, 195, 127, 63, 3, 3, 62, 124, 126, 255, 195, 195, 195, 255, 255, 195, 195, 195, 252, 252, 195, 195, 252, 252, 195, 195, 252, 252, 60, 255, 195, 192, 192, 192, 192, 195, 255, 60, 252, 254, 195, 195, 195, 195, 195, 195, 254, 252, 255, 255, 192, 192, 255, 255, 192, 192, 255, 255, 255, 255, 192, 192, 255, 255, 192, 192, 192, 192]
/-- The small and the big glyph of a digit. -/
def smallG (k : Nat) : List Int := (smallL.drop (5 * k)).take 5
def bigG (k : Nat) : List Int := (bigL.drop (10 * k)).take 10
theorem smallL_len : smallL.length = 80 := by decide +kernel
theorem bigL_len : bigL.length = 160 := by decide +kernel
theorem smallG_len {k : Nat} (h : k < 16) : (smallG k).length = 5 := by simp [smallG, smallL_len]; omega
theorem bigG_len {k : Nat} (h : k < 16) : (bigG k).length = 10 := by simp [bigG, bigL_len]; omega
theorem small_take (k : Nat) : smallL.take (5 * (k + 1)) = smallL.take (5 * k) ++ smallG k := by rw [Nat.mul_add]; exact List.take_add
theorem big_take (k : Nat) : bigL.take (10 * (k + 1)) = bigL.take (10 * k) ++ bigG k := by rw [Nat.mul_add]; exact List.take_add
theorem smallG_get {k j : Nat} (hj : j < (smallG k).length) (h : 5 * k + j < smallL.length) : (smallG k)[j] = smallL[5 * k + j] := by simp [smallG]
theorem bigG_get {k j : Nat} (hj : j < (bigG k).length) (h : 10 * k + j < bigL.length) : (bigG k)[j] = bigL[10 * k + j] := by simp [bigG]
theorem five {L : List Int} (h : L.length = 5) : ∃ x0 x1 x2 x3 x4, L = [x0, x1, x2, x3, x4] := by
  match L, h with
  | [x0, x1, x2, x3, x4], _ => exact ⟨x0, x1, x2, x3, x4, rfl⟩
theorem ten {L : List Int} (h : L.length = 10) : ∃ x0 x1 x2 x3 x4 x5 x6 x7 x8 x9, L = [x0, x1, x2, x3, x4, x5, x6, x7, x8, x9] := by
  match L, h with
  | [x0, x1, x2, x3, x4, x5, x6, x7, x8, x9], _ => exact ⟨x0, x1, x2, x3, x4, x5, x6, x7, x8, x9, rfl⟩
/-- Different digits have different glyphs. -/
theorem smallG_ne : ∀ m n : Fin 16, decide (smallG m = smallG n) = decide (m = n) := by decide +kernel
theorem bigG_ne : ∀ m n : Fin 16, decide (bigG m = bigG n) = decide (m = n) := by decide +kernel
/-- The shapes. -/
theorem small_shape : ∀ k : Fin 16, (smallG k).all (fun x => decide (0 < x) && decide (x ≤ 255) && decide (x % 16 = 0)) = true ∧ (k.val = 1 ∨ k.val = 4 ∨ (smallG k).all (fun _ => decide (224 ≤ (smallG k).headD 0)) = true) := by decide +kernel
theorem big_shape : ∀ k : Fin 16, (bigG k).all (fun x => decide (0 < x) && decide (x ≤ 255)) = true := by decide +kernel

/-- The value of a digit. -/
def dig (c : Int) : Int := if 65 ≤ c then c - 55 else c - 48
theorem dig_range {c : Int} (h0 : 0 ≤ c) (h1 : c ≤ 255) : -48 ≤ dig c ∧ dig c ≤ 200 := by unfold dig; split <;> omega
def chr (s : ByteArray) (j : Nat) : Int := if h : j < s.size then (s[j].toNat : Int) else 0
theorem chr_range (s : ByteArray) (j : Nat) : 0 ≤ chr s j ∧ chr s j ≤ 255 := by
  unfold chr
  split
  · have := (s[j]).toNat_lt; omega
  · omega
/-- The first n bytes of a text of digits. -/
def hexB (s : ByteArray) (k : Nat) : Int := (16 * dig (chr s (2 * k)) + dig (chr s (2 * k + 1))) % 256
def hexL (s : ByteArray) (n : Nat) : List Int := (List.range n).map (hexB s)
theorem hexL_len (s : ByteArray) (n : Nat) : (hexL s n).length = n := by simp [hexL]
theorem hexL_succ (s : ByteArray) (n : Nat) : hexL s (n + 1) = hexL s n ++ [hexB s n] := by simp [hexL, List.range_succ]
end Go.Proofs.YtgilkbmipgejeaaDoor
/- Lists of 65536 bytes, and bytes laid over them with wrapping: nothing of the program. -/
namespace Go.Proofs.YtgilkbmipgejeaaDoor
set_option linter.unusedVariables false

/-- The bytes b laid over the memory M from the address a on. -/
def put (M : List Int) (a : Int) : List Int → List Int
  | [] => M
  | x :: b => put (M.set (a % 65536).toNat x) (a + 1) b
theorem put_nil (M : List Int) (a : Int) : put M a [] = M := rfl
theorem put_cons (M : List Int) (a x : Int) (b : List Int) : put M a (x :: b) = put (M.set (a % 65536).toNat x) (a + 1) b := rfl
theorem put_len (b : List Int) : ∀ (M : List Int) (a : Int), (put M a b).length = M.length := by
  induction b with
  | nil => intro M a; rfl
  | cons x b ih => intro M a; rw [put_cons, ih, List.length_set]
theorem put_append (b c : List Int) : ∀ (M : List Int) (a : Int), put M a (b ++ c) = put (put M a b) (a + b.length) c := by
  induction b with
  | nil => intro M a; simp [put_nil]
  | cons x b ih =>
    intro M a
    rw [List.cons_append, put_cons, put_cons, ih]
    congr 1
    simp
    omega
theorem put_snoc (M : List Int) (a : Int) (b : List Int) (x : Int) : put M a (b ++ [x]) = (put M a b).set ((a + b.length) % 65536).toNat x := by
  rw [put_append]
  rfl
theorem put_get (b : List Int) : ∀ (M : List Int) (a : Int) (hb : b.length ≤ 65536) (hM : M.length = 65536) (j : Nat) (hj : j < 65536),
    (put M a b)[j]? = if (((j : Int) - a) % 65536).toNat < b.length then b[(((j : Int) - a) % 65536).toNat]? else M[j]? := by
  induction b with
  | nil => intro M a hb hM j hj; simp [put_nil]
  | cons x b ih =>
    intro M a hb hM j hj
    simp only [List.length_cons] at hb ⊢
    rw [put_cons, ih _ _ (by omega) (by rw [List.length_set]; exact hM) j hj]
    by_cases h0 : (((j : Int) - a) % 65536).toNat = 0
    · have e : (a % 65536).toNat = j := by omega
      rw [if_neg (by omega), if_pos (by omega), h0, e, List.getElem?_set_self (by omega)]
      rfl
    · obtain ⟨k, hk⟩ : ∃ k, (((j : Int) - a) % 65536).toNat = k + 1 := ⟨_, (Nat.succ_pred h0).symm⟩
      have e1 : (((j : Int) - (a + 1)) % 65536).toNat = k := by omega
      rw [hk, e1, List.getElem?_cons_succ, List.getElem?_set_ne (by omega)]
      by_cases h : k < b.length
      · rw [if_pos h, if_pos (by omega)]
      · rw [if_neg h, if_neg (by omega)]
/-- Beyond the memory's end nothing is. -/
theorem get_over {M : List Int} (hM : M.length = 65536) {j : Nat} (h : ¬ j < 65536) : M[j]? = none := List.getElem?_eq_none (by omega)

theorem ext_mem {M N : List Int} (hM : M.length = 65536) (hN : N.length = 65536) (h : ∀ j, j < 65536 → M[j]? = N[j]?) : M = N := by
  apply List.ext_getElem?
  intro j
  by_cases hj : j < 65536
  · exact h j hj
  · rw [get_over hM hj, get_over hN hj]

/-- A copy that does not leave the memory. -/
theorem splice_put (M b : List Int) (off : Nat) (hM : M.length = 65536) (h : off + b.length ≤ 65536) : splice M off b = put M off b := by
  refine ext_mem (by rw [splice_len _ _ _ (by omega)]; exact hM) (by rw [put_len]; exact hM) fun j hj => ?_
  rw [splice_get _ _ _ (by omega), put_get b M off (by omega) hM j hj]
  by_cases h1 : j < off
  · rw [if_pos h1, if_neg (by omega)]
  · rw [if_neg h1]
    by_cases h2 : j < off + b.length
    · rw [if_pos h2, if_pos (by omega)]
      congr 1
      omega
    · rw [if_neg h2, if_neg (by omega)]
/-- The two copies of a write. -/
theorem splice_write (M b : List Int) (a : Int) (at_ d : Nat) (ha : (a % 65536).toNat = at_) (hd : d = min b.length (65536 - at_)) (hM : M.length = 65536) (hb : b.length ≤ 65536) :
    splice (splice M at_ (b.take d)) 0 (b.drop d) = put M a b := by
  have l1 : (b.take d).length = d := by rw [List.length_take]; omega
  have l2 : (b.drop d).length = b.length - d := List.length_drop
  have l3 : (splice M at_ (b.take d)).length = 65536 := by rw [splice_len _ _ _ (by omega)]; exact hM
  refine ext_mem (by rw [splice_len _ _ _ (by omega)]; exact l3) (by rw [put_len]; exact hM) fun j hj => ?_
  rw [splice_get _ _ _ (by omega), splice_get _ _ _ (by omega), put_get b M a hb hM j hj, if_neg (by omega), l1, l2]
  by_cases h1 : j < b.length - d
  · rw [if_pos (by omega), if_pos (by omega), List.getElem?_drop]
    congr 1
    omega
  · rw [if_neg (by omega)]
    by_cases h2 : j < at_
    · rw [if_pos h2, if_neg (by omega)]
    · rw [if_neg h2]
      by_cases h3 : j < at_ + d
      · rw [if_pos h3, if_pos (by omega), List.getElem?_take, if_pos (by omega)]
        congr 1
        omega
      · rw [if_neg h3, if_neg (by omega)]

theorem splice_write2 (M b : List Int) (a : Int) (k d : Nat) (ha : a % 65536 = k) (hd : d = min b.length (65536 - k)) (hM : M.length = 65536) (hb : b.length ≤ 65536) :
    splice (splice M k (b.take (65536 - k))) 0 ((b.drop d).take 65536) = put M a b := by
  have e1 : (b.drop d).take 65536 = b.drop d := List.take_of_length_le (by rw [List.length_drop]; omega)
  have e2 : b.take (65536 - k) = b.take d := by
    by_cases h : b.length ≤ 65536 - k
    · rw [List.take_of_length_le h, List.take_of_length_le (by omega)]
    · have e : d = 65536 - k := by omega
      rw [e]
  rw [e1, e2]
  exact splice_write M b a k d (by omega) (by omega) hM hb

/-- The n bytes from the address a on. -/
def seg (M : List Int) (a : Int) (n : Nat) : List Int := (List.range n).map fun i : Nat => M.getD ((a + (i : Int)) % 65536).toNat 0
theorem seg_len (M : List Int) (a : Int) (n : Nat) : (seg M a n).length = n := by simp [seg]
theorem seg_succ (M : List Int) (a : Int) (n : Nat) : seg M a (n + 1) = seg M a n ++ [M.getD ((a + (n : Int)) % 65536).toNat 0] := by simp [seg, List.range_succ]
theorem seg_get (M : List Int) (a : Int) (n j : Nat) (hM : M.length = 65536) (hj : j < n) : (seg M a n)[j]? = M[((a + (j : Int)) % 65536).toNat]? := by
  have h : ((a + (j : Int)) % 65536).toNat < M.length := by omega
  simp [seg, hj, h]
/-- The two copies of a read. -/
theorem splice_read (M Z : List Int) (a : Int) (at_ n d : Nat) (ha : (a % 65536).toNat = at_) (hd : d = min (65536 - at_) n) (hM : M.length = 65536) (hn : n ≤ 65536) (hZ : Z.length = n) :
    splice (splice Z 0 ((M.drop at_).take d)) d (M.take (n - d)) = seg M a n := by
  have l1 : ((M.drop at_).take d).length = d := by rw [List.length_take, List.length_drop]; omega
  have l2 : (M.take (n - d)).length = n - d := by rw [List.length_take]; omega
  have l3 : (splice Z 0 ((M.drop at_).take d)).length = n := by rw [splice_len _ _ _ (by omega)]; exact hZ
  apply List.ext_getElem?
  intro j
  by_cases hj : j < n
  · rw [seg_get M a n j hM hj, splice_get _ _ _ (by omega), splice_get _ _ _ (by omega), l1, l2]
    by_cases h1 : j < d
    · rw [if_pos h1, if_neg (by omega), if_pos (by omega), List.getElem?_take, if_pos (by omega), List.getElem?_drop]
      congr 1
      omega
    · rw [if_neg h1, if_pos (by omega), List.getElem?_take, if_pos (by omega)]
      congr 1
      omega
  · rw [List.getElem?_eq_none (by rw [splice_len _ _ _ (by omega)]; omega), List.getElem?_eq_none (by rw [seg_len]; omega)]
theorem splice_read2 (M Z : List Int) (a : Int) (k n d : Nat) (ha : a % 65536 = k) (hd : d = min (65536 - k) n) (hM : M.length = 65536) (hn : n ≤ 65536) (hZ : Z.length = n) :
    splice (splice Z 0 ((M.drop k).take n)) d (M.take (n - d)) = seg M a n := by
  have e : (M.drop k).take n = (M.drop k).take d := by
    by_cases h : n ≤ 65536 - k
    · have e : d = n := by omega
      rw [e]
    · rw [List.take_of_length_le (by rw [List.length_drop]; omega), List.take_of_length_le (by rw [List.length_drop]; omega)]
  rw [e]
  exact splice_read M Z a k n d (by omega) (by omega) hM hn hZ
theorem seg_all (M : List Int) (hM : M.length = 65536) : seg M 0 65536 = M := by
  refine ext_mem (seg_len _ _ _) hM fun j hj => ?_
  rw [seg_get M 0 _ j hM hj]
  congr 1
  omega
/-- What was written is read. -/
theorem seg_put (M b : List Int) (a : Int) (hM : M.length = 65536) (hb : b.length ≤ 65536) : seg (put M a b) a b.length = b := by
  apply List.ext_getElem?
  intro j
  by_cases hj : j < b.length
  · rw [seg_get _ _ _ _ (by rw [put_len]; exact hM) hj, put_get b M a hb hM _ (by omega)]
    have e : (((((a + (j : Int)) % 65536).toNat : Nat) : Int) - a) % 65536 = j := by omega
    rw [e, if_pos (by omega)]
    simp
  · rw [List.getElem?_eq_none (by rw [seg_len]; omega), List.getElem?_eq_none (by omega)]
/-- A second write to the same place, not shorter. -/
theorem put_put (M b c : List Int) (a : Int) (hM : M.length = 65536) (hb : b.length ≤ 65536) (h : c.length ≤ b.length) : put (put M a c) a b = put M a b := by
  have l1 : (put M a c).length = 65536 := by rw [put_len]; exact hM
  refine ext_mem (by rw [put_len]; exact l1) (by rw [put_len]; exact hM) fun j hj => ?_
  rw [put_get b _ a hb l1 j hj, put_get b M a hb hM j hj, put_get c M a (by omega) hM j hj]
  by_cases h1 : (((j : Int) - a) % 65536).toNat < b.length
  · rw [if_pos h1, if_pos h1]
  · rw [if_neg h1, if_neg h1, if_neg (by omega)]
theorem put_shift (M b : List Int) (a a' : Int) (h : a % 65536 = a' % 65536) (hM : M.length = 65536) (hb : b.length ≤ 65536) : put M a b = put M a' b := by
  refine ext_mem (by rw [put_len]; exact hM) (by rw [put_len]; exact hM) fun j hj => ?_
  rw [put_get b M a hb hM j hj, put_get b M a' hb hM j hj]
  have e : ((j : Int) - a) % 65536 = ((j : Int) - a') % 65536 := by omega
  rw [e]

/-- The initial memory for a ROM. -/
def zeros : List Int := List.replicate 65536 0
theorem zeros_len : zeros.length = 65536 := List.length_replicate
theorem zeros_get (j : Nat) (h : j < 65536) : zeros[j]? = some 0 := by unfold zeros; rw [List.getElem?_replicate, if_pos h]
def initial (rom : List Int) : List Int := put (put (put zeros 80 smallL) 160 bigL) 512 rom
theorem initial_len (rom : List Int) : (initial rom).length = 65536 := by unfold initial; rw [put_len, put_len, put_len, zeros_len]
end Go.Proofs.YtgilkbmipgejeaaDoor
/- The table of rules of package decode, and what it says, as plain mathematics. Nothing of the program. -/
namespace Go.Proofs.YtgilkbmipgejeaaDoor.Dec
set_option linter.unusedVariables false
set_option linter.unusedSimpArgs false

/-- Which fields a rule picks. -/
inductive Pk | pNone | pX | pN | pXY | pXYN | pXNN | pAddr | pXAddr | pPlanes | pNext
def pkN : Pk → Nat
  | .pNone => 0
  | .pX => 1
  | .pN => 2
  | .pXY => 3
  | .pXYN => 4
  | .pXNN => 5
  | .pAddr => 6
  | .pXAddr => 7
  | .pPlanes => 8
  | .pNext => 9
theorem pkN_inj (a b : Pk) (h : pkN a = pkN b) : a = b := by cases a <;> cases b <;> first | rfl | cases h
instance : DecidableEq Pk := fun a b => decidable_of_iff (pkN a = pkN b) ⟨pkN_inj a b, fun h => by rw [h]⟩
structure Rl where
  mask : Nat
  code : Nat
  op : Nat
  level : Nat
  pk : Pk
instance : DecidableEq Rl := fun a b => decidable_of_iff (a.mask = b.mask ∧ a.code = b.code ∧ a.op = b.op ∧ a.level = b.level ∧ a.pk = b.pk) ⟨fun ⟨h1, h2, h3, h4, h5⟩ => by cases a; cases b; simp only at h1 h2 h3 h4 h5; subst h1 h2 h3 h4 h5; rfl, fun h => by rw [h]; exact ⟨rfl, rfl, rfl, rfl, rfl⟩⟩
def noRl : Rl := ⟨0, 0, 0, 0, .pNone⟩
def rls : List Rl := [
  ⟨65535, 224, 1, 1, .pNone⟩,
  ⟨65535, 238, 2, 1, .pNone⟩,
  ⟨61440, 4096, 3, 1, .pAddr⟩,
  ⟨61440, 8192, 4, 1, .pAddr⟩,
  ⟨61440, 12288, 5, 1, .pXNN⟩,
  ⟨61440, 16384, 6, 1, .pXNN⟩,
  ⟨61455, 20480, 7, 1, .pXY⟩,
  ⟨61440, 24576, 8, 1, .pXNN⟩,
  ⟨61440, 28672, 9, 1, .pXNN⟩,
  ⟨61455, 32768, 10, 1, .pXY⟩,
  ⟨61455, 32769, 11, 1, .pXY⟩,
  ⟨61455, 32770, 12, 1, .pXY⟩,
  ⟨61455, 32771, 13, 1, .pXY⟩,
  ⟨61455, 32772, 14, 1, .pXY⟩,
  ⟨61455, 32773, 15, 1, .pXY⟩,
  ⟨61455, 32774, 16, 1, .pXY⟩,
  ⟨61455, 32775, 17, 1, .pXY⟩,
  ⟨61455, 32782, 18, 1, .pXY⟩,
  ⟨61455, 36864, 19, 1, .pXY⟩,
  ⟨61440, 40960, 20, 1, .pAddr⟩,
  ⟨61440, 45056, 21, 1, .pXAddr⟩,
  ⟨61440, 49152, 22, 1, .pXNN⟩,
  ⟨61455, 53248, 41, 2, .pXY⟩,
  ⟨61440, 53248, 23, 1, .pXYN⟩,
  ⟨61695, 57502, 24, 1, .pX⟩,
  ⟨61695, 57505, 25, 1, .pX⟩,
  ⟨61695, 61447, 26, 1, .pX⟩,
  ⟨61695, 61450, 27, 1, .pX⟩,
  ⟨61695, 61461, 28, 1, .pX⟩,
  ⟨61695, 61464, 29, 1, .pX⟩,
  ⟨61695, 61470, 30, 1, .pX⟩,
  ⟨61695, 61481, 31, 1, .pX⟩,
  ⟨61695, 61491, 32, 1, .pX⟩,
  ⟨61695, 61525, 33, 1, .pX⟩,
  ⟨61695, 61541, 34, 1, .pX⟩,
  ⟨65520, 192, 35, 2, .pN⟩,
  ⟨65535, 251, 36, 2, .pNone⟩,
  ⟨65535, 252, 37, 2, .pNone⟩,
  ⟨65535, 253, 38, 2, .pNone⟩,
  ⟨65535, 254, 39, 2, .pNone⟩,
  ⟨65535, 255, 40, 2, .pNone⟩,
  ⟨61695, 61488, 42, 2, .pX⟩,
  ⟨61695, 61557, 43, 2, .pX⟩,
  ⟨61695, 61573, 44, 2, .pX⟩,
  ⟨65520, 208, 45, 3, .pN⟩,
  ⟨61455, 20482, 46, 3, .pXY⟩,
  ⟨61455, 20483, 47, 3, .pXY⟩,
  ⟨65535, 61440, 48, 3, .pNext⟩,
  ⟨61695, 61441, 49, 3, .pPlanes⟩,
  ⟨65535, 61442, 50, 3, .pNone⟩,
  ⟨61695, 61498, 51, 3, .pX⟩]
def fit (n : Nat) (r : Rl) : Bool := Nat.beq (Nat.land n r.mask) r.code
/-- The first rule of the list that fits. -/
def topOf (n : Nat) : List Rl → Rl
  | [] => noRl
  | r :: rs => bif fit n r then r else topOf n rs
def top (n : Nat) : Rl := topOf n rls
theorem rls_len : rls.length = 51 := rfl
theorem top_step (n k : Nat) (h : k < rls.length) (hf : fit n rls[k] = false) (ht : top n = topOf n (rls.drop k)) : top n = topOf n (rls.drop (k + 1)) := by
  rw [ht, List.drop_eq_getElem_cons h]
  simp [topOf, hf]
theorem top_hit (n k : Nat) (h : k < rls.length) (hf : fit n rls[k] = true) (ht : top n = topOf n (rls.drop k)) : top n = rls[k] := by
  rw [ht, List.drop_eq_getElem_cons h]
  simp [topOf, hf]
theorem top_end (n k : Nat) (h : rls.length ≤ k) (ht : top n = topOf n (rls.drop k)) : top n = noRl := by
  rw [ht, List.drop_eq_nil_of_le h]
  rfl
theorem fit_iff (n : Nat) (r : Rl) : fit n r = true ↔ n &&& r.mask = r.code := by
  unfold fit
  rw [Nat.beq_eq]
  rfl
theorem fit_yes {n : Nat} {r : Rl} (h : n &&& r.mask = r.code) : fit n r = true := (fit_iff n r).2 h
theorem fit_no {n : Nat} {r : Rl} (h : ¬ n &&& r.mask = r.code) : fit n r = false := by
  cases hf : fit n r
  · rfl
  · exact absurd ((fit_iff n r).1 hf) h
/-- What holds of all rules. -/
theorem rls_all (p : Rl → Bool) (h : rls.all p = true) (k : Nat) (hk : k < rls.length) : p rls[k] = true := List.all_eq_true.1 h _ (List.getElem_mem hk)
theorem topOf_all (p : Rl → Bool) (hz : p noRl = true) (n : Nat) : ∀ l : List Rl, l.all p = true → p (topOf n l) = true
  | [], _ => hz
  | r :: rs, h => by
    rw [List.all_cons, Bool.and_eq_true] at h
    unfold topOf
    cases fit n r
    · exact topOf_all p hz n rs h.2
    · exact h.1
theorem top_all (p : Rl → Bool) (hz : p noRl = true) (h : rls.all p = true) (n : Nat) : p (top n) = true := topOf_all p hz n rls h

/-- An instruction: Op, X, Y, N, NN, Addr, Len. -/
structure Ins where
  op : Int
  x : Int
  y : Int
  n : Int
  nn : Int
  addr : Int
  len : Int
instance : DecidableEq Ins := fun a b => decidable_of_iff (a.op = b.op ∧ a.x = b.x ∧ a.y = b.y ∧ a.n = b.n ∧ a.nn = b.nn ∧ a.addr = b.addr ∧ a.len = b.len) ⟨fun ⟨h1, h2, h3, h4, h5, h6, h7⟩ => by cases a; cases b; simp only at h1 h2 h3 h4 h5 h6 h7; subst h1 h2 h3 h4 h5 h6 h7; rfl, fun h => by rw [h]; exact ⟨rfl, rfl, rfl, rfl, rfl, rfl, rfl⟩⟩
def pX (p : Pk) (x : Int) : Int := match p with | .pX | .pXY | .pXYN | .pXNN | .pXAddr => x | _ => 0
def pY (p : Pk) (y : Int) : Int := match p with | .pXY | .pXYN => y | _ => 0
def pN (p : Pk) (x n : Int) : Int := match p with | .pN | .pXYN => n | .pPlanes => x | _ => 0
def pNN (p : Pk) (nn : Int) : Int := match p with | .pXNN => nn | _ => 0
def pA (p : Pk) (nnn next : Int) : Int := match p with | .pAddr | .pXAddr => nnn | .pNext => next | _ => 0
/-- The flags that a level allows (layer 12). -/
def alwF (l x : Int) : Bool := decide ((l = 2 ∧ 0 ≤ x ∧ x ≤ 7) ∨ (l = 3 ∧ 0 ≤ x ∧ x ≤ 15))
/-- Does the level allow the rule, for the second digit x? -/
def alw (r : Rl) (l x : Int) : Bool := bif (r.op == 43 || r.op == 44) then alwF l x else (decide ((r.level : Int) ≤ l) && decide (l ≤ 3))
def skl (h l : Nat) (level : Int) : Int := if level = 3 ∧ h = 240 ∧ l = 0 then 4 else 2
/-- The second digit, .. -/
def dx (h : Nat) : Nat := h % 16
def ok (b0 b1 : Nat) (l : Int) : Bool := (top (b0 * 256 + b1)).op != 0 && alw (top (b0 * 256 + b1)) l (dx b0 : Nat)
/-- Four bytes decoded for a level. -/
def dec (b0 b1 b2 b3 : Nat) (l : Int) : Ins := bif ok b0 b1 l then
    ⟨(top (b0 * 256 + b1)).op, pX (top (b0 * 256 + b1)).pk (dx b0 : Nat), pY (top (b0 * 256 + b1)).pk (b1 / 16 : Nat), pN (top (b0 * 256 + b1)).pk (dx b0 : Nat) (b1 % 16 : Nat), pNN (top (b0 * 256 + b1)).pk (b1 : Nat), pA (top (b0 * 256 + b1)).pk (dx b0 * 256 + b1 : Nat) (b2 * 256 + b3 : Nat), skl b0 b1 l⟩
  else ⟨0, 0, 0, 0, 0, 0, skl b0 b1 l⟩
/-- The least level of an Op. -/
def lvOf (op : Int) : List Rl → Int
  | [] => 0
  | r :: rs => if (r.op : Int) = op then r.level else lvOf op rs
def lv (op : Int) : Int := lvOf op rls

/-! ### The reference -/
def zeroR (x y nnn : Nat) : Nat := if nnn = 224 then 1 else if nnn = 238 then 2 else if nnn = 251 then 36 else if nnn = 252 then 37 else if nnn = 253 then 38 else if nnn = 254 then 39 else if nnn = 255 then 40 else if x = 0 ∧ y = 12 then 35 else if x = 0 ∧ y = 13 then 45 else 0
def eightR (n : Nat) : Nat := if n ≤ 7 then 10 + n else if n = 14 then 18 else 0
def fiveR (n : Nat) : Nat := if n = 0 then 7 else if n = 2 then 46 else if n = 3 then 47 else 0
def fifteenR (x nn : Nat) : Nat := if nn = 0 then (if x = 0 then 48 else 0) else if nn = 1 then 49 else if nn = 2 then (if x = 0 then 50 else 0) else if nn = 7 then 26 else if nn = 10 then 27 else if nn = 21 then 28 else if nn = 24 then 29 else if nn = 30 then 30 else if nn = 41 then 31 else if nn = 48 then 42 else if nn = 51 then 32 else if nn = 58 then 51 else if nn = 85 then 33 else if nn = 101 then 34 else if nn = 117 then 43 else if nn = 133 then 44 else 0
def opR (hd x y n nn nnn : Nat) : Nat :=
  if hd = 0 then zeroR x y nnn else if hd = 1 ∨ hd = 2 ∨ hd = 3 ∨ hd = 4 then hd + 2 else if hd = 5 then fiveR n else if hd = 6 ∨ hd = 7 then hd + 2 else if hd = 8 then eightR n
  else if hd = 9 then (if n = 0 then 19 else 0) else if hd = 10 ∨ hd = 11 ∨ hd = 12 then hd + 10 else if hd = 13 then (if n = 0 then 41 else 23) else if hd = 14 then (if nn = 158 then 24 else if nn = 161 then 25 else 0) else fifteenR x nn
def opB (b0 b1 : Nat) : Nat := opR (b0 / 16) (b0 % 16) (b1 / 16) (b1 % 16) b1 (b0 % 16 * 256 + b1)
def lvR (op : Int) : Int := if op < 1 ∨ 51 < op then 0 else if op ≤ 34 then 1 else if op ≤ 44 then 2 else 3

def allb : Nat → (Nat → Bool) → Bool
  | 0, _ => true
  | n + 1, f => f n && allb n f
theorem allb_at : ∀ (n : Nat) (f : Nat → Bool), allb n f = true → ∀ k, k < n → f k = true
  | n + 1, f, h, k, hk => by
    unfold allb at h
    rw [Bool.and_eq_true] at h
    rcases Nat.lt_succ_iff_lt_or_eq.1 hk with h1 | h1
    · exact allb_at n f h.2 k h1
    · rw [h1]; exact h.1
end Go.Proofs.YtgilkbmipgejeaaDoor.Dec
/- The zero memory; memories as blocks; slices that read as lists of bytes; what a write leaves alone. -/
namespace Go.Proofs.YtgilkbmipgejeaaDoor
open Go.RowKit Num
set_option linter.unusedVariables false
set_option maxRecDepth 100000

/-- The type's zero value, as the table of types has it: halves of halves. -/
def z6 : List Value := [.int .u8 0, .int .u8 0, .int .u8 0, .int .u8 0, .int .u8 0, .int .u8 0, .int .u8 0, .int .u8 0, .int .u8 0, .int .u8 0, .int .u8 0, .int .u8 0, .int .u8 0, .int .u8 0, .int .u8 0, .int .u8 0, .int .u8 0, .int .u8 0, .int .u8 0, .int .u8 0, .int .u8 0, .int .u8 0, .int .u8 0, .int .u8 0, .int .u8 0, .int .u8 0, .int .u8 0, .int .u8 0, .int .u8 0, .int .u8 0, .int .u8 0, .int .u8 0, .int .u8 0, .int .u8 0, .int .u8 0, .int .u8 0, .int .u8 0, .int .u8 0, .int .u8 0, .int .u8 0, .int .u8 0, .int .u8 0, .int .u8 0, .int .u8 0, .int .u8 0, .int .u8 0, .int .u8 0, .int .u8 0, .int .u8 0, .int .u8 0, .int .u8 0, .int .u8 0, .int .u8 0, .int .u8 0, .int .u8 0, .int .u8 0, .int .u8 0, .int .u8 0, .int .u8 0, .int .u8 0, .int .u8 0, .int .u8 0, .int .u8 0, .int .u8 0]
def z7 : List Value := List.append z6 z6
def z8 : List Value := List.append z7 z7
def z9 : List Value := List.append z8 z8
def z10 : List Value := List.append z9 z9
def z11 : List Value := List.append z10 z10
def z12 : List Value := List.append z11 z11
def z13 : List Value := List.append z12 z12
def z14 : List Value := List.append z13 z13
def z15 : List Value := List.append z14 z14
theorem rep2 {L : List Value} {n : Nat} (h : L = List.replicate n (.int .u8 0)) : List.append L L = List.replicate (n + n) (.int .u8 0) := by subst h; exact List.replicate_append_replicate
theorem z6_eq : z6 = List.replicate 64 (.int .u8 0) := rfl
theorem z7_eq : z7 = List.replicate 128 (.int .u8 0) := rep2 z6_eq
theorem z8_eq : z8 = List.replicate 256 (.int .u8 0) := rep2 z7_eq
theorem z9_eq : z9 = List.replicate 512 (.int .u8 0) := rep2 z8_eq
theorem z10_eq : z10 = List.replicate 1024 (.int .u8 0) := rep2 z9_eq
theorem z11_eq : z11 = List.replicate 2048 (.int .u8 0) := rep2 z10_eq
theorem z12_eq : z12 = List.replicate 4096 (.int .u8 0) := rep2 z11_eq
theorem z13_eq : z13 = List.replicate 8192 (.int .u8 0) := rep2 z12_eq
theorem z14_eq : z14 = List.replicate 16384 (.int .u8 0) := rep2 z13_eq
theorem z15_eq : z15 = List.replicate 32768 (.int .u8 0) := rep2 z14_eq
def zraw : List Value := List.append z15 (List.append z14 (List.append z13 (List.append z12 (List.append z11 (List.append z10 (List.append z9 (List.append z8 (List.append z7 (List.append z6 (List.append [.int .u8 0, .int .u8 0, .int .u8 0, .int .u8 0, .int .u8 0, .int .u8 0, .int .u8 0, .int .u8 0, .int .u8 0, .int .u8 0, .int .u8 0, .int .u8 0, .int .u8 0, .int .u8 0, .int .u8 0, .int .u8 0, .int .u8 0, .int .u8 0, .int .u8 0, .int .u8 0, .int .u8 0, .int .u8 0, .int .u8 0, .int .u8 0, .int .u8 0, .int .u8 0, .int .u8 0, .int .u8 0, .int .u8 0, .int .u8 0, .int .u8 0, .int .u8 0] [.int .u8 0, .int .u8 0, .int .u8 0, .int .u8 0, .int .u8 0, .int .u8 0, .int .u8 0, .int .u8 0, .int .u8 0, .int .u8 0, .int .u8 0, .int .u8 0, .int .u8 0, .int .u8 0, .int .u8 0, .int .u8 0, .int .u8 0, .int .u8 0, .int .u8 0, .int .u8 0, .int .u8 0, .int .u8 0, .int .u8 0, .int .u8 0, .int .u8 0, .int .u8 0, .int .u8 0, .int .u8 0, .int .u8 0, .int .u8 0, .int .u8 0, .int .u8 0, .slice none 0 0]))))))))))
theorem rep_cat {n m : Nat} {L R : List Value} (h : L = List.replicate n (.int .u8 0)) {S : List Value} (hS : R = List.replicate m (.int .u8 0) ++ S) : List.append L R = List.replicate (n + m) (.int .u8 0) ++ S := by
  subst h; subst hS
  show List.replicate n (Value.int .u8 0) ++ (List.replicate m (Value.int .u8 0) ++ S) = _
  rw [← List.append_assoc, List.replicate_append_replicate]
theorem zraw_eq : zraw = List.replicate 65536 (.int .u8 0) ++ [.slice none 0 0] :=
  rep_cat z15_eq (rep_cat z14_eq (rep_cat z13_eq (rep_cat z12_eq (rep_cat z11_eq (rep_cat z10_eq (rep_cat z9_eq (rep_cat z8_eq (rep_cat z7_eq (rep_cat z6_eq (rep_cat (n := 32) (m := 32) rfl rfl))))))))))

/-- The cells of a memory with the bytes M and the log v. -/
def cells (M : List Int) (v : Value) : Array Value := (M.map (Value.int .u8) ++ [v]).toArray
theorem zeros_cells : zraw.toArray = cells zeros (.slice none 0 0) := by
  rw [zraw_eq]
  unfold cells zeros
  rw [List.map_replicate]
theorem infoMem : (Tryd.prog.info? 71).map (fun i => (i.zero, i.size)) = some (some (.agg (cells zeros (.slice none 0 0))), 65537) := by
  rw [← zeros_cells]
  kernel_rfl
theorem zeroMem (w : World) : (zeroValue 71).run Tryd.prog w = .ok (.agg (cells zeros (.slice none 0 0))) w := (zero_of_info infoMem).1 w

def MemAt (p : Nat) (M : List Int) (v : Value) (w : World) : Prop := w.heap[p]? = some (.cells (cells M v) 71 (0, 0))
section
variable {p : Nat} {M : List Int} {v : Value} {w w' : World}
theorem MemAt.lt (h : MemAt p M v w) : p < w.heap.size := (Array.getElem?_eq_some_iff.1 h).1
theorem MemAt.cell (h : MemAt p M v w) (hM : M.length = 65536) (j : Nat) (hj : j < 65536) : w.cell? ⟨p, j, none⟩ = some (.int .u8 (M[j]'(by omega))) := by
  rw [cell_of_row w p j _ _ _ h]
  unfold cells
  rw [List.getElem?_toArray, List.getElem?_append_left (by simp; omega), List.getElem?_map, List.getElem?_eq_getElem (by omega)]
  rfl
theorem MemAt.log (h : MemAt p M v w) (hM : M.length = 65536) : w.cell? ⟨p, 65536, none⟩ = some v := by
  rw [cell_of_row w p _ _ _ _ h]
  unfold cells
  rw [List.getElem?_toArray, List.getElem?_append_right (by simp; omega)]
  simp [hM]
theorem MemAt.frozen (h : MemAt p M v w) (j : Nat) : w.frozen? ⟨p, j, none⟩ = false := frozen_of_row w p j _ _ h
theorem MemAt.keep (h : MemAt p M v w) (hk : w'.heap[p]? = w.heap[p]?) : MemAt p M v w' := hk.trans h
theorem MemAt.new (w : World) : MemAt w.heap.size zeros (.slice none 0 0) (w.alloc (.cells (cells zeros (.slice none 0 0)) 71)) := heap_alloc_new _ _
theorem MemAt.setLog (h : MemAt p M v w) (hM : M.length = 65536) (v' : Value) : MemAt p M v' (w.setCell ⟨p, 65536, none⟩ v') := by
  unfold MemAt
  rw [setCell_eq_setRow w p _ _ _ _ v' h, setRow_heap w p _ _ _ _ h]
  congr 2
  unfold cells
  apply Array.ext'
  simp [hM]
end
theorem splice_cells (M b : List Int) (v : Value) (off : Nat) (hM : M.length = 65536) (h : off + b.length ≤ 65536) :
    (splice (M.map (Value.int .u8) ++ [v]) off (b.map (Value.int .u8))).toArray = cells (splice M off b) v := by
  unfold cells splice
  congr 1
  have e1 : (M.map (Value.int .u8) ++ [v]).take off = (M.take off).map (Value.int .u8) := by
    rw [List.take_append_of_le_length (by simp; omega), List.map_take]
  have e2 : (M.map (Value.int .u8) ++ [v]).drop (off + (b.map (Value.int .u8)).length) = (M.drop (off + b.length)).map (Value.int .u8) ++ [v] := by
    rw [List.drop_append_of_le_length (by simp; omega), List.map_drop, List.length_map]
  rw [e1, e2]
  simp

/-- A copy into a memory. -/
theorem run_copy_mem {w : World} (ty : TypeId) (p off n c : Nat) (A : Option Addr) (m k d : Nat) (hd : d = min m n)
    (L : List Int) (hL : L.length = m) (hR : Rd w A L) (M : List Int) (v : Value) (hM : M.length = 65536) (hp : MemAt p M v w) (hn : off + n = 65536) :
    ∃ w', (Builtin.copy_ #[22, 22] ty #[.slice (some ⟨p, off, none⟩) n c, .slice A m k]).run Tryd.prog w = .ok (.int .i64 (d : Int)) w' ∧ MemAt p (splice M off (L.take n)) v w' ∧ ∀ g, Apart p g w w' := by
  have hll : (L.take n).length ≤ n := by rw [List.length_take]; omega
  obtain ⟨w', h0, h1, h2⟩ := run_copy_gen ty p off n c _ (fun _ => rfl) A m k d hd L hL hR (M.map (Value.int .u8) ++ [v]) 71 hp (by simp [hM]; omega)
  refine ⟨w', h0, ?_, h2⟩
  unfold MemAt
  rw [h1, splice_cells M (L.take n) v off hM (by omega)]
end Go.Proofs.YtgilkbmipgejeaaDoor
/- A region that draws its order, some of whose operations are calls that make memory (what they hand back hangs on the world), each of them the only one that may come up when its turn comes: the plain operations are taken first, in one walk. Nothing of the program. -/
namespace Go.Proofs.YtgilkbmipgejeaaDoor
open Go.RowKit
set_option linter.unusedVariables false

section
variable {P : Program} {ops : Array Oper} {C : World → Prop} {Q : Exit → Act → World → Prop} {md : Region.Mode}

/-- Operations that leave a value, or end the run. -/
def plainOp : Op → Bool
  | .move _ | .assign _ | .pick .. | .binOp .. | .unOp .. | .slice .. | .convert .. | .index .. | .indexAddr .. | .load .. | .fieldAddr .. | .field .. | .extract .. | .nilCheck _ | .build .. => true
  | .call c => match c.callee with | .builtin .len | .builtin .cap => true | _ => false
  | _ => false

theorem andThen_value {s : Sem Value} {w w' : World} {n : Next} (hr : (Sem.run P (do pure (.value (← s)) : Sem Next) w) = .ok n w') : ∃ u, n = .value u := by
  rw [Sem.run_bind] at hr
  cases h : s.run P w with
  | ok u w1 => rw [h] at hr; simp [Result.andThen] at hr; exact ⟨u, hr.1.symm⟩
  | halt x w1 => rw [h] at hr; simp [Result.andThen] at hr

theorem plain_value {o : Oper} {ρ : Operand → Value} {w w' : World} {n : Next} (h : plainOp o.op = true) (hr : (execOp ρ o).run P w = .ok n w') : ∃ u, n = .value u := by
  obtain ⟨dst, op, ty, pos, after, guard⟩ := o
  cases op
  case call c =>
    obtain ⟨callee, args, ats⟩ := c
    cases callee
    case builtin b =>
      cases b <;> simp [plainOp] at h
      all_goals
        rw [BigFrame.execOp_builtin] at hr
        first | rw [BigFrame.builtin_len] at hr | rw [BigFrame.builtin_cap] at hr
        exact andThen_value hr
    all_goals simp [plainOp] at h
  case move x => unfold execOp at hr; simp at hr; exact ⟨_, hr.1.symm⟩
  case assign x => unfold execOp at hr; simp at hr; exact ⟨_, hr.1.symm⟩
  case pick c a b =>
    unfold execOp at hr
    simp only [Sem.run_bind] at hr
    cases hc : (asBool (ρ c)).run P w with
    | ok u w1 => rw [hc] at hr; simp [Result.andThen] at hr; exact ⟨_, hr.1.symm⟩
    | halt x w1 => rw [hc] at hr; simp [Result.andThen] at hr
  case nilCheck x =>
    unfold execOp at hr
    simp only at hr
    split at hr
    all_goals first | (simp at hr; exact ⟨_, hr.1.symm⟩) | (simp [runtimePanic, goPanic] at hr; done) | skip
    split at hr
    · simp [runtimePanic, goPanic] at hr
    · simp only [Sem.run_bind] at hr
      revert hr
      cases Sem.run P program w <;> simp [Result.andThen]
      rename_i p w1
      cases Sem.run P (nilAhead (p.types.size + Made.depth) _ _ _) w1 <;> simp
      rename_i b w2
      intro hr
      split at hr
      all_goals first
        | (simp at hr; exact ⟨_, hr.1.symm⟩)
        | (simp at hr; done)
        | (revert hr; cases Sem.run P (unsupported _ : Sem PUnit) w2 <;> simp [Result.andThen]; intro h _; exact ⟨_, h.symm⟩)
    all_goals (simp at hr; exact ⟨_, hr.1.symm⟩)
  all_goals first | (simp [plainOp] at h; done) | (unfold execOp at hr; exact andThen_value hr)

theorem yieldsIf_of_quiet {o : Oper} {a : Act} {K : Act → Prop} (hp : plainOp o.op = true) (hne : ∃ w, C w)
    (h : if Region.wanted o (yielded ops a.tmps) then o.quiet P a C K else K (a.put o.dst undef)) : ∃ v, YieldsIf P ops C o v a ∧ K (a.put o.dst v) := by
  by_cases hw : Region.wanted o (yielded ops a.tmps) = true
  · simp only [hw, if_true] at h
    obtain ⟨v, h1, h2⟩ := h
    refine ⟨v, .inl ⟨hw, fun w hC => ?_⟩, h2⟩
    have h3 := h1 w hC
    unfold Oper.quietAt at h3
    cases hr : (execOp a.eval o).run P w with
    | ok n w' =>
      obtain ⟨u, rfl⟩ := plain_value hp hr
      rw [hr] at h3
      simp only [Oper.quietUpon] at h3
      obtain ⟨rfl, rfl⟩ := h3
      rfl
    | halt x w' => rw [hr] at h3; simp only [Oper.quietUpon] at h3
  · simp only [hw] at h
    exact ⟨undef, .inr ⟨by simpa using hw, rfl⟩, h⟩

/-- The operations at these places. -/
def opsAt (ops : Array Oper) : List Nat → List Oper
  | [] => []
  | i :: is => match ops[i]? with | some o => o :: opsAt ops is | none => opsAt ops is
def setAll (listed : Array Bool) : List Nat → Array Bool
  | [] => listed
  | i :: is => setAll (listed.setIfInBounds i true) is
def runB (md : Region.Mode) (ops : Array Oper) : List Nat → Array Bool → Bool
  | [], _ => true
  | i :: is, listed => (match ops[i]? with | some o => plainOp o.op | none => false) && (Region.ready md ops listed).contains i && Region.free md ops listed i && runB md ops is (listed.setIfInBounds i true)

theorem anyH_run (hs : Region.noSelect ops = true) (hQ : ∀ (c : _) (a : Act) (d : Option Tmp) (v : Value) (w : World), Q (.panic c) (a.put d v) w → Q (.panic c) a w) (fuel : Nat) {w : World} (hC : C w) : ∀ (is : List Nat) (listed : Array Bool) (a : Act),
    runB md ops is listed = true → wpQuiet P ops C (fun a' => wpAnyH P md ops Q C fuel (setAll listed is) a' w) (opsAt ops is) a → wpAnyH P md ops Q C (fuel + is.length) listed a w
  | [], listed, a, _, h => h
  | i :: is, listed, a, hB, h => by
    simp only [runB, Bool.and_eq_true] at hB
    obtain ⟨⟨⟨hp, hr⟩, hf⟩, hB'⟩ := hB
    cases ho : ops[i]? with
    | none => rw [ho] at hp; cases hp
    | some o =>
      rw [ho] at hp
      simp only [opsAt, ho, wpQuiet] at h
      obtain ⟨v, hy, hK⟩ := yieldsIf_of_quiet hp ⟨w, hC⟩ h
      exact wpAnyH_take ho hs hf hr (fun c a w => hQ c a o.dst v w) hy hC (anyH_run hs hQ fuel hC is _ _ hB' hK)

/-- The walk: runs of plain operations, behind each the one operation that may come up then. -/
def wpMix (P : Program) (ops : Array Oper) (C : World → Prop) (Q : Exit → Act → World → Prop) : List (List Nat × Nat) → List Nat → Act → World → Prop
  | [], last, a, w => wpQuiet P ops C (fun a' => Q .normal a' w) (opsAt ops last) a
  | (is, c) :: rest, last, a, w => wpQuiet P ops C (fun a' => match ops[c]? with
      | none => False
      | some o => if Region.wanted o (yielded ops a'.tmps) then o.wp P a' w (fun a'' w'' => C w'' ∧ wpMix P ops C Q rest last a'' w'') Q else wpMix P ops C Q rest last (a'.put o.dst undef) w) (opsAt ops is) a
def mixB (md : Region.Mode) (ops : Array Oper) : List (List Nat × Nat) → List Nat → Array Bool → Bool
  | [], last, listed => runB md ops last listed && (Region.ready md ops (setAll listed last)).isEmpty
  | (is, c) :: rest, last, listed => runB md ops is listed && decide (Region.ready md ops (setAll listed is) = [c]) && mixB md ops rest last ((setAll listed is).setIfInBounds c true)
def mixLen : List (List Nat × Nat) → List Nat → Nat
  | [], last => last.length
  | (is, c) :: rest, last => mixLen rest last + 1 + is.length

theorem anyH_mix (hs : Region.noSelect ops = true) (hQ : ∀ (c : _) (a : Act) (d : Option Tmp) (v : Value) (w : World), Q (.panic c) (a.put d v) w → Q (.panic c) a w) (k : Nat) (last : List Nat) : ∀ (bs : List (List Nat × Nat)) (listed : Array Bool) (a : Act) (w : World), C w →
    mixB md ops bs last listed = true → wpMix P ops C Q bs last a w → wpAnyH P md ops Q C (k + mixLen bs last) listed a w
  | [], listed, a, w, hC, hB, h => by
    simp only [mixB, Bool.and_eq_true] at hB
    have hr : Region.ready md ops (setAll listed last) = [] := by simpa using hB.2
    refine anyH_run hs hQ k hC last listed a hB.1 ?_
    have mono : ∀ (l : List Oper) (a : Act), wpQuiet P ops C (fun a' => Q .normal a' w) l a → wpQuiet P ops C (fun a' => wpAnyH P md ops Q C k (setAll listed last) a' w) l a := by
      intro l
      induction l with
      | nil => intro a h; exact wpAnyH_done hr h k
      | cons o l ih =>
        intro a h
        simp only [wpQuiet] at h ⊢
        split
        · rename_i hw; simp only [hw, if_true] at h; exact Oper.quiet_mono (fun a h => ih a h) h
        · rename_i hw; simp only [hw] at h; exact ih _ h
    exact mono _ _ h
  | (is, c) :: rest, listed, a, w, hC, hB, h => by
    simp only [mixB, Bool.and_eq_true] at hB
    obtain ⟨⟨hB1, hB2⟩, hB3⟩ := hB
    have hr : Region.ready md ops (setAll listed is) = [c] := by simpa using hB2
    simp only [mixLen]
    rw [← Nat.add_assoc]
    refine anyH_run hs hQ _ hC is listed a hB1 ?_
    simp only [wpMix] at h
    have step : ∀ a' : Act, (match ops[c]? with
      | none => False
      | some o => if Region.wanted o (yielded ops a'.tmps) then o.wp P a' w (fun a'' w'' => C w'' ∧ wpMix P ops C Q rest last a'' w'') Q else wpMix P ops C Q rest last (a'.put o.dst undef) w) → wpAnyH P md ops Q C (k + (mixLen rest last + 1)) (setAll listed is) a' w := by
      intro a' ha
      rw [← Nat.add_assoc]
      refine wpAnyH_all hr (by simp) fun i hi => ?_
      obtain rfl : i = c := by simpa using hi
      unfold wpOp
      cases ho : ops[i]? with
      | none => rw [ho] at ha; exact ha.elim
      | some o =>
        rw [ho] at ha
        simp only at ha ⊢
        split
        · rename_i hw
          simp only [hw, if_true] at ha
          exact .inl (Oper.wp_mono (fun a'' w'' ⟨h1, h2⟩ => ⟨h1, anyH_mix hs hQ k last rest _ a'' w'' h1 hB3 h2⟩) ha)
        · rename_i hw
          simp only [hw] at ha
          exact ⟨hC, anyH_mix hs hQ k last rest _ _ w hC hB3 ha⟩
    have mono : ∀ (l : List Oper) (a : Act), wpQuiet P ops C (fun a' => match ops[c]? with
      | none => False
      | some o => if Region.wanted o (yielded ops a'.tmps) then o.wp P a' w (fun a'' w'' => C w'' ∧ wpMix P ops C Q rest last a'' w'') Q else wpMix P ops C Q rest last (a'.put o.dst undef) w) l a → wpQuiet P ops C (fun a' => wpAnyH P md ops Q C (k + (mixLen rest last + 1)) (setAll listed is) a' w) l a := by
      intro l
      induction l with
      | nil => intro a h; exact step a h
      | cons o l ih =>
        intro a h
        simp only [wpQuiet] at h ⊢
        split
        · rename_i hw; simp only [hw, if_true] at h; exact Oper.quiet_mono (fun a h => ih a h) h
        · rename_i hw; simp only [hw] at h; exact ih _ h
    exact mono _ _ h

/-- The region. -/
theorem wp_region_mix {id : Nat} {a : Act} {w : World} {l : List Oper} (bs : List (List Nat × Nat)) (last : List Nat) (hm : P.follows .mixedOrders = true)
    (hB : (Region.noSelect l.toArray && mixB .any l.toArray bs last (Array.replicate l.toArray.size false) && decide (mixLen bs last ≤ l.toArray.size)) = true)
    (hQ : ∀ (c : _) (a : Act) (d : Option Tmp) (v : Value) (w : World), Q (.panic c) (a.put d v) w → Q (.panic c) a w) (hC : C w.drew)
    (h : ∀ wd, wd = w.drew → wpMix P l.toArray C Q bs last a wd) : (Code.region id l.toArray true).wp P Q a w := by
  simp only [Bool.and_eq_true, decide_eq_true_eq] at hB
  obtain ⟨⟨hs, hb⟩, hle⟩ := hB
  refine wp_region_held (S := C) hm ?_
  have := anyH_mix (md := .any) hs hQ (l.toArray.size - mixLen bs last) last bs (Array.replicate l.toArray.size false) a w.drew hC hb (h _ rfl)
  rwa [Nat.sub_add_cancel hle] at this

/-- What the one operation owes. -/
def nextMix (P : Program) (ops : Array Oper) (C : World → Prop) (Q : Exit → Act → World → Prop) (rest : List (List Nat × Nat)) (last : List Nat) (o : Oper) (w : World) (a : Act) : Prop :=
  if Region.wanted o (yielded ops a.tmps) then o.wp P a w (fun a'' w'' => C w'' ∧ wpMix P ops C Q rest last a'' w'') Q else wpMix P ops C Q rest last (a.put o.dst undef) w
theorem mix_run {is last : List Nat} {c : Nat} {rest : List (List Nat × Nat)} {l : List Oper} {o : Oper} {a : Act} {w : World} (hl : opsAt ops is = l) (ho : ops[c]? = some o) (h : wpQuiet P ops C (nextMix P ops C Q rest last o w) l a) : wpMix P ops C Q ((is, c) :: rest) last a w := by
  subst hl
  unfold wpMix
  rw [ho]
  exact h
theorem mix_last {last : List Nat} {l : List Oper} {a : Act} {w : World} (hl : opsAt ops last = l) (h : wpQuiet P ops C (fun a' => Q .normal a' w) l a) : wpMix P ops C Q [] last a w := by
  subst hl
  exact h
theorem mix_call {rest : List (List Nat × Nat)} {last : List Nat} {o : Oper} {a : Act} {w : World} (hw : Region.wanted o (yielded ops a.tmps) = true) (h : ∀ K : Act → World → Prop, (∀ a w, C w → wpMix P ops C Q rest last a w → K a w) → o.wp P a w K Q) : nextMix P ops C Q rest last o w a := by
  unfold nextMix
  rw [if_pos hw]
  exact h _ fun a w hc h => ⟨hc, h⟩
end

/-- Any world. -/
structure AnyW where
  w : World
theorem AnyW.any (w : World) : ∃ x : AnyW, w = x.w := ⟨⟨w⟩, rfl⟩
instance : Nonempty AnyW := ⟨⟨default⟩⟩
end Go.Proofs.YtgilkbmipgejeaaDoor
/- Plain facts on addresses and spans. Nothing of the program. -/
namespace Go.Proofs.YtgilkbmipgejeaaDoor.Num
set_option linter.unusedVariables false
open Go.RowKit

theorem and65535 (x : Int) : bits .and .i64 x 65535 = x % 65536 := by
  have h : (BitVec.ofInt 64 x &&& BitVec.ofInt 64 65535).toNat = (x % 18446744073709551616).toNat % 65536 := by
    have e : (BitVec.ofInt 64 65535).toNat = 2 ^ 16 - 1 := by decide
    rw [BitVec.toNat_and, e, Nat.and_two_pow_sub_one_eq_mod, BitVec.toNat_ofInt]
    rfl
  show IntKind.i64.wrap (((BitVec.ofInt 64 x &&& BitVec.ofInt 64 65535).toNat : Nat) : Int) = _
  rw [h, IntKind.wrap_i64]
  omega

/-- Is the address b in the span of n bytes at a? -/
def inB (a n b : Int) : Bool := decide ((b - a) % 65536 < n)
theorem inB_yes {a n b : Int} (h : (b - a) % 65536 < n) : inB a n b = true := by simp [inB, h]
theorem inB_no {a n b : Int} (h : n ≤ (b - a) % 65536) : inB a n b = false := by simp [inB]; omega
theorem inB_iff {a n b : Int} : inB a n b = true ↔ (b - a) % 65536 < n := by simp [inB]
/-- Have the two spans an address in common? -/
def ovB (a n b m : Int) : Bool := decide (0 < n) && (decide (0 < m) && (inB a n b || inB b m a))
/-- The addresses of a span. -/
def lst (a : Int) (n : Nat) : List Int := (List.range n).map fun (i : Nat) => (a + (i : Int)) % 65536
theorem lst_len (a : Int) (n : Nat) : (lst a n).length = n := by simp [lst]
theorem lst_get (a : Int) (n i : Nat) (h : i < (lst a n).length) : (lst a n)[i] = (a + (i : Int)) % 65536 := by simp [lst]
theorem lst_succ (a : Int) (k : Nat) : lst a (k + 1) = lst a k ++ [(a + (k : Int)) % 65536] := by simp [lst, List.range_succ]
theorem lst_zero (a : Int) : lst a 0 = [] := rfl

theorem inB_mem (a b : Int) (n : Nat) (i : Nat) (hi : i < n) (hn : n ≤ 65536) (b0 : 0 ≤ b) (b1 : b ≤ 65535) (h : (a + (i : Int)) % 65536 = b) : inB a n b = true :=
  inB_yes (by omega)
theorem inB_out (a b : Int) (n : Nat) (b0 : 0 ≤ b) (b1 : b ≤ 65535) (h : ∀ i : Nat, i < n → (a + (i : Int)) % 65536 ≠ b) : inB a n b = false := by
  apply inB_no
  rcases Int.lt_or_le ((b - a) % 65536) n with hlt | hge
  · exact absurd (by omega) (h ((b - a) % 65536).toNat (by omega))
  · exact hge

/-- Is one of the first k addresses of the span at b in the span of n bytes at a? -/
def someB (a n b : Int) (k : Nat) : Bool := (List.range k).any fun (i : Nat) => inB a n ((b + (i : Int)) % 65536)
theorem someB_zero (a n b : Int) : someB a n b 0 = false := rfl
theorem someB_succ (a n b : Int) (k : Nat) : someB a n b (k + 1) = (someB a n b k || inB a n ((b + (k : Int)) % 65536)) := by simp [someB, List.range_succ]
theorem ovB_some (a n b : Int) (m : Nat) (n0 : 0 ≤ n) (n1 : n ≤ 65536) (m1 : m ≤ 65536) : ovB a n b m = someB a n b m := by
  rw [Bool.eq_iff_iff]
  simp only [ovB, someB, Bool.and_eq_true, Bool.or_eq_true, decide_eq_true_eq, List.any_eq_true, List.mem_range, inB_iff]
  constructor
  · rintro ⟨h1, h2, h3 | h3⟩
    · exact ⟨0, by omega, by omega⟩
    · exact ⟨((a - b) % 65536).toNat, by omega, by omega⟩
  · rintro ⟨i, h1, h2⟩
    omega
theorem ovB_comm (a n b m : Int) : ovB a n b m = ovB b m a n := by
  rw [Bool.eq_iff_iff]
  simp only [ovB, Bool.and_eq_true, Bool.or_eq_true, decide_eq_true_eq]
  constructor <;> rintro ⟨h1, h2, h3⟩ <;> exact ⟨h2, h1, h3.symm⟩
theorem inB_move (a n b d : Int) : inB ((a + d) % 65536) n ((b + d) % 65536) = inB a n b := by
  have e : ((b + d) % 65536 - (a + d) % 65536) % 65536 = (b - a) % 65536 := by omega
  simp only [inB, e]
theorem ovB_move (a n b m d : Int) : ovB ((a + d) % 65536) n ((b + d) % 65536) m = ovB a n b m := by simp only [ovB, inB_move]
theorem inB_self (a : Int) (n i : Nat) (hi : i < n) (hn : n ≤ 65536) : inB a n ((a + (i : Int)) % 65536) = true := inB_yes (by omega)
end Go.Proofs.YtgilkbmipgejeaaDoor.Num
/- Contracts of package font: the bytes of a glyph are appended to a list. -/
namespace Go.Proofs.YtgilkbmipgejeaaDoor
open Go.RowKit Num
set_option linter.unusedVariables false
set_option maxRecDepth 100000

set_option maxRecDepth 100000 in
set_option maxHeartbeats 2000000 in
theorem add5 (X : List Int) (hX : X.length = 5) (v : Value) (n : Nat) (M : List Int) (base : Nat) (w : World)
    (hown : w.ownsRow base 5 1 v n (M.map (Value.int .u8))) (hbase : base ≤ w.heap.size) (hn : n ≤ 1000) :
    Calls Tryd.prog 56 #[v, .agg (arr X)] w fun e w' => ∃ v', e = .returned v' ∧ w'.ownsRow base 5 1 v' (n + 5) ((M ++ X).map (Value.int .u8)) ∧ Below base w w' := by
  obtain ⟨i0, hi, hz0, hz1, hz2⟩ := info_parts infoByte
  have hown1 := hown.alloc (.cells (arr X) 94)
  have hbox : (w.alloc (.cells (arr X) 94)).heap[w.heap.size]? = some (.cells (arr X) 94 (0, 0)) := heap_alloc_new _ _
  have hb1 : Below base w (w.alloc (.cells (arr X) 94)) := (Below.refl _ _).alloc hbase _
  go_enter Tryd.func56, Tryd.ntmps56
  go_upto_region 1 with fail
  refine wp_region_lit ?_
  refine wpList_load_row rfl 94 (.tmp 3) rfl w.heap.size rfl 94 (arr X) (0, 0) _ hbox Tryd.underlying94 rfl (by rw [arr_size, hX]; kernel_rfl) ?_
  generalize w.alloc (Obj.cells (arr X) 94) = w1 at *
  clear hown
  go_wp2
  go_loopw [0, 5, 8] (fun o i c wr => ∃ k : Nat, k ≤ 5 ∧ c = .int .i64 k ∧ wr.ownsRow base 5 1 o (n + k) ((M ++ X.take k).map (Value.int .u8)) ∧ Below base w wr ∧ wr.heap[w.heap.size]? = some (.cells (arr X) 94 (0, 0))) (fun _ _ c _ => 5 - (intOf c).toNat)
  case atStart => exact ⟨0, Nat.zero_le _, rfl, by simpa using hown1, hb1, hbox⟩
  case round =>
    obtain ⟨k, hk, rfl, hown, hb, hbox2⟩ := hrel
    have hne := block_not_row hbox2 (by decide) hown
    clear hbox hown1 hb1
    by_cases hlt : k < 5
    · have hkX : k < X.length := by omega
      have hc : wr.cell? ⟨w.heap.size, k, none⟩ = some (.int .u8 X[k]) := (cell_of_row wr _ k _ _ _ hbox2).trans (arr_get X k hkX)
      have ht := take_step hkX
      obtain ⟨x, hx⟩ : ∃ x, X[k] = x := ⟨_, rfl⟩
      rw [hx] at hc ht
      clear hx
      go_wp2_with ((at_builtin; refine wpList_append_own _ rfl _ _ 22 rfl base 5 i0 (.int .u8 0) 1 1 Tryd.underlying22 hi hz0 hz1 hz2 rfl (by decide) _ _ _ rfl (hown.alloc _) ⟨_, 0, none⟩ 1 1 [.int .u8 x] rfl rfl (cell_one_new _ _ _) (by simp [Value.oneCell']) (by unfold maxLen; omega) (by omega) (by have := hb.size; simp; omega) ?_; intro v' w2 hown' hgrow _))
      go_roundw
      case rel =>
        refine ⟨k + 1, by omega, by go_num, ?_, (hb.alloc (Nat.le_trans hbase hb.size) _).grown hgrow (by have := hb.size; simp; omega) fun j ej => (hown.lt j ej).1, block_kept _ hbox2 hgrow hne⟩
        rw [ht, ← List.append_assoc, List.map_append]
        simpa [Nat.add_assoc] using hown'
      case measure => simp [intOf]; omega
    · have hkn : k = 5 := by omega
      subst hkn
      rw [List.take_of_length_le (by omega)] at hown
      go_wp2
      go_ret
      exact ⟨_, rfl, hown, hb⟩

set_option maxRecDepth 100000 in
set_option maxHeartbeats 2000000 in
theorem add10 (X : List Int) (hX : X.length = 10) (v : Value) (n : Nat) (M : List Int) (base : Nat) (w : World)
    (hown : w.ownsRow base 5 1 v n (M.map (Value.int .u8))) (hbase : base ≤ w.heap.size) (hn : n ≤ 1000) :
    Calls Tryd.prog 57 #[v, .agg (arr X)] w fun e w' => ∃ v', e = .returned v' ∧ w'.ownsRow base 5 1 v' (n + 10) ((M ++ X).map (Value.int .u8)) ∧ Below base w w' := by
  obtain ⟨i0, hi, hz0, hz1, hz2⟩ := info_parts infoByte
  have hown1 := hown.alloc (.cells (arr X) 97)
  have hbox : (w.alloc (.cells (arr X) 97)).heap[w.heap.size]? = some (.cells (arr X) 97 (0, 0)) := heap_alloc_new _ _
  have hb1 : Below base w (w.alloc (.cells (arr X) 97)) := (Below.refl _ _).alloc hbase _
  go_enter Tryd.func57, Tryd.ntmps57
  go_upto_region 1 with fail
  refine wp_region_lit ?_
  refine wpList_load_row rfl 97 (.tmp 3) rfl w.heap.size rfl 97 (arr X) (0, 0) _ hbox Tryd.underlying97 rfl (by rw [arr_size, hX]; kernel_rfl) ?_
  generalize w.alloc (Obj.cells (arr X) 97) = w1 at *
  clear hown
  go_wp2
  go_loopw [0, 5, 8] (fun o i c wr => ∃ k : Nat, k ≤ 10 ∧ c = .int .i64 k ∧ wr.ownsRow base 5 1 o (n + k) ((M ++ X.take k).map (Value.int .u8)) ∧ Below base w wr ∧ wr.heap[w.heap.size]? = some (.cells (arr X) 97 (0, 0))) (fun _ _ c _ => 10 - (intOf c).toNat)
  case atStart => exact ⟨0, Nat.zero_le _, rfl, by simpa using hown1, hb1, hbox⟩
  case round =>
    obtain ⟨k, hk, rfl, hown, hb, hbox2⟩ := hrel
    have hne := block_not_row hbox2 (by decide) hown
    clear hbox hown1 hb1
    by_cases hlt : k < 10
    · have hkX : k < X.length := by omega
      have hc : wr.cell? ⟨w.heap.size, k, none⟩ = some (.int .u8 X[k]) := (cell_of_row wr _ k _ _ _ hbox2).trans (arr_get X k hkX)
      have ht := take_step hkX
      obtain ⟨x, hx⟩ : ∃ x, X[k] = x := ⟨_, rfl⟩
      rw [hx] at hc ht
      clear hx
      go_wp2_with ((at_builtin; refine wpList_append_own _ rfl _ _ 22 rfl base 5 i0 (.int .u8 0) 1 1 Tryd.underlying22 hi hz0 hz1 hz2 rfl (by decide) _ _ _ rfl (hown.alloc _) ⟨_, 0, none⟩ 1 1 [.int .u8 x] rfl rfl (cell_one_new _ _ _) (by simp [Value.oneCell']) (by unfold maxLen; omega) (by omega) (by have := hb.size; simp; omega) ?_; intro v' w2 hown' hgrow _))
      go_roundw
      case rel =>
        refine ⟨k + 1, by omega, by go_num, ?_, (hb.alloc (Nat.le_trans hbase hb.size) _).grown hgrow (by have := hb.size; simp; omega) fun j ej => (hown.lt j ej).1, block_kept _ hbox2 hgrow hne⟩
        rw [ht, ← List.append_assoc, List.map_append]
        simpa [Nat.add_assoc] using hown'
      case measure => simp [intOf]; omega
    · have hkn : k = 10 := by omega
      subst hkn
      rw [List.take_of_length_le (by omega)] at hown
      go_wp2
      go_ret
      exact ⟨_, rfl, hown, hb⟩
end Go.Proofs.YtgilkbmipgejeaaDoor
/- Contracts of package font: the bytes of all glyphs. -/
namespace Go.Proofs.YtgilkbmipgejeaaDoor
open Go.RowKit Num
set_option linter.unusedVariables false
set_option maxRecDepth 100000

theorem index5 (k : Nat) (h : k < 16) : ∀ w : World, (Instr.index 95 (.agg (arr smallL)) (.int .i64 k)).run Tryd.prog w = .ok (.agg (arr (smallG k))) w := by
  obtain rfl | rfl | rfl | rfl | rfl | rfl | rfl | rfl | rfl | rfl | rfl | rfl | rfl | rfl | rfl | rfl : k = 0 ∨ k = 1 ∨ k = 2 ∨ k = 3 ∨ k = 4 ∨ k = 5 ∨ k = 6 ∨ k = 7 ∨ k = 8 ∨ k = 9 ∨ k = 10 ∨ k = 11 ∨ k = 12 ∨ k = 13 ∨ k = 14 ∨ k = 15 := by omega
  all_goals exact fun _ => by kernel_rfl

set_option maxRecDepth 100000 in
set_option maxHeartbeats 2000000 in
theorem concat5 (w : World) : Calls Tryd.prog 44 #[.agg (arr smallL)] w (Gives 5 smallL w) := by
  obtain ⟨i0, hi, hz0, hz1, hz2⟩ := info_parts infoByte
  have hbox : (w.alloc (.cells (arr smallL) 95)).heap[w.heap.size]? = some (.cells (arr smallL) 95 (0, 0)) := heap_alloc_new _ _
  have hb1 : Below w.heap.size w (w.alloc (.cells (arr smallL) 95)) := (Below.refl _ _).alloc (Nat.le_refl _) _
  go_enter Tryd.func44, Tryd.ntmps44
  go_upto_region 2 with fail
  refine wp_region_lit ?_
  refine wpList_load_row rfl 95 (.tmp 1) rfl w.heap.size rfl 95 (arr smallL) (0, 0) _ hbox Tryd.underlying95 rfl (by kernel_rfl) ?_
  generalize w.alloc (Obj.cells (arr smallL) 95) = w1 at *
  go_wp2
  go_loopw [3, 7] (fun o c wr => ∃ k : Nat, k ≤ 16 ∧ c = .int .i64 k ∧ wr.ownsRow w.heap.size 5 1 o (5 * k) ((smallL.take (5 * k)).map (Value.int .u8)) ∧ Below w.heap.size w wr) (fun _ c _ => 16 - (intOf c).toNat)
  case atStart => exact ⟨0, Nat.zero_le _, rfl, World.ownsRow_nil _ _ _ _, hb1⟩
  case round =>
    obtain ⟨k, hk, rfl, hown, hb⟩ := hrel
    clear hb1 hbox
    by_cases hlt : k < 16
    · have ik := index5 k hlt
      have ht := small_take k
      obtain ⟨x0, x1, x2, x3, x4, hx⟩ := five (smallG_len hlt)
      rw [hx] at ik ht
      have ik' : ∀ w : World, (Instr.index 95 (.agg (arr smallL)) (.int .i64 k)).run Tryd.prog w = .ok (.agg #[.int .u8 x0, .int .u8 x1, .int .u8 x2, .int .u8 x3, .int .u8 x4]) w := ik
      clear ik hx
      go_wp2_with fail
      refine (add5 [x0, x1, x2, x3, x4] rfl _ (5 * k) (smallL.take (5 * k)) w.heap.size _ (hown.alloc _) (by have := hb.size; simp; omega) (by omega)).mono ?_
      rintro e w' ⟨v', rfl, hown', hb'⟩
      go_wp2
      go_roundw
      case rel => exact ⟨k + 1, by omega, by go_num, by rw [ht]; exact hown', (hb.alloc hb.size _).trans hb'⟩
      case measure => simp [intOf]; omega
    · have hkn : k = 16 := by omega
      subst hkn
      go_wp2
      go_ret
      rw [List.take_of_length_le (by rw [smallL_len]; decide)] at hown
      exact ⟨_, rfl, by rw [smallL_len]; exact hown, hb⟩

set_option maxRecDepth 100000 in
theorem index10 (k : Nat) (h : k < 16) : ∀ w : World, (Instr.index 98 (.agg (arr bigL)) (.int .i64 k)).run Tryd.prog w = .ok (.agg (arr (bigG k))) w := by
  obtain rfl | rfl | rfl | rfl | rfl | rfl | rfl | rfl | rfl | rfl | rfl | rfl | rfl | rfl | rfl | rfl : k = 0 ∨ k = 1 ∨ k = 2 ∨ k = 3 ∨ k = 4 ∨ k = 5 ∨ k = 6 ∨ k = 7 ∨ k = 8 ∨ k = 9 ∨ k = 10 ∨ k = 11 ∨ k = 12 ∨ k = 13 ∨ k = 14 ∨ k = 15 := by omega
  all_goals exact fun _ => by kernel_rfl

set_option maxRecDepth 100000 in
set_option maxHeartbeats 2000000 in
theorem concat10 (w : World) : Calls Tryd.prog 45 #[.agg (arr bigL)] w (Gives 5 bigL w) := by
  obtain ⟨i0, hi, hz0, hz1, hz2⟩ := info_parts infoByte
  have hbox : (w.alloc (.cells (arr bigL) 98)).heap[w.heap.size]? = some (.cells (arr bigL) 98 (0, 0)) := heap_alloc_new _ _
  have hb1 : Below w.heap.size w (w.alloc (.cells (arr bigL) 98)) := (Below.refl _ _).alloc (Nat.le_refl _) _
  go_enter Tryd.func45, Tryd.ntmps45
  go_upto_region 2 with fail
  refine wp_region_lit ?_
  refine wpList_load_row rfl 98 (.tmp 1) rfl w.heap.size rfl 98 (arr bigL) (0, 0) _ hbox Tryd.underlying98 rfl (by kernel_rfl) ?_
  generalize w.alloc (Obj.cells (arr bigL) 98) = w1 at *
  go_wp2
  go_loopw [3, 7] (fun o c wr => ∃ k : Nat, k ≤ 16 ∧ c = .int .i64 k ∧ wr.ownsRow w.heap.size 5 1 o (10 * k) ((bigL.take (10 * k)).map (Value.int .u8)) ∧ Below w.heap.size w wr) (fun _ c _ => 16 - (intOf c).toNat)
  case atStart => exact ⟨0, Nat.zero_le _, rfl, World.ownsRow_nil _ _ _ _, hb1⟩
  case round =>
    obtain ⟨k, hk, rfl, hown, hb⟩ := hrel
    clear hb1 hbox
    by_cases hlt : k < 16
    · have ik := index10 k hlt
      have ht := big_take k
      obtain ⟨x0, x1, x2, x3, x4, x5, x6, x7, x8, x9, hx⟩ := ten (bigG_len hlt)
      rw [hx] at ik ht
      have ik' : ∀ w : World, (Instr.index 98 (.agg (arr bigL)) (.int .i64 k)).run Tryd.prog w = .ok (.agg #[.int .u8 x0, .int .u8 x1, .int .u8 x2, .int .u8 x3, .int .u8 x4, .int .u8 x5, .int .u8 x6, .int .u8 x7, .int .u8 x8, .int .u8 x9]) w := ik
      clear ik hx
      go_wp2_with fail
      refine (add10 [x0, x1, x2, x3, x4, x5, x6, x7, x8, x9] rfl _ (10 * k) (bigL.take (10 * k)) w.heap.size _ (hown.alloc _) (by have := hb.size; simp; omega) (by omega)).mono ?_
      rintro e w' ⟨v', rfl, hown', hb'⟩
      go_wp2
      go_roundw
      case rel => exact ⟨k + 1, by omega, by go_num, by rw [ht]; exact hown', (hb.alloc hb.size _).trans hb'⟩
      case measure => simp [intOf]; omega
    · have hkn : k = 16 := by omega
      subst hkn
      go_wp2
      go_ret
      rw [List.take_of_length_le (by rw [bigL_len]; decide)] at hown
      exact ⟨_, rfl, by rw [bigL_len]; exact hown, hb⟩
end Go.Proofs.YtgilkbmipgejeaaDoor
/- Contracts of package font: the fonts' tables, and the bytes of all glyphs. -/
namespace Go.Proofs.YtgilkbmipgejeaaDoor
open Go.RowKit Num
set_option linter.unusedVariables false
set_option maxRecDepth 100000

/-- The fonts lie in the package's tables. -/
structure Laid (w : World) : Prop where
  lt : 1 < w.heap.size
  big : ∀ j (h : j < bigL.length), w.cell? ⟨1, j, none⟩ = some (.int .u8 bigL[j])
  small : ∀ j (h : j < smallL.length), w.cell? ⟨0, j, none⟩ = some (.int .u8 smallL[j])
theorem Laid.below {w w' : World} {n : Nat} (h : Laid w) (hb : Below n w w') (hn : 1 < n) : Laid w' :=
  ⟨Nat.lt_of_lt_of_le h.lt hb.size, fun j hj => (hb.cell (p := ⟨1, j, none⟩) (by simp; omega)).trans (h.big j hj), fun j hj => (hb.cell (p := ⟨0, j, none⟩) (by simp; omega)).trans (h.small j hj)⟩
theorem Laid.step {w w' : World} (h : Laid w) (hb : Below w.heap.size w w') : Laid w' := h.below hb h.lt
theorem add_lit (g o j : Nat) : (⟨g, o, none⟩ : Addr).add j = ⟨g, o + j, none⟩ := by unfold Addr.add; split <;> simp_all

set_option maxRecDepth 100000 in
set_option maxHeartbeats 400000 in
theorem small_any (w : World) (hL : Laid w) : Calls Tryd.prog 29 #[] w (Gives 5 smallL w) := by
  go_enter Tryd.func29, Tryd.ntmps29
  go_upto_region 1 with fail
  refine wp_region_lit ?_
  refine wpList_load_part rfl 95 (.global 0) rfl ⟨0, 0, none⟩ rfl smallL _ (fun j h => by rw [add_lit, Nat.zero_add]; exact hL.small j h) Tryd.underlying95 rfl (by rw [smallL_len]; kernel_rfl) ?_
  go_wp2_with fail
  refine (concat5 _).mono ?_
  rintro e w' ⟨v, rfl, hown, hb⟩
  go_wp2
  go_ret
  exact ⟨_, rfl, hown, hb⟩
set_option maxRecDepth 100000 in
set_option maxHeartbeats 400000 in
theorem big_any (w : World) (hL : Laid w) : Calls Tryd.prog 30 #[] w (Gives 5 bigL w) := by
  go_enter Tryd.func30, Tryd.ntmps30
  go_upto_region 1 with fail
  refine wp_region_lit ?_
  refine wpList_load_part rfl 98 (.global 1) rfl ⟨1, 0, none⟩ rfl bigL _ (fun j h => by rw [add_lit, Nat.zero_add]; exact hL.big j h) Tryd.underlying98 rfl (by rw [bigL_len]; kernel_rfl) ?_
  go_wp2_with fail
  refine (concat10 _).mono ?_
  rintro e w' ⟨v, rfl, hown, hb⟩
  go_wp2
  go_ret
  exact ⟨_, rfl, hown, hb⟩

end Go.Proofs.YtgilkbmipgejeaaDoor
/- Contracts of package mem: Read, Write, Dirty. -/
namespace Go.Proofs.YtgilkbmipgejeaaDoor
open Go.RowKit Num
set_option linter.unusedVariables false
set_option maxRecDepth 100000

set_option maxHeartbeats 400000 in
theorem mwrap_any (n : Int) (k : Nat) (w : World) (h : n % 65536 = k) : Calls Tryd.prog 38 #[.int .i64 n] w fun e w' => e = .returned (.int .i64 k) ∧ w' = w := by
  have hb := and65535 n
  rw [h] at hb
  clear h
  go_enter Tryd.func38, Tryd.ntmps38
  go_wp2
  go_ret
  exact ⟨rfl, rfl⟩
set_option maxHeartbeats 400000 in
theorem mmod_any (n : Int) (k : Nat) (w : World) (h : n % 65536 = k) : Calls Tryd.prog 17 #[.int .i64 n] w fun e w' => e = .returned (.int .i64 k) ∧ w' = w := by
  have H := Lib.hid h
  clear h
  by_cases hn : n.tmod 65536 < 0
  all_goals
    go_enter Tryd.func17, Tryd.ntmps17
    go_wp2
    go_ret
    exact ⟨ret_int (by have := mod16 n; have := H.out; first | omega | (unfold wrap64; omega)), rfl⟩

/-- The world after a read: it drew some numbers. -/
def Reads (v : Value) (w : World) (e : Ending) (w' : World) : Prop := e = .returned v ∧ ∃ n, w' = w.drewN n

end Go.Proofs.YtgilkbmipgejeaaDoor
/- Contracts of the log: add, take; of Dirty. -/
namespace Go.Proofs.YtgilkbmipgejeaaDoor
open Go.RowKit Num
set_option linter.unusedVariables false
set_option maxRecDepth 100000

theorem infoRange : (Tryd.prog.info? 52).map (fun i => (i.zero, i.size, i.bytes)) = some (some (.agg #[.int .i64 0, .int .i64 0]), 2, 16) := by kernel_rfl

/-- The log of the memory at p has become xs; but for it and p all is as it was. -/
def Wrote (p : Nat) (M : List Int) (base n : Nat) (xs : List Value) (v : Value) (w : World) (e : Ending) (w' : World) : Prop :=
  e = .returned (.tuple #[]) ∧ ∃ v', MemAt p M v' w' ∧ w'.ownsRow base 52 2 v' n xs ∧ Apart p v.ownBlock w w' ∧ (v'.ownBlock = v.ownBlock ∨ ∃ g, v'.ownBlock = some g ∧ w.heap.size ≤ g)

theorem news_two (w : World) (x y : Value) (t : TypeId) : ∀ j u, [x, y][j]? = some u → (w.alloc (.cells #[x, y] t)).cell? ((⟨w.heap.size, 0, none⟩ : Addr).add j) = some u := by
  intro j u hj
  rw [add_pl, cell_of_row _ _ _ _ _ _ (heap_alloc_new w _)]
  simpa using hj

theorem grown_mem {p : Nat} {M : List Int} {v : Value} {w1 w2 : World} {base n : Nat} {xs : List Value} {o : Obj} (hp : MemAt p M v w1) (hv : w1.ownsRow base 52 2 v n xs) (hg : (w1.drew.alloc o).grownBy w2 v.ownBlock) : MemAt p M v w2 := by
  have hlt := hp.lt
  have hne := own_tag hv hp (by decide)
  refine hp.keep ((hg.block p (by simp; omega) (fun e => hne e.symm)).trans ?_)
  exact heap_alloc_old w1.drew _ hlt

theorem wrote_end {p : Nat} {M : List Int} {v : Value} {base n cap gg : Nat} {xs : List Value} {w w1 w2 : World} {o : Obj} (hM : M.length = 65536) (ha : Apart p v.ownBlock w w1) (hs : w1.heap.size = w.heap.size + 1) (q : MemAt p M v w2)
    (hown : w2.ownsRow base 52 2 (.slice (some ⟨gg, 0, none⟩) (n + 1) cap) (n + 1) xs) (hg : (w1.alloc o).drew.grownBy w2 v.ownBlock) (hat : v.ownBlock = some gg ∨ gg = (w1.alloc o).drew.heap.size) :
    Wrote p M base (n + 1) xs v w (.returned (.tuple #[])) (w2.setCell ⟨p, 65536, none⟩ (.slice (some ⟨gg, 0, none⟩) (n + 1) cap)) := by
  have hne := own_tag hown q (by decide)
  refine ⟨rfl, _, q.setLog hM _, own_apart hown (p := p) (g := none) (Apart.setCell _ _) hne (fun k hk => by cases hk), ?_, ?_⟩
  · have h1 : Apart p v.ownBlock w1 (w1.alloc o).drew := (Apart.of_below ((Below.refl _ _).alloc (Nat.le_refl _) _)).drew
    exact ((ha.trans h1).trans (Apart.of_grown hg)).trans (Apart.setCell _ _)
  · rcases hat with h | h
    · exact .inl h.symm
    · refine .inr ⟨gg, rfl, ?_⟩
      rw [h]
      show w.heap.size ≤ (w1.alloc o).heap.size
      simp
      omega

set_option linter.unusedSimpArgs false in
set_option maxRecDepth 100000 in
set_option maxHeartbeats 2000000 in
theorem add_any (p : Nat) (M : List Int) (v : Value) (n base : Nat) (xs : List Value) (x y : Int) (w : World) (hM : M.length = 65536) (hp : MemAt p M v w) (hv : w.ownsRow base 52 2 v n xs) (hb : base ≤ w.heap.size) (hn : n ≤ 1000) :
    Calls Tryd.prog 39 #[.pointer (some ⟨p, 65536, none⟩), .agg #[.int .i64 x, .int .i64 y]] w (Wrote p M base (n + 1) (xs ++ [.int .i64 x, .int .i64 y]) v w) := by
  obtain ⟨i0, hi, hz0, hz1, hz2⟩ := info_parts infoRange
  have hlt := hp.lt
  have cl : (w.alloc (.cells #[.int .i64 x, .int .i64 y] 52)).cell? ⟨p, 65536, none⟩ = some v := by
    rw [World.cell?_of_block (w := w) (heap_alloc_old _ _ hlt)]
    exact hp.log hM
  have clf : (w.alloc (.cells #[.int .i64 x, .int .i64 y] 52)).frozen? ⟨p, 65536, none⟩ = false := by
    rw [World.frozen?_of_block (w := w) (heap_alloc_old _ _ hlt)]
    exact hp.frozen _
  have c0 : (w.alloc (.cells #[.int .i64 x, .int .i64 y] 52)).cell? ⟨w.heap.size, 0, none⟩ = some (.int .i64 x) := by rw [cell_of_row _ _ _ _ _ _ (heap_alloc_new w _)]; rfl
  have c1 : (w.alloc (.cells #[.int .i64 x, .int .i64 y] 52)).cell? ⟨w.heap.size, 1, none⟩ = some (.int .i64 y) := by rw [cell_of_row _ _ _ _ _ _ (heap_alloc_new w _)]; rfl
  have P := Lib.hid (And.intro hp hv)
  clear hp hv
  go_enter Tryd.func39, Tryd.ntmps39
  go_wp2
  obtain ⟨w1, hw1⟩ : ∃ w1, w1 = w.alloc (.cells #[.int .i64 x, .int .i64 y] 52) := ⟨_, rfl⟩
  rw [← hw1] at cl clf c0 c1 ⊢
  have hp1 : MemAt p M v w1 := P.out.1.keep (by rw [hw1]; exact heap_alloc_old _ _ hlt)
  have hv1 : w1.ownsRow base 52 2 v n xs := by rw [hw1]; exact P.out.2.alloc _
  have hs1 : w1.heap.size = w.heap.size + 1 := by rw [hw1]; simp
  have ha1 : Apart p v.ownBlock w w1 := by rw [hw1]; exact Apart.of_below ((Below.refl _ _).alloc (Nat.le_refl _) _)
  have Q := Lib.hid (And.intro hp1 (And.intro hv1 (And.intro ha1 hs1)))
  clear hw1 hp1 hv1 ha1 hs1
  have g1 : w.heap.size < w1.heap.size := by have := Q.out.2.2.2; omega
  have g2 : p < w1.heap.size := by omega
  go_region_law ((refine step_append_lies _ (by rfl) _ _ _ (by rfl) base 52 i0 _ 2 16 Tryd.underlying48 hi hz0 hz1 hz2 rfl (by omega) v n xs (by rfl) (World.ownsRow.alloc (w := w1.drew) Q.out.2.1 _) ⟨w1.heap.size, 0, none⟩ 1 1 [.int .i64 x, .int .i64 y] (by rfl) (by rfl) (news_two w1.drew _ _ _) (by simp [Value.oneCell']) (by omega) (by unfold maxLen; omega) (by omega) (by simp; omega) _ rfl ?_; intro gg cap w2 hown2 hgrow hat hlt2; have q2 := grown_mem Q.out.1 Q.out.2.1 hgrow; have ql := q2.log hM; have qf := q2.frozen 65536; have Q2 := Lib.hid (And.intro q2 (And.intro hown2 (And.intro hgrow hat))); clear q2 hown2 hgrow hat))
  all_goals
    go_wp2
    go_end0
    exact wrote_end hM Q.out.2.2.1 Q.out.2.2.2 Q2.out.1 Q2.out.2.1 Q2.out.2.2.1 Q2.out.2.2.2

/-- The log is handed over, and is empty then. -/
def Took (p : Nat) (M : List Int) (v : Value) (w : World) (e : Ending) (w' : World) : Prop := e = .returned v ∧ MemAt p M (.slice none 0 0) w' ∧ ∀ g, Apart p g w w'
set_option maxRecDepth 100000 in
set_option maxHeartbeats 1000000 in
theorem take_any (p : Nat) (M : List Int) (A : Option Addr) (n c : Nat) (w : World) (hM : M.length = 65536) (hp : MemAt p M (.slice A n c) w) :
    Calls Tryd.prog 41 #[.pointer (some ⟨p, 65536, none⟩)] w (Took p M (.slice A n c) w) := by
  have cl := hp.log hM
  have clf := hp.frozen 65536
  have P := Lib.hid (And.intro hp hM)
  clear hp hM
  go_enter Tryd.func41, Tryd.ntmps41
  go_wp2
  go_ret
  exact ⟨rfl, P.out.1.setLog P.out.2 _, fun g => Apart.setCell _ _⟩
set_option maxRecDepth 100000 in
set_option maxHeartbeats 1000000 in
theorem dirty_any (p : Nat) (M : List Int) (A : Option Addr) (n c : Nat) (w : World) (hM : M.length = 65536) (hp : MemAt p M (.slice A n c) w) :
    Calls Tryd.prog 21 #[.pointer (some ⟨p, 0, none⟩)] w (Took p M (.slice A n c) w) := by
  have P := Lib.hid (And.intro hp hM)
  clear hp hM
  go_enter Tryd.func21, Tryd.ntmps21
  go_wp2_with fail
  refine (take_any p M A n c _ P.out.2 P.out.1).mono ?_
  rintro e w' ⟨rfl, h⟩
  go_wp2
  go_ret
  exact ⟨rfl, h⟩
end Go.Proofs.YtgilkbmipgejeaaDoor
/- The contract of Write. -/
namespace Go.Proofs.YtgilkbmipgejeaaDoor
open Go.RowKit Num
set_option linter.unusedVariables false
set_option maxRecDepth 100000

theorem lenMem : Tryd.prog.arrayLen 67 = 65536 := by kernel_rfl
theorem cut_mem (p k : Nat) (hk : k < 65536) (w : World) : (Instr.sliceAt 67 (.pointer (some ⟨p, 0, none⟩)) (some (.int .i64 (k : Int))) none none).run Tryd.prog w = .ok (.slice (some ⟨p, k, none⟩) (65536 - k) (65536 - k)) w := by
  have h := run_sliceAt_array_l (P := Tryd.prog) w 67 ⟨p, 0, none⟩ Tryd.underlying67 .i64 k (by omega) (by rw [lenMem]; omega)
  rw [h, lenMem]
  show Result.ok (slicedAt _ _ _ _ 1) w = _
  unfold slicedAt
  rw [if_neg (by simp; omega), add_pl]
  simp
theorem cut_all (p N : Nat) (hN : N = 65536) (w : World) : (Instr.sliceAt 67 (.pointer (some ⟨p, 0, none⟩)) none none none).run Tryd.prog w = .ok (.slice (some ⟨p, 0, none⟩) N N) w := by
  subst hN
  have h := run_sliceAt_array_all (P := Tryd.prog) w 67 ⟨p, 0, none⟩ Tryd.underlying67
  rw [h, lenMem]
  show Result.ok (slicedAt _ _ _ _ 1) w = _
  unfold slicedAt
  rw [if_neg (by omega), add_pl]

set_option maxRecDepth 100000 in
set_option maxHeartbeats 1000000 in
theorem write_none (p : Nat) (a : Int) (A : Option Addr) (c : Nat) (w : World) :
    Calls Tryd.prog 18 #[.pointer (some ⟨p, 0, none⟩), .int .i64 a, .slice A 0 c] w fun e w' => e = .returned (.tuple #[]) ∧ w = w' := by
  go_enter Tryd.func18, Tryd.ntmps18
  go_wp2
  refine bodyPost_ret (results_none rfl _ _ _) rfl ?_
  exact ⟨rfl, rfl⟩

set_option linter.unusedSimpArgs false in
set_option maxRecDepth 100000 in
set_option maxHeartbeats 2000000 in
theorem write_any (p : Nat) (M : List Int) (v : Value) (n base : Nat) (xs : List Value) (a : Int) (k : Nat) (A : Option Addr) (m c : Nat) (L : List Int) (w : World) (hM : M.length = 65536) (hp : MemAt p M v w)
    (hv : w.ownsRow base 52 2 v n xs) (hb : base ≤ w.heap.size) (hn : n ≤ 1000) (hk : a % 65536 = k) (hL : L.length = m) (m0 : 0 < m) (m1 : m ≤ 65536) (hmc : m ≤ c) (hR : Rd w A L) (hA : ∀ ad, A = some ad → ad.block ≠ p) :
    Calls Tryd.prog 18 #[.pointer (some ⟨p, 0, none⟩), .int .i64 a, .slice A m c] w (Wrote p (put M a L) base (n + 1) (xs ++ [.int .i64 k, .int .i64 m]) v w) := by
  have k0 : 0 ≤ (k : Int) := by omega
  have k1 : (k : Int) < 65536 := by omega
  have k2 : k < 65536 := by omega
  have ks := cut_mem p k k2
  have k3 : ((m : Int) == 0) = false := by simp; omega
  have H := Lib.hid (And.intro hk (And.intro hL (And.intro hM (And.intro hp (And.intro hv (And.intro hR hA))))))
  clear hk hL hM hp hv hR hA
  go_enter Tryd.func18, Tryd.ntmps18
  go_wp2_with fail
  refine (mwrap_any _ _ _ H.out.1).mono ?_
  rintro e w0 ⟨rfl, h⟩
  subst h
  go_wp2_with fail
  obtain ⟨d, hd⟩ : ∃ d, d = min m (65536 - k) := ⟨_, rfl⟩
  obtain ⟨w1, hrun, hp1, ha1⟩ := run_copy_mem 3 p k (65536 - k) (65536 - k) A m c d hd L H.out.2.1 H.out.2.2.2.2.2.1 M v H.out.2.2.1 H.out.2.2.2.1 (by omega)
  have D := Lib.hid hd
  have d0 : 0 ≤ (d : Int) := by omega
  have d1 : (d : Int) ≤ (m : Int) := by omega
  have d2 : (d : Int) ≤ (c : Int) := by omega
  have P1 := Lib.hid (And.intro hp1 ha1)
  clear hd hp1 ha1
  rw [hrun]
  clear hrun ks
  go_wp2_with fail
  obtain ⟨N, hN⟩ : ∃ N, N = 65536 := ⟨_, rfl⟩
  have kl := cut_all p N hN
  have HN := Lib.hid hN
  clear hN
  refine wp_region_mix (C := fun w' => ∃ x : AnyW, w' = x.w) [([0, 1, 2, 3, 4, 5, 6], 7)] [] (by kernel_rfl) (by kernel_rfl) (fun _ _ d _ _ h => by cases d <;> exact h) (AnyW.any _) ?_
  intro wd hwd
  have P2 : MemAt p (splice M k (L.take (65536 - k))) v wd ∧ ∀ g, Apart p g w0 wd := by rw [hwd]; exact ⟨P1.out.1, fun g => (P1.out.2 g).drew⟩
  have PD := Lib.hid P2
  clear hwd P2 P1
  refine mix_run (by simp only [opsAt, List.getElem?_toArray, List.getElem?_cons_succ, List.getElem?_cons_zero]; rfl) (by rfl) ?_
  repeat (go_big_quiet_step (fail))
  refine wpQuiet_nil ?_
  refine mix_call (by rfl) ?_
  intro K hK
  have hl1 : (splice M k (L.take (65536 - k))).length = 65536 := by
    have h1 := H.out.2.1
    have h2 := H.out.2.2.1
    rw [splice_len _ _ _ (by rw [List.length_take]; omega)]
    exact h2
  have R1 : Rd wd A L := H.out.2.2.2.2.2.1.keep ((PD.out.2 none).size) fun ad e hlt => (PD.out.2 none).block ad.block hlt (H.out.2.2.2.2.2.2 ad e) (by simp)
  obtain ⟨w2, hrun, hp2, ha2⟩ := run_copy_mem 3 p 0 N N (if c = d then A else A.map (·.add d)) (m - d) (c - d) (m - d) (by have := HN.out; omega) (L.drop d) (by rw [List.length_drop, H.out.2.1]) (R1.cut (by rw [H.out.2.1]; exact hmc)) _ v hl1 PD.out.1 (by have := HN.out; omega)
  refine wp_copy_run (.tmp 27) (.tmp 30) rfl 3 rfl _ _ _ (by rfl) (by rfl) hrun 31 (by rfl) ?_
  simp only [List.setIfInBounds_toArray, List.set_cons_zero, List.set_cons_succ]
  refine hK _ _ (AnyW.any _) ?_
  clear hK K hrun
  generalize Value.slice (if c = d then A else A.map (·.add d)) (m - d) (c - d) = V1
  generalize Value.int .i64 ((m - d : Nat) : Int) = V2
  refine mix_last (by simp only [opsAt, List.getElem?_toArray, List.getElem?_cons_succ, List.getElem?_cons_zero]; rfl) ?_
  repeat (go_big_quiet_step (fail))
  refine wpQuiet_nil ?_
  have e2 : splice (splice M k (L.take (65536 - k))) 0 ((L.drop d).take N) = put M a L := by
    rw [HN.out]
    have h1 := H.out.2.1
    have h4 := D.out
    exact splice_write2 M L a k d H.out.1 (by omega) H.out.2.2.1 (by omega)
  rw [e2] at hp2
  have a02 : ∀ g, Apart p g w0 w2 := fun g => (PD.out.2 g).trans (ha2 g)
  have P2 := Lib.hid (And.intro hp2 a02)
  clear e2 hl1 hp2 ha2 kl a02 R1
  go_wp2_with fail
  have hv2 : w2.ownsRow base 52 2 v n xs := own_apart (g := none) H.out.2.2.2.2.1 (P2.out.2 none) (own_tag H.out.2.2.2.2.1 H.out.2.2.2.1 (by decide)) (fun k hk => by cases hk)
  refine (add_any p (put M a L) v n base xs k m w2 (by rw [put_len]; exact H.out.2.2.1) P2.out.1 hv2 (Nat.le_trans hb (P2.out.2 none).size) hn).mono ?_
  rintro e w3 ⟨rfl, h⟩
  have H3 := Lib.hid h
  clear h
  go_wp2
  go_end0
  obtain ⟨v', h1, h2, h3, h4⟩ := H3.out
  refine ⟨rfl, v', h1, h2, (P2.out.2 _).trans h3, h4.imp id ?_⟩
  rintro ⟨g, e, h⟩
  exact ⟨g, e, Nat.le_trans (P2.out.2 none).size h⟩
end Go.Proofs.YtgilkbmipgejeaaDoor
/- The contract of New. -/
namespace Go.Proofs.YtgilkbmipgejeaaDoor
open Go.RowKit Num
set_option linter.unusedVariables false
set_option maxRecDepth 100000

/-- A new memory for the ROM L. -/
def Made (L : List Int) (w : World) (e : Ending) (w' : World) : Prop :=
  ∃ p, e = .returned (.tuple #[.pointer (some ⟨p, 0, none⟩), .int .i64 0]) ∧ w.heap.size ≤ p ∧ MemAt p (initial L) (.slice none 0 0) w' ∧ Below w.heap.size w w'

theorem Gives.slice {ty : TypeId} {L : List Int} {w w' : World} {e : Ending} {n : Nat} (h : Gives ty L w e w') (hn : L.length = n) (h0 : 0 < n) :
    ∃ g c, e = .returned (.slice (some ⟨g, 0, none⟩) n c) ∧ n ≤ c ∧ w.heap.size ≤ g ∧ Rd w' (some ⟨g, 0, none⟩) L ∧ Below w.heap.size w w' := by
  obtain ⟨v, rfl, hown, hb⟩ := h
  rw [hn] at hown
  obtain ⟨g, c, rfl, hg, hlt⟩ := hown.form h0
  refine ⟨g, c, rfl, ?_, hg, own_rd hown, hb⟩
  rcases hown.2 with ⟨h1, _⟩ | ⟨g', c', cur, h1, _, _, hc, _⟩
  · cases h1
  · injection h1 with _ _ h2
    omega

set_option maxRecDepth 100000 in
set_option maxHeartbeats 1000000 in
theorem new_no (A : Option Addr) (n c : Nat) (w : World) (hn : 65024 < n) :
    Calls Tryd.prog 11 #[.slice A n c] w fun e w' => e = .returned (.tuple #[.pointer none, .int .i64 7]) ∧ w = w' := by
  have k1 : (65024 : Int) < (n : Int) := by omega
  go_enter Tryd.func11, Tryd.ntmps11
  go_wp2
  go_ret2
  exact ⟨rfl, rfl⟩

set_option linter.unusedSimpArgs false in
set_option maxRecDepth 100000 in
set_option maxHeartbeats 2000000 in
theorem new_yes (A : Option Addr) (n c : Nat) (L : List Int) (w : World) (hn : n ≤ 65024) (hL : L.length = n) (hR : Rd w A L) (hF : Laid w) :
    Calls Tryd.prog 11 #[.slice A n c] w (Made L w) := by
  have k1 : ¬ (65024 : Int) < (n : Int) := by omega
  have hz := zeroMem
  have H := Lib.hid (And.intro hL (And.intro hR hF))
  clear hL hR hF
  go_enter Tryd.func11, Tryd.ntmps11
  go_wp2_with fail
  clear hz
  have B1 : Below w.heap.size w (w.alloc (.cells (cells zeros (.slice none 0 0)) 71)) := (Below.refl _ _).alloc (Nat.le_refl _) _
  have M1 := MemAt.new w
  obtain ⟨p, hp⟩ : ∃ p, p = w.heap.size := ⟨_, rfl⟩
  generalize w.alloc (.cells (cells zeros (.slice none 0 0)) 71) = w1 at *
  rw [← hp] at M1 ⊢
  have P1 := Lib.hid (And.intro B1 (And.intro M1 hp))
  clear B1 M1 hp
  have c80 : ∀ w, (Instr.sliceAt 67 (.pointer (some ⟨p, 0, none⟩)) (some (.int .i64 80)) none none).run Tryd.prog w = .ok (.slice (some ⟨p, 80, none⟩) 65456 65456) w := cut_mem p 80 (by omega)
  have c160 : ∀ w, (Instr.sliceAt 67 (.pointer (some ⟨p, 0, none⟩)) (some (.int .i64 160)) none none).run Tryd.prog w = .ok (.slice (some ⟨p, 160, none⟩) 65376 65376) w := cut_mem p 160 (by omega)
  have c512 : ∀ w, (Instr.sliceAt 67 (.pointer (some ⟨p, 0, none⟩)) (some (.int .i64 512)) none none).run Tryd.prog w = .ok (.slice (some ⟨p, 512, none⟩) 65024 65024) w := cut_mem p 512 (by omega)
  refine wp_region_mix (C := fun w' => ∃ x : AnyW, w' = x.w) [([0, 1, 2, 3], 4), ([], 5)] [] (by kernel_rfl) (by kernel_rfl) (fun _ _ d _ _ h => by cases d <;> exact h) (AnyW.any _) ?_
  intro wd hwd
  have P2 : Below w.heap.size w wd ∧ MemAt p zeros (.slice none 0 0) wd ∧ p = w.heap.size := by rw [hwd]; exact ⟨P1.out.1.drew, P1.out.2⟩
  have PD := Lib.hid P2
  clear hwd P2 P1
  refine mix_run (by simp only [opsAt, List.getElem?_toArray, List.getElem?_cons_succ, List.getElem?_cons_zero]; rfl) (by rfl) ?_
  repeat (go_big_quiet_step (fail))
  refine wpQuiet_nil ?_
  refine mix_call (by rfl) ?_
  intro K hK
  go_wp2_with fail
  refine (small_any _ (H.out.2.2.step PD.out.1)).mono ?_
  rintro e w2 h
  obtain ⟨g, c2, rfl, _, _, R2, b2⟩ := h.slice smallL_len (by omega)
  have P2 : Below w.heap.size w w2 ∧ MemAt p zeros (.slice none 0 0) w2 ∧ p = w.heap.size := ⟨PD.out.1.trans (b2.mono PD.out.1.size), PD.out.2.1.keep (b2.block p PD.out.2.1.lt), PD.out.2.2⟩
  obtain ⟨v2, hrun, hm2, ha2⟩ := run_copy_mem 3 p 80 65456 65456 (some ⟨g, 0, none⟩) 80 c2 80 (by omega) smallL smallL_len R2 zeros (.slice none 0 0) (by exact zeros_len) P2.2.1 (by omega)
  rw [List.take_of_length_le (by rw [smallL_len]; omega), splice_put _ _ _ (by exact zeros_len) (by rw [smallL_len]; omega)] at hm2
  have Q2 := Lib.hid (And.intro (P2.1.trans ((ha2 none).below P2.1.size (by have := P2.2.2; omega) (fun k hk => by cases hk))) (And.intro hm2 P2.2.2))
  clear h PD R2 b2 P2 hm2 ha2
  simp only []
  refine hK _ _ (AnyW.any _) ?_
  clear hK K
  refine mix_run (by simp only [opsAt, List.getElem?_toArray, List.getElem?_cons_succ, List.getElem?_cons_zero]; rfl) (by rfl) ?_
  refine wpQuiet_nil ?_
  refine mix_call (by rfl) ?_
  intro K hK
  refine wp_copy_run (.tmp 12) (.tmp 13) rfl 3 rfl _ _ _ (by rfl) (by rfl) hrun 14 (by rfl) ?_
  simp only [List.setIfInBounds_toArray, List.set_cons_zero, List.set_cons_succ]
  refine hK _ _ (AnyW.any _) ?_
  clear hK K hrun
  refine mix_last (by simp only [opsAt, List.getElem?_toArray, List.getElem?_cons_succ, List.getElem?_cons_zero]; rfl) ?_
  refine wpQuiet_nil ?_
  clear c80
  go_wp2_with fail
  refine wp_region_mix (C := fun w' => ∃ x : AnyW, w' = x.w) [([0, 1, 2, 3], 4), ([], 5)] [] (by kernel_rfl) (by kernel_rfl) (fun _ _ d _ _ h => by cases d <;> exact h) (AnyW.any _) ?_
  intro wd hwd
  have P2 : Below w.heap.size w wd ∧ MemAt p (put zeros 80 smallL) (.slice none 0 0) wd ∧ p = w.heap.size := by rw [hwd]; exact ⟨Q2.out.1.drew, Q2.out.2⟩
  have PD := Lib.hid P2
  clear hwd P2 Q2
  refine mix_run (by simp only [opsAt, List.getElem?_toArray, List.getElem?_cons_succ, List.getElem?_cons_zero]; rfl) (by rfl) ?_
  repeat (go_big_quiet_step (fail))
  refine wpQuiet_nil ?_
  refine mix_call (by rfl) ?_
  intro K hK
  go_wp2_with fail
  refine (big_any _ (H.out.2.2.step PD.out.1)).mono ?_
  rintro e w3 h
  obtain ⟨g, c3, rfl, _, _, R3, b3⟩ := h.slice bigL_len (by omega)
  have P3 : Below w.heap.size w w3 ∧ MemAt p (put zeros 80 smallL) (.slice none 0 0) w3 ∧ p = w.heap.size := ⟨PD.out.1.trans (b3.mono PD.out.1.size), PD.out.2.1.keep (b3.block p PD.out.2.1.lt), PD.out.2.2⟩
  obtain ⟨v3, hrun, hm3, ha3⟩ := run_copy_mem 3 p 160 65376 65376 (some ⟨g, 0, none⟩) 160 c3 160 (by omega) bigL bigL_len R3 (put zeros 80 smallL) (.slice none 0 0) (by rw [put_len]; exact zeros_len) P3.2.1 (by omega)
  rw [List.take_of_length_le (by rw [bigL_len]; omega), splice_put _ _ _ (by rw [put_len]; exact zeros_len) (by rw [bigL_len]; omega)] at hm3
  have Q3 := Lib.hid (And.intro (P3.1.trans ((ha3 none).below P3.1.size (by have := P3.2.2; omega) (fun k hk => by cases hk))) (And.intro hm3 P3.2.2))
  clear h PD R3 b3 P3 hm3 ha3
  simp only []
  refine hK _ _ (AnyW.any _) ?_
  clear hK K
  refine mix_run (by simp only [opsAt, List.getElem?_toArray, List.getElem?_cons_succ, List.getElem?_cons_zero]; rfl) (by rfl) ?_
  refine wpQuiet_nil ?_
  refine mix_call (by rfl) ?_
  intro K hK
  refine wp_copy_run (.tmp 18) (.tmp 19) rfl 3 rfl _ _ _ (by rfl) (by rfl) hrun 20 (by rfl) ?_
  simp only [List.setIfInBounds_toArray, List.set_cons_zero, List.set_cons_succ]
  refine hK _ _ (AnyW.any _) ?_
  clear hK K hrun
  refine mix_last (by simp only [opsAt, List.getElem?_toArray, List.getElem?_cons_succ, List.getElem?_cons_zero]; rfl) ?_
  refine wpQuiet_nil ?_
  clear c160
  go_wp2_with fail
  have R3 : Rd v3 A L := H.out.2.1.below Q3.out.1
  obtain ⟨w4, hrun, hm4, ha4⟩ := run_copy_mem 3 p 512 65024 65024 A n c n (by omega) L H.out.1 R3 (put (put zeros 80 smallL) 160 bigL) (.slice none 0 0) (by rw [put_len, put_len]; exact zeros_len) Q3.out.2.1 (by omega)
  rw [List.take_of_length_le (by rw [H.out.1]; omega), splice_put _ _ _ (by rw [put_len, put_len]; exact zeros_len) (by rw [H.out.1]; omega)] at hm4
  have Q4 := Lib.hid (And.intro (Q3.out.1.trans ((ha4 none).below Q3.out.1.size (by have := Q3.out.2.2; omega) (fun k hk => by cases hk))) (And.intro hm4 Q3.out.2.2))
  clear R3 hm4 ha4 Q3 c512
  rw [hrun]
  clear hrun
  go_wp2
  go_ret2
  exact ⟨p, rfl, by have := Q4.out.2.2; omega, Q4.out.2.1, Q4.out.1⟩
end Go.Proofs.YtgilkbmipgejeaaDoor
/- The contracts of Bytes and Clone. -/
namespace Go.Proofs.YtgilkbmipgejeaaDoor
open Go.RowKit Num
set_option linter.unusedVariables false
set_option maxRecDepth 100000

/-- A new slice of n bytes, which reads as L. -/
def Gave (n : Nat) (L : List Int) (w : World) (e : Ending) (w' : World) : Prop :=
  ∃ g, e = .returned (.slice (some ⟨g, 0, none⟩) n n) ∧ w.heap.size ≤ g ∧ Rd w' (some ⟨g, 0, none⟩) L ∧ Below w.heap.size w w'

set_option linter.unusedSimpArgs false in
set_option maxRecDepth 100000 in
set_option maxHeartbeats 2000000 in
theorem bytes_any (p : Nat) (M : List Int) (v : Value) (a : Int) (k n : Nat) (w : World) (hM : M.length = 65536) (hp : MemAt p M v w) (hk : a % 65536 = k) (hn : n ≤ 65536) :
    Calls Tryd.prog 47 #[.pointer (some ⟨p, 0, none⟩), .int .i64 a, .int .i64 (n : Int)] w (Gave n (seg M a n) w) := by
  have m1 : max (n : Int) 0 = n := by omega
  have m2 : min (n : Int) 65536 = n := by omega
  have mk := make_bytes n n rfl (by omega)
  have H := Lib.hid (And.intro hM (And.intro hp hk))
  clear hM hp hk
  go_enter Tryd.func47, Tryd.ntmps47
  go_wp2_with fail
  clear mk m1 m2
  have B1 : Below w.heap.size w (w.alloc (.cells (arr (List.replicate n 0)) 5)) := (Below.refl _ _).alloc (Nat.le_refl _) _
  have G1 : (w.alloc (.cells (arr (List.replicate n 0)) 5)).heap[w.heap.size]? = some (.cells (arr (List.replicate n 0)) 5 (0, 0)) := heap_alloc_new _ _
  obtain ⟨g, hg⟩ : ∃ g, g = w.heap.size := ⟨_, rfl⟩
  generalize w.alloc (.cells (arr (List.replicate n 0)) 5) = w1 at *
  rw [← hg] at G1 ⊢
  have P1 := Lib.hid (And.intro B1 (And.intro G1 hg))
  clear B1 G1 hg
  have k2 : k < 65536 := by have := H.out.2.2; omega
  have c1 := cut_mem p k k2
  obtain ⟨N, hN⟩ : ∃ N, N = 65536 := ⟨_, rfl⟩
  have c2 := cut_all p N hN
  obtain ⟨d, hd⟩ : ∃ d, d = min (65536 - k) n := ⟨_, rfl⟩
  obtain ⟨D, hD⟩ : ∃ D, D = if n = d then some (⟨g, 0, none⟩ : Addr) else some ⟨g, d, none⟩ := ⟨_, rfl⟩
  have c3 := cut_row g n d (by omega) D hD
  have HD := Lib.hid (And.intro hN (And.intro hd hD))
  clear hN hd hD
  refine wp_region_mix (C := fun w' => ∃ x : AnyW, w' = x.w) [([0, 1, 2, 3, 4], 5), ([6], 7)] [8] (by kernel_rfl) (by kernel_rfl) (fun _ _ d _ _ h => by cases d <;> exact h) (AnyW.any _) ?_
  intro wd hwd
  have P2 : Below w.heap.size w wd ∧ wd.heap[g]? = some (.cells (arr (List.replicate n 0)) 5 (0, 0)) ∧ g = w.heap.size := by rw [hwd]; exact ⟨P1.out.1.drew, P1.out.2⟩
  have PD := Lib.hid P2
  clear hwd P2 P1
  refine mix_run (by simp only [opsAt, List.getElem?_toArray, List.getElem?_cons_succ, List.getElem?_cons_zero]; rfl) (by rfl) ?_
  repeat (go_big_quiet_step (fail))
  refine wpQuiet_nil ?_
  refine mix_call (by rfl) ?_
  intro K hK
  go_wp2_with fail
  refine (mwrap_any _ k _ H.out.2.2).mono ?_
  rintro e w' ⟨rfl, h⟩
  replace h := h.symm
  subst h
  simp only []
  refine hK _ _ (AnyW.any _) ?_
  clear hK K
  refine mix_run (by simp only [opsAt, List.getElem?_toArray, List.getElem?_cons_succ, List.getElem?_cons_zero]; rfl) (by rfl) ?_
  repeat (go_big_quiet_step (fail))
  refine wpQuiet_nil ?_
  refine mix_call (by rfl) ?_
  intro K hK
  have mp : MemAt p M v wd := H.out.2.1.keep (PD.out.1.block p H.out.2.1.lt)
  have R1 : Rd wd (some ⟨p, k, none⟩) (M.drop k) := fun _ => ⟨_, rfl, mp.lt, fun j hj => by
    have hM := H.out.1
    rw [List.length_drop] at hj
    rw [add_pl, mp.cell hM (k + j) (by omega), List.getElem_drop]⟩
  obtain ⟨w2, hrun, hg2, ha2⟩ := run_copy_bytes 3 g 0 n n (some ⟨g, 0, none⟩) (fun _ => rfl) (some ⟨p, k, none⟩) (65536 - k) (65536 - k) d HD.out.2.1 (M.drop k) (by rw [List.length_drop, H.out.1]) R1 (List.replicate n 0) 5 PD.out.2.1 (by simp)
  refine wp_copy_run (.tmp 15) (.tmp 21) rfl 3 rfl _ _ _ (by rfl) (by rfl) hrun 22 (by rfl) ?_
  simp only [List.setIfInBounds_toArray, List.set_cons_zero, List.set_cons_succ]
  refine hK _ _ (AnyW.any _) ?_
  have Q2 := Lib.hid (And.intro (PD.out.1.trans ((ha2 none).below PD.out.1.size (by have := PD.out.2.2; omega) (fun k hk => by cases hk))) (And.intro hg2 PD.out.2.2))
  clear hK K hrun hg2 ha2 mp R1 PD c1
  refine mix_last (by simp only [opsAt, List.getElem?_toArray, List.getElem?_cons_succ, List.getElem?_cons_zero]; rfl) ?_
  repeat (go_big_quiet_step (fail))
  refine wpQuiet_nil ?_
  go_wp2_with fail
  refine wp_region_mix (C := fun w' => ∃ x : AnyW, w' = x.w) [([0, 1, 2, 3, 4, 5, 6], 7)] [] (by kernel_rfl) (by kernel_rfl) (fun _ _ d _ _ h => by cases d <;> exact h) (AnyW.any _) ?_
  intro wd hwd
  have P2 : Below w.heap.size w wd ∧ wd.heap[g]? = some (.cells (arr (splice (List.replicate n 0) 0 ((M.drop k).take n))) 5 (0, 0)) ∧ g = w.heap.size := by rw [hwd]; exact ⟨Q2.out.1.drew, Q2.out.2⟩
  have PD := Lib.hid P2
  clear hwd P2 Q2
  refine mix_run (by simp only [opsAt, List.getElem?_toArray, List.getElem?_cons_succ, List.getElem?_cons_zero]; rfl) (by rfl) ?_
  repeat (go_big_quiet_step (fail))
  refine wpQuiet_nil ?_
  refine mix_call (by rfl) ?_
  intro K hK
  have mp : MemAt p M v wd := H.out.2.1.keep (PD.out.1.block p H.out.2.1.lt)
  have R1 : Rd wd (some ⟨p, 0, none⟩) M := fun _ => ⟨_, rfl, mp.lt, fun j hj => by
    have hM := H.out.1
    rw [add_pl, Nat.zero_add, mp.cell hM j (by omega)]⟩
  have hl2 : (splice (List.replicate n (0 : Int)) 0 ((M.drop k).take n)).length = n := by
    rw [splice_len _ _ _ (by rw [List.length_take, List.length_replicate]; omega), List.length_replicate]
  have hdn : d ≤ n := by have := HD.out.2.1; omega
  obtain ⟨w3, hrun, hg3, ha3⟩ := run_copy_bytes 3 g d (n - d) (n - d) D (fun h => by rw [HD.out.2.2, if_neg (by omega)]) (some ⟨p, 0, none⟩) N N (n - d) (by have := HD.out.1; omega) M (by rw [HD.out.1]; exact H.out.1) R1 _ 5 PD.out.2.1 (by rw [hl2]; omega)
  refine wp_copy_run (.tmp 25) (.tmp 29) rfl 3 rfl _ _ _ (by rfl) (by rfl) hrun 30 (by rfl) ?_
  simp only [List.setIfInBounds_toArray, List.set_cons_zero, List.set_cons_succ]
  refine hK _ _ (AnyW.any _) ?_
  rw [splice_read2 M (List.replicate n 0) a k n d H.out.2.2 HD.out.2.1 H.out.1 hn List.length_replicate] at hg3
  have Q3 := Lib.hid (And.intro (PD.out.1.trans ((ha3 none).below PD.out.1.size (by have := PD.out.2.2; omega) (fun k hk => by cases hk))) (And.intro hg3 PD.out.2.2))
  clear hK K hrun hg3 ha3 mp R1 PD hl2 c2 c3
  refine mix_last (by simp only [opsAt, List.getElem?_toArray, List.getElem?_cons_succ, List.getElem?_cons_zero]; rfl) ?_
  refine wpQuiet_nil ?_
  go_wp2
  go_ret
  refine ⟨g, rfl, by have := Q3.out.2.2; omega, ?_, Q3.out.1⟩
  intro _
  have hg := Q3.out.2.1
  refine ⟨_, rfl, (Array.getElem?_eq_some_iff.1 hg).1, fun j hj => ?_⟩
  rw [add_pl, Nat.zero_add, cell_of_row _ _ _ _ _ _ hg]
  exact arr_get _ j hj
end Go.Proofs.YtgilkbmipgejeaaDoor
/- A region that draws its order: what reads and what leaves the world alone comes first, in the order of the text; then a tail. Nothing of the program. -/
namespace Go.Proofs.YtgilkbmipgejeaaDoor
open Go.RowKit
set_option linter.unusedVariables false

theorem tail_region {P : Program} {id : Nat} {Q : Exit → Act → World → Prop} {a : Act} {w : World} {l : List Oper} (n : Nat) (hm : P.follows .mixedOrders = true) (hB : Region.lexTailB .any l.toArray n = true)
    (h : ∀ wd, wd = w.drew → wpStill P l.toArray wd (fun a' => wpList P l.toArray Q (l.drop n) a' wd) (l.take n) a) : (Code.region id l.toArray true).wp P Q a w :=
  wp_region_still_tail n hm hB (h w.drew rfl)
end Go.Proofs.YtgilkbmipgejeaaDoor
/- Contracts of word.Number and word.Split, and of the reference's Split. -/
namespace Go.Proofs.YtgilkbmipgejeaaDoor
open Go.RowKit Num
set_option linter.unusedVariables false

set_option maxHeartbeats 400000 in
theorem number_any (h l : Int) (w : World) (h0 : 0 ≤ h) (h1 : h ≤ 255) (l0 : 0 ≤ l) (l1 : l ≤ 255) :
    Calls Tryd.prog 61 #[.int .u8 h, .int .u8 l] w fun e w' => e = .returned (.int .i64 (h * 256 + l)) ∧ w = w' := by
  go_enter Tryd.func61, Tryd.ntmps61
  go_wp2
  go_ret
  exact ⟨ret_int (or256 h l h0 h1 l0 l1), rfl⟩

set_option maxHeartbeats 400000 in
theorem split_any (h l : Int) (w : World) (h0 : 0 ≤ h) (h1 : h ≤ 255) (l0 : 0 ≤ l) (l1 : l ≤ 255) :
    Calls Tryd.prog 59 #[.int .u8 h, .int .u8 l] w fun e w' =>
      e = .returned (.agg #[.int .i64 (h / 16), .int .i64 (h % 16), .int .i64 (l / 16), .int .i64 (l % 16), .int .i64 l, .int .i64 (h % 16 * 256 + l)]) ∧ Below w.heap.size w w' := by
  go_enter Tryd.func59, Tryd.ntmps59
  go_wp2_with (go_at_call 61; refine (number_any _ _ _ h0 h1 l0 l1).mono ?_; rintro e w' ⟨rfl, rfl⟩)
  go_returns
  refine ⟨?_, by go_grown⟩
  rw [and15 _ (by omega) (by omega), and15 _ (by omega) (by omega), and15 _ (by omega) (by omega), and255 _ (by omega) (by omega), and4095 _ (by omega) (by omega)]
  exact ret_agg6 (by omega) (by omega) (by omega) (by omega) (by omega) (by omega)

set_option maxHeartbeats 400000 in
theorem rsplit_any (h l : Int) (w : World) (h0 : 0 ≤ h) (h1 : h ≤ 255) (l0 : 0 ≤ l) (l1 : l ≤ 255) :
    Calls Tryd.prog 50 #[.int .u8 h, .int .u8 l] w fun e w' =>
      e = .returned (.agg #[.int .i64 (h / 16), .int .i64 (h % 16), .int .i64 (l / 16), .int .i64 (l % 16), .int .i64 l, .int .i64 (h % 16 * 256 + l)]) ∧ Below w.heap.size w w' := by
  go_enter Tryd.func50, Tryd.ntmps50
  go_wp2
  go_returns
  exact ⟨rfl, by go_grown⟩
end Go.Proofs.YtgilkbmipgejeaaDoor
/- A region that draws its order, whose operations read and whose callees read or make memory: one walk in the order of the text. -/
namespace Go.Proofs.YtgilkbmipgejeaaDoor
open Go.RowKit
set_option linter.unusedVariables false

/-- A world that is as W was, below the end of W's memory. -/
def Calm (W : World) : Type := { w' : World // Below W.heap.size W w' }
/-- The world itself. -/
def Calm.w {W : World} (x : Calm W) : World := x.1
theorem Calm.below {W : World} (x : Calm W) : Below W.heap.size W x.w := x.2
instance (W : World) : Nonempty (Calm W) := ⟨⟨W, Below.refl _ _⟩⟩
theorem Calm.cell {W : World} {b o : Nat} {v : Value} (h : W.cell? ⟨b, o, none⟩ = some v) (hb : b < W.heap.size) (x : Calm W) : x.w.cell? ⟨b, o, none⟩ = some v :=
  (x.below.cell (p := ⟨b, o, none⟩) hb).trans h

theorem calm_region {P : Program} {id : Nat} {l : List Oper} {Q : Exit → Act → World → Prop} {a : Act} {W : World} (hm : P.follows .mixedOrders = true) (hB : Region.lexB .any l.toArray = true)
    (h : wpQuiet P l.toArray (fun w' => ∃ x : Calm W, w' = x.w) (fun a' => ∀ w', (∃ x : Calm W, w' = x.w) → Q .normal a' w') l a) : (Code.region id l.toArray true).wp P Q a W :=
  wp_region_quiet (C := fun w' => ∃ x : Calm W, w' = x.w) hm hB ⟨⟨W.drew, (Below.refl _ _).drew⟩, rfl⟩ (by simpa using h)

/-- A callee that makes memory and leaves all that was there. -/
theorem calm_call {P : Program} {f : FuncId} {args : Array Value} {v : Value} {W : World} {x : Calm W} (h : Calls P f args x.w fun e w' => e = .returned v ∧ Below x.w.heap.size x.w w') :
    Calls P f args x.w fun e w'' => e = .returned v ∧ ∃ y : Calm W, w'' = y.w :=
  h.mono fun _ w' ⟨he, hb⟩ => ⟨he, ⟨w', x.below.trans (hb.mono x.below.size)⟩, rfl⟩
theorem calm_same {P : Program} {f : FuncId} {args : Array Value} {v : Value} {W : World} {x : Calm W} (h : Calls P f args x.w fun e w' => e = .returned v ∧ x.w = w') :
    Calls P f args x.w fun e w'' => e = .returned v ∧ ∃ y : Calm W, w'' = y.w :=
  h.mono fun _ _ ⟨he, hb⟩ => ⟨he, x, hb.symm⟩
end Go.Proofs.YtgilkbmipgejeaaDoor
/- Structs and arrays by value, known whole: their blocks, parts of them loaded and stored, new variables. Nothing of the program. -/
namespace Go.Proofs.YtgilkbmipgejeaaDoor
open Go.RowKit
set_option linter.unusedVariables false
set_option linter.unusedSimpArgs false

/-- T is a struct or an array of n cells. -/
structure AggT (P : Program) (T : TypeId) (n : Nat) : Prop where
  u : ∃ d, P.underlying T = some d ∧ d.isRow = true
  i : (P.info? T).map (·.size) = some n
/-- The zero value of T. -/
def ZeroT (P : Program) (T : TypeId) (z : Array Value) : Prop := (P.info? T).map (fun i => (i.zero, i.size)) = some (some (.agg z), z.size)
/-- Each of them is one cell. -/
def Ones (cs : Array Value) : Prop := cs.all (·.oneCell') = true
/-- Block b is a variable of type T with these cells. -/
def Blk (b : Nat) (T : TypeId) (cs : Array Value) (w : World) : Prop := w.heap[b]? = some (.cells cs T (0, 0))
theorem belowRow' {B : Nat} {a w : World} (h : Below B a w) {g : Nat} (hg : B ≤ g) (cs : Array Value) : Below B a (w.setRow g cs) :=
  h.trans ⟨rfl, rfl, rfl, by simp [World.setRow], fun k hk => setRow_other w g k cs (by omega)⟩
section
variable {b : Nat} {T : TypeId} {cs ds : Array Value} {w w' : World}
theorem Blk.lt (H : Blk b T cs w) : b < w.heap.size := (Array.getElem?_eq_some_iff.1 H).1
theorem Blk.below (H : Blk b T cs w) {n : Nat} (hb : Below n w w') (hn : b < n) : Blk b T cs w' := (hb.block b hn).trans H
theorem Blk.step (H : Blk b T cs w) (hb : Below w.heap.size w w') : Blk b T cs w' := H.below hb H.lt
theorem Blk.new (w : World) (T : TypeId) (cs : Array Value) : Blk w.heap.size T cs (w.alloc (.cells cs T)) := heap_alloc_new _ _
theorem Blk.alloc (H : Blk b T cs w) (o : Obj) : Blk b T cs (w.alloc o) := H.step ((Below.refl _ _).alloc (Nat.le_refl _) _)
theorem Blk.drew (H : Blk b T cs w) : Blk b T cs w.drew := H
theorem Blk.other (H : Blk b T cs w) {g : Nat} (hg : b ≠ g) (o : Nat) (v : Value) : Blk b T cs (w.setCell ⟨g, o, none⟩ v) := (Below.heap_setCell w ⟨g, o, none⟩ v b hg).trans H
theorem Blk.otherRow (H : Blk b T cs w) {g : Nat} (hg : b ≠ g) (ds : Array Value) : Blk b T cs (w.setRow g ds) := (setRow_other w g b ds hg).trans H
theorem Blk.cell (H : Blk b T cs w) (j : Nat) : w.cell? ⟨b, j, none⟩ = cs[j]? := cell_of_row w b j cs T (0, 0) H
theorem Blk.frozen (H : Blk b T cs w) (j : Nat) : w.frozen? ⟨b, j, none⟩ = false := frozen_of_row w b j cs T H
theorem Blk.store (H : Blk b T cs w) (ds : Array Value) : Blk b T ds (w.setRow b ds) := setRow_heap w b _ _ T (0, 0) H
theorem Blk.put (H : Blk b T cs w) (j : Nat) (v : Value) : Blk b T (cs.setIfInBounds j v) (w.setCell ⟨b, j, none⟩ v) := heap_setCell_same w b j _ _ v H
theorem Blk.eq (H : Blk b T cs w) (e : cs = ds) : Blk b T ds w := e ▸ H
/-- A part of the cells turned. -/
def splice8 (cs : Array Value) (o : Nat) (ds : Array Value) : Array Value := (cs.toList.take o ++ ds.toList ++ cs.toList.drop (o + ds.size)).toArray
end

section
variable {P : Program} {ops : Array Oper} {T ty : TypeId} {b o n : Nat} {cs ds : Array Value} {w : World} {Q : Exit → Act → World → Prop}
theorem run_load_part (A : AggT P ty n) (H : Blk b T cs w) (ho : o + n ≤ cs.size) : (loadVar ty ⟨b, o, none⟩).run P w = .ok (.agg (cs.extract o (o + n))) w := by
  obtain ⟨d, hu, hd⟩ := A.u
  have h := run_loadVar_mid (P := P) w b o ty (cs.extract o (o + n)).toList d (World.rangeAt_of_block H o n) hu hd (by rw [A.i]; simp; omega)
  rwa [Array.toArray_toList] at h
theorem exec_load_part {op : Oper} {ρ : Operand → Value} (A : AggT P ty n) (H : Blk b T cs w) (hn : o + n ≤ cs.size) (x : Operand) (ho : op.op = .load ty x) (hx : ρ x = .pointer (some ⟨b, o, none⟩)) : (execOp ρ op).run P w = .ok (.value (.agg (cs.extract o (o + n)))) w := by
  unfold execOp
  simp only [ho, hx, Instr.loadAt, Instr.sureAddr, Sem.run_bind, Sem.run_pure, Result.andThen_ok, run_load_part A H hn]
theorem exec_load_all {op : Oper} {ρ : Operand → Value} (A : AggT P ty n) (H : Blk b T cs w) (hn : cs.size = n) (x : Operand) (ho : op.op = .load ty x) (hx : ρ x = .pointer (some ⟨b, 0, none⟩)) : (execOp ρ op).run P w = .ok (.value (.agg cs)) w := by
  have h := exec_load_part A H (by omega : 0 + n ≤ cs.size) x ho hx
  rw [h]
  subst hn
  simp
theorem run_store_part (A : AggT P ty n) (H : Blk b T cs w) (hn : ds.size = n) (ho : o + n ≤ cs.size) (h1 : Ones ds) : (storeVar ty ⟨b, o, none⟩ (.agg ds)).run P w = .ok () (w.setRow b (splice8 cs o ds)) := by
  have h := run_storeCells_at P b o T ds.toList 0 cs w H (by simp; omega) (fun v hv => (Array.all_eq_true_iff_forall_mem.1 h1) v (by simpa using hv))
  have hi := A.i
  cases hq : P.info? ty with
  | none => simp [hq] at hi
  | some i =>
    have hs : i.size = n := by simpa [hq] using hi
    simp [storeVar, sizeOf, typeInfo, hq, Value.cells, hs, hn, h, splice8]
theorem wp_store_part {op : Oper} {a : Act} {K : Act → World → Prop} (A : AggT P ty n) (H : Blk b T cs w) (hn : ds.size = n) (hl : o + n ≤ cs.size) (h1 : Ones ds) (x y : Operand) (ho : op.op = .store ty x y) (hx : a.eval x = .pointer (some ⟨b, o, none⟩)) (hy : a.eval y = .agg ds)
    (h : K (a.put op.dst undef) (w.setRow b (splice8 cs o ds))) : op.wp P a w K Q := by
  unfold Oper.wp execOp
  simp only [ho, hx, hy, Instr.storeAt, Instr.sureAddr, Sem.run_bind, Sem.run_pure, Result.andThen_ok, run_store_part A H hn hl h1]
  exact h
theorem splice8_all (h : ds.size = cs.size) : splice8 cs 0 ds = ds := by
  unfold splice8
  rw [Nat.zero_add, h]
  simp [List.drop_eq_nil_of_le]
/-- A whole value is stored. -/
theorem wp_store_all {op : Oper} {a : Act} {K : Act → World → Prop} (A : AggT P ty n) (H : Blk b T cs w) (hc : cs.size = n) (hn : ds.size = n) (h1 : Ones ds) (x y : Operand) (ho : op.op = .store ty x y) (hx : a.eval x = .pointer (some ⟨b, 0, none⟩)) (hy : a.eval y = .agg ds)
    (h : K (a.put op.dst undef) (w.setRow b ds)) : op.wp P a w K Q :=
  wp_store_part A H hn (by omega) h1 x y ho hx hy (by rw [splice8_all (by omega)]; exact h)
variable {rest : List Oper} {op : Oper} {a : Act}
theorem list_run (hgd : op.guard = none) (v : Value) (h1 : (execOp a.eval op).run P w = .ok (.value v) w) (h : wpList P ops Q rest (a.put op.dst v) w) : wpList P ops Q (op :: rest) a w :=
  wpList_plain hgd fun K hK => by unfold Oper.wp; rw [h1]; exact hK _ _ h
theorem list_load_part (A : AggT P ty n) (H : Blk b T cs w) (hn : o + n ≤ cs.size) (hgd : op.guard = none) (x : Operand) (ho : op.op = .load ty x) (hx : a.eval x = .pointer (some ⟨b, o, none⟩))
    (h : wpList P ops Q rest (a.put op.dst (.agg (cs.extract o (o + n)))) w) : wpList P ops Q (op :: rest) a w :=
  wpList_plain hgd fun K hK => by unfold Oper.wp; rw [exec_load_part A H hn x ho hx]; exact hK _ _ h
theorem list_load_all (A : AggT P ty n) (H : Blk b T cs w) (hn : cs.size = n) (hgd : op.guard = none) (x : Operand) (ho : op.op = .load ty x) (hx : a.eval x = .pointer (some ⟨b, 0, none⟩))
    (h : wpList P ops Q rest (a.put op.dst (.agg cs)) w) : wpList P ops Q (op :: rest) a w :=
  wpList_plain hgd fun K hK => by unfold Oper.wp; rw [exec_load_all A H hn x ho hx]; exact hK _ _ h
theorem list_store_all (A : AggT P ty n) (H : Blk b T cs w) (hc : cs.size = n) (hn : ds.size = n) (h1 : Ones ds) (hgd : op.guard = none) (x y : Operand) (ho : op.op = .store ty x y) (hx : a.eval x = .pointer (some ⟨b, 0, none⟩)) (hy : a.eval y = .agg ds)
    (h : wpList P ops Q rest (a.put op.dst undef) (w.setRow b ds)) : wpList P ops Q (op :: rest) a w :=
  wpList_plain hgd fun K hK => wp_store_all A H hc hn h1 x y ho hx hy (hK _ _ h)
theorem list_store_part (A : AggT P ty n) (H : Blk b T cs w) (hn : ds.size = n) (hl : o + n ≤ cs.size) (h1 : Ones ds) (hgd : op.guard = none) (x y : Operand) (ho : op.op = .store ty x y) (hx : a.eval x = .pointer (some ⟨b, o, none⟩)) (hy : a.eval y = .agg ds)
    (h : wpList P ops Q rest (a.put op.dst undef) (w.setRow b (splice8 cs o ds))) : wpList P ops Q (op :: rest) a w :=
  wpList_plain hgd fun K hK => wp_store_part A H hn hl h1 x y ho hx hy (hK _ _ h)
theorem setRow_fresh (W : World) (cs cs' : Array Value) (t : TypeId) : (W.alloc (.cells cs t)).setRow W.heap.size cs' = W.alloc (.cells cs' t) := by
  unfold World.setRow World.alloc
  congr 1
  apply Array.ext_getElem?
  intro i
  simp only [Array.getElem?_modify, Array.getElem?_push]
  by_cases e : W.heap.size = i
  · subst e
    simp
  · rw [if_neg e, if_neg (fun h => e h.symm), if_neg (fun h => e h.symm)]
theorem run_alloc {z : Array Value} (Z : ZeroT P ty z) : (zeroValue ty).run P w = .ok (.agg z) w := by
  unfold ZeroT at Z
  unfold zeroValue typeInfo
  cases hq : P.info? ty with
  | none => simp [hq] at Z
  | some i =>
    simp only [hq, Option.map_some, Option.some.injEq, Prod.mk.injEq] at Z
    simp [Sem.run_bind, hq, Z.1]
theorem wp_alloc {K : Act → World → Prop} {z : Array Value} (Z : ZeroT P ty z) (ho : op.op = .alloc ty) (h : K (a.put op.dst (.pointer (some ⟨w.heap.size, 0, none⟩))) (w.alloc (.cells z ty))) : op.wp P a w K Q := by
  unfold Oper.wp execOp
  simp only [ho, Instr.alloc, newVar, newRow, newObj, Sem.run_bind, run_alloc Z, Result.andThen_ok, Sem.run_pure]
  exact h
/-- 'x := value': a new variable, and the value is stored. -/
theorem list_var_all {o1 o2 : Oper} {z : Array Value} (A : AggT P ty n) (Z : ZeroT P ty z) (hz : z.size = n) (hn : ds.size = n) (h1 : Ones ds) (g1 : o1.guard = none) (ho1 : o1.op = .alloc ty) (g2 : o2.guard = none) (x y : Operand) (ho2 : o2.op = .store ty x y)
    (hx : (a.put o1.dst (.pointer (some ⟨w.heap.size, 0, none⟩))).eval x = .pointer (some ⟨w.heap.size, 0, none⟩)) (hy : (a.put o1.dst (.pointer (some ⟨w.heap.size, 0, none⟩))).eval y = .agg ds)
    (h : wpList P ops Q rest ((a.put o1.dst (.pointer (some ⟨w.heap.size, 0, none⟩))).put o2.dst undef) (w.alloc (.cells ds ty))) : wpList P ops Q (o1 :: o2 :: rest) a w := by
  refine wpList_plain g1 fun K hK => wp_alloc Z ho1 (hK _ _ ?_)
  refine list_store_all A (Blk.new w ty z) hz hn h1 g2 x y ho2 hx hy ?_
  rw [setRow_fresh]
  exact h
theorem list_build_all {cs : Array Value} {parts : Array (Nat × Operand)} (hgd : op.guard = none) (ho : op.op = .build ty parts) (hb : P.built ty (parts.map fun (i, x) => (i, a.eval x)).toList = some cs)
    (h : wpList P ops Q rest (a.put op.dst (.agg cs)) w) : wpList P ops Q (op :: rest) a w :=
  wpList_build hgd ty parts ho (by rw [hb]; rfl) (by rw [hb]; exact h)
end

/-! ### In one walk, the order of the text -/
section
variable {P : Program} {ops : Array Oper} {C : World → Prop} {ty T : TypeId} {b o n : Nat} {cs : Array Value}
theorem quiet_run {Q : Act → Prop} {op : Oper} {rest : List Oper} {a : Act} (hw : Region.wanted op (yielded ops a.tmps) = true) (v : Value) (h1 : ∀ w, C w → (execOp a.eval op).run P w = .ok (.value v) w) (h : wpQuiet P ops C Q rest (a.put op.dst v)) : wpQuiet P ops C Q (op :: rest) a := by
  simp only [wpQuiet, hw, if_true]
  exact ⟨v, fun w hC => by unfold Oper.quietAt; rw [h1 w hC]; exact ⟨rfl, rfl⟩, h⟩
theorem quiet_load_all {Q : Act → Prop} {op : Oper} {rest : List Oper} {a : Act} (A : AggT P ty n) (H : ∀ w, C w → Blk b T cs w) (hn : cs.size = n) (hw : Region.wanted op (yielded ops a.tmps) = true) (x : Operand) (ho : op.op = .load ty x) (hx : a.eval x = .pointer (some ⟨b, 0, none⟩))
    (h : wpQuiet P ops C Q rest (a.put op.dst (.agg cs))) : wpQuiet P ops C Q (op :: rest) a :=
  quiet_run hw _ (fun w hC => exec_load_all A (H w hC) hn x ho hx) h
theorem quiet_load_part {Q : Act → Prop} {op : Oper} {rest : List Oper} {a : Act} (A : AggT P ty n) (H : ∀ w, C w → Blk b T cs w) (hn : o + n ≤ cs.size) (hw : Region.wanted op (yielded ops a.tmps) = true) (x : Operand) (ho : op.op = .load ty x) (hx : a.eval x = .pointer (some ⟨b, o, none⟩))
    (h : wpQuiet P ops C Q rest (a.put op.dst (.agg (cs.extract o (o + n))))) : wpQuiet P ops C Q (op :: rest) a :=
  quiet_run hw _ (fun w hC => exec_load_part A (H w hC) hn x ho hx) h
/-- One cell is loaded. -/
theorem exec_load_one {op : Oper} {ρ : Operand → Value} {w : World} {v : Value} {ad : Addr} (hu : ∃ d, P.underlying ty = some d ∧ d.isRow = false) (hc : w.cell? ad = some v) (x : Operand) (ho : op.op = .load ty x) (hx : ρ x = .pointer (some ad)) : (execOp ρ op).run P w = .ok (.value v) w := by
  obtain ⟨d, hu, hd⟩ := hu
  have hagg : (isAgg ty).run P w = .ok false w := by
    unfold isAgg
    rw [Sem.run_bind, run_underlying hu w]
    cases d <;> simp_all
  unfold execOp
  simp [ho, hx, Instr.loadAt, Instr.sureAddr, loadVar, Sem.run_bind, hagg, hc]
theorem quiet_load_one {Q : Act → Prop} {op : Oper} {rest : List Oper} {a : Act} {v : Value} {ad : Addr} (hu : ∃ d, P.underlying ty = some d ∧ d.isRow = false) (H : ∀ w, C w → w.cell? ad = some v) (hw : Region.wanted op (yielded ops a.tmps) = true) (x : Operand) (ho : op.op = .load ty x) (hx : a.eval x = .pointer (some ad))
    (h : wpQuiet P ops C Q rest (a.put op.dst v)) : wpQuiet P ops C Q (op :: rest) a :=
  quiet_run hw _ (fun w hC => exec_load_one hu (H w hC) x ho hx) h
theorem quiet_build_all {Q : Act → Prop} {op : Oper} {rest : List Oper} {a : Act} {cs : Array Value} {parts : Array (Nat × Operand)} (hw : Region.wanted op (yielded ops a.tmps) = true) (ho : op.op = .build ty parts) (hb : P.built ty (parts.map fun (i, x) => (i, a.eval x)).toList = some cs)
    (h : wpQuiet P ops C Q rest (a.put op.dst (.agg cs))) : wpQuiet P ops C Q (op :: rest) a :=
  quiet_run hw (.agg cs) (fun w _ => by
    unfold execOp
    simp only [ho, Sem.run_bind, run_build w ty _ cs hb, Result.andThen_ok, Sem.run_pure]) h
end
end Go.Proofs.YtgilkbmipgejeaaDoor
/- Contracts of flags.Allowed and of the reference's. -/
namespace Go.Proofs.YtgilkbmipgejeaaDoor
open Go.RowKit Num Go.Maps
set_option linter.unusedVariables false
set_option linter.unusedSimpArgs false

/-- A key of a map's literal. -/
theorem wpList_insert_own {H : Type} {P : Program} (w : World) {ops : Array Oper} {rest : List Oper} {o : Oper} {a : Act} {Q : Exit → Act → World → Prop}
    (hg : o.guard = none) (m x v : Operand) (t : TypeId) (hop : o.op = Op.insert t m x v)
    (k e : TypeId) (K : Keyed P k) (ht : P.underlying t = some (.map k e)) (R : Value → Option (DataW H × List MemPlace)) (b n : Nat) (D : DataW H)
    (hm : a.eval m = .map (some b)) (hown : w.ownsMap P k R b n D) (hn : n < maxLen) (key val : Value) (kl : Lit) (hx : a.eval x = key) (hv : a.eval v = val) (hkey : keyOf P k key = some kl)
    (d : DataW H) (ps : List MemPlace) (hval : R val = some (d, ps))
    (hK : ∀ w', w'.ownsMap P k R b (n + 1) (D.put kl d) → w.grownBy w' (some b) → wpList P ops Q rest (a.put o.dst undef) w') :
    wpList P ops Q (o :: rest) a w := by
  refine wpList_plain hg fun K' hK' => ?_
  obtain ⟨w', hrun, r1, r2⟩ := hown.update K ht hn hkey hval
  unfold Oper.wp
  simp [execOp, hop, hm, hx, hv, hrun, Result.andThen]
  exact hK' _ _ (hK w' r1 r2)

/-- What the level allows. -/
def allow (l x : Int) : Bool := decide ((l = 2 ∧ 0 ≤ x ∧ x ≤ 7) ∨ (l = 3 ∧ 0 ≤ x ∧ x ≤ 15))
theorem intKeyed : Keyed Tryd.prog 3 := int_keyed Tryd.underlying3
theorem int_key (l : Int) (h : (Lit.int .i64 l).wf = true) : keyOf Tryd.prog 3 (.int .i64 l) = some (.int .i64 l) := keyOf_int_mk Tryd.underlying3 h
theorem zeroInt (w : World) : (zeroValue 3).run Tryd.prog w = .ok (.int .i64 0) w := by kernel_rfl
/-- The greatest numbers. -/
def lastsW : DataW Unit := ((DataW.map []).put (.int .i64 2) (.lit (.int .i64 7))).put (.int .i64 3) (.lit (.int .i64 15))
theorem isKey (l : Int) : WideAt.IsKeyLit (.int .i64 l) := by first | trivial | simp [WideAt.IsKeyLit]
theorem isMap0 : IsMap (DataW.map [] : DataW Unit) := ⟨_, rfl⟩
theorem lasts_has (l : Int) : has lastsW (.int .i64 l) = (decide (l = 2) || decide (l = 3)) := by
  unfold lastsW
  by_cases h3 : l = 3
  · subst h3
    rw [has_put_same (isMap0.put _ _) (isKey 3)]
    rfl
  · rw [has_put_other (by intro c; injection c with _ c; exact h3 c), decide_eq_false h3, Bool.or_false]
    by_cases h2 : l = 2
    · subst h2
      rw [has_put_same isMap0 (isKey 2)]
      rfl
    · rw [has_put_other (by intro c; injection c with _ c; exact h2 c), decide_eq_false h2]
      rfl
theorem lasts_at (l : Int) (z : DataW Unit) : lastsW.atKey (.int .i64 l) z = if l = 3 then .lit (.int .i64 15) else if l = 2 then .lit (.int .i64 7) else z := by
  unfold lastsW
  by_cases h3 : l = 3
  · subst h3
    rw [if_pos rfl, atKey_put_same (isMap0.put _ _) (isKey 3)]
  · rw [if_neg h3, atKey_put_other (by intro c; injection c with _ c; exact h3 c)]
    by_cases h2 : l = 2
    · subst h2
      rw [if_pos rfl, atKey_put_same isMap0 (isKey 2)]
    · rw [if_neg h2, atKey_put_other (by intro c; injection c with _ c; exact h2 c)]
      rfl

set_option maxRecDepth 100000 in
set_option maxHeartbeats 2000000 in
theorem greatest_any (w : World) : Calls Tryd.prog 80 #[] w fun e w' => ∃ b, e = .returned (.map (some b)) ∧ w'.ownsMap Tryd.prog 3 (plainElem Tryd.prog 3) b 2 lastsW ∧ Below w.heap.size w w' := by
  have hmm := @run_makeMap Tryd.prog
  go_enter Tryd.func80, Tryd.ntmps80
  go_upto_region 1 with fail
  refine wp_region_lit ?_
  iterate 3 go_step
  have B0 := Lib.hid ((Below.refl w.heap.size w).alloc (Nat.le_refl _) (.map #[] 0))
  refine wpList_insert_own (H := Unit) _ rfl (.tmp 1) (.const (.int .i64 2)) (.const (.int .i64 7)) 133 rfl 3 3 intKeyed Tryd.underlying133 (plainElem Tryd.prog 3) w.heap.size 0 (.map []) rfl (World.ownsMap_made w _ _ _) (by unfold maxLen; omega) _ _ (.int .i64 2) rfl rfl (int_key 2 (by decide)) (.lit (.int .i64 7)) [] (plainElem_int Tryd.underlying3 (by decide)) ?_
  intro w1 o1 g1
  have B1 := Lib.hid (B0.out.grown g1 B0.out.size (fun j hj => by cases hj; exact Nat.le_refl _))
  have O1 := Lib.hid o1
  clear o1 g1 B0 hmm
  simp only [Act.put]
  refine wpList_insert_own _ rfl (.tmp 1) (.const (.int .i64 3)) (.const (.int .i64 15)) 133 rfl 3 3 intKeyed Tryd.underlying133 (plainElem Tryd.prog 3) w.heap.size 1 _ rfl O1.out (by unfold maxLen; omega) _ _ (.int .i64 3) rfl rfl (int_key 3 (by decide)) (.lit (.int .i64 15)) [] (plainElem_int Tryd.underlying3 (by decide)) ?_
  intro w2 o2 g2
  have Z := Lib.hid (And.intro o2 (B1.out.grown g2 B1.out.size (fun j hj => by cases hj; exact Nat.le_refl _)))
  clear o2 g2 O1 B1
  simp only [Act.put]
  go_wp2_with fail
  go_ret
  exact ⟨_, rfl, Z.out.1, Z.out.2⟩

set_option maxRecDepth 100000 in
set_option maxHeartbeats 2000000 in
theorem allowed_any (l x : Int) (w : World) (hl : (Lit.int .i64 l).wf = true) : Calls Tryd.prog 69 #[.int .i64 l, .int .i64 x] w fun e w' => e = .returned (.bool (allow l x)) ∧ Below w.heap.size w w' := by
  have hk := Lib.hid (int_key l hl)
  clear hl
  go_enter Tryd.func69, Tryd.ntmps69
  go_wp2_with fail
  refine (greatest_any _).mono ?_
  rintro e w1 ⟨b, rfl, ho, hb⟩
  have O := Lib.hid (And.intro ho hb)
  clear ho hb
  simp only []
  go_at_K
  iterate 4 go_step
  refine wpList_lookup_own_ok_int _ rfl (.tmp 8) (.tmp 9) 133 rfl 3 3 .i64 intKeyed Tryd.underlying133 Tryd.underlying3 (zeroInt _) b 2 lastsW rfl O.out.1 _ _ rfl hk.out ?_
  intro c hat _
  rw [lasts_has]
  rw [lasts_at] at hat
  have F : allow l x = ((decide (l = 2) || decide (l = 3)) && (decide (0 ≤ x) && decide (x ≤ c))) := by
    unfold allow
    by_cases h3 : l = 3
    · rw [if_pos h3] at hat
      injection hat with hat
      injection hat with _ hat
      subst hat h3
      simp [Bool.decide_and]
    · rw [if_neg h3] at hat
      by_cases h2 : l = 2
      · rw [if_pos h2] at hat
        injection hat with hat
        injection hat with _ hat
        subst hat h2
        simp [Bool.decide_and]
      · simp [h2, h3]
  have FH := Lib.hid F
  clear F hat
  generalize (decide (l = 2) || decide (l = 3)) = s at *
  simp only [Act.put]
  have B := Lib.hid O.out.2
  clear O hk
  cases s
  · go_wp2
    go_ret
    exact ⟨by rw [FH.out]; rfl, B.out⟩
  · by_cases hx : 0 ≤ x
    · by_cases hc : x ≤ c
      · have e := Lib.hid (show allow l x = true by rw [FH.out]; simp [hx, hc])
        clear FH
        go_wp2
        go_ret
        exact ⟨by rw [e.out]; rfl, B.out⟩
      · have e := Lib.hid (show allow l x = false by rw [FH.out]; simp only [decide_eq_false hc, Bool.and_false])
        clear FH
        go_wp2
        go_ret
        exact ⟨by rw [e.out]; rfl, B.out⟩
    · have e := Lib.hid (show allow l x = false by rw [FH.out]; simp only [decide_eq_false hx, Bool.false_and, Bool.and_false])
      clear FH
      go_wp2
      go_ret
      exact ⟨by rw [e.out]; rfl, B.out⟩
theorem rallowed_any (l x : Int) (w : World) : Calls Tryd.prog 53 #[.int .i64 l, .int .i64 x] w fun e w' => e = .returned (.bool (allow l x)) ∧ w = w' := by
  by_cases h2 : l = 2
  · subst h2
    by_cases h0 : 0 ≤ x
    · by_cases h7 : x ≤ 7
      · have e := Lib.hid (show allow 2 x = true by unfold allow; first | exact decide_eq_true (by omega) | exact decide_eq_false (by omega))
        go_enter Tryd.func53, Tryd.ntmps53
        go_wp2
        go_ret
        exact ⟨by rw [e.out]; rfl, rfl⟩
      · have e := Lib.hid (show allow 2 x = false by unfold allow; first | exact decide_eq_true (by omega) | exact decide_eq_false (by omega))
        go_enter Tryd.func53, Tryd.ntmps53
        go_wp2
        go_ret
        exact ⟨by rw [e.out]; rfl, rfl⟩
    · have e := Lib.hid (show allow 2 x = false by unfold allow; first | exact decide_eq_true (by omega) | exact decide_eq_false (by omega))
      go_enter Tryd.func53, Tryd.ntmps53
      go_wp2
      go_ret
      exact ⟨by rw [e.out]; rfl, rfl⟩
  · by_cases h3 : l = 3
    · subst h3
      by_cases h0 : 0 ≤ x
      · by_cases h7 : x ≤ 15
        · have e := Lib.hid (show allow 3 x = true by unfold allow; first | exact decide_eq_true (by omega) | exact decide_eq_false (by omega))
          go_enter Tryd.func53, Tryd.ntmps53
          go_wp2
          go_ret
          exact ⟨by rw [e.out]; rfl, rfl⟩
        · have e := Lib.hid (show allow 3 x = false by unfold allow; first | exact decide_eq_true (by omega) | exact decide_eq_false (by omega))
          go_enter Tryd.func53, Tryd.ntmps53
          go_wp2
          go_ret
          exact ⟨by rw [e.out]; rfl, rfl⟩
      · have e := Lib.hid (show allow 3 x = false by unfold allow; first | exact decide_eq_true (by omega) | exact decide_eq_false (by omega))
        go_enter Tryd.func53, Tryd.ntmps53
        go_wp2
        go_ret
        exact ⟨by rw [e.out]; rfl, rfl⟩
    · have e := Lib.hid (show allow l x = false by unfold allow; first | exact decide_eq_true (by omega) | exact decide_eq_false (by omega))
      go_enter Tryd.func53, Tryd.ntmps53
      go_wp2
      go_ret
      exact ⟨by rw [e.out]; rfl, rfl⟩
end Go.Proofs.YtgilkbmipgejeaaDoor
/- A plain region, or the rest of one, as one calm walk: reads, and calls that make memory. Nothing of the program. -/
namespace Go.Proofs.YtgilkbmipgejeaaDoor
open Go.RowKit
set_option linter.unusedVariables false

section
variable {P : Program} {ops : Array Oper} {C : World → Prop}
theorem list_of_quiet {Q : Exit → Act → World → Prop} : ∀ (l : List Oper) (a : Act) (w : World), C w → wpQuiet P ops C (fun a' => ∀ w', C w' → Q .normal a' w') l a → wpList P ops Q l a w
  | [], a, w, hC, h => h w hC
  | o :: l, a, w, hC, h => by
    refine wpList_step fun K hK => ?_
    simp only [wpQuiet] at h
    split
    · rename_i hw
      rw [if_pos hw] at h
      exact Oper.wp_of_quiet hC (fun a' w' hC' h' => hK a' w' (list_of_quiet l a' w' hC' h')) h
    · rename_i hw
      rw [if_neg hw] at h
      exact hK _ _ (list_of_quiet l _ w hC h)
/-- A plain region of reads and of calls that make memory. -/
theorem calm_plain {id : Nat} {l : List Oper} {Q : Exit → Act → World → Prop} {a : Act} {W : World}
    (h : wpQuiet P l.toArray (fun w' => ∃ x : Calm W, w' = x.w) (fun a' => ∀ w', (∃ x : Calm W, w' = x.w) → Q .normal a' w') l a) : (Code.region id l.toArray false).wp P Q a W :=
  wp_region_lit (list_of_quiet l a W ⟨⟨W, Below.refl _ _⟩, rfl⟩ h)
end
end Go.Proofs.YtgilkbmipgejeaaDoor
/- A region that draws its order and ends with a store into what it may have loaded: operations that leave one value in every world of a class, calls that make memory among them, are taken in the order of the text; allocations and the last store are carried out where they stand. Nothing of the program. -/
namespace Go.Proofs.YtgilkbmipgejeaaDoor
open Go.RowKit
set_option linter.unusedVariables false

/-- Memory was made, and nothing that was there has turned. -/
abbrev Gr (w w' : World) : Prop := Below w.heap.size w w'
theorem Gr.refl (w : World) : Gr w w := Below.refl _ _
theorem Gr.trans {a b c : World} (h : Gr a b) (k : Gr b c) : Gr a c := Below.trans h (k.mono h.size)

section
variable {P : Program} {ops : Array Oper} {Q : Exit → Act → World → Prop} {md : Region.Mode} {C T : World → Prop} {c0 : Nat}

/-- C, until operation c0 has come up. -/
def lateS (C : World → Prop) (c0 : Nat) (listed : Array Bool) (w : World) : Prop := listed.getD c0 true = false → C w
/-- Whatever order is picked from here on, and whatever memory is made between the operations. -/
def anyL (P : Program) (md : Region.Mode) (ops : Array Oper) (Q : Exit → Act → World → Prop) (C : World → Prop) (c0 : Nat) : Nat → Array Bool → Act → World → Prop
  | 0, listed, a, w => ∀ w', Gr w w' → Region.ready md ops listed = [] ∧ Q .normal a w'
  | n + 1, listed, a, w => ∀ w', Gr w w' → (Region.ready md ops listed = [] → Q .normal a w') ∧
      ∀ i ∈ Region.ready md ops listed, wpOp P ops Q i (fun a'' w'' => lateS C c0 (listed.setIfInBounds i true) w'' ∧ anyL P md ops Q C c0 n (listed.setIfInBounds i true) a'' w'') a w'
theorem anyL_mono {n : Nat} {listed : Array Bool} {a : Act} {w w' : World} (h : anyL P md ops Q C c0 n listed a w) (g : Gr w w') : anyL P md ops Q C c0 n listed a w' := by
  cases n with
  | zero => exact fun w'' g' => h w'' (g.trans g')
  | succ n => exact fun w'' g' => h w'' (g.trans g')
theorem wpAny_of_late : ∀ (n : Nat) (listed : Array Bool) (a : Act) (w : World), anyL P md ops Q C c0 n listed a w → wpAny P md ops Q n listed a w
  | 0, _, _, w, h => h w (Gr.refl w)
  | n + 1, _, _, w, h => ⟨(h w (Gr.refl w)).1, fun i hi => wpOp_mono (fun a' w' h' => wpAny_of_late n _ a' w' h'.2) ((h w (Gr.refl w)).2 i hi)⟩
/-- The operation leaves v in every world of T, and makes memory at most. -/
def calmAt (P : Program) (w : World) (v : Value) : Result Next → Prop
  | .ok (.value u) w' => u = v ∧ Gr w w'
  | .ok (.enter f args) w' => w' = w ∧ Calls P f args w fun e w'' => e = .returned v ∧ Gr w w''
  | _ => False
def CalmIf (P : Program) (ops : Array Oper) (T : World → Prop) (o : Oper) (v : Value) (a : Act) : Prop :=
  (Region.wanted o (yielded ops a.tmps) = true ∧ ∀ w, T w → calmAt P w v ((execOp a.eval o).run P w)) ∨ (Region.wanted o (yielded ops a.tmps) = false ∧ v = undef)
theorem CalmIf.of_same {o : Oper} {v : Value} {a a' : Act} (h : CalmIf P ops T o v a) (he : execOp a'.eval o = execOp a.eval o) (hw : Region.wanted o (yielded ops a'.tmps) = Region.wanted o (yielded ops a.tmps)) : CalmIf P ops T o v a' := by
  unfold CalmIf at *
  rw [he, hw]
  exact h
theorem CalmIf.op {i : Nat} {o : Oper} {v : Value} {a : Act} (hi : ops[i]? = some o) (h : CalmIf P ops T o v a) {K : Act → World → Prop} {w : World} (hT : T w) (hK : ∀ w', Gr w w' → K (a.put o.dst v) w') : wpOp P ops Q i K a w := by
  unfold wpOp
  rw [hi]
  simp only
  rcases h with ⟨hw, h⟩ | ⟨hw, rfl⟩
  · rw [if_pos hw]
    refine .inl ?_
    have h := h w hT
    unfold Oper.wp
    generalize (execOp a.eval o).run P w = r at *
    cases r with
    | ok n w' =>
      cases n <;> simp only [calmAt] at h <;> simp only [Oper.upon]
      case value u => rw [h.1]; exact hK _ h.2
      case enter f args =>
        rw [h.1]
        exact h.2.mono fun e w'' ⟨he, hg⟩ => by subst he; exact hK _ hg
    | halt x w' => simp only [calmAt] at h
  · rw [if_neg (by rw [hw]; decide)]
    exact hK w (Gr.refl w)
/-- An operation apart from another one does what it does with the other's value in its slot, too; what holds of the frame and abides its slots goes along. -/
theorem wpOp_along {j : Nat} {oi oj : Oper} {v : Value} {X : Act → Prop} (hj : ops[j]? = some oj) (hap : oi.apart ops oj = true) (hsj : ∀ cs b, oj.op ≠ .select cs b)
    (hQ : ∀ (c : _) (a : Act) (w : World), Q (.panic c) (a.put oi.dst v) w → Q (.panic c) a w) (hX1 : ∀ a u, X a → X (a.put oj.dst u)) (hX2 : ∀ (a : Act) d, X a → X { a with defers := d :: a.defers })
    {K : Act → World → Prop} {a : Act} {w : World} (hx : X a) (h : wpOp P ops Q j K (a.put oi.dst v) w) : wpOp P ops Q j (fun a' w' => X a' ∧ K (a'.put oi.dst v) w') a w := by
  obtain ⟨h1, h2, _⟩ := Oper.apart_spec hap
  have he := execOp_put oj hsj a oi.dst v h1
  have hv : ∀ (b : Act) u, K ((b.put oi.dst v).put oj.dst u) w → K ((b.put oj.dst u).put oi.dst v) w := fun b u hk => by rwa [← Act.put_comm b v u h2]
  unfold wpOp at *
  rw [hj] at h ⊢
  simp only at h ⊢
  rw [wanted_put oj a oi.dst v h1] at h
  by_cases hw : Region.wanted oj (yielded ops a.tmps) = true
  · rw [if_pos hw] at h ⊢
    rcases h with h | ⟨ha, hl⟩
    · refine .inl ?_
      unfold Oper.wp at h ⊢
      rw [he] at h
      generalize (execOp a.eval oj).run P w = r at *
      cases r with
      | ok n w' =>
        cases n <;> simp only [Oper.upon] at h ⊢
        case value u => exact ⟨hX1 _ _ hx, by rw [← Act.put_comm a v u h2]; exact h⟩
        case skip => exact ⟨hX1 _ _ hx, by rw [← Act.put_comm a v undef h2]; exact h⟩
        case defer d =>
          refine ⟨hX1 _ _ (hX2 _ _ hx), ?_⟩
          rw [← Act.put_comm _ v undef h2, ← Act.put_defers]
          exact h
        case enter f args =>
          refine h.mono fun e w'' hh => ?_
          cases e with
          | returned u => exact ⟨hX1 _ _ hx, by rw [← Act.put_comm a v u h2]; exact hh⟩
          | panicked c => exact hQ _ _ _ hh
          | outgrown => exact hh
        case row row args => exact h.mono fun u w'' hh => ⟨hX1 _ _ hx, by rw [← Act.put_comm a v u h2]; exact hh⟩
      | halt x w' =>
        cases x <;> simp only [Oper.upon] at h ⊢
        case panic u => exact hQ _ _ _ h
    · exact .inr ⟨by unfold Oper.asks at *; rw [he] at ha; exact ha, hl⟩
  · rw [if_neg hw] at h ⊢
    exact ⟨hX1 _ _ hx, by rw [← Act.put_comm a v undef h2]; exact h⟩

/-- A calm operation may be taken first. -/
theorem anyL_first {i : Nat} {oi : Oper} {v : Value} {I : Array Bool → Prop} (hi : ops[i]? = some oi) (hs : Region.noSelect ops = true) (hQ : ∀ (c : _) (a : Act) (w : World), Q (.panic c) (a.put oi.dst v) w → Q (.panic c) a w) (hic : i ≠ c0)
    (hC : ∀ w w', C w → Gr w w' → C w') (hT : ∀ (listed : Array Bool) w, I listed → lateS C c0 listed w → T w) (hI : ∀ (listed : Array Bool) j, I listed → listed.getD i true = false → j ∈ Region.ready md ops listed → j ≠ i → I (listed.setIfInBounds j true)) :
    ∀ (n : Nat) (listed : Array Bool) (a : Act) (w : World), (∀ j oj, ops[j]? = some oj → j ≠ i → listed.getD j true = false → (∀ e ∈ oj.after, Region.binds md e = true → e.on ≠ i) → oi.apart ops oj = true) →
      i ∈ Region.ready md ops listed → I listed → CalmIf P ops T oi v a → lateS C c0 listed w → anyL P md ops Q C c0 n (listed.setIfInBounds i true) (a.put oi.dst v) w → anyL P md ops Q C c0 (n + 1) listed a w := by
  intro n
  have hset : ∀ (l : Array Bool) (w : World), lateS C c0 (l.setIfInBounds i true) w ↔ lateS C c0 l w := fun l w => by unfold lateS; rw [getD_set_ne true hic]
  have hcl : ∀ (l : Array Bool) (w w' : World), lateS C c0 l w → Gr w w' → lateS C c0 l w' := fun l w w' h g hc => hC _ _ (h hc) g
  induction n with
  | zero =>
    intro listed a w _ hr hIl hy hS H w' g
    refine ⟨fun h => (by rw [h] at hr; cases hr), fun j hj => ?_⟩
    by_cases hji : j = i
    · subst hji
      exact hy.op hi (hT _ _ hIl (hcl _ _ _ hS g)) fun w'' g' => ⟨(hset _ _).2 (hcl _ _ _ hS (g.trans g')), anyL_mono H (g.trans g')⟩
    · have h1 := ready_mono hj hji
      rw [(H w' g).1] at h1
      cases h1
  | succ n ih =>
    intro listed a w hfree hr hIl hy hS H w' g
    refine ⟨fun h => (by rw [h] at hr; cases hr), fun j hj => ?_⟩
    by_cases hji : j = i
    · subst hji
      exact hy.op hi (hT _ _ hIl (hcl _ _ _ hS g)) fun w'' g' => ⟨(hset _ _).2 (hcl _ _ _ hS (g.trans g')), anyL_mono H (g.trans g')⟩
    · have h1 := (H w' g).2 j (ready_mono hj hji)
      obtain ⟨hjun, oj, hoj, hall⟩ := mem_ready.1 hj
      have hiun := (mem_ready.1 hr).1
      have hnot : ∀ e ∈ oj.after, Region.binds md e = true → e.on ≠ i := fun e he hb heq => by
        have h2 := hall e he hb
        rw [heq] at h2
        have hlt : i < listed.size := by
          rcases Nat.lt_or_ge i listed.size with h' | h'
          · exact h'
          · simp [Array.getElem?_eq_none h'] at h2
        simp [hlt] at hiun h2
        rw [hiun] at h2
        cases h2
      have hap := hfree j oj hoj hji hjun hnot
      obtain ⟨_, _, h3⟩ := Oper.apart_spec hap
      have hsi : ∀ cs b, oi.op ≠ .select cs b := fun cs b => Region.noSelect_spec hs i oi cs b hi
      have h2 := wpOp_along (X := fun a => CalmIf P ops T oi v a) hoj hap (fun cs b => Region.noSelect_spec hs j oj cs b hoj) hQ
        (fun a u hx => hx.of_same (execOp_put oi hsi a oj.dst u h3) (wanted_put oi a oj.dst u h3)) (fun a d hx => hx.of_same rfl rfl) hy h1
      have hfree' : ∀ k ok, ops[k]? = some ok → k ≠ i → (listed.setIfInBounds j true).getD k true = false → (∀ e ∈ ok.after, Region.binds md e = true → e.on ≠ i) → oi.apart ops ok = true := fun k ok hk hki hun hno => by
        refine hfree k ok hk hki ?_ hno
        by_cases hjk : j = k
        · subst hjk; exact hjun
        · rw [getD_set_ne true hjk] at hun; exact hun
      refine wpOp_mono (fun a' w'' h4 => ?_) h2
      obtain ⟨hy', hS', hA'⟩ := h4
      rw [Array.setIfInBounds_comm _ _ (Ne.symm hji)] at hA' hS'
      exact ⟨(hset _ _).1 hS', ih (listed.setIfInBounds j true) a' w'' hfree' (ready_mono hr (Ne.symm hji)) (hI _ _ hIl hiun hj hji) hy' ((hset _ _).1 hS') hA'⟩

/-! ### The walk -/
/-- Those that wait for operation i, by way of each other: c0 is one of them. -/
def waitB (md : Region.Mode) (ops : Array Oper) (listed : Array Bool) (i c0 : Nat) : Bool :=
  let W := (List.range ops.size).foldl (fun W m => match ops[m]? with | some o => if o.after.any (fun e => Region.binds md e && (e.on == i || W.contains e.on)) then m :: W else W | none => W) []
  W.contains c0 && W.all fun m => !listed.getD m true && match ops[m]? with | some o => o.after.any (fun e => Region.binds md e && (e.on == i || W.contains e.on)) | none => false
theorem wait_keep {i : Nat} {listed : Array Bool} (h : waitB md ops listed i c0 = true) : ∃ I : Array Bool → Prop, I listed ∧ (∀ l, I l → l.getD c0 true = false) ∧ ∀ (l : Array Bool) j, I l → l.getD i true = false → j ∈ Region.ready md ops l → j ≠ i → I (l.setIfInBounds j true) := by
  unfold waitB at h
  generalize (List.range ops.size).foldl _ _ = W at h
  simp only [Bool.and_eq_true, List.all_eq_true] at h
  obtain ⟨hc, hW⟩ := h
  have hc : c0 ∈ W := by simpa using hc
  refine ⟨fun l => ∀ m ∈ W, l.getD m true = false, fun m hm => by have := (hW m hm).1; simpa using this, fun l hl => hl c0 hc, fun l j hl hiu hj hji m hm => ?_⟩
  have hjW : j ∉ W := fun hjm => by
    obtain ⟨_, oj, hoj, hall⟩ := mem_ready.1 hj
    have h2 := (hW j hjm).2
    rw [hoj] at h2
    simp only at h2
    obtain ⟨e, he, hb⟩ := Array.any_eq_true'.1 h2
    simp only [Bool.and_eq_true, Bool.or_eq_true, beq_iff_eq, List.contains_eq_mem, decide_eq_true_eq] at hb
    have h3 := hall e he hb.1
    have h4 : l.getD e.on true = false := by
      rcases hb.2 with h5 | h5
      · rw [h5]; exact hiu
      · exact hl _ h5
    have hlt : e.on < l.size := by
      rcases Nat.lt_or_ge e.on l.size with h' | h'
      · exact h'
      · simp [Array.getElem?_eq_none h'] at h3
    simp [hlt] at h3 h4
    rw [h3] at h4
    cases h4
  have hne : j ≠ m := fun e => hjW (e ▸ hm)
  rw [getD_set_ne true hne]
  exact hl m hm
/-- It yields the same in whatever world. -/
def simpleOp : Op → Bool
  | .move _ | .assign _ | .extract .. => true
  | _ => false
theorem simple_any {o : Oper} {ρ : Operand → Value} {v : Value} {w : World} (h : simpleOp o.op = true) (hr : (execOp ρ o).run P w = .ok (.value v) w) (w' : World) : (execOp ρ o).run P w' = .ok (.value v) w' := by
  obtain ⟨dst, op, ty, pos, after, guard⟩ := o
  cases op <;> simp [simpleOp] at h
  case move x => unfold execOp at hr ⊢; simp at hr ⊢; exact hr
  case assign x => unfold execOp at hr ⊢; simp at hr ⊢; exact hr
  case extract x k =>
    unfold execOp at hr ⊢
    simp only at hr ⊢
    cases hx : ρ x <;> simp [hx, go_sem] at hr ⊢
    all_goals
      first
      | (split at hr <;> simp_all [go_sem]; done)
      | (cases hk : _ <;> simp_all [go_sem]; done)
      | exact hr
def runL (md : Region.Mode) (ops : Array Oper) (c0 : Nat) : List Nat → Array Bool → Bool
  | [], _ => true
  | i :: is, listed => (match ops[i]? with | some o => plainOp o.op && (waitB md ops listed i c0 || simpleOp o.op) | none => false) && (Region.ready md ops listed).contains i && Region.free md ops listed i && decide (i ≠ c0) && runL md ops c0 is (listed.setIfInBounds i true)
theorem calm_of_yields {o : Oper} {v : Value} {a : Act} (h : YieldsIf P ops T o v a) : CalmIf P ops T o v a := by
  rcases h with ⟨hw, h⟩ | h
  · exact .inl ⟨hw, fun w hT => by rw [h w hT]; exact ⟨rfl, Gr.refl w⟩⟩
  · exact .inr h
theorem anyL_run (hs : Region.noSelect ops = true) (hQ : ∀ (c : _) (a : Act) (d : Option Tmp) (v : Value) (w : World), Q (.panic c) (a.put d v) w → Q (.panic c) a w) (hC : ∀ w w', C w → Gr w w' → C w') (n : Nat) {w : World} (hw : C w) : ∀ (is : List Nat) (listed : Array Bool) (a : Act),
    runL md ops c0 is listed = true → wpQuiet P ops C (fun a' => anyL P md ops Q C c0 n (setAll listed is) a' w) (opsAt ops is) a → anyL P md ops Q C c0 (n + is.length) listed a w
  | [], listed, a, _, h => h
  | i :: is, listed, a, hB, h => by
    simp only [runL, Bool.and_eq_true, decide_eq_true_eq] at hB
    obtain ⟨⟨⟨⟨hp, hr⟩, hf⟩, hic⟩, hB'⟩ := hB
    cases ho : ops[i]? with
    | none => rw [ho] at hp; cases hp
    | some o =>
      rw [ho] at hp
      simp only [Bool.and_eq_true, Bool.or_eq_true] at hp
      simp only [opsAt, ho, wpQuiet] at h
      obtain ⟨v, hy, hK⟩ := yieldsIf_of_quiet hp.1 ⟨w, hw⟩ h
      have hr' : i ∈ Region.ready md ops listed := by simpa using hr
      rcases hp.2 with hwt | hsm
      · obtain ⟨I, hI0, hI1, hI2⟩ := wait_keep hwt
        exact anyL_first (T := C) (I := I) ho hs (fun c a w => hQ c a o.dst v w) hic hC (fun l w hl hS => hS (hI1 l hl)) hI2 _ listed a w (Region.free_spec ho hf) hr' hI0 (calm_of_yields hy) (fun _ => hw) (anyL_run hs hQ hC n hw is _ _ hB' hK)
      · have hy' : YieldsIf P ops (fun _ => True) o v a := by
          rcases hy with ⟨h1, h2⟩ | h1
          · exact .inl ⟨h1, fun w' _ => simple_any hsm (h2 w hw) w'⟩
          · exact .inr h1
        exact anyL_first (T := fun _ => True) (I := fun _ => True) ho hs (fun c a w => hQ c a o.dst v w) hic hC (fun _ _ _ _ => trivial) (fun _ _ _ _ _ _ => trivial) _ listed a w (Region.free_spec ho hf) hr' trivial (calm_of_yields hy') (fun _ => hw) (anyL_run hs hQ hC n hw is _ _ hB' hK)

/-- The tail, behind c0. -/
def tailB (md : Region.Mode) (ops : Array Oper) (c0 : Nat) : List Nat → Array Bool → Bool
  | [], _ => true
  | i :: is, listed => (match ops[i]? with | some o => plainOp o.op | none => false) && (Region.ready md ops listed).contains i && Region.free md ops listed i && decide (i ≠ c0) && tailB md ops c0 is (listed.setIfInBounds i true)
theorem anyL_tail (hs : Region.noSelect ops = true) (hQ : ∀ (c : _) (a : Act) (d : Option Tmp) (v : Value) (w : World), Q (.panic c) (a.put d v) w → Q (.panic c) a w) (hC : ∀ w w', C w → Gr w w' → C w') (n : Nat) {w : World} : ∀ (is : List Nat) (listed : Array Bool) (a : Act),
    listed.getD c0 true = true → tailB md ops c0 is listed = true → wpQuiet P ops (fun w => ∃ x : AnyW, w = x.w) (fun a' => anyL P md ops Q C c0 n (setAll listed is) a' w) (opsAt ops is) a → anyL P md ops Q C c0 (n + is.length) listed a w
  | [], listed, a, _, _, h => h
  | i :: is, listed, a, hl, hB, h => by
    simp only [tailB, Bool.and_eq_true, decide_eq_true_eq] at hB
    obtain ⟨⟨⟨⟨hp, hr⟩, hf⟩, hic⟩, hB'⟩ := hB
    cases ho : ops[i]? with
    | none => rw [ho] at hp; cases hp
    | some o =>
      rw [ho] at hp
      simp only [opsAt, ho, wpQuiet] at h
      obtain ⟨v, hy, hK⟩ := yieldsIf_of_quiet hp ⟨w, AnyW.any w⟩ h
      have hr' : i ∈ Region.ready md ops listed := by simpa using hr
      have hl' : (listed.setIfInBounds i true).getD c0 true = true := by rw [getD_set_ne true hic]; exact hl
      exact anyL_first (T := fun w => ∃ x : AnyW, w = x.w) (I := fun _ => True) ho hs (fun c a w => hQ c a o.dst v w) hic hC (fun _ w _ _ => AnyW.any w) (fun _ _ _ _ _ _ => trivial) _ listed a w (Region.free_spec ho hf) hr' trivial (calm_of_yields hy)
        (fun h => by rw [hl] at h; cases h) (anyL_tail hs hQ hC n is _ _ hl' hB' hK)

/-- What the last operation owes. -/
def lastL (P : Program) (ops : Array Oper) (Q : Exit → Act → World → Prop) (c0 : Nat) (last : List Nat) (a : Act) (w : World) : Prop :=
  match ops[c0]? with
  | none => False
  | some o => if Region.wanted o (yielded ops a.tmps) then o.wp P a w (fun a'' w'' => wpQuiet P ops (fun w => ∃ x : AnyW, w = x.w) (fun a3 => ∀ w3, Gr w'' w3 → Q .normal a3 w3) (opsAt ops last) a'') Q else False
/-- The walk: runs of plain operations, behind each a calm call (true) or an operation that is carried out where it stands (false). -/
def wpLate (P : Program) (ops : Array Oper) (C : World → Prop) (Q : Exit → Act → World → Prop) (c0 : Nat) : List (List Nat × Nat × Bool) → List Nat → List Nat → Act → World → Prop
  | [], is0, last, a, w => wpQuiet P ops C (fun a' => ∀ w', Gr w w' → C w' → lastL P ops Q c0 last a' w') (opsAt ops is0) a
  | (is, c, true) :: rest, is0, last, a, w => wpQuiet P ops C (fun a' => match ops[c]? with
      | none => False
      | some o => ∃ v, CalmIf P ops C o v a' ∧ wpLate P ops C Q c0 rest is0 last (a'.put o.dst v) w) (opsAt ops is) a
  | (is, c, false) :: rest, is0, last, a, w => wpQuiet P ops C (fun a' => match ops[c]? with
      | none => False
      | some o => ∀ w', Gr w w' → C w' → if Region.wanted o (yielded ops a'.tmps) then o.wp P a' w' (fun a'' w'' => C w'' ∧ wpLate P ops C Q c0 rest is0 last a'' w'') Q else False) (opsAt ops is) a
def lateB (md : Region.Mode) (ops : Array Oper) (c0 : Nat) : List (List Nat × Nat × Bool) → List Nat → List Nat → Array Bool → Bool
  | [], is0, last, listed => runL md ops c0 is0 listed && decide (Region.ready md ops (setAll listed is0) = [c0]) && ((setAll listed is0).setIfInBounds c0 true).getD c0 true && tailB md ops c0 last ((setAll listed is0).setIfInBounds c0 true) && (Region.ready md ops (setAll ((setAll listed is0).setIfInBounds c0 true) last)).isEmpty
  | (is, c, true) :: rest, is0, last, listed => runL md ops c0 is listed && waitB md ops (setAll listed is) c c0 && (Region.ready md ops (setAll listed is)).contains c && Region.free md ops (setAll listed is) c && decide (c ≠ c0) && lateB md ops c0 rest is0 last ((setAll listed is).setIfInBounds c true)
  | (is, c, false) :: rest, is0, last, listed => runL md ops c0 is listed && decide (Region.ready md ops (setAll listed is) = [c]) && decide (c ≠ c0) && lateB md ops c0 rest is0 last ((setAll listed is).setIfInBounds c true)
def lateLen : List (List Nat × Nat × Bool) → List Nat → List Nat → Nat
  | [], is0, last => last.length + 1 + is0.length
  | (is, _, _) :: rest, is0, last => lateLen rest is0 last + 1 + is.length
theorem quietMono' {K K' : Act → Prop} (hK : ∀ a, K a → K' a) : ∀ (l : List Oper) (a : Act), wpQuiet P ops C K l a → wpQuiet P ops C K' l a := by
  intro l
  induction l with
  | nil => intro a h; exact hK a h
  | cons o l ih =>
    intro a h
    simp only [wpQuiet] at h ⊢
    split
    · rename_i hw; simp only [hw, if_true] at h; exact Oper.quiet_mono (fun a h => ih a h) h
    · rename_i hw; simp only [hw] at h; exact ih _ h
theorem lateS_of {l : Array Bool} {w : World} (h : C w) : lateS C c0 l w := fun _ => h
theorem anyL_late (hs : Region.noSelect ops = true) (hQ : ∀ (c : _) (a : Act) (d : Option Tmp) (v : Value) (w : World), Q (.panic c) (a.put d v) w → Q (.panic c) a w) (hC : ∀ w w', C w → Gr w w' → C w') (n : Nat) (is0 last : List Nat) : ∀ (bs : List (List Nat × Nat × Bool)) (listed : Array Bool) (a : Act) (w : World), C w →
    lateB md ops c0 bs is0 last listed = true → wpLate P ops C Q c0 bs is0 last a w → anyL P md ops Q C c0 (n + lateLen bs is0 last) listed a w
  | [], listed, a, w, hw, hB, h => by
    simp only [lateB, Bool.and_eq_true, decide_eq_true_eq] at hB
    obtain ⟨⟨⟨⟨hB1, hB2⟩, hB3⟩, hB4⟩, hB5⟩ := hB
    simp only [lateLen]
    rw [← Nat.add_assoc, ← Nat.add_assoc]
    refine anyL_run hs hQ hC _ hw is0 listed a hB1 (quietMono' (fun a' ha => ?_) _ _ h)
    intro w' g
    refine ⟨fun h => (by rw [hB2] at h; cases h), fun i hi => ?_⟩
    rw [hB2] at hi
    obtain rfl : i = c0 := by simpa using hi
    have ha := ha w' g (hC _ _ hw g)
    unfold lastL at ha
    unfold wpOp
    cases ho : ops[i]? with
    | none => rw [ho] at ha; exact ha.elim
    | some o =>
      rw [ho] at ha
      simp only at ha ⊢
      by_cases hwt : Region.wanted o (yielded ops a'.tmps) = true
      · rw [if_pos hwt] at ha ⊢
        refine .inl (Oper.wp_mono (fun a'' w'' h2 => ⟨fun h => (by rw [hB3] at h; cases h), ?_⟩) ha)
        refine anyL_tail hs hQ hC n last _ a'' hB3 hB4 (quietMono' (fun a3 h3 => ?_) _ _ h2)
        have hr : Region.ready md ops (setAll ((setAll listed is0).setIfInBounds i true) last) = [] := by simpa using hB5
        cases n with
        | zero => exact fun w3 g3 => ⟨hr, h3 w3 g3⟩
        | succ n => exact fun w3 g3 => ⟨fun _ => h3 w3 g3, fun i hi => by rw [hr] at hi; cases hi⟩
      · rw [if_neg hwt] at ha
        exact ha.elim
  | (is, c, true) :: rest, listed, a, w, hw, hB, h => by
    simp only [lateB, Bool.and_eq_true, decide_eq_true_eq] at hB
    obtain ⟨⟨⟨⟨⟨hB1, hB2⟩, hB3⟩, hB4⟩, hB5⟩, hB6⟩ := hB
    simp only [lateLen]
    rw [← Nat.add_assoc]
    simp only [wpLate] at h
    refine anyL_run hs hQ hC _ hw is listed a hB1 (quietMono' (fun a' ha => ?_) _ _ h)
    cases ho : ops[c]? with
    | none => rw [ho] at ha; exact ha.elim
    | some o =>
      rw [ho] at ha
      obtain ⟨v, hy, hK⟩ := ha
      obtain ⟨I, hI0, hI1, hI2⟩ := wait_keep hB2
      rw [← Nat.add_assoc]
      exact anyL_first (T := C) (I := I) ho hs (fun c a w => hQ c a o.dst v w) hB5 hC (fun l w hl hS => hS (hI1 l hl)) hI2 _ _ a' w (Region.free_spec ho hB4) (by simpa using hB3) hI0 hy (fun _ => hw) (anyL_late hs hQ hC n is0 last rest _ _ w hw hB6 hK)
  | (is, c, false) :: rest, listed, a, w, hw, hB, h => by
    simp only [lateB, Bool.and_eq_true, decide_eq_true_eq] at hB
    obtain ⟨⟨⟨hB1, hB2⟩, hB3⟩, hB4⟩ := hB
    simp only [lateLen]
    rw [← Nat.add_assoc]
    simp only [wpLate] at h
    refine anyL_run hs hQ hC _ hw is listed a hB1 (quietMono' (fun a' ha => ?_) _ _ h)
    rw [← Nat.add_assoc]
    intro w' g
    refine ⟨fun h => (by rw [hB2] at h; cases h), fun i hi => ?_⟩
    rw [hB2] at hi
    obtain rfl : i = c := by simpa using hi
    unfold wpOp
    cases ho : ops[i]? with
    | none => rw [ho] at ha; exact ha.elim
    | some o =>
      rw [ho] at ha
      have ha := ha w' g (hC _ _ hw g)
      simp only at ha ⊢
      by_cases hwt : Region.wanted o (yielded ops a'.tmps) = true
      · rw [if_pos hwt] at ha ⊢
        exact .inl (Oper.wp_mono (fun a'' w'' h2 => ⟨fun _ => h2.1, anyL_late hs hQ hC n is0 last rest _ a'' w'' h2.1 hB4 h2.2⟩) ha)
      · rw [if_neg hwt] at ha
        exact ha.elim

/-- The region. -/
theorem wp_region_late {id : Nat} {a : Act} {w : World} {l : List Oper} (c0 : Nat) (bs : List (List Nat × Nat × Bool)) (is0 last : List Nat) (hm : P.follows .mixedOrders = true)
    (hB : (Region.noSelect l.toArray && lateB .any l.toArray c0 bs is0 last (Array.replicate l.toArray.size false) && decide (lateLen bs is0 last ≤ l.toArray.size)) = true)
    (hQ : ∀ (c : _) (a : Act) (d : Option Tmp) (v : Value) (w : World), Q (.panic c) (a.put d v) w → Q (.panic c) a w) (hC : ∀ w w', C w → Gr w w' → C w') (hw : C w.drew)
    (h : ∀ wd, wd = w.drew → wpLate P l.toArray C Q c0 bs is0 last a wd) : (Code.region id l.toArray true).wp P Q a w := by
  simp only [Bool.and_eq_true, decide_eq_true_eq] at hB
  obtain ⟨⟨hs, hb⟩, hle⟩ := hB
  refine wp_region_any hm (wpAny_of_late (C := C) (c0 := c0) _ _ _ _ ?_)
  have := anyL_late (md := .any) hs hQ hC (l.toArray.size - lateLen bs is0 last) is0 last bs (Array.replicate l.toArray.size false) a w.drew hw hb (h _ rfl)
  rwa [Nat.sub_add_cancel hle] at this

/-! ### Its moves -/
variable {rest : List (List Nat × Nat × Bool)} {is is0 last : List Nat} {c : Nat} {l : List Oper} {o : Oper} {a : Act} {w : World}
/-- What the calm call owes. -/
def nextCalm (P : Program) (ops : Array Oper) (C : World → Prop) (Q : Exit → Act → World → Prop) (c0 : Nat) (rest : List (List Nat × Nat × Bool)) (is0 last : List Nat) (o : Oper) (w : World) (a : Act) : Prop := ∃ v, CalmIf P ops C o v a ∧ wpLate P ops C Q c0 rest is0 last (a.put o.dst v) w
def nextReal (P : Program) (ops : Array Oper) (C : World → Prop) (Q : Exit → Act → World → Prop) (c0 : Nat) (rest : List (List Nat × Nat × Bool)) (is0 last : List Nat) (o : Oper) (w : World) (a : Act) : Prop := ∀ w', Gr w w' → C w' → if Region.wanted o (yielded ops a.tmps) then o.wp P a w' (fun a'' w'' => C w'' ∧ wpLate P ops C Q c0 rest is0 last a'' w'') Q else False
def nextLast (P : Program) (ops : Array Oper) (C : World → Prop) (Q : Exit → Act → World → Prop) (last : List Nat) (o : Oper) (w : World) (a : Act) : Prop := ∀ w', Gr w w' → C w' → if Region.wanted o (yielded ops a.tmps) then o.wp P a w' (fun a'' w'' => wpQuiet P ops (fun w => ∃ x : AnyW, w = x.w) (fun a3 => ∀ w3, Gr w'' w3 → Q .normal a3 w3) (opsAt ops last) a'') Q else False
theorem late_calm (hl : opsAt ops is = l) (ho : ops[c]? = some o) (h : wpQuiet P ops C (nextCalm P ops C Q c0 rest is0 last o w) l a) : wpLate P ops C Q c0 ((is, c, true) :: rest) is0 last a w := by
  subst hl
  simp only [wpLate, ho]
  exact h
theorem late_real (hl : opsAt ops is = l) (ho : ops[c]? = some o) (h : wpQuiet P ops C (nextReal P ops C Q c0 rest is0 last o w) l a) : wpLate P ops C Q c0 ((is, c, false) :: rest) is0 last a w := by
  subst hl
  simp only [wpLate, ho]
  exact h
theorem late_last (hl : opsAt ops is0 = l) (ho : ops[c0]? = some o) (h : wpQuiet P ops C (nextLast P ops C Q last o w) l a) : wpLate P ops C Q c0 [] is0 last a w := by
  subst hl
  simp only [wpLate, lastL, ho]
  exact h
theorem exec_call {o : Oper} {ρ : Operand → Value} {g : Nat} {caps args : Array Value} (x : Operand) (xs : Array Operand) (ts : Array TypeId) (ho : o.op = .call { callee := .value x, args := xs, argTypes := ts }) (hx : ρ x = .func (.func g) #[] caps)
    (eg : ∀ args w, (callFunc g args).run P w = .ok (.enter g args) w) (ha : xs.map ρ ++ caps = args) (w : World) : (execOp ρ o).run P w = .ok (.enter g args) w := by
  subst ha
  unfold execOp
  simp only [ho, resolve, hx]
  simp [go_sem, invoke, eg]
theorem calm_fn {o : Oper} {g : Nat} {caps args : Array Value} {v : Value} (x : Operand) (xs : Array Operand) (ts : Array TypeId) (ho : o.op = .call { callee := .value x, args := xs, argTypes := ts }) (hw : Region.wanted o (yielded ops a.tmps) = true)
    (eg : ∀ args w, (callFunc g args).run P w = .ok (.enter g args) w) (hc : ∀ w, C w → Calls P g args w fun e w' => e = .returned v ∧ Gr w w') (hx : a.eval x = .func (.func g) #[] caps) (ha : xs.map a.eval ++ caps = args) : CalmIf P ops C o v a :=
  .inl ⟨hw, fun w hC => by rw [exec_call x xs ts ho hx eg ha w]; exact ⟨rfl, hc w hC⟩⟩
theorem wp_call_fn {o : Oper} {g : Nat} {caps args : Array Value} {K : Act → World → Prop} (x : Operand) (xs : Array Operand) (ts : Array TypeId) (ho : o.op = .call { callee := .value x, args := xs, argTypes := ts }) (eg : ∀ args w, (callFunc g args).run P w = .ok (.enter g args) w) (hx : a.eval x = .func (.func g) #[] caps) (ha : xs.map a.eval ++ caps = args)
    (h : Calls P g args w fun e w' => ∃ v, e = .returned v ∧ K (a.put o.dst v) w') : o.wp P a w K Q := by
  unfold Oper.wp
  rw [exec_call x xs ts ho hx eg ha w]
  simp only [Oper.upon]
  exact h.mono fun e w' ⟨v, he, hk⟩ => by subst he; exact hk
theorem calm_next {v : Value} (hy : CalmIf P ops C o v a) (h : wpLate P ops C Q c0 rest is0 last (a.put o.dst v) w) : nextCalm P ops C Q c0 rest is0 last o w a := ⟨v, hy, h⟩
theorem real_next (hw : Region.wanted o (yielded ops a.tmps) = true) (h : ∀ w', Gr w w' → C w' → ∀ K : Act → World → Prop, (∀ a w, C w → wpLate P ops C Q c0 rest is0 last a w → K a w) → o.wp P a w' K Q) : nextReal P ops C Q c0 rest is0 last o w a := by
  intro w' g hC
  rw [if_pos hw]
  exact h w' g hC _ fun a w hc h => ⟨hc, h⟩
theorem last_next (hw : Region.wanted o (yielded ops a.tmps) = true) (h : ∀ w', Gr w w' → C w' → ∀ K : Act → World → Prop, (∀ a w, wpQuiet P ops (fun w => ∃ x : AnyW, w = x.w) (fun a3 => ∀ w3, Gr w w3 → Q .normal a3 w3) (opsAt ops last) a → K a w) → o.wp P a w' K Q) : nextLast P ops C Q last o w a := by
  intro w' g hC
  rw [if_pos hw]
  exact h w' g hC _ fun a w h => h
end
end Go.Proofs.YtgilkbmipgejeaaDoor
/- Arguments of the laws opened: slices of bytes. -/
namespace Go.Proofs.YtgilkbmipgejeaaDoor
open Go.RowKit Go.ChangeShapes Go.WideShapes
set_option linter.unusedVariables false

/-- A slice of bytes that came in. -/
structure ArgB (w : World) (A : Option Addr) (n c : Nat) (L : List Int) : Prop where
  rd : Rd w A L
  len : L.length = n
  cap : n ≤ c
  max : c ≤ maxLen
  bd : ∀ x ∈ L, 0 ≤ x ∧ x ≤ 255
theorem ArgB.below {w w' : World} {A : Option Addr} {n c : Nat} {L : List Int} (h : ArgB w A n c L) (hb : Below w.heap.size w w') : ArgB w' A n c L := ⟨h.rd.below hb, h.len, h.cap, h.max, h.bd⟩
theorem laidOutB8 : laidOutB Tryd.prog = true := by kernel_rfl
section
variable {H : Type} {enc : TypeId × Value → H} {W : World} {r : Reach} {base : Nat}
theorem bytesB_of {fuel : Nat} {A : Option Addr} {n c : Nat} {x : DataW H × List MemPlace} (h : DataW.trod enc Tryd.prog W 0 (fun _ => true) true fuel 22 [.slice A n c] = some x) : ∃ L, ArgB W A n c L := by
  rcases open_ints Tryd.underlying22 Tryd.underlying5 (by kernel_rfl) h with ⟨hcs, _⟩ | ⟨a, len, cap, zs, hcs, hb, hl, hm, hz, _, hcell, hw⟩
  · injection hcs with hcs
    injection hcs with e1 e2 e3
    subst e1; subst e2; subst e3
    exact ⟨[], Rd.nil, rfl, Nat.le_refl _, Nat.zero_le _, fun x hx => by cases hx⟩
  · injection hcs with hcs
    injection hcs with e1 e2 e3
    subst e1; subst e2; subst e3
    simp only [if_true] at hz
    refine ⟨zs.take n, fun hne => ?_, by rw [List.length_take]; omega, hl, hm, fun x hx => Num.bd_u8 (hw x (List.mem_of_mem_take hx))⟩
    have h0 : 0 < n := by
      rcases Nat.eq_zero_or_pos n with e | e
      · subst e; exact absurd (List.take_zero) hne
      · exact e
    have hlt := World.block_lt_of_cell? W _ (hcell 0 (by omega))
    rw [add_block] at hlt
    refine ⟨a, rfl, hlt, fun j hj => ?_⟩
    rw [List.length_take] at hj
    rw [hcell j (by omega), List.getElem_take, List.getD_eq_getElem?_getD, List.getElem?_eq_getElem (by omega)]
    rfl
set_option maxRecDepth 100000 in
theorem open_bytesB {v : Value} {d : DataW H} {p : List MemPlace} (hv : Value.okWide Tryd.prog W r base 22 v) (h : DataW.Trod enc Tryd.prog W 0 (fun _ => true) true 22 v d p) : ∃ A n c L, v = .slice A n c ∧ ArgB W A n c L := by
  obtain ⟨A, n, c, rfl⟩ := okWide_slice Tryd.underlying22 hv
  obtain ⟨fuel, hf⟩ := h
  obtain ⟨L, hL⟩ := bytesB_of hf
  exact ⟨A, n, c, L, rfl, hL⟩
end
end Go.Proofs.YtgilkbmipgejeaaDoor
/- Arguments of the laws of layer 16 opened: slices of steps. -/
namespace Go.Proofs.YtgilkbmipgejeaaDoor
open Go.RowKit Go.ChangeShapes Go.WideShapes Num
set_option linter.unusedVariables false
set_option linter.unusedSimpArgs false
set_option linter.constructorNameAsVariable false
set_option maxRecDepth 100000

/-- A step: what to do, where, how long, with which bytes. -/
structure Stp16 where
  kind : Int
  pos : Int
  len : Int
  A : Option Addr
  n : Nat
  c : Nat
  b : List Int
instance : Inhabited Stp16 := ⟨⟨0, 0, 0, none, 0, 0, []⟩⟩
def sc16 (q : Stp16) : List Value := [.int .i64 q.kind, .int .i64 q.pos, .int .i64 q.len, .slice q.A q.n q.c]
structure Stp16.ok (q : Stp16) (w : World) : Prop where
  kd : (Lit.int .i64 q.kind).wf = true
  ps : (Lit.int .i64 q.pos).wf = true
  ln : (Lit.int .i64 q.len).wf = true
  arg : ArgB w q.A q.n q.c q.b
theorem Stp16.ok.below {q : Stp16} {w w' : World} (h : q.ok w) (hb : Below w.heap.size w w') : q.ok w' := ⟨h.kd, h.ps, h.ln, h.arg.below hb⟩
/-- A slice of steps that came in. -/
structure Sts16 (w : World) (A : Option Addr) (n : Nat) (l : List Stp16) : Prop where
  len : l.length = n
  max : n ≤ maxLen
  at_ : ∀ i (h : i < l.length), ∃ b o, A = some ⟨b, o, none⟩ ∧ b < w.heap.size ∧ (∀ j v, (sc16 l[i])[j]? = some v → w.cell? ⟨b, o + i * 4 + j, none⟩ = some v) ∧ (l[i]).ok w
theorem Sts16.below {w w' : World} {A : Option Addr} {n : Nat} {l : List Stp16} (h : Sts16 w A n l) (hb : Below w.heap.size w w') : Sts16 w' A n l :=
  ⟨h.len, h.max, fun i hi => by
    obtain ⟨b, o, e, lt, r, k⟩ := h.at_ i hi
    exact ⟨b, o, e, Nat.lt_of_lt_of_le lt hb.size, fun j v hv => (hb.cell (p := ⟨b, o + i * 4 + j, none⟩) lt).trans (r j v hv), k.below hb⟩⟩
section
variable {H : Type} {enc : TypeId × Value → H} {W : World} {r : Reach} {base : Nat}
theorem bytes16_of {fuel : Nat} {cs : List Value} {x : DataW H × List MemPlace} (h : DataW.trod enc Tryd.prog W 0 (fun _ => true) true fuel 22 cs = some x) : ∃ A n c L, cs = [.slice A n c] ∧ ArgB W A n c L := by
  have h' := h
  rcases open_ints Tryd.underlying22 Tryd.underlying5 (by kernel_rfl) h with ⟨hcs, _⟩ | ⟨a, len, cap, zs, hcs, _⟩
  · subst hcs
    obtain ⟨L, hL⟩ := bytesB_of h'
    exact ⟨_, _, _, L, rfl, hL⟩
  · subst hcs
    obtain ⟨L, hL⟩ := bytesB_of h'
    exact ⟨_, _, _, L, rfl, hL⟩
theorem step16_of {fuel : Nat} {cs : List Value} {x : DataW H × List MemPlace} (h : DataW.trod enc Tryd.prog W 0 (fun _ => true) true fuel 36 cs = some x) : ∃ q, cs = sc16 q ∧ q.ok W := by
  have hc : Tryd.prog.cellsOf 36 = 4 := by kernel_rfl
  have hi : Tryd.prog.cellsOf 3 = 1 := by kernel_rfl
  have hs : Tryd.prog.cellsOf 22 = 1 := by kernel_rfl
  obtain ⟨xs, n, _, hx, hcl, hlen, hg⟩ := DataW.trod_struct Tryd.underlying36 h
  match cs, hcl.trans hc, xs, hlen with
  | [c0, c1, c2, c3], _, [y0, y1, y2, y3], _ =>
    have g0 := hg 0 _ rfl
    have g1 := hg 1 _ rfl
    have g2 := hg 2 _ rfl
    have g3 := hg 3 _ rfl
    simp [hi, hs] at g0 g1 g2 g3
    obtain ⟨a0, e0, _, s0⟩ := Go.DataW.trod_int Tryd.underlying3 g0
    obtain ⟨a1, e1, _, s1⟩ := Go.DataW.trod_int Tryd.underlying3 g1
    obtain ⟨a2, e2, _, s2⟩ := Go.DataW.trod_int Tryd.underlying3 g2
    obtain ⟨A, m, c, L, e3, ar⟩ := bytes16_of g3
    simp only [List.cons.injEq, and_true] at e0 e1 e2 e3
    subst e0 e1 e2 e3
    exact ⟨⟨a0, a1, a2, A, m, c, L⟩, rfl, s0, s1, s2, ar⟩
theorem open_steps16 {v : Value} {d : DataW H} {p : List MemPlace} (hv : Value.okWide Tryd.prog W r base 23 v) (h : DataW.Trod enc Tryd.prog W 0 (fun _ => true) true 23 v d p) : ∃ A n c l, v = .slice A n c ∧ Sts16 W A n l := by
  obtain ⟨A, n, c, rfl⟩ := okWide_slice Tryd.underlying23 hv
  obtain ⟨fuel, hf⟩ := h
  have ce : Tryd.prog.cellsOf 36 = 4 := by kernel_rfl
  rcases Go.Deep.open_slice Tryd.underlying23 hf with ⟨hcs, _⟩ | ⟨a, len, cap, m, k, D, Pl, hcs, hb, hl, hm, hmm, _, hi⟩
  · injection hcs with hcs
    injection hcs with e1 e2 e3
    subst e1; subst e2; subst e3
    exact ⟨none, 0, 0, [], rfl, rfl, Nat.zero_le _, fun i hi => absurd hi (Nat.not_lt_zero i)⟩
  · injection hcs with hcs
    injection hcs with e1 e2 e3
    subst e1; subst e2; subst e3
    simp only [if_true] at hmm
    have each : ∀ i, i < n → ∃ q : Stp16, (∀ j v, (sc16 q)[j]? = some v → W.cell? ((a.add (i * 4)).add j) = some v) ∧ q.ok W := by
      intro i hin
      obtain ⟨cs', h1, h2⟩ := hi i (by omega)
      rw [ce] at h1
      obtain ⟨_, hlen, hcell⟩ := World.cells?_some h1
      obtain ⟨q, e, ok⟩ := step16_of h2
      refine ⟨q, fun j v hv => ?_, ok⟩
      have hj : j < 4 := by
        have := (List.getElem?_eq_some_iff.1 hv).1
        simpa [sc16] using this
      rw [hcell j hj, e]; exact hv
    obtain ⟨f, hf⟩ := Go.Deep.choose_lt each
    refine ⟨some a, n, c, (List.range n).map f, rfl, by simp, by omega, fun i hin => ?_⟩
    simp only [List.length_map, List.length_range] at hin
    simp only [List.getElem_map, List.getElem_range]
    obtain ⟨hc, ok⟩ := hf i hin
    have h0 := (hf 0 (by omega)).1 0 _ rfl
    rw [show (a.add (0 * 4)).add 0 = a from rfl] at h0
    have hlt := World.block_lt_of_cell? W _ h0
    have hsp : a.spot = none := by
      cases hq : a.spot with
      | none => rfl
      | some z =>
        unfold World.cell? at h0
        rw [hq] at h0
        split at h0 <;> simp at h0
    obtain ⟨b, o, s⟩ := a
    simp only at hsp
    subst hsp
    refine ⟨b, o, rfl, hlt, fun j v hv => ?_, ok⟩
    have := hc j v hv
    rwa [add_pl, add_pl] at this
end
end Go.Proofs.YtgilkbmipgejeaaDoor
/- The contract of the reference's Right. -/
namespace Go.Proofs.YtgilkbmipgejeaaDoor
open Go.RowKit
set_option linter.unusedVariables false

set_option maxHeartbeats 400000 in
theorem right_yes (a n : Int) (w : World) (a0 : 0 ≤ a) (a1 : a ≤ 65535) (n0 : 0 ≤ n) (n1 : n ≤ 65536) : Calls Tryd.prog 28 #[.int .i64 a, .int .i64 n] w fun e w' => e = .returned (.bool true) ∧ w = w' := by
  have g1 : decide (n ≤ 65536) = true := by simp; omega
  go_enter Tryd.func28, Tryd.ntmps28
  go_wp2
  go_ret
  exact ⟨by simp, rfl⟩

set_option maxHeartbeats 400000 in
theorem right_no (a n : Int) (w : World) (h : ¬ (0 ≤ a ∧ a ≤ 65535 ∧ 0 ≤ n ∧ n ≤ 65536)) : Calls Tryd.prog 28 #[.int .i64 a, .int .i64 n] w fun e w' => e = .returned (.bool false) ∧ w = w' := by
  have hp : a < 0 ∨ (0 ≤ a ∧ 65535 < a) ∨ (0 ≤ a ∧ a ≤ 65535 ∧ n < 0) ∨ (0 ≤ a ∧ a ≤ 65535 ∧ 0 ≤ n ∧ 65536 < n) := by omega
  clear h
  rcases hp with h | ⟨h, h2⟩ | ⟨h, h2, h3⟩ | ⟨h, h2, h3, h4⟩
  all_goals
    go_enter Tryd.func28, Tryd.ntmps28
    go_wp2
    go_ret
    exact ⟨by simp; try omega, rfl⟩
end Go.Proofs.YtgilkbmipgejeaaDoor
/- The reference of layer 16: Few. -/
namespace Go.Proofs.YtgilkbmipgejeaaDoor
open Go.RowKit Num
set_option linter.unusedVariables false
set_option linter.unusedSimpArgs false

/-- A step with few bytes, near, whose length may be a span's. -/
def Stp16.small (q : Stp16) : Prop := q.n ≤ 100 ∧ (-100000 ≤ q.pos ∧ q.pos ≤ 100000) ∧ (0 ≤ q.len ∧ q.len ≤ 65536)
/-- What Few says. -/
def Fewed16 (l : List Stp16) (w : World) (e : Ending) (w' : World) : Prop := ∃ b : Bool, e = .returned (.bool b) ∧ (b = true → l.length ≤ 40 ∧ ∀ i (h : i < l.length), l[i].small) ∧ w = w'

set_option maxRecDepth 100000 in
set_option maxHeartbeats 4000000 in
theorem few16_any (A : Option Addr) (m c : Nat) (l : List Stp16) (w : World) (hS : Sts16 w A m l) :
    Calls Tryd.prog 10 #[.slice A m c] w (Fewed16 l w) := by
  have m1 := hS.max
  unfold maxLen at m1
  have H := Lib.hid hS
  clear hS
  go_enter Tryd.func10, Tryd.ntmps10
  go_wp2_with fail
  go_loop [3] (fun i => ∃ k : Nat, k ≤ 41 ∧ k ≤ m ∧ i = .int .i64 k ∧ ∀ j (h : j < l.length), j < k → l[j].small) (fun i => 41 - (intOf i).toNat)
  case atStart => exact ⟨0, by omega, by omega, rfl, fun j _ h => absurd h (by omega)⟩
  case round =>
    obtain ⟨k, hk, hkm, rfl, hs⟩ := hrel
    have Hs := Lib.hid hs
    clear hs
    by_cases hlt : k < m
    · by_cases h20 : k ≤ 40
      · have hkl : k < l.length := by have := H.out.len; omega
        obtain ⟨b, o, rfl, hb, cc, ok⟩ := H.out.at_ k hkl
        obtain ⟨y, hy⟩ : ∃ y, y = l[k] := ⟨_, rfl⟩
        rw [← hy] at cc ok
        have c1 := cc 1 _ rfl
        have c2 := cc 2 _ rfl
        have c3 := cc 3 _ rfl
        have o3 := ok.arg.cap
        have o4 := ok.arg.max
        unfold maxLen at o4
        have k0 : (k : Int) < (m : Int) := by omega
        have k1 : (k : Int) ≤ 40 := by omega
        have k2 : 0 ≤ (k : Int) := by omega
        have HY := Lib.hid hy
        clear hy ok cc
        by_cases h1 : (100 : Int) < (y.n : Int)
        · go_wp2_with fail
          go_ret
          exact ⟨false, rfl, (by simp), rfl⟩
        · by_cases h2 : y.pos < -100000
          · go_wp2_with fail
            go_ret
            exact ⟨false, rfl, (by simp), rfl⟩
          · by_cases h3 : 100000 < y.pos
            · go_wp2_with fail
              go_ret
              exact ⟨false, rfl, (by simp), rfl⟩
            · by_cases h4 : 0 ≤ y.len ∧ y.len ≤ 65536
              · have RY := Lib.hid (fun w => right_yes 0 y.len w (by decide) (by decide) h4.1 h4.2)
                have H4 := Lib.hid h4
                clear h4
                go_wp2_with fail
                refine (RY.out _).mono ?_
                rintro e w' ⟨rfl, rfl⟩
                go_wp2_with fail
                go_round
                case rel =>
                  refine ⟨k + 1, by omega, by omega, by go_num, fun j hj hjk => ?_⟩
                  by_cases e : j = k
                  · subst e
                    rw [← HY.out]
                    exact ⟨by omega, ⟨by omega, by omega⟩, H4.out⟩
                  · exact Hs.out j hj (by omega)
                case measure => simp [intOf]; omega
              · have RN := Lib.hid (fun w => right_no 0 y.len w (fun h => h4 ⟨h.2.2.1, h.2.2.2⟩))
                clear h4
                go_wp2_with fail
                refine (RN.out _).mono ?_
                rintro e w' ⟨rfl, rfl⟩
                go_wp2_with fail
                go_ret
                exact ⟨false, rfl, (by simp), rfl⟩
      · have hm : 40 < m := by omega
        have k1 : ¬ (k : Int) ≤ 40 := by omega
        have k3 : ¬ (m : Int) ≤ 40 := by omega
        have k0 : (k : Int) < (m : Int) := by omega
        go_wp2_with fail
        go_ret
        exact ⟨false, rfl, (by simp), rfl⟩
    · have hkn : k = m := by omega
      subst hkn
      by_cases h20 : k ≤ 40
      · have k3 : (k : Int) ≤ 40 := by omega
        go_wp2_with fail
        go_ret
        exact ⟨true, rfl, fun _ => ⟨by rw [H.out.len]; exact h20, fun j hj => Hs.out j hj (by have := H.out.len; omega)⟩, rfl⟩
      · have k3 : ¬ (k : Int) ≤ 40 := by omega
        go_wp2_with fail
        go_ret
        exact ⟨false, rfl, (by simp), rfl⟩
end Go.Proofs.YtgilkbmipgejeaaDoor
/- Slices of 16-bit numbers that read as lists; such slices as arguments opened. Of the program: the types of the numbers only. -/
namespace Go.Proofs.YtgilkbmipgejeaaDoor
open Go.RowKit Go.ChangeShapes Go.WideShapes Num
set_option linter.unusedVariables false
set_option linter.constructorNameAsVariable false
set_option maxRecDepth 100000

/-- The slice at A reads as the numbers L. -/
def Rd16 (w : World) (A : Option Addr) (L : List Nat) : Prop := L ≠ [] → ∃ ad, A = some ad ∧ ad.block < w.heap.size ∧ ∀ j (h : j < L.length), w.cell? (ad.add j) = some (.int .u16 (L[j] : Int))
theorem add_block16 (a : Addr) (n : Nat) : (a.add n).block = a.block := by unfold Addr.add; split <;> rfl
section
variable {w w' : World} {A : Option Addr} {L : List Nat}
theorem Rd16.nil : Rd16 w A [] := fun h => absurd rfl h
theorem Rd16.at_ (h : Rd16 w A L) {k : Nat} (hk : k < L.length) : ∃ ad, A = some ad ∧ ad.block < w.heap.size ∧ w.cell? (ad.add k) = some (.int .u16 (L.getD k 0 : Int)) := by
  obtain ⟨ad, hA, hb, hc⟩ := h (by rintro rfl; simp at hk)
  exact ⟨ad, hA, hb, by rw [hc k hk]; simp [hk]⟩
theorem Rd16.below (h : Rd16 w A L) (hb : Below w.heap.size w w') : Rd16 w' A L := fun hne => by
  obtain ⟨ad, hA, hlt, hc⟩ := h hne
  exact ⟨ad, hA, Nat.lt_of_lt_of_le hlt hb.size, fun j hj => (hb.cell (p := ad.add j) (by rw [add_block16]; exact hlt)).trans (hc j hj)⟩
end
/-- The numbers of a list. -/
def nth (L : List Nat) (i : Nat) : Nat := L.getD i 0
theorem nth_le {L : List Nat} (h : ∀ x ∈ L, x ≤ 65535) (i : Nat) : nth L i ≤ 65535 := by
  unfold nth
  rw [List.getD_eq_getElem?_getD]
  rcases Nat.lt_or_ge i L.length with hi | hi
  · rw [List.getElem?_eq_getElem hi]; exact h _ (List.getElem_mem hi)
  · rw [List.getElem?_eq_none hi]; simp

/-- A slice of numbers that came in. -/
structure Arg16 (w : World) (A : Option Addr) (n : Nat) (L : List Nat) : Prop where
  rd : Rd16 w A L
  le : ∀ x ∈ L, x ≤ 65535
  len : L.length = n
section
variable {H : Type} {enc : TypeId × Value → H} {W : World} {r : Reach} {base : Nat}
theorem open_words {v : Value} {d : DataW H} {p : List MemPlace} (hv : Value.okWide Tryd.prog W r base 58 v) (h : DataW.Trod enc Tryd.prog W 0 (fun _ => true) true 58 v d p) : ∃ A n c L, v = .slice A n c ∧ Arg16 W A n L := by
  obtain ⟨A, n, c, rfl⟩ := okWide_slice Tryd.underlying58 hv
  obtain ⟨fuel, hf⟩ := h
  refine ⟨A, n, c, ?_⟩
  rcases open_ints Tryd.underlying58 Tryd.underlying59 (by kernel_rfl) hf with ⟨hcs, _⟩ | ⟨a, len, cap, zs, hcs, hb, hl, hm, hz, _, hcell, hw⟩
  · injection hcs with hcs
    injection hcs with e1 e2 e3
    subst e1; subst e2; subst e3
    exact ⟨[], rfl, Rd16.nil, by simp, rfl⟩
  · injection hcs with hcs
    injection hcs with e1 e2 e3
    subst e1; subst e2; subst e3
    simp only [if_true] at hz
    have hget : ∀ i, i < zs.length → 0 ≤ zs.getD i 0 ∧ zs.getD i 0 ≤ 65535 := fun i hi => by
      rw [List.getD_eq_getElem?_getD, List.getElem?_eq_getElem hi]
      exact Num.bd_u16 (hw _ (List.getElem_mem hi))
    refine ⟨(zs.take n).map Int.toNat, rfl, fun hne => ?_, fun x hx => ?_, by rw [List.length_map, List.length_take]; omega⟩
    · have h0 : 0 < n := by
        rcases Nat.eq_zero_or_pos n with e | e
        · subst e; exact absurd rfl hne
        · exact e
      have hlt := World.block_lt_of_cell? W _ (hcell 0 (by omega))
      rw [add_block16] at hlt
      refine ⟨a, rfl, hlt, fun j hj => ?_⟩
      rw [List.length_map, List.length_take] at hj
      have hj2 : j < zs.length := by omega
      rw [hcell j hj2, List.getElem_map, List.getElem_take]
      have hb := (hget j hj2).1
      rw [List.getD_eq_getElem?_getD, List.getElem?_eq_getElem hj2] at hb ⊢
      simp only [Option.getD_some] at hb ⊢
      rw [Int.toNat_of_nonneg hb]
    · obtain ⟨z, hz1, rfl⟩ := List.mem_map.1 hx
      have := Num.bd_u16 (hw z (List.mem_of_mem_take hz1))
      omega
end
end Go.Proofs.YtgilkbmipgejeaaDoor
/- A table of bytes that the rows list (an array of arrays of bytes), as cells: nothing of the program. -/
namespace Go.Proofs.YtgilkbmipgejeaaDoor
open Go.ChangeShapes Go.WideShapes Go.ChangeAt Go.RowKit
set_option linter.unusedVariables false
set_option maxRecDepth 100000

/-- What a list of bytes, and a list of such lists, reads as. -/
def dRow {H : Type} (L : List Int) : DataW H := .agg (L.map fun n => .lit (.int .u8 n))
def dTab {H : Type} (Ls : List (List Int)) : DataW H := .agg (Ls.map dRow)

section
variable {H : Type} {enc : TypeId × Value → H} {P : Program} {w : World} {base : Nat} {sp : Nat → Bool} {held : Bool}
theorem row_cells {t e : TypeId} {K fuel : Nat} {cs : List Value} {x : DataW H × List MemPlace} (ht : P.underlying t = some (.array K e)) (he : P.underlying e = some (.int .u8)) (h1 : P.cellsOf e = 1)
    (h : DataW.trod enc P w base sp held fuel t cs = some x) {L : List Int} (hx : x.1 = dRow L) : L.length = K ∧ ∀ j (hj : j < L.length), cs[j]? = some (.int .u8 L[j]) := by
  obtain ⟨xs, m, _, rfl, _, hn, hel⟩ := DataW.trod_array ht h
  have hm : xs.map (·.1) = L.map fun n => DataW.lit (.int .u8 n) := by simpa [dRow] using hx
  have hl : xs.length = L.length := by have := congrArg List.length hm; simpa using this
  refine ⟨by omega, fun j hj => ?_⟩
  have hjx : j < xs.length := by omega
  have h2 := hel j (by omega)
  rw [h1, List.getElem?_eq_getElem hjx, Nat.mul_one] at h2
  obtain ⟨n, e1, e2, _⟩ := DataW.trod_int he h2
  have e3 : (xs.map (·.1))[j]? = some (.lit (.int .u8 L[j])) := by rw [hm]; simp [hj]
  rw [List.getElem?_map, List.getElem?_eq_getElem hjx, e2] at e3
  simp at e3
  subst e3
  have e4 : ((cs.drop j).take 1)[0]? = some (.int .u8 L[j]) := by rw [e1]; rfl
  simpa using e4
theorem tab_cells {tt t e : TypeId} {N K fuel : Nat} {cs : List Value} {x : DataW H × List MemPlace} (htt : P.underlying tt = some (.array N t)) (ht : P.underlying t = some (.array K e)) (he : P.underlying e = some (.int .u8)) (h1 : P.cellsOf e = 1) (hK : P.cellsOf t = K)
    (h : DataW.trod enc P w base sp held fuel tt cs = some x) {Ls : List (List Int)} (hx : x.1 = dTab Ls) : Ls.length = N ∧ ∀ i (hi : i < Ls.length), Ls[i].length = K ∧ ∀ j (hj : j < Ls[i].length), cs[i * K + j]? = some (.int .u8 Ls[i][j]) := by
  obtain ⟨xs, m, _, rfl, _, hn, hel⟩ := DataW.trod_array htt h
  have hm : xs.map (·.1) = Ls.map dRow := by simpa [dTab] using hx
  have hl : xs.length = Ls.length := by have := congrArg List.length hm; simpa using this
  refine ⟨by omega, fun i hi => ?_⟩
  have hix : i < xs.length := by omega
  have h2 := hel i (by omega)
  rw [hK, List.getElem?_eq_getElem hix] at h2
  have e3 : (xs.map (·.1))[i]? = some (dRow Ls[i]) := by rw [hm]; simp [hi]
  rw [List.getElem?_map, List.getElem?_eq_getElem hix] at e3
  simp at e3
  obtain ⟨hk, hc⟩ := row_cells ht he h1 h2 e3
  refine ⟨hk, fun j hj => ?_⟩
  have h4 := hc j hj
  rw [List.getElem?_take, if_pos (by omega), List.getElem?_drop] at h4
  exact h4
end
end Go.Proofs.YtgilkbmipgejeaaDoor
/- The load of a struct whose cells are known, '&T{..}' of a struct, results in a cell and a slot. Nothing of the program. -/
namespace Go.Proofs.YtgilkbmipgejeaaDoor
open Go.RowKit
set_option linter.unusedVariables false
set_option linter.unusedSimpArgs false

section
variable {P : Program} {ops : Array Oper} {rest : List Oper} {o : Oper} {a : Act} {w : World} {Q : Exit → Act → World → Prop}
/-- The load of a whole struct of cells that are known. -/
theorem list_load_cells (hgd : o.guard = none) (ty : TypeId) (x : Operand) (ho : o.op = .load ty x)
    (ad : Addr) (hx : a.eval x = .pointer (some ad)) (L : Array Value) {n : Nat} (A : AggT P ty n) (hn : L.size = n) (hc : ∀ j v, L[j]? = some v → w.cell? (ad.add j) = some v)
    (h : wpList P ops Q rest (a.put o.dst (.agg L)) w) : wpList P ops Q (o :: rest) a w := by
  obtain ⟨⟨d, hu, hd⟩, hi⟩ := A
  obtain ⟨L⟩ := L
  have hl : (loadCells ad L.length).run P w = .ok L.toArray w :=
    run_loadCells_list (P := P) w ad L (fun j v hv => hc j v (by simpa using hv))
  have hlv : (loadVar ty ad).run P w = .ok (.agg L.toArray) w := by
    cases hq : P.info? ty with
    | none => simp [hq] at hi
    | some i =>
      have hs : i.size = L.length := by simp [hq] at hi; rw [hi, ← hn]; simp
      have hagg : (isAgg ty).run P w = .ok true w := by
        unfold isAgg
        rw [Sem.run_bind, run_underlying hu w]
        cases d <;> simp_all [TypeDesc.isRow]
      simp [loadVar, Sem.run_bind, hagg, sizeOf, typeInfo, hq, hs, hl]
  refine list_run hgd _ ?_ h
  unfold execOp
  simp only [ho, hx, Instr.loadAt, Instr.sureAddr, Sem.run_bind, Sem.run_pure, Result.andThen_ok, hlv]
/-- '&T{..}': a new variable that holds the value. -/
theorem list_box_all (hgd : o.guard = none) (ty : TypeId) (x : Operand) (ho : o.op = .box ty x) (cs : Array Value) (hx : a.eval x = .agg cs)
    (h : wpList P ops Q rest (a.put o.dst (.pointer (some ⟨w.heap.size, 0, none⟩))) (w.alloc (.cells cs ty))) : wpList P ops Q (o :: rest) a w := by
  refine wpList_plain hgd fun K hK => ?_
  unfold Oper.wp execOp
  simp only [ho, hx, Instr.box, newVar, newRow, newObj, Sem.run_bind, Result.andThen_ok, Sem.run_pure]
  exact hK _ _ h
theorem results_cell_slot8 {fn : Func} {p q : Tmp} {ty : TypeId} (h : fn.results = #[.cell p ty, .tmp q]) (tmps : Array Value) (w : World) (g : Nat) (t : TypeId) (cs : Array Value) (fr : Nat × Nat) (v : Value)
    (hp : tmps.getD p undef = .pointer (some ⟨g, 0, none⟩)) (hq : tmps.getD q undef = v) (hg : w.heap[g]? = some (.cells cs t fr)) {n : Nat} (A : AggT P ty n) (hn : cs.size = n) :
    (results fn tmps).run P w = .ok (.tuple #[.agg cs, v]) w := by
  obtain ⟨⟨d, hu, hd⟩, hi⟩ := A
  have hp' : tmps[p]?.getD undef = .pointer (some ⟨g, 0, none⟩) := by simpa using hp
  have hq' : tmps[q]?.getD undef = v := by simpa using hq
  have hr := run_loadVar_row w g t ty cs fr d hg hu (by cases d <;> simp_all [TypeDesc.isRow]) (by rw [hi, hn])
  simp [results, h, hp', hq', asAddr, hr]
end
end Go.Proofs.YtgilkbmipgejeaaDoor
