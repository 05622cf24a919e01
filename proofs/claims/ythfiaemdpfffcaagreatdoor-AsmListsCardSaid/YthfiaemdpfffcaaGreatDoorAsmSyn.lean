/- The package's tables and the two errors of strconv, as the laws' rows lay them. -/
import Derived.Test.YthfiaemdpfffcaaGreatDoorAsmTxt
import Derived.Test.YthfiaemdpfffcaaGreatDoorRow
import Derived.Below
import Derived.Test.YthfiaemdpfffcaaGreatDoorBlk
import Derived.Test.YthfiaemdpfffcaaGreatDoorMix
import Derived.Test.YthfiaemdpfffcaaGreatDoorFlaAllow
import Derived.Test.YthfiaemdpfffcaaGreatDoorFork
import Derived.Test.YthfiaemdpfffcaaGreatDoorCalm
import Derived.Deep.RegionWith
import Derived.RegionTactic
import Derived.Laws.EntriesVeiled
namespace Go.Proofs.YthfiaemdpfffcaaGreatDoor
open Go.RowKit Num Dec
set_option linter.unusedVariables false

/-- The tables lie in the package's variables. -/
structure AL (w : World) : Prop where
  lt : 0 < w.heap.size ∧ 1 < w.heap.size ∧ 2 < w.heap.size ∧ 3 < w.heap.size
  codes : ∀ op : Nat, op < 52 → w.cell? ⟨0, op, none⟩ = some (.int .i64 ((ruleOf op).code : Int))
  words : ∀ op : Nat, op < 52 → w.cell? ⟨1, op, none⟩ = some (.string ⟨(wdL op).toArray⟩)
  esyn : ∃ t p, w.cell? ⟨2, 0, none⟩ = some (.iface t p)
  erng : ∃ t p, w.cell? ⟨3, 0, none⟩ = some (.iface t p)
theorem AL.step {w w' : World} (h : AL w) (hb : Below w.heap.size w w') : AL w' :=
  ⟨⟨Nat.lt_of_lt_of_le h.lt.1 hb.size, Nat.lt_of_lt_of_le h.lt.2.1 hb.size, Nat.lt_of_lt_of_le h.lt.2.2.1 hb.size, Nat.lt_of_lt_of_le h.lt.2.2.2 hb.size⟩,
    fun op ho => (hb.cell (p := ⟨0, op, none⟩) h.lt.1).trans (h.codes op ho), fun op ho => (hb.cell (p := ⟨1, op, none⟩) h.lt.2.1).trans (h.words op ho),
    (let ⟨t, p, e⟩ := h.esyn; ⟨t, p, (hb.cell (p := ⟨2, 0, none⟩) h.lt.2.2.1).trans e⟩), (let ⟨t, p, e⟩ := h.erng; ⟨t, p, (hb.cell (p := ⟨3, 0, none⟩) h.lt.2.2.2).trans e⟩)⟩
/-- Of what was there at w0 nothing has turned, and the tables lie. -/
structure Sn (w0 w : World) : Prop where
  low : Below w0.heap.size w0 w
  al : AL w
theorem Sn.refl {w : World} (h : AL w) : Sn w w := ⟨Below.refl _ _, h⟩
theorem Sn.step {w0 w w' : World} (h : Sn w0 w) (hb : Below w.heap.size w w') : Sn w0 w' := ⟨h.low.trans (hb.mono h.low.size), h.al.step hb⟩
theorem Sn.alloc {w0 w : World} (h : Sn w0 w) (o : Obj) : Sn w0 (w.alloc o) := h.step ((Below.refl _ _).alloc (Nat.le_refl _) o)
/-- A store into what was made later. -/
theorem Sn.put {w0 w : World} (h : Sn w0 w) (h0 : AL w0) {b o : Nat} (hb : w0.heap.size ≤ b) (v : Value) : Sn w0 (w.setCell ⟨b, o, none⟩ v) :=
  ⟨h.low.setCell hb v, h0.step (h.low.setCell hb v)⟩
theorem Sn.row {w0 w : World} (h : Sn w0 w) (h0 : AL w0) {b : Nat} (hb : w0.heap.size ≤ b) (cs : Array Value) : Sn w0 (w.setRow b cs) :=
  have hl : Below w0.heap.size w0 (w.setRow b cs) := h.low.trans ⟨rfl, rfl, rfl, by simp [World.setRow], fun k hk => setRow_other w b k cs (by omega)⟩
  ⟨hl, h0.step hl⟩
end Go.Proofs.YthfiaemdpfffcaaGreatDoor
/- The operands of all Ops: what newSyntax makes. -/
namespace Go.Proofs.YthfiaemdpfffcaaGreatDoor
open Go.RowKit Num Dec Go.Maps
set_option linter.unusedVariables false
set_option linter.unusedSimpArgs false

/-- Kinds of operands. -/
inductive Kd | kx | ky | kn | knn | ka | kj | kl
def Kd.num : Kd → Nat
  | .kx => 0
  | .ky => 1
  | .kn => 2
  | .knn => 3
  | .ka => 4
  | .kj => 5
  | .kl => 6
theorem Kd.num_inj (a b : Kd) (h : a.num = b.num) : a = b := by cases a <;> cases b <;> first | rfl | cases h
instance : DecidableEq Kd := fun a b => decidable_of_iff (a.num = b.num) ⟨Kd.num_inj a b, fun h => by rw [h]⟩
/-- The functions that write and read it. -/
def Kd.wr : Kd → Nat
  | .kx => 24
  | .ky => 26
  | .kn => 28
  | .knn => 32
  | .ka => 30
  | .kj => 30
  | .kl => 35
def Kd.rd : Kd → Nat
  | .kx => 25
  | .ky => 27
  | .kn => 29
  | .knn => 33
  | .ka => 31
  | .kj => 34
  | .kl => 36
/-- The operands of an Op. -/
def kdsP : Pk → List Kd
  | .pNone => []
  | .pX => [.kx]
  | .pN => [.kn]
  | .pXY => [.kx, .ky]
  | .pXYN => [.kx, .ky, .kn]
  | .pXNN => [.kx, .knn]
  | .pAddr => [.ka]
  | .pXAddr => [.kj]
  | .pPlanes => [.kn]
  | .pNext => [.kl]
def kds (op : Nat) : List Kd := kdsP (ruleOf op).pk
def fnV (f : Nat) : Value := .func (.func f) #[] #[]
def kdL : List Kd → List Value
  | [] => []
  | k :: ks => fnV k.wr :: fnV k.rd :: kdL ks
def kdc (L : List Kd) : Array Value := (kdL L).toArray
/-- A slice of operands. -/
def SL (L : List Kd) (v : Value) (w : World) : Prop := ∃ b, v = .slice (some ⟨b, 0, none⟩) L.length L.length ∧ Blk b 55 (kdc L) w
theorem SL.step {L : List Kd} {v : Value} {w w' : World} (h : SL L v w) (hb : Below w.heap.size w w') : SL L v w' := let ⟨b, e, k⟩ := h; ⟨b, e, k.step hb⟩
theorem SL.alloc {L : List Kd} {v : Value} {w : World} (h : SL L v w) (o : Obj) : SL L v (w.alloc o) := let ⟨b, e, k⟩ := h; ⟨b, e, k.alloc o⟩
theorem SL.blk {L : List Kd} {b n c : Nat} {w : World} (h : SL L (.slice (some ⟨b, 0, none⟩) n c) w) : Blk b 55 (kdc L) w := by
  obtain ⟨b', e, k⟩ := h
  injection e with e
  injection e with e
  injection e with e
  subst e
  exact k
theorem SL.new (L : List Kd) (w : World) {cs : Array Value} (hc : cs = kdc L) : SL L (.slice (some ⟨w.heap.size, 0, none⟩) L.length L.length) (w.alloc (.cells cs 55)) := by
  subst hc
  exact ⟨_, rfl, Blk.new _ _ _⟩
theorem blk_at {w : World} {n : Nat} (T : TypeId) (cs : Array Value) (h : w.heap.size = n) : Blk n T cs (w.alloc (.cells cs T)) := by subst h; exact Blk.new _ _ _
/-- The map so far. -/
def lk : List (Int × Value) → Int → Option Value
  | [], _ => none
  | (k, v) :: L, l => if l = k then some v else lk L l
def rHeld (v : Value) : Option (DataW Value × List MemPlace) := some (.held v, [])
def MpF (m n : Nat) (L : List (Int × Value)) (w : World) : Prop := ∃ D : DataW Value, w.ownsMap Tryz.prog 3 rHeld m n D ∧ IsMap D ∧ ∀ l zd, D.atKey (.int .i64 l) zd = match lk L l with | some v => .held v | none => zd
structure MpS (w0 : World) (m n : Nat) (L : List (Int × Value)) (S : List (List Kd × Value)) (w : World) : Prop where
  low : Below w0.heap.size w0 w
  ge : w0.heap.size ≤ m
  own : MpF m n L w
  sl : ∀ p ∈ S, SL p.1 p.2 w
theorem MpF.lt {m n : Nat} {L : List (Int × Value)} {w : World} (h : MpF m n L w) : m < w.heap.size := let ⟨_, h, _⟩ := h; h.lt
theorem MpF.step {m n : Nat} {L : List (Int × Value)} {w w' : World} (h : MpF m n L w) (hb : Below w.heap.size w w') : MpF m n L w' := by
  obtain ⟨D, ho, h2⟩ := h
  have hl := ho.lt
  obtain ⟨es, clock, h1, h3⟩ := ho
  exact ⟨D, ⟨es, clock, (hb.block m hl).trans h1, h3⟩, h2⟩
theorem MpS.alloc {w0 w : World} {m n : Nat} {L : List (Int × Value)} {S : List (List Kd × Value)} (h : MpS w0 m n L S w) (K : List Kd) {cs : Array Value} (hc : cs = kdc K) :
    MpS w0 m n L ((K, .slice (some ⟨w.heap.size, 0, none⟩) K.length K.length) :: S) (w.alloc (.cells cs 55)) := by
  have hb : Below w.heap.size w (w.alloc (.cells cs 55)) := (Below.refl _ _).alloc (Nat.le_refl _) _
  refine ⟨h.low.trans (hb.mono h.low.size), h.ge, h.own.step hb, fun p hp => ?_⟩
  rcases List.mem_cons.1 hp with rfl | hp
  · exact SL.new K w hc
  · exact (h.sl p hp).step hb
theorem MpS.made {w0 w : World} {S : List (List Kd × Value)} (h : Below w0.heap.size w0 w) (hs : ∀ p ∈ S, SL p.1 p.2 w) : MpS w0 w.heap.size 0 [] S (w.alloc (.map #[] 0)) := by
  have hb : Below w.heap.size w (w.alloc (.map #[] 0)) := (Below.refl _ _).alloc (Nat.le_refl _) _
  exact ⟨h.trans (hb.mono h.size), h.size, ⟨.map [], World.ownsMap_made w _ _ _, ⟨_, rfl⟩, fun l zd => rfl⟩, fun p hp => (hs p hp).step hb⟩
theorem MpS.grown {w0 w w' : World} {m n : Nat} {L : List (Int × Value)} {S : List (List Kd × Value)} (h : MpS w0 m n L S w) (hg : w.grownBy w' (some m)) {L' : List (Int × Value)} {n' : Nat} (ho : MpF m n' L' w') : MpS w0 m n' L' S w' := by
  refine ⟨h.low.grown hg h.low.size (fun j hj => by cases hj; exact h.ge), h.ge, ho, fun p hp => ?_⟩
  obtain ⟨b, e, k⟩ := h.sl p hp
  refine ⟨b, e, ?_⟩
  have hne : ¬ some b = some m := fun e => by
    injection e with e
    subst e
    obtain ⟨D, ⟨es, clock, h1, _⟩, _⟩ := h.own
    unfold Blk at k
    rw [h1] at k
    cases k
  exact (hg.block b k.lt hne).trans k
theorem isKeyI (l : Int) : WideAt.IsKeyLit (.int .i64 l) := by first | trivial | simp [WideAt.IsKeyLit]
/-- A key of the map's literal. -/
theorem list_insertS {ops : Array Oper} {rest : List Oper} {o : Oper} {a : Act} {Q : Exit → Act → World → Prop} {w0 w : World} {m n : Nat} {L : List (Int × Value)} {S : List (List Kd × Value)} (H : MpS w0 m n L S w) (hn : n < 1000)
    (hg : o.guard = none) (mx xx vx : Operand) (hop : o.op = Op.insert 40 mx xx vx) (hm : a.eval mx = .map (some m)) (k : Int) (v : Value) (hx : a.eval xx = .int .i64 k) (hv : a.eval vx = v) (hk : (Lit.int .i64 k).wf = true)
    (h : ∀ w', MpS w0 m (n + 1) ((k, v) :: L) S w' → wpList Tryz.prog ops Q rest (a.put o.dst undef) w') : wpList Tryz.prog ops Q (o :: rest) a w := by
  obtain ⟨D, ho, hD, hat⟩ := H.own
  refine wpList_insert_own w hg mx xx vx 40 hop 3 56 intKeyed Tryz.underlying40 rHeld m n D hm ho (by unfold maxLen; omega) _ _ (.int .i64 k) hx hv (int_key k hk) (.held v) [] rfl ?_
  intro w' o' g'
  refine h w' (H.grown g' ⟨_, o', hD.put _ _, fun l zd => ?_⟩)
  unfold lk
  by_cases hl : l = k
  · subst hl
    rw [if_pos rfl, atKey_put_same hD (isKeyI l)]
  · rw [if_neg hl, atKey_put_other (by intro c; injection c with _ c; exact hl c), hat]
/-- Which operands each Op has: by its number, that of one of eight slices. -/
def synT : List (Nat × Nat) := [(49, 1), (45, 1), (35, 1), (51, 0), (44, 0), (43, 0), (34, 0), (33, 0), (32, 0), (42, 0), (31, 0), (30, 0), (29, 0), (28, 0), (27, 0), (26, 0), (25, 0), (24, 0), (41, 3), (23, 7), (18, 3), (17, 3), (16, 3), (15, 3), (14, 3), (13, 3), (12, 3), (11, 3), (10, 3), (47, 3), (46, 3), (19, 3), (7, 3), (22, 4), (9, 4), (8, 4), (6, 4), (5, 4), (48, 6), (21, 5), (20, 2), (4, 2), (3, 2)]
def synK : Nat → List Kd
  | 0 => [.kx]
  | 1 => [.kn]
  | 2 => [.ka]
  | 3 => [.kx, .ky]
  | 4 => [.kx, .knn]
  | 5 => [.kj]
  | 6 => [.kl]
  | _ => [.kx, .ky, .kn]
def tf : List (Nat × Nat) → Nat → Option Nat
  | [], _ => none
  | (k, v) :: L, l => if l = k then some v else tf L l
theorem synT_ok : (allb 52 fun op => match tf synT op with | some c => decide (c < 8) && (decide (synK c = kds op) && !(kds op).isEmpty) | none => (kds op).isEmpty) = true := by decide +kernel
theorem synT_lt : synT.all (fun p => decide (p.1 < 52)) = true := by decide +kernel
theorem lk_map (val : Nat → Value) : ∀ (L : List (Nat × Nat)) (l : Nat), lk (L.map fun p => ((p.1 : Int), val p.2)) (l : Int) = (tf L l).map val
  | [], l => rfl
  | (k, v) :: L, l => by
    show (if (l : Int) = (k : Int) then some (val v) else lk (L.map fun p => ((p.1 : Int), val p.2)) (l : Int)) = (if l = k then some v else tf L l).map val
    by_cases h : l = k
    · subst h; rw [if_pos rfl, if_pos rfl]; rfl
    · rw [if_neg (by omega), if_neg h, lk_map val L l]
theorem lk_none (val : Nat → Value) (l : Int) (h : l < 0 ∨ 52 ≤ l) : ∀ (L : List (Nat × Nat)), L.all (fun p => decide (p.1 < 52)) = true → lk (L.map fun p => ((p.1 : Int), val p.2)) l = none
  | [], _ => rfl
  | (k, v) :: L, hL => by
    rw [List.all_cons, Bool.and_eq_true] at hL
    have hk := of_decide_eq_true hL.1
    show (if l = (k : Int) then some (val v) else lk (L.map fun p => ((p.1 : Int), val p.2)) l) = none
    simp only at hk
    rw [if_neg (by omega), lk_none val l h L hL.2]
/-- The operands of a number. -/
def kdsI (l : Int) : List Kd := if 0 ≤ l ∧ l < 52 then kds l.toNat else []
/-- A slice of operands, the nil slice if there are none. -/
def SLn (L : List Kd) (v : Value) (w : World) : Prop := (L = [] ∧ v = .slice none 0 0) ∨ (L ≠ [] ∧ SL L v w)
theorem SLn.step {L : List Kd} {v : Value} {w w' : World} (h : SLn L v w) (hb : Below w.heap.size w w') : SLn L v w' := h.imp id fun ⟨h1, h2⟩ => ⟨h1, h2.step hb⟩
/-- The map of the operands. -/
def Syn (v : Value) (w : World) : Prop := ∃ m, v = .map (some m) ∧ ∃ (n : Nat) (D : DataW Value), w.ownsMap Tryz.prog 3 rHeld m n D ∧ ∀ l : Int, ∃ s, D.atKey (.int .i64 l) (.held (.slice none 0 0)) = .held s ∧ SLn (kdsI l) s w
theorem Syn.step {v : Value} {w w' : World} (h : Syn v w) (hb : Below w.heap.size w w') : Syn v w' := by
  obtain ⟨m, e, n, D, ho, h2⟩ := h
  have hl := ho.lt
  obtain ⟨es, clock, h1, h3⟩ := ho
  exact ⟨m, e, n, D, ⟨es, clock, (hb.block m hl).trans h1, h3⟩, fun l => let ⟨s, h4, h5⟩ := h2 l; ⟨s, h4, h5.step hb⟩⟩
theorem Syn.of {w0 w : World} {m n : Nat} {S : List (List Kd × Value)} (val : Nat → Value) (H : MpS w0 m n (synT.map fun p => ((p.1 : Int), val p.2)) S w) (hv : ∀ c, c < 8 → SL (synK c) (val c) w) : Syn (.map (some m)) w := by
  obtain ⟨D, ho, hD, hat⟩ := H.own
  refine ⟨m, rfl, n, D, ho, fun l => ?_⟩
  rw [hat]
  unfold kdsI
  by_cases h : 0 ≤ l ∧ l < 52
  · obtain ⟨op, rfl⟩ := Int.eq_ofNat_of_zero_le h.1
    rw [if_pos h, Int.toNat_natCast, lk_map]
    have hk := allb_at 52 _ synT_ok op (by omega)
    cases ht : tf synT op with
    | none =>
      rw [ht] at hk
      exact ⟨_, rfl, .inl ⟨by simpa using hk, rfl⟩⟩
    | some c =>
      rw [ht] at hk
      simp only [Bool.and_eq_true, decide_eq_true_eq] at hk
      exact ⟨_, rfl, .inr ⟨(by have := hk.2.2; intro e; rw [e] at this; cases this), hk.2.1 ▸ hv c hk.1⟩⟩
  · rw [if_neg h, lk_none val l (by omega) synT synT_lt]
    exact ⟨_, rfl, .inl ⟨rfl, rfl⟩⟩
theorem zeroOps (w : World) : (zeroValue 56).run Tryz.prog w = .ok (.slice none 0 0) w := by kernel_rfl
/-- The operands of an Op are looked up. -/
theorem Syn.look {v : Value} {w : World} (h : Syn v w) (l : Int) (hl : (Lit.int .i64 l).wf = true) : ∃ s, (Instr.lookup 40 v (.int .i64 l) false).run Tryz.prog w = .ok s w ∧ SLn (kdsI l) s w := by
  obtain ⟨m, rfl, n, D, ho, h2⟩ := h
  obtain ⟨s, h3, h4⟩ := h2 l
  obtain ⟨u, ps, hr, hu⟩ := ho.lookup intKeyed Tryz.underlying40 (zeroOps w) (zd := .held (.slice none 0 0)) (zp := []) rfl (int_key l hl)
  rw [h3] at hu
  unfold rHeld at hu
  simp only [Option.some.injEq, Prod.mk.injEq, DataW.held.injEq] at hu
  exact ⟨s, hu.1 ▸ hr, h4⟩
/-- The three operands in variables. -/
structure V3 (w0 w : World) : Prop where
  low : Below w0.heap.size w0 w
  x : Blk w0.heap.size 55 #[fnV 24, fnV 25] w
  y : Blk (w0.heap.size + 1) 55 #[fnV 26, fnV 27] w
  n : Blk (w0.heap.size + 1 + 1) 55 #[fnV 28, fnV 29] w
theorem V3.step {w0 w w' : World} (h : V3 w0 w) (hb : Below w.heap.size w w') : V3 w0 w' := ⟨h.low.trans (hb.mono h.low.size), h.x.step hb, h.y.step hb, h.n.step hb⟩

set_option maxRecDepth 100000 in
set_option maxHeartbeats 16000000 in
theorem syntax_any (w : World) : Calls Tryz.prog 13 #[] w fun e w' => ∃ v, e = .returned v ∧ Syn v w' ∧ Below w.heap.size w w' := by
  have hmm := @run_makeMap Tryz.prog
  go_enter Tryz.func13, Tryz.ntmps13
  go_wp2_with fail
  refine wp_mono (Q := fun e a' w' => match e with | .normal => ∃ vX vN vA u12 u13 u14 u15 u16 u17, a' = ⟨#[.map none, .pointer (some ⟨w.heap.size, 0, none⟩), .pointer (some ⟨w.heap.size + 1, 0, none⟩), .pointer (some ⟨w.heap.size + 1 + 1, 0, none⟩), vX, vN, vA, undef, undef, .agg #[fnV 24, fnV 25], .agg #[fnV 26, fnV 27], .agg #[fnV 28, fnV 29], u12, u13, u14, u15, u16, u17, undef, undef, undef, undef, undef, undef, undef, undef, undef, undef, undef, undef, undef, undef, undef, undef, undef, undef, undef, undef, undef, undef, undef, undef, undef, undef, undef, undef, undef, undef, undef, undef, undef, undef, undef, undef, undef, undef, undef, undef, undef, undef, undef, undef, undef, undef, undef, undef, undef, undef, undef, undef, undef, undef, undef, undef], []⟩ ∧ V3 w w' ∧ SL [.kx] vX w' ∧ SL [.kn] vN w' ∧ SL [.ka] vA w' | _ => False) ?_ ?_
  · go_region_with (fail)
    all_goals
      refine ⟨_, _, _, _, _, _, _, _, _, rfl, ?_, ?_, ?_, ?_⟩
      · exact ⟨by go_grown, (by refine Blk.drew ?_; repeat (first | (refine blk_at _ _ ?_; (focus (simp; done))) | refine Blk.alloc ?_ _)), (by refine Blk.drew ?_; repeat (first | (refine blk_at _ _ ?_; (focus (simp; done))) | refine Blk.alloc ?_ _)), (by refine Blk.drew ?_; repeat (first | (refine blk_at _ _ ?_; (focus (simp; done))) | refine Blk.alloc ?_ _))⟩
      all_goals exact ⟨_, rfl, (by refine Blk.drew ?_; repeat (first | (refine blk_at _ _ ?_; (focus (simp; done))) | refine Blk.alloc ?_ _))⟩
  intro e a2 w2 h
  have hn : e = .normal := by cases e <;> first | rfl | exact h.elim
  subst hn
  obtain ⟨vX, vN, vA, u12, u13, u14, u15, u16, u17, rfl, h3, sX, sN, sA⟩ := h
  have T2 := Lib.hid (And.intro h3 (And.intro sX (And.intro sN sA)))
  clear h3 sX sN sA
  have kx0 : ∀ x : Calm w2, x.w.cell? ⟨w.heap.size, 0, none⟩ = some (.func (.func 24) #[] #[]) := Calm.cell ((T2.out.1.x.cell 0).trans rfl) T2.out.1.x.lt
  have kx1 : ∀ x : Calm w2, x.w.cell? ⟨w.heap.size, 1, none⟩ = some (.func (.func 25) #[] #[]) := Calm.cell ((T2.out.1.x.cell 1).trans rfl) T2.out.1.x.lt
  have ky0 : ∀ x : Calm w2, x.w.cell? ⟨w.heap.size + 1, 0, none⟩ = some (.func (.func 26) #[] #[]) := Calm.cell ((T2.out.1.y.cell 0).trans rfl) T2.out.1.y.lt
  have ky1 : ∀ x : Calm w2, x.w.cell? ⟨w.heap.size + 1, 1, none⟩ = some (.func (.func 27) #[] #[]) := Calm.cell ((T2.out.1.y.cell 1).trans rfl) T2.out.1.y.lt
  go_wp2_with fail
  refine wp_mono (Q := fun e a' w' => match e with | .normal => ∃ vB vXN u18 u19 u20 u21 u22 u23, a' = ⟨#[.map none, .pointer (some ⟨w.heap.size, 0, none⟩), .pointer (some ⟨w.heap.size + 1, 0, none⟩), .pointer (some ⟨w.heap.size + 1 + 1, 0, none⟩), vX, vN, vA, vB, vXN, .agg #[fnV 24, fnV 25], .agg #[fnV 26, fnV 27], .agg #[fnV 28, fnV 29], u12, u13, u14, u15, u16, u17, u18, u19, u20, u21, u22, u23, undef, undef, undef, undef, undef, undef, undef, undef, undef, undef, undef, undef, undef, undef, undef, undef, undef, undef, undef, undef, undef, undef, undef, undef, undef, undef, undef, undef, undef, undef, undef, undef, undef, undef, undef, undef, undef, undef, undef, undef, undef, undef, undef, undef, undef, undef, undef, undef, undef, undef], []⟩ ∧ Below w2.heap.size w2 w' ∧ SL [.kx, .ky] vB w' ∧ SL [.kx, .knn] vXN w' | _ => False) ?_ ?_
  · refine wp_region_fork (C := fun w' => ∃ u : Calm w2, w' = u.w) (.fork [0, 1, 3, 4] 2 (.call [6] 5 (.last [7])) 5 (.call [] 2 (.last [6, 7]))) (by kernel_rfl) (by kernel_rfl) ?_ ⟨⟨w2.drew, (Below.refl _ _).drew⟩, rfl⟩ ?_
    · exact fun _ _ d _ _ h => by cases d <;> exact h
    intro wd hwd
    have bd := Lib.hid (show Below w2.heap.size w2 wd by rw [hwd]; exact (Below.refl _ _).drew)
    clear hwd
    refine forkT_fork (by simp only [opsAt, List.getElem?_toArray, List.getElem?_cons_succ, List.getElem?_cons_zero]; rfl) ?_
    repeat (go_big_quiet_step (rfl))
    refine wpQuiet_nil ?_
    clear kx0 kx1 ky0 ky1
    constructor
    · refine oneT_call (by simp only [List.getElem?_toArray, List.getElem?_cons_succ, List.getElem?_cons_zero]; rfl) rfl ?_
      intro K8 hK
      go_wp2_with fail
      have S1 := Lib.hid (SL.new [.kx, .ky] wd (cs := #[.func (.func 24) #[] #[], .func (.func 25) #[] #[], .func (.func 26) #[] #[], .func (.func 27) #[] #[]]) rfl)
      have bd := Lib.hid (bd.out.alloc bd.out.size (.cells #[.func (.func 24) #[] #[], .func (.func 25) #[] #[], .func (.func 26) #[] #[], .func (.func 27) #[] #[]] 55))
      refine hK _ _ ⟨⟨_, bd.out⟩, rfl⟩ ?_
      clear hK K8
      generalize World.alloc _ _ = w7 at *
      try simp only [Act.put, List.setIfInBounds_toArray, List.set_cons_zero, List.set_cons_succ]
      refine forkT_call (by simp only [opsAt, List.getElem?_toArray, List.getElem?_cons_succ, List.getElem?_cons_zero]; rfl) ?_
      repeat (go_big_quiet_step (rfl))
      refine wpQuiet_nil ?_
      refine oneT_call (by simp only [List.getElem?_toArray, List.getElem?_cons_succ, List.getElem?_cons_zero]; rfl) rfl ?_
      intro K8 hK
      go_wp2_with fail
      have S2 := Lib.hid (SL.new [.kx, .knn] w7 (cs := #[.func (.func 24) #[] #[], .func (.func 25) #[] #[], .func (.func 32) #[] #[], .func (.func 33) #[] #[]]) rfl)
      have S1 := Lib.hid (S1.out.alloc (.cells #[.func (.func 24) #[] #[], .func (.func 25) #[] #[], .func (.func 32) #[] #[], .func (.func 33) #[] #[]] 55))
      have bd := Lib.hid (bd.out.alloc bd.out.size (.cells #[.func (.func 24) #[] #[], .func (.func 25) #[] #[], .func (.func 32) #[] #[], .func (.func 33) #[] #[]] 55))
      refine hK _ _ ⟨⟨_, bd.out⟩, rfl⟩ ?_
      clear hK K8
      generalize World.alloc _ _ = w8 at *
      try simp only [Act.put, List.setIfInBounds_toArray, List.set_cons_zero, List.set_cons_succ]
      refine forkT_last (by simp only [opsAt, List.getElem?_toArray, List.getElem?_cons_succ, List.getElem?_cons_zero]; rfl) ?_
      repeat (go_big_quiet_step (rfl))
      refine wpQuiet_nil ?_
      exact ⟨_, _, _, _, _, _, _, _, rfl, bd.out, S1.out, S2.out⟩
    · refine oneT_call (by simp only [List.getElem?_toArray, List.getElem?_cons_succ, List.getElem?_cons_zero]; rfl) rfl ?_
      intro K8 hK
      go_wp2_with fail
      have S2 := Lib.hid (SL.new [.kx, .knn] wd (cs := #[.func (.func 24) #[] #[], .func (.func 25) #[] #[], .func (.func 32) #[] #[], .func (.func 33) #[] #[]]) rfl)
      have bd := Lib.hid (bd.out.alloc bd.out.size (.cells #[.func (.func 24) #[] #[], .func (.func 25) #[] #[], .func (.func 32) #[] #[], .func (.func 33) #[] #[]] 55))
      refine hK _ _ ⟨⟨_, bd.out⟩, rfl⟩ ?_
      clear hK K8
      generalize World.alloc _ _ = w7 at *
      try simp only [Act.put, List.setIfInBounds_toArray, List.set_cons_zero, List.set_cons_succ]
      refine forkT_call (by simp only [opsAt, List.getElem?_toArray, List.getElem?_cons_succ, List.getElem?_cons_zero]; rfl) ?_
      repeat (go_big_quiet_step (rfl))
      refine wpQuiet_nil ?_
      refine oneT_call (by simp only [List.getElem?_toArray, List.getElem?_cons_succ, List.getElem?_cons_zero]; rfl) rfl ?_
      intro K8 hK
      go_wp2_with fail
      have S1 := Lib.hid (SL.new [.kx, .ky] w7 (cs := #[.func (.func 24) #[] #[], .func (.func 25) #[] #[], .func (.func 26) #[] #[], .func (.func 27) #[] #[]]) rfl)
      have S2 := Lib.hid (S2.out.alloc (.cells #[.func (.func 24) #[] #[], .func (.func 25) #[] #[], .func (.func 26) #[] #[], .func (.func 27) #[] #[]] 55))
      have bd := Lib.hid (bd.out.alloc bd.out.size (.cells #[.func (.func 24) #[] #[], .func (.func 25) #[] #[], .func (.func 26) #[] #[], .func (.func 27) #[] #[]] 55))
      refine hK _ _ ⟨⟨_, bd.out⟩, rfl⟩ ?_
      clear hK K8
      generalize World.alloc _ _ = w8 at *
      try simp only [Act.put, List.setIfInBounds_toArray, List.set_cons_zero, List.set_cons_succ]
      refine forkT_last (by simp only [opsAt, List.getElem?_toArray, List.getElem?_cons_succ, List.getElem?_cons_zero]; rfl) ?_
      repeat (go_big_quiet_step (rfl))
      refine wpQuiet_nil ?_
      exact ⟨_, _, _, _, _, _, _, _, rfl, bd.out, S1.out, S2.out⟩
  clear kx0 kx1 ky0 ky1
  intro e a3 w3 h
  have hn : e = .normal := by cases e <;> first | rfl | exact h.elim
  subst hn
  obtain ⟨vB, vXN, u18, u19, u20, u21, u22, u23, rfl, hb, sB, sXN⟩ := h
  have T3 := Lib.hid (And.intro (T2.out.1.step hb) (And.intro (T2.out.2.1.step hb) (And.intro (T2.out.2.2.1.step hb) (And.intro (T2.out.2.2.2.step hb) (And.intro sB sXN)))))
  clear hb sB sXN T2
  have M := Lib.hid (MpS.made (S := [([.kx], .slice (some ⟨w.heap.size, 0, none⟩) 1 1), ([.ky], .slice (some ⟨w.heap.size + 1, 0, none⟩) 1 1), ([.kn], .slice (some ⟨w.heap.size + 1 + 1, 0, none⟩) 1 1), ([.kx], vX), ([.kn], vN), ([.ka], vA), ([.kx, .ky], vB), ([.kx, .knn], vXN)]) T3.out.1.low (by
    obtain ⟨h1, h2, h3, h4, h5, h6⟩ := T3.out
    intro p hp
    simp only [List.mem_cons, List.not_mem_nil, or_false] at hp
    rcases hp with rfl | rfl | rfl | rfl | rfl | rfl | rfl | rfl
    · exact ⟨_, rfl, h1.x⟩
    · exact ⟨_, rfl, h1.y⟩
    · exact ⟨_, rfl, h1.n⟩
    · exact h2
    · exact h3
    · exact h4
    · exact h5
    · exact h6))
  clear T3
  go_upto_region 4 with fail
  refine wp_region_lit ?_
  simp only [List.append_eq, List.cons_append, List.nil_append]
  iterate 3 go_step
  generalize World.alloc _ _ = wm at M ⊢
  generalize w3.heap.size = m at M ⊢
  iterate 3 go_step
  refine list_insertS M.out (by decide) ?_ (.tmp 24) (.const (.int .i64 3)) (.tmp 25) ?_ ?_ 3 vA ?_ ?_ ?_ ?_
  focus rfl
  focus rfl
  focus rfl
  focus rfl
  focus rfl
  focus decide
  intro w1 H
  have M1 := Lib.hid H
  clear H M
  simp only [Act.put]
  iterate 3 go_step
  refine list_insertS M1.out (by decide) ?_ (.tmp 24) (.const (.int .i64 4)) (.tmp 26) ?_ ?_ 4 vA ?_ ?_ ?_ ?_
  focus rfl
  focus rfl
  focus rfl
  focus rfl
  focus rfl
  focus decide
  intro w2 H
  have M2 := Lib.hid H
  clear H M1
  simp only [Act.put]
  iterate 3 go_step
  refine list_insertS M2.out (by decide) ?_ (.tmp 24) (.const (.int .i64 20)) (.tmp 27) ?_ ?_ 20 vA ?_ ?_ ?_ ?_
  focus rfl
  focus rfl
  focus rfl
  focus rfl
  focus rfl
  focus decide
  intro w3 H
  have M3 := Lib.hid H
  clear H M2
  simp only [Act.put]
  iterate 3 go_step
  iterate 3 go_step
  have M4 := Lib.hid (show MpS _ _ _ _ (([.kj], .slice (some ⟨w3.heap.size, 0, none⟩) 1 1) :: _) (w3.alloc (.cells #[.func (.func 30) #[] #[], .func (.func 34) #[] #[]] 55)) from M3.out.alloc [.kj] (cs := #[.func (.func 30) #[] #[], .func (.func 34) #[] #[]]) rfl)
  clear M3
  generalize Value.slice (some ⟨w3.heap.size, 0, none⟩) 1 1 = vJ at M4 ⊢
  generalize World.alloc w3 _ = w4 at M4 ⊢
  refine list_insertS M4.out (by decide) ?_ (.tmp 24) (.const (.int .i64 21)) (.tmp 29) ?_ ?_ 21 vJ ?_ ?_ ?_ ?_
  focus rfl
  focus rfl
  focus rfl
  focus rfl
  focus rfl
  focus decide
  intro w5 H
  have M5 := Lib.hid H
  clear H M4
  simp only [Act.put]
  iterate 3 go_step
  iterate 3 go_step
  have M6 := Lib.hid (show MpS _ _ _ _ (([.kl], .slice (some ⟨w5.heap.size, 0, none⟩) 1 1) :: _) (w5.alloc (.cells #[.func (.func 35) #[] #[], .func (.func 36) #[] #[]] 55)) from M5.out.alloc [.kl] (cs := #[.func (.func 35) #[] #[], .func (.func 36) #[] #[]]) rfl)
  clear M5
  generalize Value.slice (some ⟨w5.heap.size, 0, none⟩) 1 1 = vL at M6 ⊢
  generalize World.alloc w5 _ = w6 at M6 ⊢
  refine list_insertS M6.out (by decide) ?_ (.tmp 24) (.const (.int .i64 48)) (.tmp 31) ?_ ?_ 48 vL ?_ ?_ ?_ ?_
  focus rfl
  focus rfl
  focus rfl
  focus rfl
  focus rfl
  focus decide
  intro w7 H
  have M7 := Lib.hid H
  clear H M6
  simp only [Act.put]
  iterate 3 go_step
  refine list_insertS M7.out (by decide) ?_ (.tmp 24) (.const (.int .i64 5)) (.tmp 32) ?_ ?_ 5 vXN ?_ ?_ ?_ ?_
  focus rfl
  focus rfl
  focus rfl
  focus rfl
  focus rfl
  focus decide
  intro w8 H
  have M8 := Lib.hid H
  clear H M7
  simp only [Act.put]
  iterate 3 go_step
  refine list_insertS M8.out (by decide) ?_ (.tmp 24) (.const (.int .i64 6)) (.tmp 33) ?_ ?_ 6 vXN ?_ ?_ ?_ ?_
  focus rfl
  focus rfl
  focus rfl
  focus rfl
  focus rfl
  focus decide
  intro w9 H
  have M9 := Lib.hid H
  clear H M8
  simp only [Act.put]
  iterate 3 go_step
  refine list_insertS M9.out (by decide) ?_ (.tmp 24) (.const (.int .i64 8)) (.tmp 34) ?_ ?_ 8 vXN ?_ ?_ ?_ ?_
  focus rfl
  focus rfl
  focus rfl
  focus rfl
  focus rfl
  focus decide
  intro w10 H
  have M10 := Lib.hid H
  clear H M9
  simp only [Act.put]
  iterate 3 go_step
  refine list_insertS M10.out (by decide) ?_ (.tmp 24) (.const (.int .i64 9)) (.tmp 35) ?_ ?_ 9 vXN ?_ ?_ ?_ ?_
  focus rfl
  focus rfl
  focus rfl
  focus rfl
  focus rfl
  focus decide
  intro w11 H
  have M11 := Lib.hid H
  clear H M10
  simp only [Act.put]
  iterate 3 go_step
  refine list_insertS M11.out (by decide) ?_ (.tmp 24) (.const (.int .i64 22)) (.tmp 36) ?_ ?_ 22 vXN ?_ ?_ ?_ ?_
  focus rfl
  focus rfl
  focus rfl
  focus rfl
  focus rfl
  focus decide
  intro w12 H
  have M12 := Lib.hid H
  clear H M11
  simp only [Act.put]
  iterate 3 go_step
  refine list_insertS M12.out (by decide) ?_ (.tmp 24) (.const (.int .i64 7)) (.tmp 37) ?_ ?_ 7 vB ?_ ?_ ?_ ?_
  focus rfl
  focus rfl
  focus rfl
  focus rfl
  focus rfl
  focus decide
  intro w13 H
  have M13 := Lib.hid H
  clear H M12
  simp only [Act.put]
  iterate 3 go_step
  refine list_insertS M13.out (by decide) ?_ (.tmp 24) (.const (.int .i64 19)) (.tmp 38) ?_ ?_ 19 vB ?_ ?_ ?_ ?_
  focus rfl
  focus rfl
  focus rfl
  focus rfl
  focus rfl
  focus decide
  intro w14 H
  have M14 := Lib.hid H
  clear H M13
  simp only [Act.put]
  iterate 3 go_step
  refine list_insertS M14.out (by decide) ?_ (.tmp 24) (.const (.int .i64 46)) (.tmp 39) ?_ ?_ 46 vB ?_ ?_ ?_ ?_
  focus rfl
  focus rfl
  focus rfl
  focus rfl
  focus rfl
  focus decide
  intro w15 H
  have M15 := Lib.hid H
  clear H M14
  simp only [Act.put]
  iterate 3 go_step
  refine list_insertS M15.out (by decide) ?_ (.tmp 24) (.const (.int .i64 47)) (.tmp 40) ?_ ?_ 47 vB ?_ ?_ ?_ ?_
  focus rfl
  focus rfl
  focus rfl
  focus rfl
  focus rfl
  focus decide
  intro w16 H
  have M16 := Lib.hid H
  clear H M15
  simp only [Act.put]
  iterate 3 go_step
  refine list_insertS M16.out (by decide) ?_ (.tmp 24) (.const (.int .i64 10)) (.tmp 41) ?_ ?_ 10 vB ?_ ?_ ?_ ?_
  focus rfl
  focus rfl
  focus rfl
  focus rfl
  focus rfl
  focus decide
  intro w17 H
  have M17 := Lib.hid H
  clear H M16
  simp only [Act.put]
  iterate 3 go_step
  refine list_insertS M17.out (by decide) ?_ (.tmp 24) (.const (.int .i64 11)) (.tmp 42) ?_ ?_ 11 vB ?_ ?_ ?_ ?_
  focus rfl
  focus rfl
  focus rfl
  focus rfl
  focus rfl
  focus decide
  intro w18 H
  have M18 := Lib.hid H
  clear H M17
  simp only [Act.put]
  iterate 3 go_step
  refine list_insertS M18.out (by decide) ?_ (.tmp 24) (.const (.int .i64 12)) (.tmp 43) ?_ ?_ 12 vB ?_ ?_ ?_ ?_
  focus rfl
  focus rfl
  focus rfl
  focus rfl
  focus rfl
  focus decide
  intro w19 H
  have M19 := Lib.hid H
  clear H M18
  simp only [Act.put]
  iterate 3 go_step
  refine list_insertS M19.out (by decide) ?_ (.tmp 24) (.const (.int .i64 13)) (.tmp 44) ?_ ?_ 13 vB ?_ ?_ ?_ ?_
  focus rfl
  focus rfl
  focus rfl
  focus rfl
  focus rfl
  focus decide
  intro w20 H
  have M20 := Lib.hid H
  clear H M19
  simp only [Act.put]
  iterate 3 go_step
  refine list_insertS M20.out (by decide) ?_ (.tmp 24) (.const (.int .i64 14)) (.tmp 45) ?_ ?_ 14 vB ?_ ?_ ?_ ?_
  focus rfl
  focus rfl
  focus rfl
  focus rfl
  focus rfl
  focus decide
  intro w21 H
  have M21 := Lib.hid H
  clear H M20
  simp only [Act.put]
  iterate 3 go_step
  refine list_insertS M21.out (by decide) ?_ (.tmp 24) (.const (.int .i64 15)) (.tmp 46) ?_ ?_ 15 vB ?_ ?_ ?_ ?_
  focus rfl
  focus rfl
  focus rfl
  focus rfl
  focus rfl
  focus decide
  intro w22 H
  have M22 := Lib.hid H
  clear H M21
  simp only [Act.put]
  iterate 3 go_step
  refine list_insertS M22.out (by decide) ?_ (.tmp 24) (.const (.int .i64 16)) (.tmp 47) ?_ ?_ 16 vB ?_ ?_ ?_ ?_
  focus rfl
  focus rfl
  focus rfl
  focus rfl
  focus rfl
  focus decide
  intro w23 H
  have M23 := Lib.hid H
  clear H M22
  simp only [Act.put]
  iterate 3 go_step
  refine list_insertS M23.out (by decide) ?_ (.tmp 24) (.const (.int .i64 17)) (.tmp 48) ?_ ?_ 17 vB ?_ ?_ ?_ ?_
  focus rfl
  focus rfl
  focus rfl
  focus rfl
  focus rfl
  focus decide
  intro w24 H
  have M24 := Lib.hid H
  clear H M23
  simp only [Act.put]
  iterate 3 go_step
  refine list_insertS M24.out (by decide) ?_ (.tmp 24) (.const (.int .i64 18)) (.tmp 49) ?_ ?_ 18 vB ?_ ?_ ?_ ?_
  focus rfl
  focus rfl
  focus rfl
  focus rfl
  focus rfl
  focus decide
  intro w25 H
  have M25 := Lib.hid H
  clear H M24
  simp only [Act.put]
  have b0 := (M25.out.sl ([.kx], .slice (some ⟨w.heap.size, 0, none⟩) 1 1) (by simp)).blk
  have c00 : w25.cell? ⟨w.heap.size, 0, none⟩ = some (.func (.func 24) #[] #[]) := (b0.cell 0).trans rfl
  have c01 : w25.cell? ⟨w.heap.size, 1, none⟩ = some (.func (.func 25) #[] #[]) := (b0.cell 1).trans rfl
  clear b0
  have b1 := (M25.out.sl ([.ky], .slice (some ⟨w.heap.size + 1, 0, none⟩) 1 1) (by simp)).blk
  have c10 : w25.cell? ⟨w.heap.size + 1, 0, none⟩ = some (.func (.func 26) #[] #[]) := (b1.cell 0).trans rfl
  have c11 : w25.cell? ⟨w.heap.size + 1, 1, none⟩ = some (.func (.func 27) #[] #[]) := (b1.cell 1).trans rfl
  clear b1
  have b2 := (M25.out.sl ([.kn], .slice (some ⟨w.heap.size + 1 + 1, 0, none⟩) 1 1) (by simp)).blk
  have c20 : w25.cell? ⟨w.heap.size + 1 + 1, 0, none⟩ = some (.func (.func 28) #[] #[]) := (b2.cell 0).trans rfl
  have c21 : w25.cell? ⟨w.heap.size + 1 + 1, 1, none⟩ = some (.func (.func 29) #[] #[]) := (b2.cell 1).trans rfl
  clear b2
  iterate 3 go_step
  iterate 3 go_step
  iterate 3 go_step
  clear c00 c01 c10 c11 c20 c21
  iterate 3 go_step
  have M26 := Lib.hid (show MpS _ _ _ _ (([.kx, .ky, .kn], .slice (some ⟨w25.heap.size, 0, none⟩) 3 3) :: _) (w25.alloc (.cells #[.func (.func 24) #[] #[], .func (.func 25) #[] #[], .func (.func 26) #[] #[], .func (.func 27) #[] #[], .func (.func 28) #[] #[], .func (.func 29) #[] #[]] 55)) from M25.out.alloc [.kx, .ky, .kn] (cs := #[.func (.func 24) #[] #[], .func (.func 25) #[] #[], .func (.func 26) #[] #[], .func (.func 27) #[] #[], .func (.func 28) #[] #[], .func (.func 29) #[] #[]]) rfl)
  clear M25
  generalize Value.slice (some ⟨w25.heap.size, 0, none⟩) 3 3 = vD at M26 ⊢
  generalize World.alloc w25 _ = w26 at M26 ⊢
  refine list_insertS M26.out (by decide) ?_ (.tmp 24) (.const (.int .i64 23)) (.tmp 53) ?_ ?_ 23 vD ?_ ?_ ?_ ?_
  focus rfl
  focus rfl
  focus rfl
  focus rfl
  focus rfl
  focus decide
  intro w27 H
  have M27 := Lib.hid H
  clear H M26
  simp only [Act.put]
  iterate 3 go_step
  refine list_insertS M27.out (by decide) ?_ (.tmp 24) (.const (.int .i64 41)) (.tmp 54) ?_ ?_ 41 vB ?_ ?_ ?_ ?_
  focus rfl
  focus rfl
  focus rfl
  focus rfl
  focus rfl
  focus decide
  intro w28 H
  have M28 := Lib.hid H
  clear H M27
  simp only [Act.put]
  iterate 3 go_step
  refine list_insertS M28.out (by decide) ?_ (.tmp 24) (.const (.int .i64 24)) (.tmp 55) ?_ ?_ 24 vX ?_ ?_ ?_ ?_
  focus rfl
  focus rfl
  focus rfl
  focus rfl
  focus rfl
  focus decide
  intro w29 H
  have M29 := Lib.hid H
  clear H M28
  simp only [Act.put]
  iterate 3 go_step
  refine list_insertS M29.out (by decide) ?_ (.tmp 24) (.const (.int .i64 25)) (.tmp 56) ?_ ?_ 25 vX ?_ ?_ ?_ ?_
  focus rfl
  focus rfl
  focus rfl
  focus rfl
  focus rfl
  focus decide
  intro w30 H
  have M30 := Lib.hid H
  clear H M29
  simp only [Act.put]
  iterate 3 go_step
  refine list_insertS M30.out (by decide) ?_ (.tmp 24) (.const (.int .i64 26)) (.tmp 57) ?_ ?_ 26 vX ?_ ?_ ?_ ?_
  focus rfl
  focus rfl
  focus rfl
  focus rfl
  focus rfl
  focus decide
  intro w31 H
  have M31 := Lib.hid H
  clear H M30
  simp only [Act.put]
  iterate 3 go_step
  refine list_insertS M31.out (by decide) ?_ (.tmp 24) (.const (.int .i64 27)) (.tmp 58) ?_ ?_ 27 vX ?_ ?_ ?_ ?_
  focus rfl
  focus rfl
  focus rfl
  focus rfl
  focus rfl
  focus decide
  intro w32 H
  have M32 := Lib.hid H
  clear H M31
  simp only [Act.put]
  iterate 3 go_step
  refine list_insertS M32.out (by decide) ?_ (.tmp 24) (.const (.int .i64 28)) (.tmp 59) ?_ ?_ 28 vX ?_ ?_ ?_ ?_
  focus rfl
  focus rfl
  focus rfl
  focus rfl
  focus rfl
  focus decide
  intro w33 H
  have M33 := Lib.hid H
  clear H M32
  simp only [Act.put]
  iterate 3 go_step
  refine list_insertS M33.out (by decide) ?_ (.tmp 24) (.const (.int .i64 29)) (.tmp 60) ?_ ?_ 29 vX ?_ ?_ ?_ ?_
  focus rfl
  focus rfl
  focus rfl
  focus rfl
  focus rfl
  focus decide
  intro w34 H
  have M34 := Lib.hid H
  clear H M33
  simp only [Act.put]
  iterate 3 go_step
  refine list_insertS M34.out (by decide) ?_ (.tmp 24) (.const (.int .i64 30)) (.tmp 61) ?_ ?_ 30 vX ?_ ?_ ?_ ?_
  focus rfl
  focus rfl
  focus rfl
  focus rfl
  focus rfl
  focus decide
  intro w35 H
  have M35 := Lib.hid H
  clear H M34
  simp only [Act.put]
  iterate 3 go_step
  refine list_insertS M35.out (by decide) ?_ (.tmp 24) (.const (.int .i64 31)) (.tmp 62) ?_ ?_ 31 vX ?_ ?_ ?_ ?_
  focus rfl
  focus rfl
  focus rfl
  focus rfl
  focus rfl
  focus decide
  intro w36 H
  have M36 := Lib.hid H
  clear H M35
  simp only [Act.put]
  iterate 3 go_step
  refine list_insertS M36.out (by decide) ?_ (.tmp 24) (.const (.int .i64 42)) (.tmp 63) ?_ ?_ 42 vX ?_ ?_ ?_ ?_
  focus rfl
  focus rfl
  focus rfl
  focus rfl
  focus rfl
  focus decide
  intro w37 H
  have M37 := Lib.hid H
  clear H M36
  simp only [Act.put]
  iterate 3 go_step
  refine list_insertS M37.out (by decide) ?_ (.tmp 24) (.const (.int .i64 32)) (.tmp 64) ?_ ?_ 32 vX ?_ ?_ ?_ ?_
  focus rfl
  focus rfl
  focus rfl
  focus rfl
  focus rfl
  focus decide
  intro w38 H
  have M38 := Lib.hid H
  clear H M37
  simp only [Act.put]
  iterate 3 go_step
  refine list_insertS M38.out (by decide) ?_ (.tmp 24) (.const (.int .i64 33)) (.tmp 65) ?_ ?_ 33 vX ?_ ?_ ?_ ?_
  focus rfl
  focus rfl
  focus rfl
  focus rfl
  focus rfl
  focus decide
  intro w39 H
  have M39 := Lib.hid H
  clear H M38
  simp only [Act.put]
  iterate 3 go_step
  refine list_insertS M39.out (by decide) ?_ (.tmp 24) (.const (.int .i64 34)) (.tmp 66) ?_ ?_ 34 vX ?_ ?_ ?_ ?_
  focus rfl
  focus rfl
  focus rfl
  focus rfl
  focus rfl
  focus decide
  intro w40 H
  have M40 := Lib.hid H
  clear H M39
  simp only [Act.put]
  iterate 3 go_step
  refine list_insertS M40.out (by decide) ?_ (.tmp 24) (.const (.int .i64 43)) (.tmp 67) ?_ ?_ 43 vX ?_ ?_ ?_ ?_
  focus rfl
  focus rfl
  focus rfl
  focus rfl
  focus rfl
  focus decide
  intro w41 H
  have M41 := Lib.hid H
  clear H M40
  simp only [Act.put]
  iterate 3 go_step
  refine list_insertS M41.out (by decide) ?_ (.tmp 24) (.const (.int .i64 44)) (.tmp 68) ?_ ?_ 44 vX ?_ ?_ ?_ ?_
  focus rfl
  focus rfl
  focus rfl
  focus rfl
  focus rfl
  focus decide
  intro w42 H
  have M42 := Lib.hid H
  clear H M41
  simp only [Act.put]
  iterate 3 go_step
  refine list_insertS M42.out (by decide) ?_ (.tmp 24) (.const (.int .i64 51)) (.tmp 69) ?_ ?_ 51 vX ?_ ?_ ?_ ?_
  focus rfl
  focus rfl
  focus rfl
  focus rfl
  focus rfl
  focus decide
  intro w43 H
  have M43 := Lib.hid H
  clear H M42
  simp only [Act.put]
  iterate 3 go_step
  refine list_insertS M43.out (by decide) ?_ (.tmp 24) (.const (.int .i64 35)) (.tmp 70) ?_ ?_ 35 vN ?_ ?_ ?_ ?_
  focus rfl
  focus rfl
  focus rfl
  focus rfl
  focus rfl
  focus decide
  intro w44 H
  have M44 := Lib.hid H
  clear H M43
  simp only [Act.put]
  iterate 3 go_step
  refine list_insertS M44.out (by decide) ?_ (.tmp 24) (.const (.int .i64 45)) (.tmp 71) ?_ ?_ 45 vN ?_ ?_ ?_ ?_
  focus rfl
  focus rfl
  focus rfl
  focus rfl
  focus rfl
  focus decide
  intro w45 H
  have M45 := Lib.hid H
  clear H M44
  simp only [Act.put]
  iterate 3 go_step
  refine list_insertS M45.out (by decide) ?_ (.tmp 24) (.const (.int .i64 49)) (.tmp 72) ?_ ?_ 49 vN ?_ ?_ ?_ ?_
  focus rfl
  focus rfl
  focus rfl
  focus rfl
  focus rfl
  focus decide
  intro w46 H
  have M46 := Lib.hid H
  clear H M45
  simp only [Act.put]
  iterate 3 go_step
  iterate 3 go_step
  go_wp2_with fail
  go_ret
  refine ⟨_, rfl, Syn.of (fun c => match c with | 0 => vX | 1 => vN | 2 => vA | 3 => vB | 4 => vXN | 5 => vJ | 6 => vL | _ => vD) M46.out ?_, M46.out.low⟩
  intro c hc
  have hS := M46.out.sl
  have h8 : c = 0 ∨ c = 1 ∨ c = 2 ∨ c = 3 ∨ c = 4 ∨ c = 5 ∨ c = 6 ∨ c = 7 := by omega
  rcases h8 with rfl | rfl | rfl | rfl | rfl | rfl | rfl | rfl
  · exact hS ([.kx], vX) (by simp)
  · exact hS ([.kn], vN) (by simp)
  · exact hS ([.ka], vA) (by simp)
  · exact hS ([.kx, .ky], vB) (by simp)
  · exact hS ([.kx, .knn], vXN) (by simp)
  · exact hS ([.kj], vJ) (by simp)
  · exact hS ([.kl], vL) (by simp)
  · exact hS ([.kx, .ky, .kn], vD) (by simp)

end Go.Proofs.YthfiaemdpfffcaaGreatDoor
