/- A drawing as the laws of layer 8 make it. -/
import Derived.Test.YtplmmfgmbfcjpaaScrDo
import Derived.Test.YtplmmfgmbfcjpaaScrRefs
import Derived.Test.YtplmmfgmbfcjpaaPlaneDraw
import Derived.Test.YtplmmfgmbfcjpaaPlaneWords
import Derived.Deep.RegionLaw
import Derived.Deep.AppendLies
import Derived.Test.YtplmmfgmbfcjpaaScrOpen
namespace Go.Proofs.Ytplmmfgmbfcjpaa
open Go.RowKit Go.Shelf Num
set_option linter.unusedVariables false
set_option linter.unusedSimpArgs false

def drZ (F : Nat → Nat) (S : Sc) (M n : Nat) (big clip : Bool) (x y : Nat) : Sc := drS (mkD F S M n big clip x y 0 0) M
def coZ (F : Nat → Nat) (S : Sc) (M n : Nat) (big clip : Bool) (x y : Nat) : Bool := coS (mkD F S M n big clip x y 0 0) M
theorem drawM (S : Sc) (M n : Nat) (hM : S.M = (M : Int)) (M1 : M ≤ 15) (n1 : n ≤ 15) (big clip : Bool) (x y : Nat) (x1 : x ≤ 255) (y1 : y ≤ 255) (F : Nat → Nat) (hF : ∀ j, F j ≤ 255) (g o nd : Nat) (A : Option Addr) (c : Nat) (hnd : need M n big 4 = nd) (hc : nd ≤ c) (c1 : c ≤ 1000) (w : World) (hD : DatA g o F nd A w) :
    Calls Try.prog 20 #[.agg (scells S), .int .i64 (x : Int), .int .i64 (y : Int), .int .i64 (n : Int), .bool big, .bool clip, .slice A nd c] w fun e w' =>
      e = .returned (.tuple #[.agg (scells (drZ F S M n big clip x y)), .bool (coZ F S M n big clip x y)]) ∧ Below w.heap.size w w' := by
  have hl : (selTo M 4).length * ((if big then 16 else n) * (if big then 2 else 1)) = nd := by rw [← hnd, need_len M n big 4 (by omega), per_shape]
  have h := draw8_any (mkD F S M n big clip x y g o) (mkD_ok _ hF S M n (by omega) big clip x y g o (by omega) (by omega)) M n big hM (by omega) rfl rfl rfl A nd c hl hc c1 w hD
  refine h.mono fun e w' ⟨he, hb⟩ => ⟨he.trans ?_, hb⟩
  have e2 := coS_any F S M n big clip x y g o 0 0
  unfold coS at e2
  unfold drZ coZ drS coS
  rw [e2]
  rfl
theorem drZ_hi (F : Nat → Nat) (S : Sc) (M n : Nat) (big clip : Bool) (x y : Nat) : (drZ F S M n big clip x y).hi = S.hi := rfl
theorem drZ_M (F : Nat → Nat) (S : Sc) (M n : Nat) (big clip : Bool) (x y : Nat) : (drZ F S M n big clip x y).M = S.M := rfl
theorem xor_back (a b : BitVec 128) : (a ^^^ b) ^^^ b = a := by rw [BitVec.xor_assoc, BitVec.xor_self, BitVec.xor_zero]
/-- What is drawn on the k-th plane. -/
def spZ (F : Nat → Nat) (S : Sc) (M n : Nat) (big clip : Bool) (x y k : Nat) : Pl := (mkD F S M n big clip x y 0 0).sp k
theorem drZ_P (F : Nat → Nat) (S : Sc) (M n : Nat) (big clip : Bool) (x y i : Nat) : (drZ F S M n big clip x y).P i = if onB M i then drawn (S.P i) (spZ F S M n big clip x y (selTo M i).length) else S.P i := rfl
theorem spZ_again (F : Nat → Nat) (S : Sc) (M n : Nat) (big clip : Bool) (x y k : Nat) : spZ F (drZ F S M n big clip x y) M n big clip x y k = spZ F S M n big clip x y k := rfl
/-- Drawn twice is not drawn. -/
theorem drZ_twice (F : Nat → Nat) (S : Sc) (M n : Nat) (big clip : Bool) (x y : Nat) : sameSc (drZ F (drZ F S M n big clip x y) M n big clip x y) S = true := by
  refine (sameSc_iff _ _).2 ⟨fun i hi j hj => ?_, rfl, rfl⟩
  rw [drZ_P, spZ_again, drZ_P]
  by_cases h : onB M i = true
  · rw [if_pos h, if_pos h]
    exact xor_back _ _
  · rw [if_neg h, if_neg h]
theorem onB_zero (i : Nat) : onB 0 i = false := by simp [onB]
theorem need_zero (n : Nat) (big : Bool) : need 0 n big 4 = 0 := by simp [need, onB]
/-- Without planes nothing is drawn. -/
theorem drZ_none (F : Nat → Nat) (S : Sc) (n : Nat) (big clip : Bool) (x y : Nat) : sameSc (drZ F S 0 n big clip x y) S = true ∧ coZ F S 0 n big clip x y = false := by
  refine ⟨(sameSc_iff _ _).2 ⟨fun i hi j hj => ?_, rfl, rfl⟩, ?_⟩
  · rw [drZ_P, onB_zero]
    rfl
  · unfold coZ coS
    rw [show selTo 0 4 = [] by simp [selTo, onB_zero]]
    rfl
end Go.Proofs.Ytplmmfgmbfcjpaa

/- Drawing on several planes is drawing on one after the other: mathematics. -/
namespace Go.Proofs.Ytplmmfgmbfcjpaa
open Go.RowKit Num
set_option linter.unusedVariables false
set_option linter.unusedSimpArgs false

theorem onB_pow (j i : Nat) (hj : j < 4) (hi : i < 4) : onB (2 ^ j) i = decide (i = j) := by
  have e : ∀ j i : Fin 4, onB (2 ^ j.val) i.val = decide (i.val = j.val) := by decide
  exact e ⟨j, hj⟩ ⟨i, hi⟩
theorem sel_pow (j : Nat) (hj : j < 4) : selTo (2 ^ j) j = [] ∧ selTo (2 ^ j) 4 = [⟨j, hj⟩] := by
  have e : ∀ j : Fin 4, selTo (2 ^ j.val) j.val = [] ∧ selTo (2 ^ j.val) 4 = [j] := by decide +kernel
  exact e ⟨j, hj⟩
theorem need_pow (j n : Nat) (big : Bool) (hj : j < 4) : need (2 ^ j) n big 4 = per n big := by
  rw [need_len _ _ _ _ (by omega), (sel_pow j hj).2]
  simp
section
variable (F : Nat → Nat) (S : Sc) (m n : Nat) (big clip : Bool) (x y : Nat)
/-- The planes behind the first j. -/
def uTo (j : Nat) : Nat → Pl := fun i => if i < j ∧ onB m i = true then drawn (S.P i) (spZ F S m n big clip x y (selTo m i).length) else S.P i
def anyT (j : Nat) : Bool := (mkD F S m n big clip x y 0 0).coll 0 ((selTo m j).map fun i => S.P i.val)
theorem sp_one (U : Sc) (hU : U.hi = S.hi) (j : Nat) (hj : j < 4) : spZ (fun k => F (need m n big j + k)) (U.mask (2 ^ j : Nat)) (2 ^ j) n big clip x y 0 = spZ F S m n big clip x y (selTo m j).length := by
  have hn : need m n big j = (selTo m j).length * ((if big then 16 else n) * (if big then 2 else 1)) := by rw [need_len _ _ _ _ (by omega), per_shape]
  show spr (nth (rowsL (fun k => F (need m n big j + k)) (if big then 16 else n) (if big then 2 else 1) (0 * _))) (if big then 16 else n) ((if big then 2 else 1) * 8) (x % wid U.hi) (y % hei U.hi) (wid U.hi) (hei U.hi) clip
    = spr (nth (rowsL F (if big then 16 else n) (if big then 2 else 1) ((selTo m j).length * ((if big then 16 else n) * (if big then 2 else 1))))) (if big then 16 else n) ((if big then 2 else 1) * 8) (x % wid S.hi) (y % hei S.hi) (wid S.hi) (hei S.hi) clip
  rw [hU, ← hn]
  congr 2
  unfold rowsL
  simp only [Nat.zero_mul, Nat.zero_add]
theorem one_step (j : Nat) (hj : j < 4) (hon : onB m j = true) (U : Sc) (hU : ∀ i, i < 4 → U.P i = uTo F S m n big clip x y j i) (hhi : U.hi = S.hi) :
    (∀ i, i < 4 → (drZ (fun k => F (need m n big j + k)) (U.mask (2 ^ j : Nat)) (2 ^ j) n big clip x y).P i = uTo F S m n big clip x y (j + 1) i) ∧
      (anyT F S m n big clip x y j || coZ (fun k => F (need m n big j + k)) (U.mask (2 ^ j : Nat)) (2 ^ j) n big clip x y) = anyT F S m n big clip x y (j + 1) := by
  have hUj : U.P j = S.P j := by rw [hU j hj]; unfold uTo; rw [if_neg (by omega)]
  constructor
  · intro i hi
    rw [drZ_P, onB_pow j i hj hi]
    by_cases e : i = j
    · subst e
      rw [decide_eq_true rfl, if_pos rfl, (sel_pow i hi).1, List.length_nil, sp_one F S m n big clip x y U hhi i hi]
      show drawn (U.P i) _ = _
      rw [hUj]
      unfold uTo
      rw [if_pos ⟨by omega, hon⟩]
    · rw [decide_eq_false e, if_neg (by simp)]
      show U.P i = _
      rw [hU i hi]
      unfold uTo
      by_cases h : onB m i = true
      · by_cases hl : i < j
        · rw [if_pos ⟨hl, h⟩, if_pos ⟨by omega, h⟩]
        · rw [if_neg (fun q => hl q.1), if_neg (fun q => by omega)]
      · rw [if_neg (fun q => h q.2), if_neg (fun q => h q.2)]
  · have hc : coZ (fun k => F (need m n big j + k)) (U.mask (2 ^ j : Nat)) (2 ^ j) n big clip x y = hitB (S.P j) (spZ F S m n big clip x y (selTo m j).length) := by
      unfold coZ coS
      rw [(sel_pow j hj).2]
      show (hitB (U.P j) (spZ (fun k => F (need m n big j + k)) (U.mask (2 ^ j : Nat)) (2 ^ j) n big clip x y 0) || false) = _
      rw [sp_one F S m n big clip x y U hhi j hj, hUj, Bool.or_false]
    rw [hc]
    unfold anyT
    rw [selTo_succ m j hj, if_pos hon, List.map_append, List.map_cons, List.map_nil, coll_snoc, List.length_map, Nat.zero_add]
    rfl
theorem one_skip (j : Nat) (hj : j < 4) (hoff : onB m j = false) : (∀ i, i < 4 → uTo F S m n big clip x y (j + 1) i = uTo F S m n big clip x y j i) ∧ anyT F S m n big clip x y (j + 1) = anyT F S m n big clip x y j := by
  constructor
  · intro i hi
    unfold uTo
    by_cases h : onB m i = true
    · have hij : i ≠ j := fun e => by rw [e, hoff] at h; cases h
      by_cases hl : i < j
      · rw [if_pos ⟨by omega, h⟩, if_pos ⟨hl, h⟩]
      · rw [if_neg (fun q => by have := q.1; omega), if_neg (fun q => hl q.1)]
    · rw [if_neg (fun q => h q.2), if_neg (fun q => h q.2)]
  · unfold anyT
    rw [selTo_succ m j hj, if_neg (by rw [hoff]; simp), List.append_nil]
theorem one_first : (∀ i, i < 4 → S.P i = uTo F S m n big clip x y 0 i) ∧ anyT F S m n big clip x y 0 = false := by
  constructor
  · intro i hi
    unfold uTo
    rw [if_neg (by omega)]
  · unfold anyT
    rw [selTo_zero]
    rfl
theorem one_last (U : Sc) (hU : ∀ i, i < 4 → U.P i = uTo F S m n big clip x y 4 i) (hhi : U.hi = S.hi) (hM : S.M = (m : Int)) : sameSc (U.mask m) (drZ F S m n big clip x y) = true ∧ anyT F S m n big clip x y 4 = coZ F S m n big clip x y := by
  refine ⟨(sameSc_iff _ _).2 ⟨fun i hi j hj => ?_, hhi, hM.symm⟩, rfl⟩
  show U.P i j = _
  rw [hU i hi, drZ_P]
  unfold uTo
  by_cases h : onB m i = true
  · rw [if_pos ⟨hi, h⟩, if_pos h]
  · rw [if_neg (fun q => h q.2), if_neg h]
end
theorem need_mono (m n : Nat) (big : Bool) {k k' : Nat} (h : k ≤ k') : need m n big k ≤ need m n big k' := by
  induction k' with
  | zero => rw [show k = 0 by omega]; exact Nat.le_refl _
  | succ i ih =>
    rcases Nat.lt_or_ge i k with e | e
    · rw [show k = i + 1 by omega]; exact Nat.le_refl _
    · exact Nat.le_trans (ih e) (by rw [need]; omega)
theorem need_next (m n : Nat) (big : Bool) (j : Nat) (hon : onB m j = true) : need m n big (j + 1) = need m n big j + per n big := by rw [need, if_pos hon]
theorem need_stay (m n : Nat) (big : Bool) (j : Nat) (hoff : onB m j = false) : need m n big (j + 1) = need m n big j := by rw [need, hoff]; simp
/-- Block g holds n bytes of F. -/
structure Dat (g n : Nat) (F : Nat → Nat) (w : World) : Prop where
  lt : g < w.heap.size
  at_ : ∀ j, j < n → w.cell? ⟨g, j, none⟩ = some (.int .u8 (F j : Int))
theorem Dat.step {g n : Nat} {F : Nat → Nat} {w w' : World} (h : Dat g n F w) (hb : Below w.heap.size w w') : Dat g n F w' := ⟨Nat.lt_of_lt_of_le h.lt hb.size, fun j hj => (hb.cell (p := ⟨g, j, none⟩) h.lt).trans (h.at_ j hj)⟩
theorem Dat.otherRow {g n : Nat} {F : Nat → Nat} {w : World} (h : Dat g n F w) {b : Nat} (hb : g ≠ b) (cs : Array Value) : Dat g n F (w.setRow b cs) :=
  ⟨by have := h.lt; simpa [World.setRow] using this, fun j hj => by
    have e := setRow_other w b g cs hb
    have := h.at_ j hj
    unfold World.cell? at *
    simp only at *
    rw [e]
    exact this⟩
theorem Dat.all {g n : Nat} {F : Nat → Nat} {w : World} (h : Dat g n F w) : DatA g 0 F n (some ⟨g, 0, none⟩) w := fun _ => ⟨rfl, h.lt, fun j hj => by rw [Nat.zero_add]; exact h.at_ j hj⟩
/-- Where a part of it lies. -/
def cutA (g n fr : Nat) : Option Addr := if n = fr then some ⟨g, 0, none⟩ else some ⟨g, fr, none⟩
theorem Dat.cut {g n : Nat} {F : Nat → Nat} {w : World} (h : Dat g n F w) {fr k : Nat} (hk : fr + k ≤ n) : DatA g fr (fun j => F (fr + j)) k (cutA g n fr) w := fun h0 => by
  unfold cutA
  rw [if_neg (by omega)]
  exact ⟨rfl, h.lt, fun j hj => h.at_ _ (by omega)⟩
theorem exec_cut {o : Oper} {ρ : Operand → Value} {g n fr tt k : Nat} (x l r : Operand) (ho : o.op = .slice 39 x (some l) (some r) none) (hx : ρ x = .slice (some ⟨g, 0, none⟩) n n) (hl : ρ l = .int .i64 (fr : Int)) (hr : ρ r = .int .i64 (tt : Int)) (h1 : tt = fr + k) (h2 : tt ≤ n) (w : World) :
    (execOp ρ o).run Try.prog w = .ok (.value (.slice (cutA g n fr) k (n - fr))) w := by
  have hs : (Try.prog.info? 5).map (·.size) = some 1 := by kernel_rfl
  subst h1
  unfold execOp
  simp only [ho, hx, hl, hr, Option.map_some, Option.map_none]
  cases hq : Try.prog.info? 5 with
  | none => rw [hq] at hs; cases hs
  | some i =>
    have hs : i.size = 1 := by simpa [hq] using hs
    unfold cutA
    by_cases hn : n = fr
    · subst hn
      simp [Instr.sliceAt, Instr.slice, Instr.sliceBounds, run_underlying Try.underlying39, Sem.run_bind, sizeOf, typeInfo, hq, hs, go_sem]
      rw [if_pos (by omega), if_pos (by omega), show ((n : Int) + (k : Int)).toNat - n = k by omega]
    · simp [Instr.sliceAt, Instr.slice, Instr.sliceBounds, run_underlying Try.underlying39, Sem.run_bind, sizeOf, typeInfo, hq, hs, go_sem, hn, Addr.add_mid]
      rw [if_pos (by omega), if_pos (by omega), show ((fr : Int) + (k : Int)).toNat - fr = k by omega]
end Go.Proofs.Ytplmmfgmbfcjpaa

/- Contract of the law package's same (layer 8). -/
namespace Go.Proofs.Ytplmmfgmbfcjpaa
open Go.RowKit Go.Shelf Num
set_option linter.unusedVariables false
set_option linter.unusedSimpArgs false

section
variable {ops : Array Oper} {C : World → Prop}
theorem quiet_neqS {Q : Act → Prop} {o : Oper} {rest : List Oper} {a : Act} {A B : Pl} (hs : samePl A B = true) (hw : Region.wanted o (yielded ops a.tmps) = true) (x y : Operand) (z : TypeId) (ho : o.op = .binOp .neq 29 x y z) (hx : a.eval x = .agg (pcells A)) (hy : a.eval y = .agg (pcells B))
    (h : wpQuiet Try.prog ops C Q rest (a.put o.dst (.bool false))) : wpQuiet Try.prog ops C Q (o :: rest) a :=
  quiet_run hw (.bool false) (fun w' _ => by rw [exec_neq x y z ho A B hx hy, hs]; rfl) h
end
theorem wordsN {N : Nat} (hN : N = 8192) (g : Nat) (f : Nat → Bool) (w : World) (H : Pxs g f w) {y : Nat} (y1 : y < 64) :
    Calls Try.prog 34 #[.slice (some ⟨g, 0, none⟩) N N, .int .i64 (y : Int)] w fun e w' => e = .returned (.tuple #[.int .u64 ((rowHi f y).toNat : Int), .int .u64 ((rowLo f y).toNat : Int)]) ∧ w = w' := by
  subst hN
  exact words_any g f w H rfl y1
set_option maxRecDepth 100000 in
set_option maxHeartbeats 8000000 in
theorem same8_any (N : Nat) (hN : N = 8192) (S : Sc) (A : Option Addr) (cap : Nat) (gs : List Nat) (F : Nat → Nat → Bool) (hi : Bool) (M : Nat) (q : Nat) (w : World) (hH : S.hi = hi) (hM : S.M = (M : Int)) (hP : ∀ i, i < 4 → ∀ y, y < 64 → S.P i y = fwd (F i) y) (H : RefS N q A gs F w) :
    Calls Try.prog 14 #[.agg (scells S), .agg #[.slice A 4 cap, .bool hi, .int .i64 (M : Int)]] w fun e w' => e = .returned (.bool true) ∧ Below w.heap.size w w' := by
  have NN := Lib.hid hN
  have HP := Lib.hid hP
  have HH := Lib.hid (And.intro hH hM)
  have S0 := Lib.hid ((SB.new w S).alloc (.cells #[.slice A 4 cap, .bool hi, .int .i64 (M : Int)] 36))
  have T0 := Lib.hid (SOut.new (w.alloc (.cells (scells S) 32)) (.slice A 4 cap) hi M)
  have B0 := Lib.hid ((below_new w (.cells (scells S) 32)).alloc (by simp) (.cells #[.slice A 4 cap, .bool hi, .int .i64 (M : Int)] 36))
  rw [World.size_alloc] at T0
  have HR := Lib.hid (H.step B0.out)
  clear hN hP hH hM H
  go_enter Try.func14, Try.ntmps14
  go_upto_region 1 with fail
  generalize (w.alloc (.cells (scells S) 32)).alloc (.cells #[.slice A 4 cap, .bool hi, .int .i64 (M : Int)] 36) = w2 at *
  have s2 : w2.cell? ⟨w.heap.size, 512, none⟩ = some (.bool hi) := by rw [S0.out.hires, HH.out.1]
  have s3 : w2.cell? ⟨w.heap.size, 513, none⟩ = some (.int .i64 (M : Int)) := by rw [S0.out.maskc, HH.out.2]
  have t1 := T0.out.c1
  have t2 := T0.out.c2
  go_wp2
  clear s2 s3 t1 t2
  go_loopw [5] (fun i wr => ∃ k : Nat, k ≤ 4 ∧ i = .int .i64 (k : Int) ∧ SB w.heap.size S wr ∧ SOut (w.heap.size + 1) (.slice A 4 cap) hi M wr ∧ RefS N q A gs F wr ∧ Below w.heap.size w wr) (fun i _ => 4 - (intOf i).toNat)
  case atStart => exact ⟨0, by omega, rfl, S0.out, T0.out, HR.out, B0.out⟩
  case round =>
    clear S0 T0 HR B0
    obtain ⟨k, hk, rfl, hs, ht, hr, hb⟩ := hrel
    have GS := Lib.hid hs
    have GT := Lib.hid ht
    have GR := Lib.hid hr
    have BB := Lib.hid hb
    clear hs ht hr hb
    obtain ⟨wo, hwo⟩ : ∃ wo, wo = wr := ⟨_, rfl⟩
    subst hwo
    by_cases hlt : k < 4
    · have kI : (k : Int) < 4 := by omega
      have KL := Lib.hid hlt
      have PK := GR.out.px k hlt
      obtain ⟨b, o, hA, hbl, hce⟩ := GR.out.row.at_ (k := k) (by rw [GR.out.len]; exact hlt)
      have hge : gs[k]'(by rw [GR.out.len]; exact hlt) = gs.getD k 0 := by simp [show k < gs.length by rw [GR.out.len]; exact hlt]
      rw [hge] at hce
      obtain ⟨y0, hy⟩ : ∃ y, gs.getD k 0 = y := ⟨_, rfl⟩
      rw [hy] at hce PK
      change wo.cell? ⟨b, o + k, none⟩ = some (.slice (some ⟨y0, 0, none⟩) N N) at hce
      obtain rfl := hA
      obtain ⟨f, hf⟩ : ∃ f, F k = f := ⟨_, rfl⟩
      have SM := Lib.hid (show samePl (S.P k) (fwd f) = true from (samePl_iff _ _).2 fun y hy => by rw [← hf]; exact HP.out k hlt y hy)
      rw [hf] at PK
      have PX := Lib.hid PK
      have CE := Lib.hid hce
      have BL := Lib.hid hbl
      clear PK hce hge hy hf hbl hlt
      go_upto_region 6 with fail
      refine wp_region_lit ?_
      refine wpList_plain rfl fun K hK => wp_alloc zeroPl rfl (hK _ _ ?_)
      clear hK K
      simp only [Act.put, List.setIfInBounds_toArray, List.set_cons_zero, List.set_cons_succ]
      have GP := Lib.hid (PBox.new wo (fun _ => 0#128) 29)
      have BW := Lib.hid ((Below.refl wo.heap.size wo).alloc (Nat.le_refl _) (.cells (pcells fun _ => 0#128) 29))
      obtain ⟨g, hg⟩ : ∃ g, wo.heap.size = g := ⟨_, rfl⟩
      have GG := Lib.hid hg
      generalize wo.alloc (.cells (pcells fun _ => 0#128) 29) = w3 at *
      rw [hg] at GP ⊢
      clear hg
      go_wp2
      go_loopw [7] (fun t wr => ∃ y : Nat, y ≤ 64 ∧ t = .int .i64 (y : Int) ∧ PBox g 29 (fun r => if r < y then fwd f r else 0#128) wr ∧ Below wo.heap.size wo wr) (fun t _ => 64 - (intOf t).toNat)
      case atStart => exact ⟨0, by omega, rfl, GP.out.congr fun y hy => by simp, BW.out⟩
      case round =>
        clear GP BW
        obtain ⟨y, hy, rfl, hp, hb⟩ := hrel
        have GP := Lib.hid hp
        have BW := Lib.hid hb
        clear hp hb
        by_cases hyl : y < 64
        · have yI : (y : Int) < 64 := by omega
          have C := Lib.hid (wordsN NN.out y0 f wr (PX.out.step BW.out) hyl)
          have EE := Lib.hid (show rowHi f y ++ rowLo f y = fwd f y from rfl)
          generalize rowHi f y = h at *
          generalize rowLo f y = l at *
          have a1 := GP.out.left y hyl
          have a2 := GP.out.right y hyl
          have a3 := GP.out.frozen (y * 2)
          have a4 := GP.out.frozen (y * 2 + 1)
          have c0 := (GT.out.step BW.out).c0
          have ce : wr.cell? ⟨b, o + k, none⟩ = some (.slice (some ⟨y0, 0, none⟩) N N) := (BW.out.cell (p := ⟨b, o + k, none⟩) BL.out).trans CE.out
          go_wp2_with fail
          refine C.out.mono ?_
          rintro e w' ⟨rfl, rfl⟩
          go_wp2
          go_roundw
          case rel =>
            refine ⟨y + 1, by omega, by go_num, (GP.out.row y hyl h l).congr fun r hr => ?_, (BW.out.setCell (p := ⟨g, y * 2, none⟩) (by rw [GG.out]; exact Nat.le_refl _) _).setCell (p := ⟨g, y * 2 + 1, none⟩) (by rw [GG.out]; exact Nat.le_refl _) _⟩
            rw [EE.out]
            by_cases e : r = y
            · subst e; rw [upd_same, if_pos (by omega)]
            · rw [upd_other _ _ _ _ e]
              by_cases e2 : r < y
              · rw [if_pos e2, if_pos (by omega)]
              · rw [if_neg e2, if_neg (by omega)]
          case measure => simp [intOf]; omega
        · have GP := Lib.hid (GP.out.congr (Q := fwd f) fun r hr => by rw [if_pos (by omega)])
          have GS := Lib.hid (GS.out.step BW.out)
          have GT := Lib.hid (GT.out.step BW.out)
          have GR := Lib.hid (GR.out.step BW.out)
          have BB := Lib.hid (BB.out.trans (BW.out.mono BB.out.size))
          have yI : ¬ (y : Int) < 64 := by omega
          have SM := SM.out
          have kl := KL.out
          go_upto_region 12 with fail
          have KS := Lib.hid (fun (w' : World) (hw : ∃ u : Calm wr, w' = u.w) => show Blk w.heap.size 32 (scells S) w' by obtain ⟨u, rfl⟩ := hw; exact GS.out.step u.below)
          have KP := Lib.hid (fun (w' : World) (hw : ∃ u : Calm wr, w' = u.w) => show Blk g 29 (pcells (fwd f)) w' by obtain ⟨u, rfl⟩ := hw; exact GP.out.step u.below)
          refine calm_region (by kernel_rfl) (by kernel_rfl) ?_
          repeat (first
            | (refine quiet_load_part (o := k * 128) (n := 128) aggPl KS.out (by rw [scells_size]; omega) ?_ (.tmp 48) ?_ ?_ ?_; (focus rfl); (focus rfl); (focus (simp [Act.eval]; done)); (rw [sc_plane _ _ kl]); simp only [Act.put, List.setIfInBounds_toArray, List.set_cons_zero, List.set_cons_succ])
            | (refine quiet_load_all aggPl KP.out (pcells_size _) ?_ (.tmp 6) ?_ ?_ ?_; (focus rfl); (focus rfl); (focus (simp [Act.eval]; done)); simp only [Act.put, List.setIfInBounds_toArray, List.set_cons_zero, List.set_cons_succ])
            | (refine quiet_neqS SM ?_ (.tmp 49) (.tmp 50) 29 ?_ ?_ ?_ ?_; (focus rfl); (focus rfl); (focus (simp [Act.eval]; done)); (focus (simp [Act.eval]; done)); simp only [Act.put, List.setIfInBounds_toArray, List.set_cons_zero, List.set_cons_succ])
            | go_big_quiet_step (rfl))
          refine wpQuiet_nil ?_
          intro _ hw'
          obtain ⟨u, rfl⟩ := hw'
          have GS := Lib.hid (GS.out.step u.below)
          have GT := Lib.hid (GT.out.step u.below)
          have GR := Lib.hid (GR.out.step u.below)
          have BB := Lib.hid (BB.out.trans (u.below.mono BB.out.size))
          clear KS KP SM GP
          generalize u.w = w9 at *
          go_wp2
          go_roundw
          case rel => exact ⟨k + 1, by omega, by go_num, GS.out, GT.out, GR.out, BB.out⟩
          case measure => simp [intOf]; omega
    · have kI : ¬ (k : Int) < 4 := by omega
      go_wp2
      go_ret
      exact ⟨rfl, BB.out⟩
end Go.Proofs.Ytplmmfgmbfcjpaa

/- The reference's Draw (layer 8). -/
namespace Go.Proofs.Ytplmmfgmbfcjpaa
open Go.RowKit Go.Shelf Num
set_option linter.unusedVariables false
set_option linter.unusedSimpArgs false

theorem infoU16 : (Try.prog.info? 91).map (fun i => (i.zero, i.size, i.bytes)) = some (some (.int .u16 0), 1, 2) := by kernel_rfl
theorem rd16_own {w : World} {base : Nat} {n c : Nat} {A : Option Addr} {L : List Nat} (h : w.ownsRow base 91 1 (.slice A n c) n (L.map (fun e : Nat => Value.int .u16 (e : Int)))) : Rd16 w A L := fun hne => by
  obtain ⟨b, o, hA, hlt, hc⟩ := Row.of_own h hne
  exact ⟨⟨b, o, none⟩, hA, hlt, fun j hj => by rw [Addr.add_mid]; exact hc j hj⟩
section
variable (G : Nat → Nat) (F : Nat → Nat → Bool) (M n : Nat) (big clip : Bool) (x y m h N : Nat)
/-- The pixels that are drawn on plane k. -/
def spK (k : Nat) : Nat → Bool := rspF (nth (rowsL G (if big then 16 else n) (if big then 2 else 1) (need M n big k))) (if big then 16 else n) ((if big then 2 else 1) * 8) (x % m) (y % h) m h clip
def drK (k i : Nat) : Nat → Bool := if i < k ∧ onB M i = true then fun t => F i t ^^ spK G M n big clip x y m h i t else F i
def hiK : Nat → Bool
  | 0 => false
  | k + 1 => if onB M k then hiK k || hitTo (fun t => F k t && spK G M n big clip x y m h k t) N else hiK k
end
theorem rowv1 (G : Nat → Nat) (f j p : Nat) (hp : f + j = p) : rowv (fun t => G (f + t)) 1 j = G p := by
  subst hp
  simp [rowv, accB]
theorem rowv2 (G : Nat → Nat) (f j p : Nat) (hp : f + 2 * j = p) : rowv (fun t => G (f + t)) 2 j = G p * 256 + G (p + 1) := by
  subst hp
  simp [rowv, accB, Nat.mul_comm, Nat.add_assoc]
theorem rowv16 (G : Nat → Nat) (hG : ∀ j, G j ≤ 255) (f z j : Nat) (hz : z = 1 ∨ z = 2) : rowv (fun t => G (f + t)) z j ≤ 65535 := by
  rcases hz with rfl | rfl
  · rw [rowv1 G f j _ rfl]; have := hG (f + j); omega
  · rw [rowv2 G f j _ rfl]; have := hG (f + 2 * j); have := hG (f + 2 * j + 1); omega
/-- A reference screen and a Bool come back. -/
def BackD (N : Nat) (hi : Bool) (M : Int) (F : Nat → Nat → Bool) (v : Bool) (w : World) (e : Ending) (w' : World) : Prop :=
  ∃ A cap gs, e = .returned (.tuple #[.agg #[.slice A 4 cap, .bool hi, .int .i64 M], .bool v]) ∧ gs.length = 4 ∧ Row (encP N) w' A gs ∧ (∀ i, i < 4 → Pxs (gs.getD i 0) (F i) w') ∧ Below w.heap.size w w'
set_option maxRecDepth 100000 in
set_option maxHeartbeats 8000000 in
theorem rdraw8_any (N : Nat) (hN : N = 8192) (A : Option Addr) (cap : Nat) (gs : List Nat) (F : Nat → Nat → Bool) (hi : Bool) (m h : Nat) (hr : Res hi m h) (M : Nat) (x y n : Nat) (x1 : x ≤ 255) (y1 : y ≤ 255) (n1 : n ≤ 15) (big clip : Bool) (gd nd : Nat) (G : Nat → Nat) (hG : ∀ j, G j ≤ 255) (hnd : need M n big 4 = nd) (nd1 : nd ≤ 128) (w : World) (hM : M ≤ 10000) (H : RefS N w.heap.size A gs F w) (HD : Dat gd nd G w) :
    Calls Try.prog 33 #[.agg #[.slice A 4 cap, .bool hi, .int .i64 (M : Int)], .int .i64 (x : Int), .int .i64 (y : Int), .int .i64 (n : Int), .bool big, .bool clip, .slice (some ⟨gd, 0, none⟩) nd nd] w (BackD N hi M (drK G F M n big clip x y m h 4) (hiK G F M n big clip x y m h N 4) w) := by
  obtain ⟨i0, hinfo, hz⟩ := Option.map_eq_some_iff.1 infoU16
  simp only [Prod.mk.injEq] at hz
  obtain ⟨hz0, hz1, hz2⟩ := hz
  have HI := Lib.hid (And.intro hinfo (And.intro hz0 (And.intro hz1 hz2)))
  have NN := Lib.hid hN
  have HH := Lib.hid H
  have GD := Lib.hid HD
  have GG := Lib.hid hG
  have ND := Lib.hid hnd
  have RR := Lib.hid hr
  obtain ⟨m0, m1, h0, h1⟩ := hr.bounds
  have WD := Lib.hid fun w => (show (if hi then (128 : Int) else 64) = (m : Int) by rcases hr with ⟨rfl, rfl, rfl⟩ | ⟨rfl, rfl, rfl⟩ <;> rfl) ▸ rwidth_any hi w
  have HT := Lib.hid fun w => (show (if hi then (64 : Int) else 32) = (h : Int) by rcases hr with ⟨rfl, rfl, rfl⟩ | ⟨rfl, rfl, rfl⟩ <;> rfl) ▸ rheight_any hi w
  have PR := Lib.hid fun w => per_any n big w
  obtain ⟨pr, hpr⟩ : ∃ pr, per n big = pr := ⟨_, rfl⟩
  rw [hpr] at PR
  have HP := Lib.hid hpr
  clear hN H hinfo hz0 hz1 hz2 HD hG hnd hr hpr
  go_enter Try.func33, Try.ntmps33
  go_wp2_with fail
  have S0 := Lib.hid ((SOut.new w (.slice A 4 cap) hi M).alloc (.cells #[.slice none 0 0, .bool false, .int .i64 0] 36))
  have B0 := Lib.hid (((Below.refl _ w).alloc (Nat.le_refl _) (.cells #[.slice A 4 cap, .bool hi, .int .i64 (M : Int)] 36)).alloc (by simp) (.cells #[.slice none 0 0, .bool false, .int .i64 0] 36))
  have S1 := Lib.hid (SOut.new (w.alloc (.cells #[.slice A 4 cap, .bool hi, .int .i64 (M : Int)] 36)) (.slice none 0 0) false 0)
  rw [show (w.alloc (.cells #[.slice A 4 cap, .bool hi, .int .i64 (M : Int)] 36)).heap.size = w.heap.size + 1 by simp] at S1
  have R0 := Lib.hid (HH.out.step B0.out)
  generalize (w.alloc (.cells #[.slice A 4 cap, .bool hi, .int .i64 (M : Int)] 36)).alloc (.cells #[.slice none 0 0, .bool false, .int .i64 0] 36) = w2 at *

  refine (WD.out _).mono ?_
  rintro e w' ⟨rfl, rfl⟩
  have c1 := S0.out.c1
  go_wp2_with fail
  refine (HT.out _).mono ?_
  rintro e w' ⟨rfl, rfl⟩
  clear c1
  go_wp2
  go_loopw [16, 17, 20] (fun hv fr i wr => ∃ (k f : Nat) (b : Bool) (A : Option Addr) (cap : Nat) (gs : List Nat), k ≤ 4 ∧ hv = .bool b ∧ fr = .int .i64 (f : Int) ∧ i = .int .i64 (k : Int) ∧ f = need M n big k ∧ b = hiK G F M n big clip x y m h N k ∧ SOut w.heap.size (.slice A 4 cap) hi M wr ∧ SOut (w.heap.size + 1) (.slice none 0 0) false 0 wr ∧ RefS N w.heap.size A gs (drK G F M n big clip x y m h k) wr ∧ Below w.heap.size w wr) (fun _ _ i _ => 4 - (intOf i).toNat)
  case atStart => exact ⟨0, 0, false, A, cap, gs, by omega, rfl, rfl, rfl, rfl, rfl, S0.out, S1.out, R0.out.congr fun i _ => by unfold drK; rw [if_neg (by omega)], B0.out⟩
  case round =>
    clear S0 S1 B0 R0 HH
    obtain ⟨k, f, b, A, cap, gs, hk, rfl, rfl, rfl, hf, hb, hs0, hs1, hR, hbel⟩ := hrel
    obtain ⟨wo, hwo⟩ : ∃ wo, wo = wr := ⟨_, rfl⟩
    subst hwo
    have S0 := Lib.hid hs0
    have S1 := Lib.hid hs1
    have GR := Lib.hid hR
    have BO := Lib.hid hbel
    have HF := Lib.hid hf
    have HB := Lib.hid hb
    have f1 : f ≤ nd := by rw [hf, ← ND.out]; exact need_mono M n big hk
    clear hs0 hs1 hR hbel hf hb
    by_cases hlt : k < 4
    · have kI : (k : Int) < 4 := by omega
      obtain ⟨v, hv⟩ : ∃ v, onB M k = v := ⟨_, rfl⟩
      have ON := Lib.hid fun w => hv ▸ on_any M k w hM (by omega)
      have HV := Lib.hid hv
      have KL := Lib.hid hlt
      have c2 := S0.out.c2
      clear hv
      cases v
      · go_wp2_with fail
        refine (ON.out _).mono ?_
        rintro e w' ⟨rfl, rfl⟩
        go_wp2
        go_roundw
        case rel =>
          refine ⟨k + 1, f, b, A, cap, gs, by omega, rfl, rfl, by go_num, ?_, ?_, S0.out, S1.out, GR.out.congr fun j hj => ?_, BO.out⟩
          · rw [need_stay M n big k HV.out]; exact HF.out
          · rw [hiK, HV.out]; exact HB.out
          · unfold drK
            by_cases e : j = k
            · subst e; rw [if_neg (by omega), if_neg (by rw [HV.out]; simp)]
            · by_cases e2 : j < k ∧ onB M j = true
              · rw [if_pos e2, if_pos ⟨by omega, e2.2⟩]
              · rw [if_neg e2, if_neg (fun h => e2 ⟨by omega, h.2⟩)]
        case measure => simp [intOf]; omega
      · have fp : f + pr ≤ nd := by
          rw [HF.out, ← HP.out, ← need_next M n big k HV.out, ← ND.out]
          exact need_mono M n big (by omega)
        go_wp2_with fail
        refine (ON.out _).mono ?_
        rintro e w' ⟨rfl, rfl⟩
        clear c2 ON
        cases big
        · have pe : pr = n := by rw [← HP.out]; rfl
          go_wp2
          go_loopw [21, 24] (fun v t wr => ∃ j : Nat, j ≤ n ∧ t = .int .i64 (j : Int) ∧ wr.ownsRow wo.heap.size 91 1 v j (((List.range j).map (rowv (fun t => G (f + t)) 1)).map (fun e : Nat => Value.int .u16 (e : Int))) ∧ Below wo.heap.size wo wr) (fun _ t _ => n - (intOf t).toNat)
          case atStart => exact ⟨0, by omega, rfl, World.ownsRow_nil _ _ _ _, Below.refl _ _⟩
          case round =>
            obtain ⟨j, hj, rfl, hown, hb⟩ := hrel
            have hsz := hb.size
            have OW := Lib.hid hown
            have BW := Lib.hid hb
            clear hown hb
            by_cases hjl : j < n
            · have jI : (j : Int) < (n : Int) := by omega
              obtain ⟨p, hp⟩ : ∃ p : Nat, (f : Int) + (j : Int) = (p : Int) := ⟨f + j, by omega⟩
              have pn : p < nd := by omega
              have pI : (p : Int) < (nd : Int) := by omega
              obtain ⟨e, ha⟩ : ∃ a, G p = a := ⟨_, rfl⟩
              have a1 : e ≤ 255 := ha ▸ GG.out p
              have ca := (GD.out.step (BO.out.trans (BW.out.mono BO.out.size))).at_ p (by omega)
              rw [ha] at ca
              have RE := Lib.hid (show rowv (fun t => G (f + t)) 1 j = e by rw [rowv1 G f j p (by omega), ha])
              clear ha
              go_wp2_with (first
                | (at_builtin; refine wpList_append_own _ rfl _ _ 77 rfl wo.heap.size 91 i0 _ 1 2 Try.underlying77 HI.out.1 HI.out.2.1 HI.out.2.2.1 HI.out.2.2.2 rfl (by decide) _ _ _ rfl (OW.out.alloc _) ⟨_, 0, none⟩ 1 1 [.int .u16 (e : Int)] rfl rfl (cell_one_new _ _ _) (by simp [Value.oneCell']) (by unfold maxLen; omega) (by omega) (by simp; omega) ?_; intro v' w1 hown1 hgrow hnil; clear hnil; have Q3 := Lib.hid (And.intro hown1 hgrow); clear hown1 hgrow))
              go_roundw
              case rel =>
                refine ⟨j + 1, by omega, by go_num, ?_, (BW.out.alloc BW.out.size _).grown Q3.out.2 (by simp; omega) fun i ej => (OW.out.lt i ej).1⟩
                rw [List.range_succ, List.map_append, List.map_append, List.map_cons, List.map_nil, RE.out]
                exact Q3.out.1
              case measure => simp [intOf]; omega
            · have jI : ¬ (j : Int) < (n : Int) := by omega
              have je : j = n := by omega
              obtain ⟨A2, cA, rfl⟩ := own_form OW.out
              have R16 := Lib.hid (rd16_own OW.out)
              have LL := Lib.hid (show ((List.range j).map (rowv (fun t => G (f + t)) 1)).length = j by simp)
              have LE := Lib.hid (show ∀ e ∈ (List.range j).map (rowv (fun t => G (f + t)) 1), e ≤ 65535 from fun e he => by obtain ⟨i, _, rfl⟩ := List.mem_map.1 he; exact rowv16 G GG.out f 1 i (by omega))
              have SPE := Lib.hid (show rspF (nth ((List.range j).map (rowv (fun t => G (f + t)) 1))) j 8 (x % m) (y % h) m h clip = spK G M n false clip x y m h k by rw [je, HF.out]; rfl)
              clear OW
              generalize (List.range j).map (rowv (fun t => G (f + t)) 1) = L at *
              have j16 : j ≤ 16 := by omega
              clear je pe
              have S0 := Lib.hid (S0.out.step BW.out)
              have S1 := Lib.hid (S1.out.step BW.out)
              have GR := Lib.hid (GR.out.step BW.out)
              have BO := Lib.hid (BO.out.trans (BW.out.mono BO.out.size))
              have i1 : (f : Int) + (pr : Int) ≤ 128 := by omega
              obtain ⟨SP, hSP⟩ : ∃ SP, spK G M n false clip x y m h k = SP := ⟨_, rfl⟩
              rw [hSP] at SPE
              have HS := Lib.hid hSP
              clear hjl BW hsz hSP
              go_wp2_with fail
              refine (PR.out _).mono ?_
              rintro e w' ⟨rfl, rfl⟩
              clear jI
              have PK := GR.out.px k KL.out
              rw [show drK G F M n false clip x y m h k k = F k by unfold drK; rw [if_neg (by omega)]] at PK
              obtain ⟨bb, oo, hA, hbl, hce⟩ := GR.out.row.at_ (k := k) (by rw [GR.out.len]; exact KL.out)
              have hge : gs[k]'(by rw [GR.out.len]; exact KL.out) = gs.getD k 0 := by simp [show k < gs.length by rw [GR.out.len]; exact KL.out]
              rw [hge] at hce
              obtain ⟨y0, hy⟩ : ∃ y, gs.getD k 0 = y := ⟨_, rfl⟩
              rw [hy] at hce PK
              change wr.cell? ⟨bb, oo + k, none⟩ = some (.slice (some ⟨y0, 0, none⟩) N N) at hce
              obtain rfl := hA
              have PX := Lib.hid PK
              have CE := Lib.hid (And.intro hbl hce)
              clear PK hce hge hy hbl
              go_upto_region 22 with fail
              have k0 : ∀ u : Calm wr, u.w.cell? ⟨w.heap.size, 0, none⟩ = some (.slice (some ⟨bb, oo, none⟩) 4 cap) := fun u => (S0.out.step u.below).c0
              have k1 : ∀ u : Calm wr, u.w.cell? ⟨w.heap.size, 1, none⟩ = some (.bool hi) := fun u => (S0.out.step u.below).c1
              have ke : ∀ u : Calm wr, u.w.cell? ⟨bb, oo + k, none⟩ = some (.slice (some ⟨y0, 0, none⟩) N N) := fun u => (u.below.cell (p := ⟨bb, oo + k, none⟩) CE.out.1).trans CE.out.2
              have mz : ¬ (m : Int) = 0 := by omega
              have hz : ¬ (h : Int) = 0 := by omega
              refine wp_region_late (C := fun w' => ∃ u : Calm wr, w' = u.w) 17 [([0, 1, 2, 3, 4, 5, 6, 7, 8, 9, 10, 11, 12, 13, 14, 15], 16, false)] [] [18, 19, 20, 21, 22] (by kernel_rfl) (by kernel_rfl) ?_ ?_ ⟨⟨wr.drew, (Below.refl _ _).drew⟩, rfl⟩ ?_
              · exact fun _ _ d _ _ h => by cases d <;> exact h
              · rintro _ w' ⟨u, rfl⟩ hg
                exact ⟨⟨w', u.below.trans (hg.mono u.below.size)⟩, rfl⟩
              intro wd hwd
              have bd := Lib.hid (show Below wr.heap.size wr wd by rw [hwd]; exact (Below.refl _ _).drew)
              clear hwd
              refine late_real (by simp only [opsAt, List.getElem?_toArray, List.getElem?_cons_succ, List.getElem?_cons_zero]; rfl) (by simp only [List.getElem?_toArray, List.getElem?_cons_succ, List.getElem?_cons_zero]; rfl) ?_
              repeat (go_big_quiet_step (rfl))
              refine wpQuiet_nil ?_
              refine real_next rfl ?_
              intro w5 g5 Cw5 K hK
              refine wp_call_fn (g := 52) (caps := #[]) (args := #[.slice A2 j cA, .int .i64 8, .int .i64 ((x : Int) % (m : Int)), .int .i64 ((y : Int) % (h : Int)), .bool hi, .bool clip]) (.func 52) #[.tmp 95, .tmp 96, .tmp 99, .tmp 102, .tmp 104, .tmp 105] #[77, 3, 3, 3, 4, 4] rfl (enters_of Try.func52 (by kernel_rfl) rfl) rfl (by simp [Act.eval]) ?_
              refine (rsN (c := 8) (x := x % m) (y := y % h) NN.out RR.out (R16.out.step (by obtain ⟨u5, rfl⟩ := Cw5; exact u5.below)) LE.out LL.out j16 (by omega) (Nat.mod_lt _ (by omega)) (Nat.mod_lt _ (by omega)) rfl (by omega) (by omega) SPE.out).mono ?_
              rintro e w5' ⟨g1, rfl, hg1, hP1, b1⟩
              obtain ⟨u5, rfl⟩ := Cw5
              have P1 := Lib.hid hP1
              refine ⟨_, rfl, ?_⟩
              refine hK _ _ ⟨⟨w5', u5.below.trans (b1.mono u5.below.size)⟩, rfl⟩ ?_
              clear hK K hg1 hP1 b1 g5 R16 LE LL SPE
              simp only [Act.put, List.setIfInBounds_toArray, List.set_cons_zero, List.set_cons_succ]
              refine late_last (by simp only [opsAt, List.getElem?_toArray, List.getElem?_cons_succ, List.getElem?_cons_zero]; rfl) (by simp only [List.getElem?_toArray, List.getElem?_cons_succ, List.getElem?_cons_zero]; rfl) ?_
              repeat (go_big_quiet_step (rfl))
              refine wpQuiet_nil ?_
              refine last_next rfl ?_
              intro w7 g7 C7 K hK
              obtain ⟨u7, rfl⟩ := C7
              refine wp_call_fn (g := 51) (caps := #[]) (args := #[.slice (some ⟨y0, 0, none⟩) N N, .slice (some ⟨g1, 0, none⟩) N N]) (.func 51) #[.tmp 94, .tmp 106] #[64, 64] rfl (enters_of Try.func51 (by kernel_rfl) rfl) rfl (by simp [Act.eval]) ?_
              obtain ⟨vv, hvv⟩ : ∃ v, hitTo (fun t => F k t && SP t) N = v := ⟨_, rfl⟩
              refine (rdN NN.out (PX.out.step u7.below) (P1.out.step g7) rfl hvv).mono ?_
              rintro e w6 ⟨g2, rfl, hg2, hP2, b2⟩
              have HV2 := Lib.hid hvv
              refine ⟨_, rfl, ?_⟩
              refine hK _ _ ?_
              clear hK K hvv
              simp only [Act.put, List.setIfInBounds_toArray, List.set_cons_zero, List.set_cons_succ]
              simp only [opsAt, List.getElem?_toArray, List.getElem?_cons_succ, List.getElem?_cons_zero]
              repeat (go_big_quiet_step (rfl))
              refine wpQuiet_nil ?_
              intro w8 g8
              have P2 := Lib.hid (hP2.step g8)
              have B8 := Lib.hid ((u7.below.trans (b2.mono u7.below.size)).trans (g8.mono (Nat.le_trans u7.below.size b2.size)))
              have GQ := Lib.hid (show g2 ≠ w.heap.size by have h1 := S0.out.lt; have h2 := u7.below.size; omega)
              have S0 := Lib.hid (S0.out.step B8.out)
              have S1 := Lib.hid (S1.out.step B8.out)
              have GR := Lib.hid (GR.out.step B8.out)
              have BO := Lib.hid (BO.out.trans (B8.out.mono BO.out.size))
              clear B8 g7 g8 hg2 hP2 b2 u7 u5 P1 PX CE k0 k1 ke mz hz
              have c0 := S0.out.c0
              have c1 := S0.out.c1
              have c2 := S0.out.c2
              go_wp2_with fail
              refine (with_any N (some ⟨bb, oo, none⟩) cap gs hi M k g2 _ GR.out.len KL.out GR.out.row).mono ?_
              rintro e wc ⟨A3, cap3, rfl, hrow, b1, hA3⟩
              have GR := Lib.hid ((GR.out.step b1).set KL.out hrow (P2.out.step b1) (fun ad h => by have h1 := hA3 ad h; have := S0.out.lt; omega) GQ.out)
              have S0 := Lib.hid (S0.out.step b1)
              have S1 := Lib.hid (S1.out.step b1)
              have BO := Lib.hid (BO.out.trans (b1.mono BO.out.size))
              clear b1 hrow hA3 c0 c1 c2
              have c0 := S0.out.c0
              have c1 := S0.out.c1
              have c2 := S0.out.c2
              have q0 := S0.out.fz 0
              have q1 := S0.out.fz 1
              have q2 := S0.out.fz 2
              cases b
              all_goals
                go_wp2
                go_roundw
                case rel =>
                  refine ⟨k + 1, f + pr, _, A3, cap3, gs.set k g2, by omega, rfl, by go_num, by go_num, ?_, ?_, S0.out.put3, ((S1.out.other (by omega) _ _).other (by omega) _ _).other (by omega) _ _, (((GR.out.put _ _).put _ _).put _ _).congr fun j hj => ?_, ((BO.out.setCell (p := ⟨w.heap.size, 0, none⟩) (Nat.le_refl _) _).setCell (p := ⟨w.heap.size, 1, none⟩) (Nat.le_refl _) _).setCell (p := ⟨w.heap.size, 2, none⟩) (Nat.le_refl _) _⟩
                  · rw [need_next M n _ k HV.out, HP.out, HF.out]
                  · rw [hiK, if_pos HV.out, HS.out, HV2.out, ← HB.out]; rfl
                  · unfold drK
                    by_cases e : j = k
                    · subst e; rw [if_pos rfl, if_pos ⟨by omega, HV.out⟩, HS.out]
                    · rw [if_neg e]
                      by_cases e2 : j < k ∧ onB M j = true
                      · rw [if_pos e2, if_pos ⟨by omega, e2.2⟩]
                      · rw [if_neg e2, if_neg (fun h => e2 ⟨by omega, h.2⟩)]
                case measure => simp [intOf]; omega
        · have pe : pr = 32 := by rw [← HP.out]; rfl
          go_wp2
          go_loopw [21, 23] (fun v t wr => ∃ j : Nat, j ≤ 16 ∧ t = .int .i64 (j : Int) ∧ wr.ownsRow wo.heap.size 91 1 v j (((List.range j).map (rowv (fun t => G (f + t)) 2)).map (fun e : Nat => Value.int .u16 (e : Int))) ∧ Below wo.heap.size wo wr) (fun _ t _ => 16 - (intOf t).toNat)
          case atStart => exact ⟨0, by omega, rfl, World.ownsRow_nil _ _ _ _, Below.refl _ _⟩
          case round =>
            obtain ⟨j, hj, rfl, hown, hb⟩ := hrel
            have hsz := hb.size
            have OW := Lib.hid hown
            have BW := Lib.hid hb
            clear hown hb
            by_cases hjl : j < 16
            · have jI : (j : Int) < 16 := by omega
              obtain ⟨p, hp⟩ : ∃ p : Nat, (f : Int) + 2 * (j : Int) = (p : Int) := ⟨f + 2 * j, by omega⟩
              have pn : p + 1 < nd := by omega
              have pI : (p : Int) < (nd : Int) := by omega
              have pJ : ((p + 1 : Nat) : Int) < (nd : Int) := by omega
              have g1 := IntWalk.i64_in (2 * (j : Int)) (by omega)
              have g2 : IntKind.i64.wrap ((f : Int) + 2 * (j : Int)) = (p : Int) := (IntWalk.i64_in _ (by omega)).trans hp
              have HPP := Lib.hid hp
              clear hp
              obtain ⟨p', hp'⟩ : ∃ p' : Nat, p + 1 = p' := ⟨_, rfl⟩
              have g3 : IntKind.i64.wrap ((p : Int) + 1) = (p' : Int) := (IntWalk.i64_in _ (by omega)).trans (by omega)
              rw [hp'] at pJ
              obtain ⟨a, ha⟩ : ∃ a, G p = a := ⟨_, rfl⟩
              obtain ⟨b, hb⟩ : ∃ b, G p' = b := ⟨_, rfl⟩
              have a1 : a ≤ 255 := ha ▸ GG.out p
              have b1 : b ≤ 255 := hb ▸ GG.out p'
              have DW := GD.out.step (BO.out.trans (BW.out.mono BO.out.size))
              have ca := DW.at_ p (by omega)
              have cb := DW.at_ p' (by omega)
              rw [ha] at ca
              rw [hb] at cb
              have RV := Lib.hid (show rowv (fun t => G (f + t)) 2 j = a * 256 + b by rw [rowv2 G f j p (by have := HPP.out; omega), hp', ha, hb])
              obtain ⟨e, he⟩ : ∃ e : Nat, (a : Int) * 256 + (b : Int) = (e : Int) := ⟨a * 256 + b, by omega⟩
              have RE := Lib.hid (show rowv (fun t => G (f + t)) 2 j = e by rw [RV.out]; omega)
              have u1 := wrap16 a (by omega)
              have u2 := wrap16 b (by omega)
              have u3 : IntKind.u16.wrap ((a : Int) * 256) = (a : Int) * 256 := by have := wrap16 (a * 256) (by omega); simpa using this
              have u4 : IntKind.u16.wrap ((a : Int) * 256 + (b : Int)) = (e : Int) := by rw [he]; exact wrap16 e (by omega)
              have pp : p' < nd := by omega
              clear he hp'
              clear ha hb DW RV
              go_wp2
              go_region_law
                ((refine step_append_lies _ (by rfl) _ _ _ (by rfl) wo.heap.size 91 i0 _ 1 2 Try.underlying77 HI.out.1 HI.out.2.1 HI.out.2.2.1 HI.out.2.2.2 rfl (by omega) _ _ _ (by rfl) ((OW.out.alloc _).drew) ⟨wr.heap.size, 0, none⟩ 1 1 [.int .u16 (e : Int)] (by rfl) (by rfl) (World.news_of_block (cs := #[.int .u16 (e : Int)]) (t := 91) (fr := (0, 0)) (heap_alloc_new wr _)) (by simp [Value.oneCell']) (by omega) (by unfold maxLen; omega) (by omega) (by simp; omega) _ rfl ?_; intro gg cap2 w1 hown1 hgrow hat hlt2; have Q3 := Lib.hid (And.intro hown1 hgrow); clear hown1 hgrow))
              all_goals
                go_wp2
                go_roundw
                case rel =>
                  refine ⟨j + 1, by omega, by go_num, ?_, (BW.out.alloc BW.out.size _).drew.grown Q3.out.2 (by simp; omega) fun i ej => (OW.out.lt i ej).1⟩
                  rw [List.range_succ, List.map_append, List.map_append, List.map_cons, List.map_nil, RE.out]
                  exact Q3.out.1
                case measure => simp [intOf]; omega
            · have jI : ¬ (j : Int) < 16 := by omega
              have je : j = 16 := by omega
              obtain ⟨A2, cA, rfl⟩ := own_form OW.out
              have R16 := Lib.hid (rd16_own OW.out)
              have LL := Lib.hid (show ((List.range j).map (rowv (fun t => G (f + t)) 2)).length = j by simp)
              have LE := Lib.hid (show ∀ e ∈ (List.range j).map (rowv (fun t => G (f + t)) 2), e ≤ 65535 from fun e he => by obtain ⟨i, _, rfl⟩ := List.mem_map.1 he; exact rowv16 G GG.out f 2 i (by omega))
              have SPE := Lib.hid (show rspF (nth ((List.range j).map (rowv (fun t => G (f + t)) 2))) j 16 (x % m) (y % h) m h clip = spK G M n true clip x y m h k by rw [je, HF.out]; rfl)
              clear OW
              generalize (List.range j).map (rowv (fun t => G (f + t)) 2) = L at *
              have j16 : j ≤ 16 := by omega
              clear je pe
              have S0 := Lib.hid (S0.out.step BW.out)
              have S1 := Lib.hid (S1.out.step BW.out)
              have GR := Lib.hid (GR.out.step BW.out)
              have BO := Lib.hid (BO.out.trans (BW.out.mono BO.out.size))
              have i1 : (f : Int) + (pr : Int) ≤ 128 := by omega
              obtain ⟨SP, hSP⟩ : ∃ SP, spK G M n true clip x y m h k = SP := ⟨_, rfl⟩
              rw [hSP] at SPE
              have HS := Lib.hid hSP
              clear hjl BW hsz hSP
              go_wp2_with fail
              refine (PR.out _).mono ?_
              rintro e w' ⟨rfl, rfl⟩
              clear jI
              have PK := GR.out.px k KL.out
              rw [show drK G F M n true clip x y m h k k = F k by unfold drK; rw [if_neg (by omega)]] at PK
              obtain ⟨bb, oo, hA, hbl, hce⟩ := GR.out.row.at_ (k := k) (by rw [GR.out.len]; exact KL.out)
              have hge : gs[k]'(by rw [GR.out.len]; exact KL.out) = gs.getD k 0 := by simp [show k < gs.length by rw [GR.out.len]; exact KL.out]
              rw [hge] at hce
              obtain ⟨y0, hy⟩ : ∃ y, gs.getD k 0 = y := ⟨_, rfl⟩
              rw [hy] at hce PK
              change wr.cell? ⟨bb, oo + k, none⟩ = some (.slice (some ⟨y0, 0, none⟩) N N) at hce
              obtain rfl := hA
              have PX := Lib.hid PK
              have CE := Lib.hid (And.intro hbl hce)
              clear PK hce hge hy hbl
              go_upto_region 22 with fail
              have k0 : ∀ u : Calm wr, u.w.cell? ⟨w.heap.size, 0, none⟩ = some (.slice (some ⟨bb, oo, none⟩) 4 cap) := fun u => (S0.out.step u.below).c0
              have k1 : ∀ u : Calm wr, u.w.cell? ⟨w.heap.size, 1, none⟩ = some (.bool hi) := fun u => (S0.out.step u.below).c1
              have ke : ∀ u : Calm wr, u.w.cell? ⟨bb, oo + k, none⟩ = some (.slice (some ⟨y0, 0, none⟩) N N) := fun u => (u.below.cell (p := ⟨bb, oo + k, none⟩) CE.out.1).trans CE.out.2
              have mz : ¬ (m : Int) = 0 := by omega
              have hz : ¬ (h : Int) = 0 := by omega
              refine wp_region_late (C := fun w' => ∃ u : Calm wr, w' = u.w) 17 [([0, 1, 2, 3, 4, 5, 6, 7, 8, 9, 10, 11, 12, 13, 14, 15], 16, false)] [] [18, 19, 20, 21, 22] (by kernel_rfl) (by kernel_rfl) ?_ ?_ ⟨⟨wr.drew, (Below.refl _ _).drew⟩, rfl⟩ ?_
              · exact fun _ _ d _ _ h => by cases d <;> exact h
              · rintro _ w' ⟨u, rfl⟩ hg
                exact ⟨⟨w', u.below.trans (hg.mono u.below.size)⟩, rfl⟩
              intro wd hwd
              have bd := Lib.hid (show Below wr.heap.size wr wd by rw [hwd]; exact (Below.refl _ _).drew)
              clear hwd
              refine late_real (by simp only [opsAt, List.getElem?_toArray, List.getElem?_cons_succ, List.getElem?_cons_zero]; rfl) (by simp only [List.getElem?_toArray, List.getElem?_cons_succ, List.getElem?_cons_zero]; rfl) ?_
              repeat (go_big_quiet_step (rfl))
              refine wpQuiet_nil ?_
              refine real_next rfl ?_
              intro w5 g5 Cw5 K hK
              refine wp_call_fn (g := 52) (caps := #[]) (args := #[.slice A2 j cA, .int .i64 16, .int .i64 ((x : Int) % (m : Int)), .int .i64 ((y : Int) % (h : Int)), .bool hi, .bool clip]) (.func 52) #[.tmp 95, .tmp 96, .tmp 99, .tmp 102, .tmp 104, .tmp 105] #[77, 3, 3, 3, 4, 4] rfl (enters_of Try.func52 (by kernel_rfl) rfl) rfl (by simp [Act.eval]) ?_
              refine (rsN (c := 16) (x := x % m) (y := y % h) NN.out RR.out (R16.out.step (by obtain ⟨u5, rfl⟩ := Cw5; exact u5.below)) LE.out LL.out j16 (by omega) (Nat.mod_lt _ (by omega)) (Nat.mod_lt _ (by omega)) rfl (by omega) (by omega) SPE.out).mono ?_
              rintro e w5' ⟨g1, rfl, hg1, hP1, b1⟩
              obtain ⟨u5, rfl⟩ := Cw5
              have P1 := Lib.hid hP1
              refine ⟨_, rfl, ?_⟩
              refine hK _ _ ⟨⟨w5', u5.below.trans (b1.mono u5.below.size)⟩, rfl⟩ ?_
              clear hK K hg1 hP1 b1 g5 R16 LE LL SPE
              simp only [Act.put, List.setIfInBounds_toArray, List.set_cons_zero, List.set_cons_succ]
              refine late_last (by simp only [opsAt, List.getElem?_toArray, List.getElem?_cons_succ, List.getElem?_cons_zero]; rfl) (by simp only [List.getElem?_toArray, List.getElem?_cons_succ, List.getElem?_cons_zero]; rfl) ?_
              repeat (go_big_quiet_step (rfl))
              refine wpQuiet_nil ?_
              refine last_next rfl ?_
              intro w7 g7 C7 K hK
              obtain ⟨u7, rfl⟩ := C7
              refine wp_call_fn (g := 51) (caps := #[]) (args := #[.slice (some ⟨y0, 0, none⟩) N N, .slice (some ⟨g1, 0, none⟩) N N]) (.func 51) #[.tmp 94, .tmp 106] #[64, 64] rfl (enters_of Try.func51 (by kernel_rfl) rfl) rfl (by simp [Act.eval]) ?_
              obtain ⟨vv, hvv⟩ : ∃ v, hitTo (fun t => F k t && SP t) N = v := ⟨_, rfl⟩
              refine (rdN NN.out (PX.out.step u7.below) (P1.out.step g7) rfl hvv).mono ?_
              rintro e w6 ⟨g2, rfl, hg2, hP2, b2⟩
              have HV2 := Lib.hid hvv
              refine ⟨_, rfl, ?_⟩
              refine hK _ _ ?_
              clear hK K hvv
              simp only [Act.put, List.setIfInBounds_toArray, List.set_cons_zero, List.set_cons_succ]
              simp only [opsAt, List.getElem?_toArray, List.getElem?_cons_succ, List.getElem?_cons_zero]
              repeat (go_big_quiet_step (rfl))
              refine wpQuiet_nil ?_
              intro w8 g8
              have P2 := Lib.hid (hP2.step g8)
              have B8 := Lib.hid ((u7.below.trans (b2.mono u7.below.size)).trans (g8.mono (Nat.le_trans u7.below.size b2.size)))
              have GQ := Lib.hid (show g2 ≠ w.heap.size by have h1 := S0.out.lt; have h2 := u7.below.size; omega)
              have S0 := Lib.hid (S0.out.step B8.out)
              have S1 := Lib.hid (S1.out.step B8.out)
              have GR := Lib.hid (GR.out.step B8.out)
              have BO := Lib.hid (BO.out.trans (B8.out.mono BO.out.size))
              clear B8 g7 g8 hg2 hP2 b2 u7 u5 P1 PX CE k0 k1 ke mz hz
              have c0 := S0.out.c0
              have c1 := S0.out.c1
              have c2 := S0.out.c2
              go_wp2_with fail
              refine (with_any N (some ⟨bb, oo, none⟩) cap gs hi M k g2 _ GR.out.len KL.out GR.out.row).mono ?_
              rintro e wc ⟨A3, cap3, rfl, hrow, b1, hA3⟩
              have GR := Lib.hid ((GR.out.step b1).set KL.out hrow (P2.out.step b1) (fun ad h => by have h1 := hA3 ad h; have := S0.out.lt; omega) GQ.out)
              have S0 := Lib.hid (S0.out.step b1)
              have S1 := Lib.hid (S1.out.step b1)
              have BO := Lib.hid (BO.out.trans (b1.mono BO.out.size))
              clear b1 hrow hA3 c0 c1 c2
              have c0 := S0.out.c0
              have c1 := S0.out.c1
              have c2 := S0.out.c2
              have q0 := S0.out.fz 0
              have q1 := S0.out.fz 1
              have q2 := S0.out.fz 2
              cases b
              all_goals
                go_wp2
                go_roundw
                case rel =>
                  refine ⟨k + 1, f + pr, _, A3, cap3, gs.set k g2, by omega, rfl, by go_num, by go_num, ?_, ?_, S0.out.put3, ((S1.out.other (by omega) _ _).other (by omega) _ _).other (by omega) _ _, (((GR.out.put _ _).put _ _).put _ _).congr fun j hj => ?_, ((BO.out.setCell (p := ⟨w.heap.size, 0, none⟩) (Nat.le_refl _) _).setCell (p := ⟨w.heap.size, 1, none⟩) (Nat.le_refl _) _).setCell (p := ⟨w.heap.size, 2, none⟩) (Nat.le_refl _) _⟩
                  · rw [need_next M n _ k HV.out, HP.out, HF.out]
                  · rw [hiK, if_pos HV.out, HS.out, HV2.out, ← HB.out]; rfl
                  · unfold drK
                    by_cases e : j = k
                    · subst e; rw [if_pos rfl, if_pos ⟨by omega, HV.out⟩, HS.out]
                    · rw [if_neg e]
                      by_cases e2 : j < k ∧ onB M j = true
                      · rw [if_pos e2, if_pos ⟨by omega, e2.2⟩]
                      · rw [if_neg e2, if_neg (fun h => e2 ⟨by omega, h.2⟩)]
                case measure => simp [intOf]; omega
    · have k4 : k = 4 := by omega
      subst k4
      have c0 := S0.out.c0
      have c1 := S0.out.c1
      have c2 := S0.out.c2
      have d0 := S1.out.c0
      have d1 := S1.out.c1
      have d2 := S1.out.c2
      have q0 := S1.out.fz 0
      have q1 := S1.out.fz 1
      have q2 := S1.out.fz 2
      have RQ := Lib.hid (GR.out.far S1.out)
      go_wp2_with fail
      have q3 := S1.out.put3 (v' := .slice A 4 cap) (hi' := hi) (M' := (M : Int))
      refine bodyPost_ret (results_cell_and rfl _ _ (w.heap.size + 1) _ _ _ _ (.bool b) rfl rfl q3 Try.underlying36 rfl (by rw [infoScr]; rfl)) rfl ?_
      have R3 := (((RQ.out.put 0 (.slice A 4 cap)).put 1 (.bool hi)).put 2 (.int .i64 (M : Int)))
      refine ⟨A, cap, gs, by rw [HB.out], R3.len, R3.row, R3.px, ?_⟩
      exact ((BO.out.setCell (p := ⟨w.heap.size + 1, 0, none⟩) (Nat.le_succ _) _).setCell (p := ⟨w.heap.size + 1, 1, none⟩) (Nat.le_succ _) _).setCell (p := ⟨w.heap.size + 1, 2, none⟩) (Nat.le_succ _) _
end Go.Proofs.Ytplmmfgmbfcjpaa

/- A screen and the reference's: the same planes. -/
namespace Go.Proofs.Ytplmmfgmbfcjpaa
open Go.RowKit Num
set_option linter.unusedVariables false
set_option linter.unusedSimpArgs false

theorem wid_bd (b : Bool) : 16 ≤ wid b ∧ wid b ≤ 128 ∧ 16 ≤ hei b ∧ hei b ≤ 64 := by cases b <;> decide
/-- The same planes. -/
structure Rel (S : Sc) (F : Nat → Nat → Bool) : Prop where
  pl : ∀ i, i < 4 → S.P i = fwd (F i)
  res : ∀ i, i < 4 → InRes (F i) (wid S.hi) (hei S.hi)
theorem fwd_false : fwd (fun _ => false) = fun _ => 0#128 := funext fun y => px_ext fun x hx => by rw [px_fwd _ _ _ hx, px_zero]
theorem rel_blank (hi : Bool) (M : Int) : Rel (blankS hi M) (fun _ _ => false) := ⟨fun i hi => by rw [fwd_false]; rfl, fun i hi => inRes_blank _ _⟩
theorem rel_sel {S : Sc} {F : Nat → Nat → Bool} (H : Rel S F) (m : Int) : Rel (S.mask m) F := ⟨H.pl, H.res⟩
theorem rel_clr {S : Sc} {F : Nat → Nat → Bool} (H : Rel S F) (M : Nat) : Rel (onPl (fun _ _ _ => 0#128) M S) (fun i => if onB M i then fun _ => false else F i) := by
  refine ⟨fun i hi => ?_, fun i hi => ?_⟩
  · show (if onB M i = true then _ else _) = _
    split
    · rw [fwd_false]
    · exact H.pl i hi
  · show InRes (if onB M i = true then _ else _) _ _
    split
    · exact inRes_blank _ _
    · exact H.res i hi
theorem rel_scr {S : Sc} {F : Nat → Nat → Bool} (H : Rel S F) (M : Nat) (dx dy : Int) : Rel (onPl (fun _ p => scroll p dx dy (wid S.hi) (hei S.hi)) M S) (fun i => if onB M i then rscF (F i) dx dy (wid S.hi) (hei S.hi) else F i) := by
  refine ⟨fun i hi => ?_, fun i hi => ?_⟩
  · show (if onB M i = true then _ else _) = _
    split
    · rw [H.pl i hi]
      exact funext fun y => (fwd_scroll (F i) dx dy _ _ (wid_bd S.hi).2.1 (H.res i hi) y).symm
    · exact H.pl i hi
  · show InRes (if onB M i = true then _ else _) _ _
    split
    · exact rsc_res _ _ _ _ _
    · exact H.res i hi
section
variable (G : Nat → Nat) {S : Sc} {F : Nat → Nat → Bool} (M n : Nat) (big clip : Bool) (x y : Nat)
theorem fwd_spK (k : Nat) (hk : k ≤ 4) : fwd (spK G M n big clip x y (wid S.hi) (hei S.hi) k) = spZ G S M n big clip x y (selTo M k).length := by
  unfold spK
  rw [fwd_rsp, need_len M n big k hk, ← per_shape]
  rfl
theorem res_spK (n1 : n ≤ 16) (k : Nat) : InRes (spK G M n big clip x y (wid S.hi) (hei S.hi) k) (wid S.hi) (hei S.hi) := by
  obtain ⟨a, b, c, d⟩ := wid_bd S.hi
  have hr := spr_res (nth (rowsL G (if big then 16 else n) (if big then 2 else 1) (need M n big k))) (if big then 16 else n) ((if big then 2 else 1) * 8) (x % wid S.hi) (y % hei S.hi) (wid S.hi) (hei S.hi) clip (by cases big <;> simp) a b (Nat.mod_lt _ (by omega)) (by cases big <;> simp <;> omega) (Nat.mod_lt _ (by omega))
  intro t ht
  have ht : px (spr _ _ _ _ _ _ _ _ (t / 128)) (t % 128) = true := ht
  constructor
  · rcases Nat.lt_or_ge (t % 128) (wid S.hi) with h | h
    · exact h
    · have h2 := hr.1 (t / 128) ((t % 128 : Nat) : Int) (by omega)
      rw [pxi_nat] at h2
      rw [h2] at ht
      cases ht
  · rcases Nat.lt_or_ge (t / 128) (hei S.hi) with h | h
    · exact h
    · rw [hr.2 _ h, px_zero] at ht
      cases ht
theorem rel_drw (H : Rel S F) (n1 : n ≤ 16) : Rel (drZ G S M n big clip x y) (drK G F M n big clip x y (wid S.hi) (hei S.hi) 4) := by
  refine ⟨fun i hi => ?_, fun i hi => ?_⟩
  · rw [drZ_P]
    unfold drK
    by_cases h : onB M i = true
    · rw [if_pos h, if_pos ⟨hi, h⟩, ← fwd_spK G M n big clip x y i (by omega), H.pl i hi]
      exact funext fun r => (fwd_drawn _ _ r).symm
    · rw [if_neg h, if_neg (fun q => h q.2)]
      exact H.pl i hi
  · rw [drZ_hi]
    unfold drK
    split
    · intro t ht
      have h1 := H.res i hi t
      have h2 := res_spK G (S := S) M n big clip x y n1 i t
      cases e : F i t
      · simp only [e, Bool.false_xor] at ht
        exact h2 ht
      · exact h1 e
    · exact H.res i hi
theorem hit_drw (H : Rel S F) (N : Nat) (hN : N = 8192) : coZ G S M n big clip x y = hiK G F M n big clip x y (wid S.hi) (hei S.hi) N 4 := by
  have e : ∀ k, k ≤ 4 → anyT G S M n big clip x y k = hiK G F M n big clip x y (wid S.hi) (hei S.hi) N k := by
    intro k
    induction k with
    | zero => intro _; exact (one_first G S M n big clip x y).2
    | succ k ih =>
      intro hk
      rw [hiK, ← ih (by omega)]
      by_cases h : onB M k = true
      · rw [if_pos h]
        unfold anyT
        rw [selTo_succ M k (by omega), if_pos h, List.map_append, List.map_cons, List.map_nil, coll_snoc, List.length_map, Nat.zero_add]
        congr 1
        show hitB (S.P k) (spZ G S M n big clip x y (selTo M k).length) = _
        rw [H.pl k (by omega), ← fwd_spK G M n big clip x y k (by omega)]
        subst hN
        exact hit_common _ _
      · rw [if_neg h]
        unfold anyT
        rw [selTo_succ M k (by omega), if_neg h, List.append_nil]
  exact e 4 (Nat.le_refl _)
end
end Go.Proofs.Ytplmmfgmbfcjpaa

/- Contract of the law package's model (layer 8). -/
namespace Go.Proofs.Ytplmmfgmbfcjpaa
open Go.RowKit Go.Shelf Num
set_option linter.unusedVariables false
set_option linter.unusedSimpArgs false

theorem aggRS : AggT Try.prog 36 3 := ⟨⟨_, Try.underlying36, rfl⟩, by kernel_rfl⟩
theorem oneRS (A : Option Addr) (n c : Nat) (b : Bool) (m : Int) : Ones #[.slice A n c, .bool b, .int .i64 m] := by simp [Ones, Value.oneCell']
theorem cell_setRow {w : World} {g b o : Nat} {cs : Array Value} (h : b ≠ g) : (w.setRow g cs).cell? ⟨b, o, none⟩ = w.cell? ⟨b, o, none⟩ := by
  have e := setRow_other w g b cs h
  unfold World.cell?
  simp only
  rw [e]
theorem frozen_setRow {w : World} {g b o : Nat} {cs : Array Value} (h : b ≠ g) : (w.setRow g cs).frozen? ⟨b, o, none⟩ = w.frozen? ⟨b, o, none⟩ := by
  have e := setRow_other w g b cs h
  unfold World.frozen?
  simp only
  rw [e]
theorem Pxs.otherRow {g : Nat} {f : Nat → Bool} {w : World} (H : Pxs g f w) {b : Nat} (hb : b ≠ g) (cs : Array Value) : Pxs g f (w.setRow b cs) :=
  ⟨by have := H.lt; simpa [World.setRow] using this, fun j hj => by rw [cell_setRow (Ne.symm hb)]; exact H.at_ j hj, fun j hj => by rw [frozen_setRow (Ne.symm hb)]; exact H.fz j hj⟩
/-- Four lists of pixels. -/
structure RefB (N : Nat) (A : Option Addr) (gs : List Nat) (F : Nat → Nat → Bool) (w : World) : Prop where
  len : gs.length = 4
  row : Row (encP N) w A gs
  px : ∀ i, i < 4 → Pxs (gs.getD i 0) (F i) w
section
variable {N : Nat} {A : Option Addr} {gs : List Nat} {F : Nat → Nat → Bool} {w w' : World}
theorem RefB.step (H : RefB N A gs F w) (hb : Below w.heap.size w w') : RefB N A gs F w' := ⟨H.len, H.row.below hb, fun i hi => (H.px i hi).step hb⟩
theorem RefB.refS (H : RefB N A gs F w) {q : Nat} (hq : w.heap.size ≤ q) : RefS N q A gs F w := by
  refine ⟨H.len, H.row, H.px, fun ad h e => ?_, fun i hi e => ?_⟩
  · obtain ⟨b, oo, hA, hlt, hc⟩ := H.row (by intro h0; have := H.len; rw [h0] at this; simp at this)
    rw [h] at hA
    cases hA
    simp only at e
    omega
  · have := (H.px i hi).lt
    omega
theorem RefB.setRow (H : RefB N A gs F w) {q : Nat} {v : Value} {hi : Bool} {M : Int} (S : SOut q v hi M w) (cs : Array Value) : RefB N A gs F (w.setRow q cs) := by
  have R := RefS.of S H.len H.row H.px
  refine ⟨H.len, fun hne => ?_, fun i hi => (H.px i hi).otherRow (Ne.symm (R.pa i hi)) _⟩
  obtain ⟨b, oo, hA, hlt, hc⟩ := H.row hne
  have hbq : b ≠ q := R.ra _ hA
  exact ⟨b, oo, hA, by simpa [World.setRow] using hlt, fun j hj => by rw [cell_setRow hbq]; exact hc j hj⟩
end
/-- What the model leaves. -/
def ModP (N : Nat) (Z : Sc) (M : Nat) (v : Bool) (w : World) (e : Ending) (w' : World) : Prop :=
  ∃ F A cap gs, Rel Z F ∧ e = .returned (.tuple #[.agg #[.slice A 4 cap, .bool Z.hi, .int .i64 (M : Int)], .bool v]) ∧ RefB N A gs F w' ∧ Below w.heap.size w w'
set_option maxRecDepth 100000 in
set_option maxHeartbeats 8000000 in
theorem model_sel (N : Nat) (hN : N = 8192) (S : Sc) (F : Nat → Nat → Bool) (hrel : Rel S F) (A : Option Addr) (cap : Nat) (gs : List Nat) (hi : Bool) (hhi : S.hi = hi) (M : Nat) (hM : S.M = (M : Int)) (M1 : M ≤ 15) (k m x y n : Int) (hires big clip : Bool) (A0 : Option Addr) (len cap0 : Nat) (L : List Nat) (w : World) (hx : StpOk ⟨0, m, hires, x, y, n, big, clip, A0, len, cap0⟩ L w) (H : RefB N A gs F w) (hk : k = 0) :
    Calls Try.prog 13 #[.agg #[.slice A 4 cap, .bool hi, .int .i64 (M : Int)], .agg (stc ⟨0, m, hires, x, y, n, big, clip, A0, len, cap0⟩)] w (ModP N (doS S M ⟨0, m, hires, x, y, n, big, clip, A0, len, cap0⟩ L).1 (doM M ⟨0, m, hires, x, y, n, big, clip, A0, len, cap0⟩) (doS S M ⟨0, m, hires, x, y, n, big, clip, A0, len, cap0⟩ L).2 w) := by
  subst hk
  have HH := Lib.hid hhi
  have HN := Lib.hid hN
  obtain ⟨nn, hnn⟩ : ∃ nn : Nat, n % 16 = (nn : Int) := ⟨(n % 16).toNat, by omega⟩
  have n1 : nn ≤ 15 := by omega
  have MN := Lib.hid fun w => hnn ▸ smod_any n 16 w hx.n.1 hx.n.2 (by omega) (by omega)
  obtain ⟨mm, hmm⟩ : ∃ mm : Nat, m % 16 = (mm : Int) := ⟨(m % 16).toNat, by omega⟩
  have MM := Lib.hid fun w => hmm ▸ smod_any m 16 w hx.m.1 hx.m.2 (by omega) (by omega)
  obtain ⟨Z, hZ⟩ : ∃ Z, S.mask (mm : Int) = Z := ⟨_, rfl⟩
  have REL := Lib.hid (show Rel Z F by rw [← hZ]; exact rel_sel hrel _)
  have ZH := Lib.hid (show Z.hi = hi by rw [← hZ]; exact hhi)
  rw [show doS S M ⟨0, m, hires, x, y, n, big, clip, A0, len, cap0⟩ L = (Z, false) by unfold doS; rw [if_pos rfl, ← hZ, ← hmm]]
  rw [show doM M ⟨0, m, hires, x, y, n, big, clip, A0, len, cap0⟩ = mm by unfold doM; rw [if_pos rfl]; show (m % 16).toNat = mm; omega]
  show Calls _ _ _ w (ModP N Z mm false w)
  clear hmm hZ
  have S1 := Lib.hid (((SOut.new w (.slice A 4 cap) hi (M : Int)).alloc (.cells (stc ⟨0, m, hires, x, y, n, big, clip, A0, len, cap0⟩) 41)).alloc (.cells #[.slice none 0 0, .bool false, .int .i64 0] 36))
  have T1 := Lib.hid ((Blk.new (w.alloc (.cells #[.slice A 4 cap, .bool hi, .int .i64 (M : Int)] 36)) 41 (stc ⟨0, m, hires, x, y, n, big, clip, A0, len, cap0⟩)).alloc (.cells #[.slice none 0 0, .bool false, .int .i64 0] 36))
  have R1 := Lib.hid (SOut.new ((w.alloc (.cells #[.slice A 4 cap, .bool hi, .int .i64 (M : Int)] 36)).alloc (.cells (stc ⟨0, m, hires, x, y, n, big, clip, A0, len, cap0⟩) 41)) (.slice none 0 0) false 0)
  have B1 := Lib.hid (((below_new w (.cells #[.slice A 4 cap, .bool hi, .int .i64 (M : Int)] 36)).alloc (by simp) (.cells (stc ⟨0, m, hires, x, y, n, big, clip, A0, len, cap0⟩) 41)).alloc (by simp; omega) (.cells #[.slice none 0 0, .bool false, .int .i64 0] 36))
  rw [World.size_alloc] at T1
  rw [World.size_alloc, World.size_alloc] at R1
  have GR := Lib.hid (H.step B1.out)
  have XO := Lib.hid (hx.step B1.out)
  clear hx H hrel hN hM hhi
  go_enter Try.func13, Try.ntmps13
  go_upto_region 1 with fail
  simp only [Nat.add_assoc, Nat.reduceAdd] at *
  generalize ((w.alloc (.cells #[.slice A 4 cap, .bool hi, .int .i64 (M : Int)] 36)).alloc (.cells (stc ⟨0, m, hires, x, y, n, big, clip, A0, len, cap0⟩) 41)).alloc (.cells #[.slice none 0 0, .bool false, .int .i64 0] 36) = w1 at *
  have k5 : w1.cell? ⟨w.heap.size + 1, 5, none⟩ = some (.int .i64 n) := by rw [T1.out.cell]; rfl
  go_wp2_with fail
  refine (MN.out _).mono ?_
  rintro e w' ⟨rfl, rfl⟩
  have k0 : w1.cell? ⟨w.heap.size + 1, 0, none⟩ = some (.int .i64 0) := by rw [T1.out.cell]; rfl
  go_upto_region 4 with fail
  have kp := Lib.hid (fun (w' : World) (hw : ∃ u : Calm w1, w' = u.w) => show Blk w.heap.size 36 #[.slice A 4 cap, .bool hi, .int .i64 (M : Int)] w' by obtain ⟨u, rfl⟩ := hw; exact S1.out.step u.below)
  have k1 : ∀ u : Calm w1, u.w.cell? ⟨w.heap.size + 1, 1, none⟩ = some (.int .i64 m) := fun u => by rw [(T1.out.step u.below).cell]; rfl
  refine wp_region_late (C := fun w' => ∃ u : Calm w1, w' = u.w) 5 [([0, 1, 2], 3, true), ([], 4, true)] [] [6] (by kernel_rfl) (by kernel_rfl) ?_ ?_ ⟨⟨w1.drew, (Below.refl _ _).drew⟩, rfl⟩ ?_
  · exact fun _ _ d _ _ h => by cases d <;> exact h
  · rintro _ w' ⟨u, rfl⟩ hg
    exact ⟨⟨w', u.below.trans (hg.mono u.below.size)⟩, rfl⟩
  intro wd hwd
  have bd := Lib.hid (show Below w1.heap.size w1 wd by rw [hwd]; exact (Below.refl _ _).drew)
  clear hwd
  refine late_calm (by simp only [opsAt, List.getElem?_toArray, List.getElem?_cons_succ, List.getElem?_cons_zero]; rfl) (by simp only [List.getElem?_toArray, List.getElem?_cons_succ, List.getElem?_cons_zero]; rfl) ?_
  repeat (first
    | (refine quiet_load_all aggRS kp.out rfl ?_ (.tmp 2) ?_ ?_ ?_; (focus rfl); (focus rfl); (focus (simp [Act.eval]; done)); simp only [Act.put, List.setIfInBounds_toArray, List.set_cons_zero, List.set_cons_succ])
    | go_big_quiet_step (rfl))
  refine wpQuiet_nil ?_
  refine calm_next (v := .int .i64 (mm : Int)) (calm_fn (g := 17) (caps := #[]) (args := #[.int .i64 m, .int .i64 16]) (.func 17) #[.tmp 16, .const (.int .i64 16)] #[3, 3] rfl rfl (enters_of Try.func17 (by kernel_rfl) rfl) (fun w' hw => (MM.out w').mono fun e w'' h => ⟨h.1, by rw [← h.2]; exact Gr.refl _⟩) rfl (by simp [Act.eval])) ?_
  simp only [Act.put, List.setIfInBounds_toArray, List.set_cons_zero, List.set_cons_succ]
  refine late_calm (by simp only [opsAt, List.getElem?_toArray, List.getElem?_cons_succ, List.getElem?_cons_zero]; rfl) (by simp only [List.getElem?_toArray, List.getElem?_cons_succ, List.getElem?_cons_zero]; rfl) ?_
  repeat (go_big_quiet_step (rfl))
  refine wpQuiet_nil ?_
  refine calm_next (v := .agg #[.slice A 4 cap, .bool hi, .int .i64 (mm : Int)]) (calm_fn (g := 29) (caps := #[]) (args := #[.agg #[.slice A 4 cap, .bool hi, .int .i64 (M : Int)], .int .i64 (mm : Int)]) (.func 29) #[.tmp 14, .tmp 17] #[36, 3] rfl rfl (enters_of Try.func29 (by kernel_rfl) rfl) (fun w' hw => rselect_any A cap hi (M : Int) (mm : Int) w') rfl (by simp [Act.eval])) ?_
  simp only [Act.put, List.setIfInBounds_toArray, List.set_cons_zero, List.set_cons_succ]
  have GR := Lib.hid (GR.out.step bd.out)
  refine late_last (by simp only [opsAt, List.getElem?_toArray, List.getElem?_cons_succ, List.getElem?_cons_zero]; rfl) (by simp only [List.getElem?_toArray, List.getElem?_cons_succ, List.getElem?_cons_zero]; rfl) ?_
  repeat (go_big_quiet_step (rfl))
  refine wpQuiet_nil ?_
  refine last_next rfl ?_
  intro w5 g5 C5 K hK
  obtain ⟨u5, rfl⟩ := C5
  have b5 := Lib.hid u5.below
  have GR := Lib.hid (GR.out.step g5)
  generalize u5.w = w5 at *
  refine wp_store_all (ds := #[.slice A 4 cap, .bool hi, .int .i64 (mm : Int)]) aggRS (R1.out.step b5.out) rfl rfl (oneRS _ _ _ _ _) (.tmp 4) (.tmp 18) rfl (by simp [Act.eval, Act.put]) (by simp [Act.eval, Act.put]) ?_
  refine hK _ _ ?_
  clear hK K
  simp only [Act.put, List.setIfInBounds_toArray, List.set_cons_zero, List.set_cons_succ]
  simp only [opsAt, List.getElem?_toArray, List.getElem?_cons_succ, List.getElem?_cons_zero]
  repeat (go_big_quiet_step (rfl))
  refine wpQuiet_nil ?_
  intro w6 g6
  have R6 := Lib.hid (show Blk (w.heap.size + 2) 36 (#[.slice A 4 cap, .bool hi, .int .i64 (mm : Int)]) w6 from (Blk.store (show Blk (w.heap.size + 2) 36 _ w5 from R1.out.step b5.out) (#[.slice A 4 cap, .bool hi, .int .i64 (mm : Int)])).step g6)
  have GR := Lib.hid ((GR.out.setRow (R1.out.step b5.out) (#[.slice A 4 cap, .bool hi, .int .i64 (mm : Int)])).step g6)
  have B6 := Lib.hid ((belowRow (B1.out.trans (b5.out.mono B1.out.size)) (by omega : w.heap.size ≤ w.heap.size + 2) (#[.slice A 4 cap, .bool hi, .int .i64 (mm : Int)])).trans (g6.mono (by have := B1.out.size; have := b5.out.size; simp [World.setRow]; omega)))
  clear R1 B1 b5 g5 g6 bd
  iterate 4 go_step
  exact bodyPost_ret (results_cell_and rfl _ _ (w.heap.size + 2) _ _ _ _ (.bool false) rfl rfl R6.out Try.underlying36 rfl (by rw [aggRS.i]; rfl)) rfl ⟨F, A, cap, gs, REL.out, by rw [ZH.out], GR.out, B6.out⟩
set_option maxRecDepth 100000 in
set_option maxHeartbeats 8000000 in
theorem model_clr (N : Nat) (hN : N = 8192) (S : Sc) (F : Nat → Nat → Bool) (hrel : Rel S F) (A : Option Addr) (cap : Nat) (gs : List Nat) (hi : Bool) (hhi : S.hi = hi) (M : Nat) (hM : S.M = (M : Int)) (M1 : M ≤ 15) (k m x y n : Int) (hires big clip : Bool) (A0 : Option Addr) (len cap0 : Nat) (L : List Nat) (w : World) (hx : StpOk ⟨1, m, hires, x, y, n, big, clip, A0, len, cap0⟩ L w) (H : RefB N A gs F w) (hk : k = 1) :
    Calls Try.prog 13 #[.agg #[.slice A 4 cap, .bool hi, .int .i64 (M : Int)], .agg (stc ⟨1, m, hires, x, y, n, big, clip, A0, len, cap0⟩)] w (ModP N (doS S M ⟨1, m, hires, x, y, n, big, clip, A0, len, cap0⟩ L).1 (doM M ⟨1, m, hires, x, y, n, big, clip, A0, len, cap0⟩) (doS S M ⟨1, m, hires, x, y, n, big, clip, A0, len, cap0⟩ L).2 w) := by
  subst hk
  have HH := Lib.hid hhi
  have HN := Lib.hid hN
  obtain ⟨nn, hnn⟩ : ∃ nn : Nat, n % 16 = (nn : Int) := ⟨(n % 16).toNat, by omega⟩
  have n1 : nn ≤ 15 := by omega
  have MN := Lib.hid fun w => hnn ▸ smod_any n 16 w hx.n.1 hx.n.2 (by omega) (by omega)
  obtain ⟨Z, hZ⟩ : ∃ Z, onPl (fun _ _ _ => 0#128) M S = Z := ⟨_, rfl⟩
  obtain ⟨F2, hF2⟩ : ∃ F2 : Nat → Nat → Bool, (fun i => if onB M i then fun _ => false else F i) = F2 := ⟨_, rfl⟩
  have REL := Lib.hid (show Rel Z F2 by rw [← hZ, ← hF2]; exact rel_clr hrel M)
  have ZH := Lib.hid (show Z.hi = hi by rw [← hZ]; exact hhi)
  rw [show doS S M ⟨1, m, hires, x, y, n, big, clip, A0, len, cap0⟩ L = (Z, false) by unfold doS; rw [if_neg (by simp), if_pos rfl, hZ]]
  rw [show doM M ⟨1, m, hires, x, y, n, big, clip, A0, len, cap0⟩ = M by unfold doM; rw [if_neg (by simp)]]
  show Calls _ _ _ w (ModP N Z M false w)
  have CL := Lib.hid fun (w' : World) (H' : RefB N A gs F w') => hF2 ▸ rclear_any N hN A cap gs F hi M w' (by omega) (H'.refS (Nat.le_refl _))
  clear hZ hF2
  have S1 := Lib.hid (((SOut.new w (.slice A 4 cap) hi (M : Int)).alloc (.cells (stc ⟨1, m, hires, x, y, n, big, clip, A0, len, cap0⟩) 41)).alloc (.cells #[.slice none 0 0, .bool false, .int .i64 0] 36))
  have T1 := Lib.hid ((Blk.new (w.alloc (.cells #[.slice A 4 cap, .bool hi, .int .i64 (M : Int)] 36)) 41 (stc ⟨1, m, hires, x, y, n, big, clip, A0, len, cap0⟩)).alloc (.cells #[.slice none 0 0, .bool false, .int .i64 0] 36))
  have R1 := Lib.hid (SOut.new ((w.alloc (.cells #[.slice A 4 cap, .bool hi, .int .i64 (M : Int)] 36)).alloc (.cells (stc ⟨1, m, hires, x, y, n, big, clip, A0, len, cap0⟩) 41)) (.slice none 0 0) false 0)
  have B1 := Lib.hid (((below_new w (.cells #[.slice A 4 cap, .bool hi, .int .i64 (M : Int)] 36)).alloc (by simp) (.cells (stc ⟨1, m, hires, x, y, n, big, clip, A0, len, cap0⟩) 41)).alloc (by simp; omega) (.cells #[.slice none 0 0, .bool false, .int .i64 0] 36))
  rw [World.size_alloc] at T1
  rw [World.size_alloc, World.size_alloc] at R1
  have GR := Lib.hid (H.step B1.out)
  have XO := Lib.hid (hx.step B1.out)
  clear hx H hrel hN hM hhi
  go_enter Try.func13, Try.ntmps13
  go_upto_region 1 with fail
  simp only [Nat.add_assoc, Nat.reduceAdd] at *
  generalize ((w.alloc (.cells #[.slice A 4 cap, .bool hi, .int .i64 (M : Int)] 36)).alloc (.cells (stc ⟨1, m, hires, x, y, n, big, clip, A0, len, cap0⟩) 41)).alloc (.cells #[.slice none 0 0, .bool false, .int .i64 0] 36) = w1 at *
  have k5 : w1.cell? ⟨w.heap.size + 1, 5, none⟩ = some (.int .i64 n) := by rw [T1.out.cell]; rfl
  go_wp2_with fail
  refine (MN.out _).mono ?_
  rintro e w' ⟨rfl, rfl⟩
  have k0 : w1.cell? ⟨w.heap.size + 1, 0, none⟩ = some (.int .i64 1) := by rw [T1.out.cell]; rfl
  go_upto_region 6 with fail
  refine wp_region_lit ?_
  refine list_load_all aggRS S1.out rfl rfl (.tmp 2) rfl (by simp [Act.eval]) ?_
  simp only [Act.put, List.setIfInBounds_toArray, List.set_cons_zero, List.set_cons_succ]
  go_wp2_with fail
  refine (CL.out _ GR.out).mono ?_
  rintro e w2 ⟨A2, cap2, gs2, rfl, l2, r2, p2, b2⟩
  have R2 := Lib.hid (R1.out.step b2)
  have B2 := Lib.hid (B1.out.trans (b2.mono B1.out.size))
  have GR := Lib.hid (show RefB N A2 gs2 F2 w2 from ⟨l2, r2, p2⟩)
  clear b2 l2 r2 p2 S1 T1 R1 B1
  simp only []
  go_at_K
  go_step
  refine list_store_all (ds := #[.slice A2 4 cap2, .bool hi, .int .i64 (M : Int)]) aggRS R2.out rfl rfl (oneRS _ _ _ _ _) rfl (.tmp 4) (.tmp 22) rfl (by simp [Act.eval, Act.put]) (by simp [Act.eval, Act.put]) ?_
  simp only [Act.put, List.setIfInBounds_toArray, List.set_cons_zero, List.set_cons_succ]
  have R6 := Lib.hid (Blk.store (show Blk (w.heap.size + 2) 36 _ w2 from R2.out) (#[.slice A2 4 cap2, .bool hi, .int .i64 (M : Int)]))
  have GR := Lib.hid (GR.out.setRow R2.out (#[.slice A2 4 cap2, .bool hi, .int .i64 (M : Int)]))
  have B6 := Lib.hid (belowRow B2.out (by omega : w.heap.size ≤ w.heap.size + 2) (#[.slice A2 4 cap2, .bool hi, .int .i64 (M : Int)]))
  generalize w2.setRow (w.heap.size + 2) (#[.slice A2 4 cap2, .bool hi, .int .i64 (M : Int)]) = w6 at *
  iterate 8 go_step
  exact bodyPost_ret (results_cell_and rfl _ _ (w.heap.size + 2) _ _ _ _ (.bool false) rfl rfl R6.out Try.underlying36 rfl (by rw [aggRS.i]; rfl)) rfl ⟨F2, A2, cap2, gs2, REL.out, by rw [ZH.out], GR.out, B6.out⟩
set_option maxRecDepth 100000 in
set_option maxHeartbeats 8000000 in
theorem model_res (N : Nat) (hN : N = 8192) (S : Sc) (F : Nat → Nat → Bool) (hrel : Rel S F) (A : Option Addr) (cap : Nat) (gs : List Nat) (hi : Bool) (hhi : S.hi = hi) (M : Nat) (hM : S.M = (M : Int)) (M1 : M ≤ 15) (k m x y n : Int) (hires big clip : Bool) (A0 : Option Addr) (len cap0 : Nat) (L : List Nat) (w : World) (hx : StpOk ⟨2, m, hires, x, y, n, big, clip, A0, len, cap0⟩ L w) (H : RefB N A gs F w) (hk : k = 2) :
    Calls Try.prog 13 #[.agg #[.slice A 4 cap, .bool hi, .int .i64 (M : Int)], .agg (stc ⟨2, m, hires, x, y, n, big, clip, A0, len, cap0⟩)] w (ModP N (doS S M ⟨2, m, hires, x, y, n, big, clip, A0, len, cap0⟩ L).1 (doM M ⟨2, m, hires, x, y, n, big, clip, A0, len, cap0⟩) (doS S M ⟨2, m, hires, x, y, n, big, clip, A0, len, cap0⟩ L).2 w) := by
  subst hk
  have HH := Lib.hid hhi
  have HN := Lib.hid hN
  obtain ⟨nn, hnn⟩ : ∃ nn : Nat, n % 16 = (nn : Int) := ⟨(n % 16).toNat, by omega⟩
  have n1 : nn ≤ 15 := by omega
  have MN := Lib.hid fun w => hnn ▸ smod_any n 16 w hx.n.1 hx.n.2 (by omega) (by omega)
  obtain ⟨Z, hZ⟩ : ∃ Z, blankS hires S.M = Z := ⟨_, rfl⟩
  obtain ⟨F2, hF2⟩ : ∃ F2 : Nat → Nat → Bool, (fun _ _ => false) = F2 := ⟨_, rfl⟩
  have REL := Lib.hid (show Rel Z F2 by rw [← hZ, ← hF2]; exact rel_blank hires _)
  have ZH := Lib.hid (show Z.hi = hires by rw [← hZ]; rfl)
  rw [show doS S M ⟨2, m, hires, x, y, n, big, clip, A0, len, cap0⟩ L = (Z, false) by unfold doS; rw [if_neg (by simp), if_neg (by simp), if_pos rfl, hZ]]
  rw [show doM M ⟨2, m, hires, x, y, n, big, clip, A0, len, cap0⟩ = M by unfold doM; rw [if_neg (by simp)]]
  show Calls _ _ _ w (ModP N Z M false w)
  have CL := Lib.hid fun (w' : World) => hF2 ▸ rres8_any N hN A cap hi hires (M : Int) w'
  clear hZ hF2
  have S1 := Lib.hid (((SOut.new w (.slice A 4 cap) hi (M : Int)).alloc (.cells (stc ⟨2, m, hires, x, y, n, big, clip, A0, len, cap0⟩) 41)).alloc (.cells #[.slice none 0 0, .bool false, .int .i64 0] 36))
  have T1 := Lib.hid ((Blk.new (w.alloc (.cells #[.slice A 4 cap, .bool hi, .int .i64 (M : Int)] 36)) 41 (stc ⟨2, m, hires, x, y, n, big, clip, A0, len, cap0⟩)).alloc (.cells #[.slice none 0 0, .bool false, .int .i64 0] 36))
  have R1 := Lib.hid (SOut.new ((w.alloc (.cells #[.slice A 4 cap, .bool hi, .int .i64 (M : Int)] 36)).alloc (.cells (stc ⟨2, m, hires, x, y, n, big, clip, A0, len, cap0⟩) 41)) (.slice none 0 0) false 0)
  have B1 := Lib.hid (((below_new w (.cells #[.slice A 4 cap, .bool hi, .int .i64 (M : Int)] 36)).alloc (by simp) (.cells (stc ⟨2, m, hires, x, y, n, big, clip, A0, len, cap0⟩) 41)).alloc (by simp; omega) (.cells #[.slice none 0 0, .bool false, .int .i64 0] 36))
  rw [World.size_alloc] at T1
  rw [World.size_alloc, World.size_alloc] at R1
  have GR := Lib.hid (H.step B1.out)
  have XO := Lib.hid (hx.step B1.out)
  clear hx H hrel hN hM hhi
  go_enter Try.func13, Try.ntmps13
  go_upto_region 1 with fail
  simp only [Nat.add_assoc, Nat.reduceAdd] at *
  generalize ((w.alloc (.cells #[.slice A 4 cap, .bool hi, .int .i64 (M : Int)] 36)).alloc (.cells (stc ⟨2, m, hires, x, y, n, big, clip, A0, len, cap0⟩) 41)).alloc (.cells #[.slice none 0 0, .bool false, .int .i64 0] 36) = w1 at *
  have k5 : w1.cell? ⟨w.heap.size + 1, 5, none⟩ = some (.int .i64 n) := by rw [T1.out.cell]; rfl
  go_wp2_with fail
  refine (MN.out _).mono ?_
  rintro e w' ⟨rfl, rfl⟩
  have k0 : w1.cell? ⟨w.heap.size + 1, 0, none⟩ = some (.int .i64 2) := by rw [T1.out.cell]; rfl
  go_upto_region 8 with fail
  have k2 : w1.cell? ⟨w.heap.size + 1, 2, none⟩ = some (.bool hires) := by rw [T1.out.cell]; rfl
  refine wp_region_lit ?_
  refine list_load_all aggRS S1.out rfl rfl (.tmp 2) rfl (by simp [Act.eval]) ?_
  simp only [Act.put, List.setIfInBounds_toArray, List.set_cons_zero, List.set_cons_succ]
  go_wp2_with fail
  refine (CL.out _).mono ?_
  rintro e w2 ⟨A2, cap2, gs2, rfl, l2, r2, p2, b2⟩
  have R2 := Lib.hid (R1.out.step b2)
  have B2 := Lib.hid (B1.out.trans (b2.mono B1.out.size))
  have GR := Lib.hid (show RefB N A2 gs2 F2 w2 from ⟨l2, r2, p2⟩)
  clear b2 l2 r2 p2 S1 T1 R1 B1
  simp only []
  go_at_K
  go_step
  refine list_store_all (ds := #[.slice A2 4 cap2, .bool hires, .int .i64 (M : Int)]) aggRS R2.out rfl rfl (oneRS _ _ _ _ _) rfl (.tmp 4) (.tmp 28) rfl (by simp [Act.eval, Act.put]) (by simp [Act.eval, Act.put]) ?_
  simp only [Act.put, List.setIfInBounds_toArray, List.set_cons_zero, List.set_cons_succ]
  have R6 := Lib.hid (Blk.store (show Blk (w.heap.size + 2) 36 _ w2 from R2.out) (#[.slice A2 4 cap2, .bool hires, .int .i64 (M : Int)]))
  have GR := Lib.hid (GR.out.setRow R2.out (#[.slice A2 4 cap2, .bool hires, .int .i64 (M : Int)]))
  have B6 := Lib.hid (belowRow B2.out (by omega : w.heap.size ≤ w.heap.size + 2) (#[.slice A2 4 cap2, .bool hires, .int .i64 (M : Int)]))
  generalize w2.setRow (w.heap.size + 2) (#[.slice A2 4 cap2, .bool hires, .int .i64 (M : Int)]) = w6 at *
  iterate 8 go_step
  exact bodyPost_ret (results_cell_and rfl _ _ (w.heap.size + 2) _ _ _ _ (.bool false) rfl rfl R6.out Try.underlying36 rfl (by rw [aggRS.i]; rfl)) rfl ⟨F2, A2, cap2, gs2, REL.out, by rw [ZH.out], GR.out, B6.out⟩
set_option maxRecDepth 100000 in
set_option maxHeartbeats 8000000 in
theorem model_scr (N : Nat) (hN : N = 8192) (S : Sc) (F : Nat → Nat → Bool) (hrel : Rel S F) (A : Option Addr) (cap : Nat) (gs : List Nat) (hi : Bool) (hhi : S.hi = hi) (M : Nat) (hM : S.M = (M : Int)) (M1 : M ≤ 15) (k m x y n : Int) (hires big clip : Bool) (A0 : Option Addr) (len cap0 : Nat) (L : List Nat) (w : World) (hx : StpOk ⟨3, m, hires, x, y, n, big, clip, A0, len, cap0⟩ L w) (H : RefB N A gs F w) (hk : k = 3) :
    Calls Try.prog 13 #[.agg #[.slice A 4 cap, .bool hi, .int .i64 (M : Int)], .agg (stc ⟨3, m, hires, x, y, n, big, clip, A0, len, cap0⟩)] w (ModP N (doS S M ⟨3, m, hires, x, y, n, big, clip, A0, len, cap0⟩ L).1 (doM M ⟨3, m, hires, x, y, n, big, clip, A0, len, cap0⟩) (doS S M ⟨3, m, hires, x, y, n, big, clip, A0, len, cap0⟩ L).2 w) := by
  subst hk
  have HH := Lib.hid hhi
  have HN := Lib.hid hN
  obtain ⟨nn, hnn⟩ : ∃ nn : Nat, n % 16 = (nn : Int) := ⟨(n % 16).toNat, by omega⟩
  have n1 : nn ≤ 15 := by omega
  have MN := Lib.hid fun w => hnn ▸ smod_any n 16 w hx.n.1 hx.n.2 (by omega) (by omega)
  obtain ⟨dx, hdx⟩ : ∃ dx, x % 33 = dx := ⟨_, rfl⟩
  obtain ⟨dy, hdy⟩ : ∃ dy, y % 33 = dy := ⟨_, rfl⟩
  have dx0 : 0 ≤ dx := by omega
  have dx1 : dx ≤ 32 := by omega
  have dy0 : 0 ≤ dy := by omega
  have dy1 : dy ≤ 32 := by omega
  have MX := Lib.hid fun w => hdx ▸ smod_any x 33 w hx.x.1 hx.x.2 (by omega) (by omega)
  have MY := Lib.hid fun w => hdy ▸ smod_any y 33 w hx.y.1 hx.y.2 (by omega) (by omega)
  obtain ⟨Z, hZ⟩ : ∃ Z, onPl (fun _ p => scroll p (dx - 16) (dy - 16) (wid S.hi) (hei S.hi)) M S = Z := ⟨_, rfl⟩
  obtain ⟨F2, hF2⟩ : ∃ F2 : Nat → Nat → Bool, (fun i => if onB M i then rscF (F i) (dx - 16) (dy - 16) (wid S.hi) (hei S.hi) else F i) = F2 := ⟨_, rfl⟩
  have REL := Lib.hid (show Rel Z F2 by rw [← hZ, ← hF2]; exact rel_scr hrel M _ _)
  have ZH := Lib.hid (show Z.hi = hi by rw [← hZ]; exact hhi)
  rw [show doS S M ⟨3, m, hires, x, y, n, big, clip, A0, len, cap0⟩ L = (Z, false) by unfold doS; rw [if_neg (by simp), if_neg (by simp), if_neg (by simp), if_pos rfl, ← hZ, hdx, hdy]]
  rw [show doM M ⟨3, m, hires, x, y, n, big, clip, A0, len, cap0⟩ = M by unfold doM; rw [if_neg (by simp)]]
  show Calls _ _ _ w (ModP N Z M false w)
  have CL := Lib.hid fun (w' : World) (H' : RefB N A gs F w') => hF2 ▸ rscr8_any N hN A cap gs F hi (wid S.hi) (hei S.hi) (show Res hi _ _ by rw [← hhi]; exact res_of _) M (dx - 16) (dy - 16) (by omega) (by omega) (by omega) (by omega) w' (by omega) (H'.refS (Nat.le_refl _))
  clear hZ hF2 hdx hdy
  have S1 := Lib.hid (((SOut.new w (.slice A 4 cap) hi (M : Int)).alloc (.cells (stc ⟨3, m, hires, x, y, n, big, clip, A0, len, cap0⟩) 41)).alloc (.cells #[.slice none 0 0, .bool false, .int .i64 0] 36))
  have T1 := Lib.hid ((Blk.new (w.alloc (.cells #[.slice A 4 cap, .bool hi, .int .i64 (M : Int)] 36)) 41 (stc ⟨3, m, hires, x, y, n, big, clip, A0, len, cap0⟩)).alloc (.cells #[.slice none 0 0, .bool false, .int .i64 0] 36))
  have R1 := Lib.hid (SOut.new ((w.alloc (.cells #[.slice A 4 cap, .bool hi, .int .i64 (M : Int)] 36)).alloc (.cells (stc ⟨3, m, hires, x, y, n, big, clip, A0, len, cap0⟩) 41)) (.slice none 0 0) false 0)
  have B1 := Lib.hid (((below_new w (.cells #[.slice A 4 cap, .bool hi, .int .i64 (M : Int)] 36)).alloc (by simp) (.cells (stc ⟨3, m, hires, x, y, n, big, clip, A0, len, cap0⟩) 41)).alloc (by simp; omega) (.cells #[.slice none 0 0, .bool false, .int .i64 0] 36))
  rw [World.size_alloc] at T1
  rw [World.size_alloc, World.size_alloc] at R1
  have GR := Lib.hid (H.step B1.out)
  have XO := Lib.hid (hx.step B1.out)
  clear hx H hrel hN hM hhi
  go_enter Try.func13, Try.ntmps13
  go_upto_region 1 with fail
  simp only [Nat.add_assoc, Nat.reduceAdd] at *
  generalize ((w.alloc (.cells #[.slice A 4 cap, .bool hi, .int .i64 (M : Int)] 36)).alloc (.cells (stc ⟨3, m, hires, x, y, n, big, clip, A0, len, cap0⟩) 41)).alloc (.cells #[.slice none 0 0, .bool false, .int .i64 0] 36) = w1 at *
  have k5 : w1.cell? ⟨w.heap.size + 1, 5, none⟩ = some (.int .i64 n) := by rw [T1.out.cell]; rfl
  go_wp2_with fail
  refine (MN.out _).mono ?_
  rintro e w' ⟨rfl, rfl⟩
  have k0 : w1.cell? ⟨w.heap.size + 1, 0, none⟩ = some (.int .i64 3) := by rw [T1.out.cell]; rfl
  go_upto_region 10 with fail
  have kp := Lib.hid (fun (w' : World) (hw : ∃ u : Calm w1, w' = u.w) => show Blk w.heap.size 36 #[.slice A 4 cap, .bool hi, .int .i64 (M : Int)] w' by obtain ⟨u, rfl⟩ := hw; exact S1.out.step u.below)
  have k3 : ∀ u : Calm w1, u.w.cell? ⟨w.heap.size + 1, 3, none⟩ = some (.int .i64 x) := fun u => by rw [(T1.out.step u.below).cell]; rfl
  have k4 : ∀ u : Calm w1, u.w.cell? ⟨w.heap.size + 1, 4, none⟩ = some (.int .i64 y) := fun u => by rw [(T1.out.step u.below).cell]; rfl
  refine wp_region_late (C := fun w' => ∃ u : Calm w1, w' = u.w) 10 [([0, 1, 2, 5, 6], 3, true), ([4], 7, true), ([8], 9, false)] [] [11] (by kernel_rfl) (by kernel_rfl) ?_ ?_ ⟨⟨w1.drew, (Below.refl _ _).drew⟩, rfl⟩ ?_
  · exact fun _ _ d _ _ h => by cases d <;> exact h
  · rintro _ w' ⟨u, rfl⟩ hg
    exact ⟨⟨w', u.below.trans (hg.mono u.below.size)⟩, rfl⟩
  intro wd hwd
  have bd := Lib.hid (show Below w1.heap.size w1 wd by rw [hwd]; exact (Below.refl _ _).drew)
  clear hwd
  refine late_calm (by simp only [opsAt, List.getElem?_toArray, List.getElem?_cons_succ, List.getElem?_cons_zero]; rfl) (by simp only [List.getElem?_toArray, List.getElem?_cons_succ, List.getElem?_cons_zero]; rfl) ?_
  repeat (first
    | (refine quiet_load_all aggRS kp.out rfl ?_ (.tmp 2) ?_ ?_ ?_; (focus rfl); (focus rfl); (focus (simp [Act.eval]; done)); simp only [Act.put, List.setIfInBounds_toArray, List.set_cons_zero, List.set_cons_succ])
    | go_big_quiet_step (rfl))
  refine wpQuiet_nil ?_
  refine calm_next (v := .int .i64 dx) (calm_fn (g := 17) (caps := #[]) (args := #[.int .i64 x, .int .i64 33]) (.func 17) #[.tmp 33, .const (.int .i64 33)] #[3, 3] rfl rfl (enters_of Try.func17 (by kernel_rfl) rfl) (fun w' hw => (MX.out w').mono fun e w'' h => ⟨h.1, by rw [← h.2]; exact Gr.refl _⟩) rfl (by simp [Act.eval])) ?_
  simp only [Act.put, List.setIfInBounds_toArray, List.set_cons_zero, List.set_cons_succ]
  refine late_calm (by simp only [opsAt, List.getElem?_toArray, List.getElem?_cons_succ, List.getElem?_cons_zero]; rfl) (by simp only [List.getElem?_toArray, List.getElem?_cons_succ, List.getElem?_cons_zero]; rfl) ?_
  repeat (go_big_quiet_step (rfl))
  refine wpQuiet_nil ?_
  refine calm_next (v := .int .i64 dy) (calm_fn (g := 17) (caps := #[]) (args := #[.int .i64 y, .int .i64 33]) (.func 17) #[.tmp 37, .const (.int .i64 33)] #[3, 3] rfl rfl (enters_of Try.func17 (by kernel_rfl) rfl) (fun w' hw => (MY.out w').mono fun e w'' h => ⟨h.1, by rw [← h.2]; exact Gr.refl _⟩) rfl (by simp [Act.eval])) ?_
  simp only [Act.put, List.setIfInBounds_toArray, List.set_cons_zero, List.set_cons_succ]
  refine late_real (by simp only [opsAt, List.getElem?_toArray, List.getElem?_cons_succ, List.getElem?_cons_zero]; rfl) (by simp only [List.getElem?_toArray, List.getElem?_cons_succ, List.getElem?_cons_zero]; rfl) ?_
  repeat (go_big_quiet_step (rfl))
  refine wpQuiet_nil ?_
  refine real_next rfl ?_
  intro w3 g3 Cw3 K hK
  refine wp_call_fn (g := 32) (caps := #[]) (args := #[.agg #[.slice A 4 cap, .bool hi, .int .i64 (M : Int)], .int .i64 (dx - 16), .int .i64 (dy - 16)]) (.func 32) #[.tmp 31, .tmp 35, .tmp 39] #[36, 3, 3] rfl (enters_of Try.func32 (by kernel_rfl) rfl) rfl (by simp [Act.eval]) ?_
  refine (CL.out w3 (GR.out.step (bd.out.trans (g3.mono bd.out.size)))).mono ?_
  rintro e w3' ⟨A2, cap2, gs2, rfl, l2, r2, p2, b2⟩
  have bd := Lib.hid ((bd.out.trans (g3.mono bd.out.size)).trans (b2.mono (bd.out.trans (g3.mono bd.out.size)).size))
  have GR := Lib.hid (show RefB N A2 gs2 F2 w3' from ⟨l2, r2, p2⟩)
  clear l2 r2 p2 b2 g3 Cw3
  refine ⟨_, rfl, ?_⟩
  refine hK _ _ ⟨⟨w3', bd.out⟩, rfl⟩ ?_
  clear hK K
  simp only [Act.put, List.setIfInBounds_toArray, List.set_cons_zero, List.set_cons_succ]
  refine late_last (by simp only [opsAt, List.getElem?_toArray, List.getElem?_cons_succ, List.getElem?_cons_zero]; rfl) (by simp only [List.getElem?_toArray, List.getElem?_cons_succ, List.getElem?_cons_zero]; rfl) ?_
  repeat (go_big_quiet_step (rfl))
  refine wpQuiet_nil ?_
  refine last_next rfl ?_
  intro w5 g5 C5 K hK
  obtain ⟨u5, rfl⟩ := C5
  have b5 := Lib.hid u5.below
  have GR := Lib.hid (GR.out.step g5)
  generalize u5.w = w5 at *
  refine wp_store_all (ds := #[.slice A2 4 cap2, .bool hi, .int .i64 (M : Int)]) aggRS (R1.out.step b5.out) rfl rfl (oneRS _ _ _ _ _) (.tmp 4) (.tmp 40) rfl (by simp [Act.eval, Act.put]) (by simp [Act.eval, Act.put]) ?_
  refine hK _ _ ?_
  clear hK K
  simp only [Act.put, List.setIfInBounds_toArray, List.set_cons_zero, List.set_cons_succ]
  simp only [opsAt, List.getElem?_toArray, List.getElem?_cons_succ, List.getElem?_cons_zero]
  repeat (go_big_quiet_step (rfl))
  refine wpQuiet_nil ?_
  intro w6 g6
  have R6 := Lib.hid (show Blk (w.heap.size + 2) 36 (#[.slice A2 4 cap2, .bool hi, .int .i64 (M : Int)]) w6 from (Blk.store (show Blk (w.heap.size + 2) 36 _ w5 from R1.out.step b5.out) (#[.slice A2 4 cap2, .bool hi, .int .i64 (M : Int)])).step g6)
  have GR := Lib.hid ((GR.out.setRow (R1.out.step b5.out) (#[.slice A2 4 cap2, .bool hi, .int .i64 (M : Int)])).step g6)
  have B6 := Lib.hid ((belowRow (B1.out.trans (b5.out.mono B1.out.size)) (by omega : w.heap.size ≤ w.heap.size + 2) (#[.slice A2 4 cap2, .bool hi, .int .i64 (M : Int)])).trans (g6.mono (by have := B1.out.size; have := b5.out.size; simp [World.setRow]; omega)))
  clear R1 B1 b5 g5 g6 bd
  iterate 4 go_step
  exact bodyPost_ret (results_cell_and rfl _ _ (w.heap.size + 2) _ _ _ _ (.bool false) rfl rfl R6.out Try.underlying36 rfl (by rw [aggRS.i]; rfl)) rfl ⟨F2, A2, cap2, gs2, REL.out, by rw [ZH.out], GR.out, B6.out⟩
set_option maxRecDepth 100000 in
set_option maxHeartbeats 8000000 in
theorem model_drw (N : Nat) (hN : N = 8192) (S : Sc) (F : Nat → Nat → Bool) (hrel : Rel S F) (A : Option Addr) (cap : Nat) (gs : List Nat) (hi : Bool) (hhi : S.hi = hi) (M : Nat) (hM : S.M = (M : Int)) (M1 : M ≤ 15) (k m x y n : Int) (hires big clip : Bool) (A0 : Option Addr) (len cap0 : Nat) (L : List Nat) (w : World) (hx : StpOk ⟨k, m, hires, x, y, n, big, clip, A0, len, cap0⟩ L w) (H : RefB N A gs F w) (h0 : k ≠ 0) (h1 : k ≠ 1) (h2 : k ≠ 2) (h3 : k ≠ 3) :
    Calls Try.prog 13 #[.agg #[.slice A 4 cap, .bool hi, .int .i64 (M : Int)], .agg (stc ⟨k, m, hires, x, y, n, big, clip, A0, len, cap0⟩)] w (ModP N (doS S M ⟨k, m, hires, x, y, n, big, clip, A0, len, cap0⟩ L).1 (doM M ⟨k, m, hires, x, y, n, big, clip, A0, len, cap0⟩) (doS S M ⟨k, m, hires, x, y, n, big, clip, A0, len, cap0⟩ L).2 w) := by
  have HH := Lib.hid hhi
  have HN := Lib.hid hN
  obtain ⟨nn, hnn⟩ : ∃ nn : Nat, n % 16 = (nn : Int) := ⟨(n % 16).toNat, by omega⟩
  have n1 : nn ≤ 15 := by omega
  have MN := Lib.hid fun w => hnn ▸ smod_any n 16 w hx.n.1 hx.n.2 (by omega) (by omega)
  obtain ⟨xx, hxx⟩ : ∃ xx : Nat, x % 256 = (xx : Int) := ⟨(x % 256).toNat, by omega⟩
  obtain ⟨yy, hyy⟩ : ∃ yy : Nat, y % 256 = (yy : Int) := ⟨(y % 256).toNat, by omega⟩
  have x1 : xx ≤ 255 := by omega
  have y1 : yy ≤ 255 := by omega
  have MX := Lib.hid fun w => hxx ▸ smod_any x 256 w hx.x.1 hx.x.2 (by omega) (by omega)
  have MY := Lib.hid fun w => hyy ▸ smod_any y 256 w hx.y.1 hx.y.2 (by omega) (by omega)
  obtain ⟨nd, hnd⟩ : ∃ nd, need M nn big 4 = nd := ⟨_, rfl⟩
  have nd1 : nd ≤ 128 := by rw [← hnd]; exact need_le4 M nn big (by omega)
  have NR := Lib.hid fun w => hnd ▸ need_any M nn big w (by omega) (by omega)
  obtain ⟨Z, hZ⟩ : ∃ Z, drZ (fillF L) S M nn big clip xx yy = Z := ⟨_, rfl⟩
  obtain ⟨cv, hcv⟩ : ∃ cv, coZ (fillF L) S M nn big clip xx yy = cv := ⟨_, rfl⟩
  obtain ⟨F2, hF2⟩ : ∃ F2, drK (fillF L) F M nn big clip xx yy (wid S.hi) (hei S.hi) 4 = F2 := ⟨_, rfl⟩
  have REL := Lib.hid (show Rel Z F2 by rw [← hZ, ← hF2]; exact rel_drw _ _ _ _ _ _ _ hrel (by omega))
  have ZH := Lib.hid (show Z.hi = hi by rw [← hZ]; exact hhi)
  have hcv2 : hiK (fillF L) F M nn big clip xx yy (wid S.hi) (hei S.hi) N 4 = cv := by rw [← hcv]; exact (hit_drw _ _ _ _ _ _ _ hrel N hN).symm
  have FL := Lib.hid fun (w' : World) (hb : Below w.heap.size w w') => fill_any A0 L len cap0 nd w' (hx.rd.step hb) hx.len hx.max (by omega)
  have DW := Lib.hid fun (g : Nat) (w' : World) (H' : RefB N A gs F w') (hD : Dat g nd (fillF L) w') => hcv2 ▸ hF2 ▸ rdraw8_any N hN A cap gs F hi (wid S.hi) (hei S.hi) (show Res hi _ _ by rw [← hhi]; exact res_of _) M xx yy nn x1 y1 n1 big clip g nd (fillF L) (fill_le hx.le) hnd nd1 w' (by omega) (H'.refS (Nat.le_refl _)) hD
  rw [show doS S M ⟨k, m, hires, x, y, n, big, clip, A0, len, cap0⟩ L = (Z, cv) by
    unfold doS stD
    rw [if_neg h0, if_neg h1, if_neg h2, if_neg h3]
    simp only
    rw [show (n % 16).toNat = nn by omega, show (x % 256).toNat = xx by omega, show (y % 256).toNat = yy by omega, ← hZ, ← hcv]
    rfl]
  rw [show doM M ⟨k, m, hires, x, y, n, big, clip, A0, len, cap0⟩ = M by unfold doM; rw [if_neg h0]]
  show Calls _ _ _ w (ModP N Z M cv w)
  have e0 : (k == 0) = false := by simpa using h0
  have e1 : (k == 1) = false := by simpa using h1
  have e2 : (k == 2) = false := by simpa using h2
  have e3 : (k == 3) = false := by simpa using h3
  clear hZ hcv hcv2 hF2 hnd hxx hyy
  have S1 := Lib.hid (((SOut.new w (.slice A 4 cap) hi (M : Int)).alloc (.cells (stc ⟨k, m, hires, x, y, n, big, clip, A0, len, cap0⟩) 41)).alloc (.cells #[.slice none 0 0, .bool false, .int .i64 0] 36))
  have T1 := Lib.hid ((Blk.new (w.alloc (.cells #[.slice A 4 cap, .bool hi, .int .i64 (M : Int)] 36)) 41 (stc ⟨k, m, hires, x, y, n, big, clip, A0, len, cap0⟩)).alloc (.cells #[.slice none 0 0, .bool false, .int .i64 0] 36))
  have R1 := Lib.hid (SOut.new ((w.alloc (.cells #[.slice A 4 cap, .bool hi, .int .i64 (M : Int)] 36)).alloc (.cells (stc ⟨k, m, hires, x, y, n, big, clip, A0, len, cap0⟩) 41)) (.slice none 0 0) false 0)
  have B1 := Lib.hid (((below_new w (.cells #[.slice A 4 cap, .bool hi, .int .i64 (M : Int)] 36)).alloc (by simp) (.cells (stc ⟨k, m, hires, x, y, n, big, clip, A0, len, cap0⟩) 41)).alloc (by simp; omega) (.cells #[.slice none 0 0, .bool false, .int .i64 0] 36))
  rw [World.size_alloc] at T1
  rw [World.size_alloc, World.size_alloc] at R1
  have GR := Lib.hid (H.step B1.out)
  have XO := Lib.hid (hx.step B1.out)
  clear hx H hrel hN hM hhi
  go_enter Try.func13, Try.ntmps13
  go_upto_region 1 with fail
  simp only [Nat.add_assoc, Nat.reduceAdd] at *
  generalize ((w.alloc (.cells #[.slice A 4 cap, .bool hi, .int .i64 (M : Int)] 36)).alloc (.cells (stc ⟨k, m, hires, x, y, n, big, clip, A0, len, cap0⟩) 41)).alloc (.cells #[.slice none 0 0, .bool false, .int .i64 0] 36) = w1 at *
  have k5 : w1.cell? ⟨w.heap.size + 1, 5, none⟩ = some (.int .i64 n) := by rw [T1.out.cell]; rfl
  go_wp2_with fail
  refine (MN.out _).mono ?_
  rintro e w' ⟨rfl, rfl⟩
  have k0 : w1.cell? ⟨w.heap.size + 1, 0, none⟩ = some (.int .i64 k) := by rw [T1.out.cell]; rfl
  go_upto_region 11 with fail
  have kp := Lib.hid (fun (w' : World) (hw : ∃ u : Calm w1, w' = u.w) => show Blk w.heap.size 36 #[.slice A 4 cap, .bool hi, .int .i64 (M : Int)] w' by obtain ⟨u, rfl⟩ := hw; exact S1.out.step u.below)
  have k3 : ∀ u : Calm w1, u.w.cell? ⟨w.heap.size + 1, 3, none⟩ = some (.int .i64 x) := fun u => by rw [(T1.out.step u.below).cell]; rfl
  have k4 : ∀ u : Calm w1, u.w.cell? ⟨w.heap.size + 1, 4, none⟩ = some (.int .i64 y) := fun u => by rw [(T1.out.step u.below).cell]; rfl
  have k6 : ∀ u : Calm w1, u.w.cell? ⟨w.heap.size + 1, 6, none⟩ = some (.bool big) := fun u => by rw [(T1.out.step u.below).cell]; rfl
  have k7 : ∀ u : Calm w1, u.w.cell? ⟨w.heap.size + 1, 7, none⟩ = some (.bool clip) := fun u => by rw [(T1.out.step u.below).cell]; rfl
  have k8 : ∀ u : Calm w1, u.w.cell? ⟨w.heap.size + 1, 8, none⟩ = some (.slice A0 len cap0) := fun u => by rw [(T1.out.step u.below).cell]; rfl
  have km : ∀ u : Calm w1, u.w.cell? ⟨w.heap.size, 2, none⟩ = some (.int .i64 (M : Int)) := fun u => (S1.out.step u.below).c2
  refine wp_region_late (C := fun w' => ∃ u : Calm w1, w' = u.w) 24 [([0, 1, 2, 4, 5, 7, 8, 9, 10, 11, 12, 13, 14, 15, 16, 17, 18], 3, true), ([], 6, true), ([], 19, true), ([], 20, false), ([], 21, false)] [22, 23] [25] (by kernel_rfl) (by kernel_rfl) ?_ ?_ ⟨⟨w1.drew, (Below.refl _ _).drew⟩, rfl⟩ ?_
  · exact fun _ _ d _ _ h => by cases d <;> exact h
  · rintro _ w' ⟨u, rfl⟩ hg
    exact ⟨⟨w', u.below.trans (hg.mono u.below.size)⟩, rfl⟩
  intro wd hwd
  have bd := Lib.hid (show Below w1.heap.size w1 wd by rw [hwd]; exact (Below.refl _ _).drew)
  clear hwd
  refine late_calm (by simp only [opsAt, List.getElem?_toArray, List.getElem?_cons_succ, List.getElem?_cons_zero]; rfl) (by simp only [List.getElem?_toArray, List.getElem?_cons_succ, List.getElem?_cons_zero]; rfl) ?_
  repeat (first
    | (refine quiet_load_all aggRS kp.out rfl ?_ (.tmp 2) ?_ ?_ ?_; (focus rfl); (focus rfl); (focus (simp [Act.eval]; done)); simp only [Act.put, List.setIfInBounds_toArray, List.set_cons_zero, List.set_cons_succ])
    | go_big_quiet_step (rfl))
  refine wpQuiet_nil ?_
  refine calm_next (v := .int .i64 (xx : Int)) (calm_fn (g := 17) (caps := #[]) (args := #[.int .i64 x, .int .i64 256]) (.func 17) #[.tmp 43, .const (.int .i64 256)] #[3, 3] rfl rfl (enters_of Try.func17 (by kernel_rfl) rfl) (fun w' hw => (MX.out w').mono fun e w'' h => ⟨h.1, by rw [← h.2]; exact Gr.refl _⟩) rfl (by simp [Act.eval])) ?_
  simp only [Act.put, List.setIfInBounds_toArray, List.set_cons_zero, List.set_cons_succ]
  refine late_calm (by simp only [opsAt, List.getElem?_toArray, List.getElem?_cons_succ, List.getElem?_cons_zero]; rfl) (by simp only [List.getElem?_toArray, List.getElem?_cons_succ, List.getElem?_cons_zero]; rfl) ?_
  repeat (go_big_quiet_step (rfl))
  refine wpQuiet_nil ?_
  refine calm_next (v := .int .i64 (yy : Int)) (calm_fn (g := 17) (caps := #[]) (args := #[.int .i64 y, .int .i64 256]) (.func 17) #[.tmp 46, .const (.int .i64 256)] #[3, 3] rfl rfl (enters_of Try.func17 (by kernel_rfl) rfl) (fun w' hw => (MY.out w').mono fun e w'' h => ⟨h.1, by rw [← h.2]; exact Gr.refl _⟩) rfl (by simp [Act.eval])) ?_
  simp only [Act.put, List.setIfInBounds_toArray, List.set_cons_zero, List.set_cons_succ]
  refine late_calm (by simp only [opsAt, List.getElem?_toArray, List.getElem?_cons_succ, List.getElem?_cons_zero]; rfl) (by simp only [List.getElem?_toArray, List.getElem?_cons_succ, List.getElem?_cons_zero]; rfl) ?_
  repeat (go_big_quiet_step (rfl))
  refine wpQuiet_nil ?_
  refine calm_next (v := .int .i64 (nd : Int)) (calm_fn (g := 19) (caps := #[]) (args := #[.int .i64 (M : Int), .int .i64 (nn : Int), .bool big]) (.func 19) #[.tmp 56, .tmp 57, .tmp 59] #[3, 3, 4] rfl rfl (enters_of Try.func19 (by kernel_rfl) rfl) (fun w' hw => (NR.out w').mono fun e w'' h => ⟨h.1, by rw [← h.2]; exact Gr.refl _⟩) rfl (by simp [Act.eval])) ?_
  simp only [Act.put, List.setIfInBounds_toArray, List.set_cons_zero, List.set_cons_succ]
  refine late_real (by simp only [opsAt, List.getElem?_toArray, List.getElem?_cons_succ, List.getElem?_cons_zero]; rfl) (by simp only [List.getElem?_toArray, List.getElem?_cons_succ, List.getElem?_cons_zero]; rfl) ?_
  repeat (go_big_quiet_step (rfl))
  refine wpQuiet_nil ?_
  refine real_next rfl ?_
  intro w3 g3 Cw3 K hK
  refine wp_call_fn (g := 18) (caps := #[]) (args := #[.slice A0 len cap0, .int .i64 (nd : Int)]) (.func 18) #[.tmp 54, .tmp 60] #[39, 3] rfl (enters_of Try.func18 (by kernel_rfl) rfl) rfl (by simp [Act.eval]) ?_
  refine (FL.out w3 (B1.out.trans ((bd.out.trans (g3.mono bd.out.size)).mono B1.out.size))).mono ?_
  rintro e w3' ⟨g, rfl, hg, hB, b3⟩
  have GR := Lib.hid ((GR.out.step (bd.out.trans (g3.mono bd.out.size))).step b3)
  have bd := Lib.hid ((bd.out.trans (g3.mono bd.out.size)).trans (b3.mono (bd.out.trans (g3.mono bd.out.size)).size))
  have GB := Lib.hid (show Dat g nd (fillF L) w3' from ⟨hB.lt, fun j hj => hB.at_ j hj⟩)
  clear hg hB b3 g3 Cw3
  refine ⟨_, rfl, ?_⟩
  refine hK _ _ ⟨⟨w3', bd.out⟩, rfl⟩ ?_
  clear hK K
  simp only [Act.put, List.setIfInBounds_toArray, List.set_cons_zero, List.set_cons_succ]
  refine late_real (by simp only [opsAt, List.getElem?_toArray, List.getElem?_cons_succ, List.getElem?_cons_zero]; rfl) (by simp only [List.getElem?_toArray, List.getElem?_cons_succ, List.getElem?_cons_zero]; rfl) ?_
  repeat (go_big_quiet_step (rfl))
  refine wpQuiet_nil ?_
  refine real_next rfl ?_
  intro w4 g4 Cw4 K hK
  refine wp_call_fn (g := 33) (caps := #[]) (args := #[.agg #[.slice A 4 cap, .bool hi, .int .i64 (M : Int)], .int .i64 (xx : Int), .int .i64 (yy : Int), .int .i64 (nn : Int), .bool big, .bool clip, .slice (some ⟨g, 0, none⟩) nd nd]) (.func 33) #[.tmp 41, .tmp 44, .tmp 47, .tmp 48, .tmp 50, .tmp 52, .tmp 61] #[36, 3, 3, 3, 4, 4, 39] rfl (enters_of Try.func33 (by kernel_rfl) rfl) rfl (by simp [Act.eval]) ?_
  refine (DW.out g w4 (GR.out.step g4) (GB.out.step g4)).mono ?_
  rintro e w4' ⟨A2, cap2, gs2, rfl, l2, r2, p2, b4⟩
  have bd := Lib.hid ((bd.out.trans (g4.mono bd.out.size)).trans (b4.mono (Nat.le_trans bd.out.size g4.size)))
  have GR := Lib.hid (show RefB N A2 gs2 F2 w4' from ⟨l2, r2, p2⟩)
  clear b4 g4 Cw4 GB l2 r2 p2
  refine ⟨_, rfl, ?_⟩
  refine hK _ _ ⟨⟨w4', bd.out⟩, rfl⟩ ?_
  clear hK K
  simp only [Act.put, List.setIfInBounds_toArray, List.set_cons_zero, List.set_cons_succ]
  refine late_last (by simp only [opsAt, List.getElem?_toArray, List.getElem?_cons_succ, List.getElem?_cons_zero]; rfl) (by simp only [List.getElem?_toArray, List.getElem?_cons_succ, List.getElem?_cons_zero]; rfl) ?_
  repeat (go_big_quiet_step (rfl))
  refine wpQuiet_nil ?_
  refine last_next rfl ?_
  intro w5 g5 C5 K hK
  obtain ⟨u5, rfl⟩ := C5
  have b5 := Lib.hid u5.below
  have GR := Lib.hid (GR.out.step g5)
  generalize u5.w = w5 at *
  refine wp_store_all (ds := #[.slice A2 4 cap2, .bool hi, .int .i64 (M : Int)]) aggRS (R1.out.step b5.out) rfl rfl (oneRS _ _ _ _ _) (.tmp 4) (.tmp 63) rfl (by simp [Act.eval, Act.put]) (by simp [Act.eval, Act.put]) ?_
  refine hK _ _ ?_
  clear hK K
  simp only [Act.put, List.setIfInBounds_toArray, List.set_cons_zero, List.set_cons_succ]
  simp only [opsAt, List.getElem?_toArray, List.getElem?_cons_succ, List.getElem?_cons_zero]
  repeat (go_big_quiet_step (rfl))
  refine wpQuiet_nil ?_
  intro w6 g6
  have R6 := Lib.hid (show Blk (w.heap.size + 2) 36 (#[.slice A2 4 cap2, .bool hi, .int .i64 (M : Int)]) w6 from (Blk.store (show Blk (w.heap.size + 2) 36 _ w5 from R1.out.step b5.out) (#[.slice A2 4 cap2, .bool hi, .int .i64 (M : Int)])).step g6)
  have GR := Lib.hid ((GR.out.setRow (R1.out.step b5.out) (#[.slice A2 4 cap2, .bool hi, .int .i64 (M : Int)])).step g6)
  have B6 := Lib.hid ((belowRow (B1.out.trans (b5.out.mono B1.out.size)) (by omega : w.heap.size ≤ w.heap.size + 2) (#[.slice A2 4 cap2, .bool hi, .int .i64 (M : Int)])).trans (g6.mono (by have := B1.out.size; have := b5.out.size; simp [World.setRow]; omega)))
  clear R1 B1 b5 g5 g6 bd
  iterate 3 go_step
  exact bodyPost_ret (results_cell_and rfl _ _ (w.heap.size + 2) _ _ _ _ (.bool cv) rfl rfl R6.out Try.underlying36 rfl (by rw [aggRS.i]; rfl)) rfl ⟨F2, A2, cap2, gs2, REL.out, by rw [ZH.out], GR.out, B6.out⟩
theorem model_any (N : Nat) (hN : N = 8192) (S : Sc) (F : Nat → Nat → Bool) (hrel : Rel S F) (A : Option Addr) (cap : Nat) (gs : List Nat) (hi : Bool) (hhi : S.hi = hi) (M : Nat) (hM : S.M = (M : Int)) (M1 : M ≤ 15) (q : Stp) (L : List Nat) (w : World) (hx : StpOk q L w) (H : RefB N A gs F w) :
    Calls Try.prog 13 #[.agg #[.slice A 4 cap, .bool hi, .int .i64 (M : Int)], .agg (stc q)] w (ModP N (doS S M q L).1 (doM M q) (doS S M q L).2 w) := by
  obtain ⟨k, m, hires, x, y, n, big, clip, A0, len, cap0⟩ := q
  by_cases h0 : k = 0
  · subst h0; exact model_sel N hN S F hrel A cap gs hi hhi M hM M1 0 m x y n hires big clip A0 len cap0 L w hx H rfl
  · by_cases h1 : k = 1
    · subst h1; exact model_clr N hN S F hrel A cap gs hi hhi M hM M1 1 m x y n hires big clip A0 len cap0 L w hx H rfl
    · by_cases h2 : k = 2
      · subst h2; exact model_res N hN S F hrel A cap gs hi hhi M hM M1 2 m x y n hires big clip A0 len cap0 L w hx H rfl
      · by_cases h3 : k = 3
        · subst h3; exact model_scr N hN S F hrel A cap gs hi hhi M hM M1 3 m x y n hires big clip A0 len cap0 L w hx H rfl
        · exact model_drw N hN S F hrel A cap gs hi hhi M hM M1 k m x y n hires big clip A0 len cap0 L w hx H h0 h1 h2 h3
end Go.Proofs.Ytplmmfgmbfcjpaa
