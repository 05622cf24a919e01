/- The contract of keypad.All and of its closure. -/
import Derived.Test.YtdlomdkapepkbaaKeyApply
import Derived.Test.YtdlomdkapepkbaaRow
import Derived.Test.YtdlomdkapepkbaaLate
import Derived.Laws.OwnMore
import Derived.Maps.AppendAt
namespace Go.Proofs.Ytdlomdkapepkbaa
open Go.RowKit Num
set_option linter.unusedVariables false
set_option linter.unusedSimpArgs false

theorem infoIntK : (Try.prog.info? 3).map (fun i => (i.zero, i.size, i.bytes)) = some (some (.int .i64 0), 1, 8) := by kernel_rfl
/-- A variable of another type is no slice's own row. -/
theorem Blk.not_row {b base size k : Nat} {T e : TypeId} {cs : Array Value} {w : World} {v : Value} {xs : List Value} (h : Blk b T cs w) (hne : T ≠ e) (hr : w.ownsRow base e size v k xs) : some b ≠ v.ownBlock := by
  rcases hr.2 with ⟨rfl, _⟩ | ⟨g, cap, cur, rfl, _, hgb, _⟩
  · simp [Value.ownBlock]
  · intro e'
    obtain rfl : b = g := by simpa [Value.ownBlock] using e'
    have : some (Obj.cells cs T (0, 0)) = some (.cells cur e (0, 0)) := (show w.heap[b]? = _ from h).symm.trans hgb
    injection this with this
    injection this with _ h1
    exact hne h1
theorem grown_of_below {w w' : World} (hb : Below w.heap.size w w') : w.grownBy w' none := ⟨hb.os, hb.tape, hb.output, hb.size, fun k hk _ => hb.block k hk⟩
theorem own_step {w w' : World} {base size k : Nat} {e : TypeId} {v : Value} {xs : List Value} (h : w.ownsRow base e size v k xs) (hb : Below w.heap.size w w') : w'.ownsRow base e size v k xs :=
  h.kept (grown_of_below hb) (by
    rcases h.2 with ⟨rfl, _⟩ | ⟨g, cap, cur, rfl, _⟩
    · exact .inl rfl
    · exact .inr (by simp [Value.ownBlock]))
/-- What the loop of All has made so far: the keypad, and the list of the keys that were released. -/
structure Rec (n p r : Nat) (K : Nat → Bool) (L : List Int) (w : World) : Prop where
  pad : KB p K w
  list : ∃ v, Boxed w r 32 v ∧ w.ownsRow n 3 1 v L.length (L.map (Value.int .i64))
theorem Rec.step {n p r : Nat} {K : Nat → Bool} {L : List Int} {w w' : World} (h : Rec n p r K L w) (hb : Below w.heap.size w w') : Rec n p r K L w' := by
  obtain ⟨h1, v, h2, h3⟩ := h
  exact ⟨h1.step hb, v, (hb.block r h2.lt).trans h2, own_step h3 hb⟩

theorem grown_setRow (w : World) (b : Nat) (cs : Array Value) : w.grownBy (w.setRow b cs) (some b) :=
  ⟨rfl, rfl, rfl, by simp [World.setRow], fun k _ hk => setRow_other w b k cs (fun e => hk (by rw [e]))⟩
theorem KB.ne_box {p r : Nat} {K : Nat → Bool} {w : World} {v : Value} (h : KB p K w) (hv : Boxed w r 32 v) : r ≠ p := by
  rintro rfl
  have : some (Obj.cells (kc K) 26 (0, 0)) = some (.cells #[v] 32 (0, 0)) := (show w.heap[r]? = _ from h).symm.trans hv
  injection this with this
  injection this with _ h1
  exact absurd h1 (by decide)
/-- Another variable, behind an append to the list and the store of what it gave. -/
theorem Blk.appended {b r base size k : Nat} {T e : TypeId} {cs : Array Value} {w w1 : World} {v u : Value} {xs : List Value} {tmp : Obj} (h : Blk b T cs w) (hne : T ≠ e) (hr : w.ownsRow base e size v k xs) (hg : (w.alloc tmp).grownBy w1 v.ownBlock) (hb : b ≠ r) : Blk b T cs (w1.setCell ⟨r, 0, none⟩ u) :=
  Blk.other (show Blk b T cs w1 from (hg.block b (by have := h.lt; simp; omega) (h.not_row hne hr)).trans (h.alloc tmp)) hb 0 u
/-- The keypad is stored. -/
theorem Rec.store {n p r : Nat} {K K' : Nat → Bool} {L : List Int} {w : World} (h : Rec n p r K L w) : Rec n p r K' L (w.setRow p (kc K')) := by
  obtain ⟨h1, v, h2, h3⟩ := h
  exact ⟨h1.store K', v, (setRow_other w p r _ (h1.ne_box h2)).trans h2, h3.kept (grown_setRow w p _) (.inr fun e => Blk.not_row h1 (by decide) h3 e.symm)⟩

set_option maxRecDepth 100000 in
set_option maxHeartbeats 2000000 in
theorem all1_any (n p r : Nat) (K K' : Nat → Bool) (rl : Bool) (k : Int) (d : Bool) (L L' : List Int) (w : World) (hK : K' = ap K ⟨k, d⟩) (hr : rl = rel K ⟨k, d⟩) (hL' : L' = if rl then L ++ [k] else L) (np : n ≤ p) (nr : n ≤ r) (hn : n ≤ w.heap.size) (hL : L.length ≤ 100000) (H : Rec n p r K L w) (s : Nat) (K0 : Nat → Bool) (hs : s ≠ p) (HX : KB s K0 w) :
    Calls Try.prog 16 #[.agg #[.int .i64 k, .bool d], .pointer (some ⟨p, 0, none⟩), .pointer (some ⟨r, 0, none⟩)] w fun x w' => x = .returned (.tuple #[]) ∧ (Rec n p r K' L' w' ∧ KB s K0 w') ∧ Below n w w' := by
  obtain ⟨i0, hi, hz0, hz1, hz2⟩ := info_parts infoIntK
  have AP := Lib.hid fun w => (hK ▸ hr ▸ apply_any K ⟨k, d⟩ w : Calls Try.prog 8 #[.agg (kc K), .agg (ec ⟨k, d⟩)] w fun x w' => x = .returned (.tuple #[.agg (kc K'), .bool rl]) ∧ Below w.heap.size w w')
  have HR := Lib.hid (H.step (below_newK w (.cells #[.int .i64 k, .bool d] 30)))
  have B := Lib.hid ((Below.refl n w).alloc hn (.cells #[.int .i64 k, .bool d] 30))
  have E := Lib.hid (Blk.new w 30 #[.int .i64 k, .bool d])
  have N1 := Lib.hid (And.intro np nr)
  have HL := Lib.hid hL'
  have X := Lib.hid (HX.step (below_newK w (.cells #[.int .i64 k, .bool d] 30)))
  clear HX
  clear H hK hr np nr hL'
  go_enter Try.func16, Try.ntmps16
  go_upto_region 1 with fail
  have hn1 : n ≤ (w.alloc (.cells #[.int .i64 k, .bool d] 30)).heap.size := by simp; omega
  generalize w.alloc (.cells #[.int .i64 k, .bool d] 30) = w1 at *
  obtain ⟨q, hq⟩ : ∃ q, w.heap.size = q := ⟨_, rfl⟩
  rw [hq] at E ⊢
  clear hq hn
  refine wp_region_lit ?_
  refine list_load_all aggPad HR.out.pad (kc_size _) rfl (.tmp 1) rfl (by simp [Act.eval]) ?_
  simp only [Act.put, List.setIfInBounds_toArray, List.set_cons_zero, List.set_cons_succ]
  refine list_load_all aggEv E.out rfl rfl (.tmp 3) rfl (by simp [Act.eval]) ?_
  simp only [Act.put, List.setIfInBounds_toArray, List.set_cons_zero, List.set_cons_succ]
  go_wp2_with fail
  refine (AP.out _).mono ?_
  rintro e w2 ⟨rfl, b1⟩
  have HR := Lib.hid (HR.out.step b1)
  have E := Lib.hid (E.out.step b1)
  have X := Lib.hid (X.out.step b1)
  have B := Lib.hid (B.out.trans (b1.mono hn1))
  have hn2 : n ≤ w2.heap.size := Nat.le_trans hn1 b1.size
  clear b1 hn1 AP
  simp only []
  go_at_K
  iterate 10 go_step
  refine list_var_all (ds := kc K') aggPad zeroPad (kc_size _) (kc_size _) (kc_one _) rfl rfl rfl (.tmp 4) (.tmp 10) rfl (by simp [Act.eval, Act.put]) (by simp [Act.eval, Act.put]) ?_
  simp only [Act.put, List.setIfInBounds_toArray, List.set_cons_zero, List.set_cons_succ]
  have Q := Lib.hid (KB.new w2 K')
  have BA := below_newK w2 (.cells (kc K') 26)
  have HR := Lib.hid (HR.out.step BA)
  have E := Lib.hid (E.out.step BA)
  have X := Lib.hid (X.out.step BA)
  have B := Lib.hid (B.out.trans (BA.mono hn2))
  have QN := Lib.hid hn2
  have hn3 : n ≤ (w2.alloc (.cells (kc K') 26)).heap.size := by simp; omega
  obtain ⟨g, hg⟩ : ∃ g, w2.heap.size = g := ⟨_, rfl⟩
  generalize w2.alloc (.cells (kc K') 26) = w3 at *
  rw [hg] at Q QN ⊢
  clear hg BA hn2
  obtain ⟨hp, v, hv, hrow⟩ := HR.out
  have P := Lib.hid hp
  clear hp HR
  have c1 := E.out.cell 0
  simp at c1
  have cv := hv.cell
  have fv := hv.frozen
  have nb := N1.out.2
  cases rl
  · have HS := Lib.hid (show Rec n p r K L w3 from ⟨P.out, v, hv, hrow⟩)
    clear hv hrow nb
    go_upto_region 4 with fail
    refine wp_region_lit ?_
    refine list_load_all aggPad Q.out (kc_size _) rfl (.tmp 4) rfl (by simp [Act.eval]) ?_
    simp only [Act.put, List.setIfInBounds_toArray, List.set_cons_zero, List.set_cons_succ]
    refine list_store_all (ds := kc K') aggPad P.out (kc_size _) (kc_size _) (kc_one _) rfl (.tmp 1) (.tmp 18) rfl (by simp [Act.eval, Act.put]) (by simp [Act.eval, Act.put]) ?_
    iterate 2 go_step
    refine bodyPost_end (results_none rfl _ _ _) rfl ?_
    exact ⟨rfl, ⟨by rw [HL.out]; exact HS.out.store, X.out.otherRow hs _⟩, belowRowK B.out N1.out.1 _⟩
  · go_upto_region 4 with (at_builtin; refine wpList_append_own _ rfl _ _ 32 rfl n 3 i0 (.int .i64 0) 1 8 Try.underlying32 hi hz0 hz1 hz2 rfl (by decide) _ _ _ rfl (hrow.alloc _) ⟨_, 0, none⟩ 1 1 [.int .i64 k] rfl rfl (cell_one_new _ _ _) (by simp [Value.oneCell']) (by unfold maxLen; omega) (by omega) (by simp; omega) ?_; intro v' w4 hown' hgrow _; obtain ⟨g', cap', rfl⟩ := ownsRow_succ hown'; obtain ⟨hv1, hv2, hr2, hk2, hb2⟩ := hv.appended (by decide) hrow hn3 nb hown' hgrow; have hc1 := hv1.cell; have hf1 := hv1.frozen)
    have hg' : (w3.alloc (.cells #[.int .i64 k] 3)).grownBy w4 v.ownBlock := hgrow
    have P := Lib.hid (show KB p K _ from Blk.appended (u := .slice (some ⟨g', 0, none⟩) (L.length + 1) cap') P.out (by decide) hrow hg' (P.out.ne_box hv).symm)
    have X := Lib.hid (show KB s K0 _ from Blk.appended (u := .slice (some ⟨g', 0, none⟩) (L.length + 1) cap') X.out (by decide) hrow hg' (X.out.ne_box hv).symm)
    have Q := Lib.hid (show KB g K' _ from Blk.appended (u := .slice (some ⟨g', 0, none⟩) (L.length + 1) cap') Q.out (by decide) hrow hg' (Q.out.ne_box hv).symm)
    have HS := Lib.hid (show Rec n p r K (L ++ [k]) _ from ⟨P.out, _, hv2, by simpa using hr2⟩)
    have B := Lib.hid (B.out.trans (hb2.mono (Nat.le_refl _)))
    clear hv hrow nb hv1 hv2 hr2 hk2 hb2 hc1 hf1 hg' hgrow hown' cv fv c1
    generalize w4.setCell ⟨r, 0, none⟩ (.slice (some ⟨g', 0, none⟩) (L.length + 1) cap') = w5 at *
    refine wp_region_lit ?_
    refine list_load_all aggPad Q.out (kc_size _) rfl (.tmp 4) rfl (by simp [Act.eval]) ?_
    simp only [Act.put, List.setIfInBounds_toArray, List.set_cons_zero, List.set_cons_succ]
    refine list_store_all (ds := kc K') aggPad P.out (kc_size _) (kc_size _) (kc_one _) rfl (.tmp 1) (.tmp 18) rfl (by simp [Act.eval, Act.put]) (by simp [Act.eval, Act.put]) ?_
    iterate 2 go_step
    refine bodyPost_end (results_none rfl _ _ _) rfl ?_
    exact ⟨rfl, ⟨by rw [HL.out]; exact HS.out.store, X.out.otherRow hs _⟩, belowRowK B.out N1.out.1 _⟩

/-- A world in which a keypad's block and a box read so. -/
def Held2 (p r : Nat) (K : Nat → Bool) (v : Value) : Type := { w : World // KB p K w ∧ w.cell? ⟨r, 0, none⟩ = some v }
def Held2.w {p r : Nat} {K : Nat → Bool} {v : Value} (x : Held2 p r K v) : World := x.1
theorem Held2.pad {p r : Nat} {K : Nat → Bool} {v : Value} (x : Held2 p r K v) : KB p K x.w := x.2.1
theorem Held2.cell {p r : Nat} {K : Nat → Bool} {v : Value} (x : Held2 p r K v) : x.w.cell? ⟨r, 0, none⟩ = some v := x.2.2
/-- What All gives: the keypad, and a slice of the released keys. -/
def Alls (K : Nat → Bool) (L : List Int) (w : World) (x : Ending) (w' : World) : Prop := (∃ A c, x = .returned (.tuple #[.agg (kc K), .slice A L.length c]) ∧ Row (Value.int .i64) w' A L) ∧ Below w.heap.size w w'
set_option maxRecDepth 100000 in
set_option maxHeartbeats 2000000 in
theorem all_any (K K1 : Nat → Bool) (L1 : List Int) (A : Option Addr) (n c : Nat) (l : List Ev) (w : World) (H : Evs w A n l) (hn : n ≤ 1000) (hK : K1 = aft K l) (hL : L1 = rls K l) :
    Calls Try.prog 10 #[.agg (kc K), .slice A n c] w (Alls K1 L1 w) := by
  have HK := Lib.hid hK
  have HL := Lib.hid hL
  have hz := zeroKeys
  have hl : l.length = n := H.len
  have HE := Lib.hid H
  clear hK hL H
  have HZ := Lib.hid hl
  clear hl
  have P := Lib.hid (((KB.new w K).alloc (.cells (kc up) 26)).alloc (.cells #[.slice none 0 0] 32))
  have R := Lib.hid ((KB.new (w.alloc (.cells (kc K) 26)) up).alloc (.cells #[.slice none 0 0] 32))
  have V := Lib.hid (Boxed.new ((w.alloc (.cells (kc K) 26)).alloc (.cells (kc up) 26)) 32 (.slice none 0 0))
  have B := Lib.hid (((below_newK w (.cells (kc K) 26)).alloc (by simp) (.cells (kc up) 26)).alloc (by simp; omega) (.cells #[.slice none 0 0] 32))
  simp only [World.size_alloc] at P R V B
  go_enter Try.func10, Try.ntmps10
  go_upto_region 2 with fail
  generalize ((w.alloc (.cells (kc K) 26)).alloc (.cells (kc up) 26)).alloc (.cells #[.slice none 0 0] 32) = w1 at *
  clear hz
  obtain ⟨p, hp⟩ : ∃ p, w.heap.size = p := ⟨_, rfl⟩
  have HP := Lib.hid hp
  rw [hp] at P R V B ⊢
  clear hp
  go_wp2
  go_loopw [13] (fun i wr => ∃ k : Nat, k ≤ n ∧ i = .int .i64 k ∧ Rec p p (p + 1 + 1) (aft K (l.take k)) (rls K (l.take k)) wr ∧ KB (p + 1) up wr ∧ Below p w wr) (fun i _ => n - (intOf i).toNat)
  case atStart => exact ⟨0, Nat.zero_le _, rfl, ⟨P.out, _, V.out, World.ownsRow_nil _ _ _ _⟩, R.out, B.out⟩
  case round =>
    clear P R V B
    obtain ⟨k, hk, rfl, hrec, hx, hb⟩ := hrel
    have HX := Lib.hid hx
    clear hx
    by_cases hlt : k < n
    · have hb2 : Below w.heap.size w wr := by rw [HP.out]; exact hb
      have hkl : k < l.length := by rw [HZ.out]; exact hlt
      obtain ⟨b, o, hA, hbl, c1, c2, ok⟩ := (HE.out.step hb2).at_ k hkl
      subst hA
      have k1 : (k : Int) < (n : Int) := by omega
      have k0 : 0 ≤ (k : Int) := by omega
      obtain ⟨e, he⟩ : ∃ e, e = l[k] := ⟨_, rfl⟩
      rw [← he] at c1 c2
      have SA := Lib.hid (he ▸ aft_succ K l k hkl)
      have SL := Lib.hid (he ▸ rls_succ K l k hkl)
      have HB := Lib.hid hb
      have HR := Lib.hid hrec
      clear he ok hb hb2 hrec hkl
      obtain ⟨ek, ed⟩ := e
      simp only at c1 c2
      have b3 := below_newK wr (.cells #[.int .i64 ek, .bool ed] 30)
      have HR := Lib.hid (HR.out.step b3)
      have HX := Lib.hid (HX.out.step b3)
      have hz : p ≤ wr.heap.size := by have := HB.out.size; have := HP.out; omega
      have HB := Lib.hid (HB.out.trans (b3.mono hz))
      have hz3 : p ≤ (wr.alloc (.cells #[.int .i64 ek, .bool ed] 30)).heap.size := by simp; omega
      clear b3
      have hln : (rls K (l.take k)).length ≤ 100000 := by
        have h1 := rls_le K (l.take k)
        rw [List.length_take] at h1
        omega
      go_wp2_with fail
      clear c1 c2
      generalize wr.alloc (.cells #[.int .i64 ek, .bool ed] 30) = wq at *
      refine (all1_any p p (p + 1 + 1) (aft K (l.take k)) (aft K (l.take (k + 1))) (rel (aft K (l.take k)) ⟨ek, ed⟩) ek ed (rls K (l.take k)) (rls K (l.take (k + 1))) wq SA.out rfl (by rw [SL.out]; unfold one; split <;> simp) (Nat.le_refl _) (by omega) hz3 hln HR.out (p + 1) up (by omega) HX.out).mono ?_
      rintro e w5 ⟨rfl, ⟨h5, x5⟩, b5⟩
      have HR := Lib.hid h5
      have HX := Lib.hid x5
      have HB := Lib.hid (HB.out.trans b5)
      clear h5 x5 b5 hz3 hln
      go_wp2
      go_roundw
      case rel => exact ⟨k + 1, by omega, by go_num, HR.out, HX.out, HB.out⟩
      case measure => simp [intOf]; omega
    · have hkn : k = n := by omega
      have k1 : ¬ (k : Int) < (n : Int) := by omega
      have e1 : l.take k = l := List.take_of_length_le (by rw [HZ.out]; omega)
      rw [e1, ← HK.out, ← HL.out] at hrec
      obtain ⟨h1, v, h2, h3⟩ := hrec
      have P := Lib.hid h1
      have V := Lib.hid h2
      have O := Lib.hid h3
      have B := Lib.hid hb
      clear e1 h1 h2 h3 hb hkn HK HL HE HZ
      go_upto_region 8 with fail
      clear k1
      have hc := Boxed.cell V.out
      haveI : Nonempty (Held2 p (p + 1 + 1) K1 v) := ⟨⟨wr, P.out, hc⟩⟩
      have C0 := Lib.hid (show ∃ x : Held2 p (p + 1 + 1) K1 v, wr.drew = x.w from ⟨⟨wr.drew, P.out.drew, hc⟩, rfl⟩)
      clear hc
      have KP := Lib.hid (fun (w' : World) (hw : ∃ u : Held2 p (p + 1 + 1) K1 v, w' = u.w) => show KB p K1 w' by obtain ⟨u, rfl⟩ := hw; exact u.pad)
      have kv : ∀ u : Held2 p (p + 1 + 1) K1 v, u.w.cell? ⟨p + 1 + 1, 0, none⟩ = some v := fun u => u.cell
      refine wp_region_mix (C := fun w' => ∃ u : Held2 p (p + 1 + 1) K1 v, w' = u.w) [([0, 1], 2)] [3] (by kernel_rfl) (by kernel_rfl) (fun _ _ d _ _ h => by cases d <;> exact h) C0.out ?_
      intro wd hwd
      have B6 := Lib.hid (show Below wr.heap.size wr wd by rw [hwd]; exact (Below.refl _ _).drew)
      have C6 := Lib.hid (show ∃ x : Held2 p (p + 1 + 1) K1 v, wd = x.w by rw [hwd]; exact C0.out)
      clear hwd C0
      refine mix_run (by simp only [opsAt, List.getElem?_toArray, List.getElem?_cons_succ, List.getElem?_cons_zero]; rfl) (by simp only [List.getElem?_toArray, List.getElem?_cons_succ, List.getElem?_cons_zero]; rfl) ?_
      repeat (first
        | (refine quiet_load_all aggPad KP.out (kc_size _) ?_ (.tmp 2) ?_ ?_ ?_; (focus rfl); (focus rfl); (focus (simp [Act.eval]; done)); simp only [Act.put, List.setIfInBounds_toArray, List.set_cons_zero, List.set_cons_succ])
        | go_big_quiet_step (rfl))
      refine wpQuiet_nil ?_
      refine mix_call (by rfl) ?_
      intro K8 hK
      have X6 := Lib.hid (HX.out.step B6.out)
      have O6 := Lib.hid (own_step O.out B6.out)
      have P6 := Lib.hid (P.out.step B6.out)
      have V6 := Lib.hid (show Boxed wd (p + 1 + 1) 32 v from (B6.out.block _ V.out.lt).trans V.out)
      have D6 := Lib.hid (B.out.trans (B6.out.mono (by have := P.out.lt; omega)))
      refine wp_store_all (ds := kc K1) aggPad X6.out (kc_size _) (kc_size _) (kc_one _) (.tmp 4) (.tmp 21) rfl (by simp [Act.eval, Act.put]) (by simp [Act.eval, Act.put]) ?_
      have X8 := Lib.hid (X6.out.store K1)
      have O8 := Lib.hid (O6.out.kept (grown_setRow wd (p + 1) (kc K1)) (.inr fun e => Blk.not_row X6.out (by decide) O6.out e.symm))
      have D8 := Lib.hid (belowRowK D6.out (Nat.le_succ p) (kc K1))
      have C8 := Lib.hid (show ∃ x : Held2 p (p + 1 + 1) K1 v, wd.setRow (p + 1) (kc K1) = x.w from ⟨⟨_, P6.out.otherRow (by omega) _, Boxed.cell ((setRow_other wd (p + 1) (p + 1 + 1) _ (by omega)).trans V6.out)⟩, rfl⟩)
      refine hK _ _ C8.out ?_
      clear hK K8
      simp only [Act.put, List.setIfInBounds_toArray, List.set_cons_zero, List.set_cons_succ]
      generalize wd.setRow (p + 1) (kc K1) = w8 at *
      refine mix_last (by simp only [opsAt, List.getElem?_toArray, List.getElem?_cons_succ, List.getElem?_cons_zero]; rfl) ?_
      repeat (go_big_quiet_step (rfl))
      refine wpQuiet_nil ?_
      iterate 3 go_step
      obtain ⟨A8, c8, rfl⟩ := own_form O8.out
      exact bodyPost_ret (results_cell_slot rfl _ _ (p + 1) _ _ _ _ _ rfl rfl X8.out Try.underlying26 rfl (by rw [aggPad.i, kc_size])) rfl ⟨⟨A8, c8, rfl, Row.of_own O8.out⟩, by rw [HP.out]; exact D8.out⟩

end Go.Proofs.Ytdlomdkapepkbaa
