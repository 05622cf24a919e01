/- The reference's screen (layer 8): its planes as a list of lists; 'with'. -/
import Derived.Test.YtplmmfgmbfcjpaaScrNum
import Derived.Test.YtplmmfgmbfcjpaaRow
import Derived.Test.YtplmmfgmbfcjpaaArr
import Derived.Deep.RegionLaw
import Derived.Deep.Cut
import Derived.Deep.WholeRow
import Derived.Laws.Tables
import Derived.Deep.AppendLies
import Derived.Laws.AppendOwn
import Derived.KernelRfl
import Derived.Test.YtplmmfgmbfcjpaaPlaneRefDr
import Derived.Deep.RegionWith
import Derived.Test.YtplmmfgmbfcjpaaPlaneStep
namespace Go.Proofs.Ytplmmfgmbfcjpaa
open Go.RowKit Num
set_option linter.unusedVariables false
set_option linter.unusedSimpArgs false

/-- A list of N pixels in block g. -/
def encP (N g : Nat) : Value := .slice (some ⟨g, 0, none⟩) N N
/-- The block q holds a reference screen. -/
def SOut (q : Nat) (v : Value) (hi : Bool) (M : Int) (w : World) : Prop := w.heap[q]? = some (.cells #[v, .bool hi, .int .i64 M] 36 (0, 0))
section
variable {q : Nat} {v : Value} {hi : Bool} {M : Int} {w w' : World}
theorem SOut.lt (H : SOut q v hi M w) : q < w.heap.size := (Array.getElem?_eq_some_iff.1 H).1
theorem SOut.step (H : SOut q v hi M w) (hb : Below w.heap.size w w') : SOut q v hi M w' := (hb.block q H.lt).trans H
theorem SOut.new (w : World) (v : Value) (hi : Bool) (M : Int) : SOut w.heap.size v hi M (w.alloc (.cells #[v, .bool hi, .int .i64 M] 36)) := heap_alloc_new _ _
theorem SOut.alloc (H : SOut q v hi M w) (o : Obj) : SOut q v hi M (w.alloc o) := H.step ((Below.refl _ _).alloc (Nat.le_refl _) _)
theorem SOut.c0 (H : SOut q v hi M w) : w.cell? ⟨q, 0, none⟩ = some v := by rw [cell_of_row w q 0 _ _ _ H]; rfl
theorem SOut.c1 (H : SOut q v hi M w) : w.cell? ⟨q, 1, none⟩ = some (.bool hi) := by rw [cell_of_row w q 1 _ _ _ H]; rfl
theorem SOut.c2 (H : SOut q v hi M w) : w.cell? ⟨q, 2, none⟩ = some (.int .i64 M) := by rw [cell_of_row w q 2 _ _ _ H]; rfl
theorem SOut.fz (H : SOut q v hi M w) (j : Nat) : w.frozen? ⟨q, j, none⟩ = false := frozen_of_row w q j _ _ H
theorem SOut.put (H : SOut q v hi M w) (u : Value) : SOut q u hi M (w.setCell ⟨q, 0, none⟩ u) := by
  unfold SOut
  rw [setCell_eq_setRow w q 0 _ _ (0, 0) u H]
  exact setRow_heap w q _ _ _ (0, 0) H
theorem SOut.other (H : SOut q v hi M w) {g : Nat} (hg : q ≠ g) (o : Nat) (u : Value) : SOut q v hi M (w.setCell ⟨g, o, none⟩ u) := (Below.heap_setCell w ⟨g, o, none⟩ u q hg).trans H
end
/-- A row stays where another block is written. -/
theorem own_other {w : World} {base size n : Nat} {e : TypeId} {v : Value} {xs : List Value} {q : Nat} (h : w.ownsRow base e size v n xs) (hq : some q ≠ v.ownBlock) (o : Nat) (u : Value) : (w.setCell ⟨q, o, none⟩ u).ownsRow base e size v n xs := by
  refine ⟨h.1, h.2.imp id ?_⟩
  rintro ⟨b, cap, cur, rfl, hb, hh, r⟩
  refine ⟨b, cap, cur, rfl, hb, (Below.heap_setCell w ⟨q, o, none⟩ u b ?_).trans hh, r⟩
  rintro rfl
  exact hq rfl
theorem SOut.kept {q : Nat} {v : Value} {hi : Bool} {M : Int} {w w' : World} (H : SOut q v hi M w) (tmp : Obj) {row : Option Nat} (hg : (w.alloc tmp).grownBy w' row) (hne : some q ≠ row) : SOut q v hi M w' := block_kept tmp H hg hne
theorem SOut.drew {q : Nat} {v : Value} {hi : Bool} {M : Int} {w : World} (H : SOut q v hi M w) : SOut q v hi M w.drew := H
theorem SOut.grown {q : Nat} {v : Value} {hi : Bool} {M : Int} {w w' : World} (H : SOut q v hi M w) {row : Option Nat} (hg : w.grownBy w' row) (hne : some q ≠ row) : SOut q v hi M w' := (hg.block q H.lt hne).trans H
theorem SOut.row {q : Nat} {v : Value} {hi : Bool} {M : Int} {w : World} (H : SOut q v hi M w) {base size k : Nat} {u : Value} {xs : List Value} (hr : w.ownsRow base 64 size u k xs) : some q ≠ u.ownBlock := block_not_row H (by decide) hr
theorem own_setRow {w : World} {base size n : Nat} {e : TypeId} {v : Value} {xs : List Value} {q : Nat} (h : w.ownsRow base e size v n xs) (hq : some q ≠ v.ownBlock) (cs : Array Value) : (w.setRow q cs).ownsRow base e size v n xs := by
  refine ⟨h.1, h.2.imp id ?_⟩
  rintro ⟨b, cap, cur, rfl, hb, hh, r⟩
  refine ⟨b, cap, cur, rfl, hb, (setRow_other w q b cs ?_).trans hh, r⟩
  rintro rfl
  exact hq rfl
theorem infoScr : (Try.prog.info? 36).map (·.size) = some 3 := by kernel_rfl
theorem belowSet {B : Nat} {a w : World} (h : Below B a w) {g : Nat} (hg : B ≤ g) (cs : Array Value) : Below B a (w.setRow g cs) :=
  h.trans ⟨rfl, rfl, rfl, by simp [World.setRow], fun k hk => setRow_other w g k cs (by omega)⟩
theorem infoRow8 : (Try.prog.info? 64).map (fun i => (i.zero, i.size, i.bytes)) = some (some (.slice none 0 0), 1, 24) := by kernel_rfl
theorem set_take (gs : List Nat) (i k x : Nat) (hk : k < gs.length) : (gs.set i x).take (k + 1) = (gs.set i x).take k ++ [if k = i then x else gs.getD k 0] := by
  rw [List.take_succ_eq_append_getElem (by simpa using hk), List.getElem_set]
  congr 2
  by_cases e : i = k
  · rw [if_pos e, if_pos e.symm]
  · rw [if_neg e, if_neg (fun h => e h.symm)]
    simp [hk]
set_option maxRecDepth 100000 in
set_option maxHeartbeats 4000000 in
theorem with_any (N : Nat) (A : Option Addr) (cap : Nat) (gs : List Nat) (hi : Bool) (M : Int) (i x : Nat) (w : World) (hgs : gs.length = 4) (hi4 : i < 4) (H : Row (encP N) w A gs) :
    Calls Try.prog 47 #[.agg #[.slice A 4 cap, .bool hi, .int .i64 M], .int .i64 (i : Int), encP N x] w fun e w' => ∃ A' cap', e = .returned (.agg #[.slice A' 4 cap', .bool hi, .int .i64 M]) ∧ Row (encP N) w' A' (gs.set i x) ∧ Below w.heap.size w w' ∧ ∀ ad, A' = some ad → w.heap.size ≤ ad.block := by
  obtain ⟨i0, hinfo, hz⟩ := Option.map_eq_some_iff.1 infoRow8
  simp only [Prod.mk.injEq] at hz
  obtain ⟨hz0, hz1, hz2⟩ := hz
  have HH := Lib.hid (And.intro H hgs)
  have II := Lib.hid hi4
  have HI := Lib.hid (And.intro hinfo (And.intro hz0 (And.intro hz1 hz2)))
  have iI : (i : Int) < 4 := by omega
  clear H hgs hinfo hz0 hz1 hz2 hi4
  rw [show encP N x = .slice (some ⟨x, 0, none⟩) N N from rfl]
  go_enter Try.func47, Try.ntmps47
  go_wp2
  have S0 := Lib.hid ((SOut.new w (.slice A 4 cap) hi M).alloc (.cells #[.slice none 0 0, .bool false, .int .i64 0] 36))
  have B0 := Lib.hid (((Below.refl _ w).alloc (Nat.le_refl _) (.cells #[.slice A 4 cap, .bool hi, .int .i64 M] 36)).alloc (by simp) (.cells #[.slice none 0 0, .bool false, .int .i64 0] 36))
  have S1 := Lib.hid (SOut.new (w.alloc (.cells #[.slice A 4 cap, .bool hi, .int .i64 M] 36)) (.slice none 0 0) false 0)
  rw [show (w.alloc (.cells #[.slice A 4 cap, .bool hi, .int .i64 M] 36)).heap.size = w.heap.size + 1 by simp] at S1
  have Z2 : ((w.alloc (.cells #[.slice A 4 cap, .bool hi, .int .i64 M] 36)).alloc (.cells #[.slice none 0 0, .bool false, .int .i64 0] 36)).heap.size = w.heap.size + 1 + 1 := by simp
  generalize (w.alloc (.cells #[.slice A 4 cap, .bool hi, .int .i64 M] 36)).alloc (.cells #[.slice none 0 0, .bool false, .int .i64 0] 36) = w2 at *
  have S2 := Lib.hid (SOut.new w2 (.slice none 0 0) hi M)
  rw [Z2] at S2
  have S0 := Lib.hid (S0.out.alloc (.cells #[.slice none 0 0, .bool hi, .int .i64 M] 36))
  have S1 := Lib.hid (S1.out.alloc (.cells #[.slice none 0 0, .bool hi, .int .i64 M] 36))
  have B0 := Lib.hid (B0.out.alloc (by rw [Z2]; omega) (.cells #[.slice none 0 0, .bool hi, .int .i64 M] 36))
  clear Z2
  generalize w2.alloc (.cells #[.slice none 0 0, .bool hi, .int .i64 M] 36) = w3 at *
  go_loopw [8] (fun t wr => ∃ (k : Nat) (v : Value), k ≤ 4 ∧ t = .int .i64 (k : Int) ∧ SOut w.heap.size (.slice A 4 cap) hi M wr ∧ SOut (w.heap.size + 1) (.slice none 0 0) false 0 wr ∧ SOut (w.heap.size + 1 + 1) v hi M wr ∧ wr.ownsRow w.heap.size 64 1 v k (((gs.set i x).take k).map (encP N)) ∧ Below w.heap.size w wr) (fun t _ => 4 - (intOf t).toNat)
  case atStart => exact ⟨0, _, by omega, rfl, S0.out, S1.out, S2.out, World.ownsRow_nil _ _ _ _, B0.out⟩
  case round =>
    clear S0 S1 S2 B0
    obtain ⟨k, v, hk, rfl, h0, h1, h2, hown, hb⟩ := hrel
    have Q := Lib.hid (And.intro h0 (And.intro h1 (And.intro h2 (And.intro hown hb))))
    clear h0 h1 h2 hown hb
    by_cases hlt : k < 4
    · have kI : (k : Int) < 4 := by omega
      have ST := Lib.hid (set_take gs i k x (by rw [HH.out.2]; exact hlt))
      have c0 := Q.out.2.2.1.c0
      have f0 := Q.out.2.2.1.fz 0
      by_cases hki : k = i
      · have ki1 : ((k : Int) == (i : Int)) = true := by simp; omega
        have KI := Lib.hid hki
        clear hki
        go_wp2_with (first
          | (at_builtin; refine wpList_append_own _ rfl _ _ 34 rfl w.heap.size 64 i0 (.slice none 0 0) 1 24 Try.underlying34 HI.out.1 HI.out.2.1 HI.out.2.2.1 HI.out.2.2.2 rfl (by decide) _ _ _ rfl (Q.out.2.2.2.1.alloc _) ⟨_, 0, none⟩ 1 1 [.slice (some ⟨x, 0, none⟩) N N] rfl rfl (cell_one_new _ _ _) (by simp [Value.oneCell']) (by unfold maxLen; omega) (by omega) (by have := Q.out.2.2.2.2.size; simp; omega) ?_; intro v' w1 hown' hgrow hnil; clear hnil; obtain ⟨A2, c2, rfl⟩ := own_form hown'; have Q0 := Q.out.1.kept _ hgrow (Q.out.1.row Q.out.2.2.2.1); have Q1 := Q.out.2.1.kept _ hgrow (Q.out.2.1.row Q.out.2.2.2.1); have Q2 := Q.out.2.2.1.kept _ hgrow (Q.out.2.2.1.row Q.out.2.2.2.1); have d0 := Q2.c0; have g0 := Q2.fz 0; have Q3 := Lib.hid (And.intro Q0 (And.intro Q1 (And.intro Q2 (And.intro hown' hgrow)))); clear Q0 Q1 Q2 hown' hgrow c0 f0))
        go_roundw
        case rel =>
          have hq := Q3.out.2.2.1.row Q3.out.2.2.2.1
          refine ⟨k + 1, _, by omega, by go_num, Q3.out.1.other (by omega) _ _, Q3.out.2.1.other (by omega) _ _, Q3.out.2.2.1.put _, ?_, ((Q.out.2.2.2.2.alloc Q.out.2.2.2.2.size _).grown Q3.out.2.2.2.2 (by have := Q.out.2.2.2.2.size; simp; omega) fun j ej => (Q.out.2.2.2.1.lt j ej).1).setCell (p := ⟨w.heap.size + 1 + 1, 0, none⟩) (by show w.heap.size ≤ w.heap.size + 1 + 1; omega) _⟩
          refine own_other ?_ hq 0 _
          rw [ST.out, if_pos KI.out, List.map_append]
          exact Q3.out.2.2.2.1
        case measure => simp [intOf]; omega
      · have ki1 : ((k : Int) == (i : Int)) = false := by simp; omega
        have KI := Lib.hid hki
        obtain ⟨b, o, hA, hbl, hce⟩ := (HH.out.1.below Q.out.2.2.2.2).at_ (k := k) (by rw [HH.out.2]; exact hlt)
        have hge : gs[k]'(by rw [HH.out.2]; exact hlt) = gs.getD k 0 := by simp [show k < gs.length by rw [HH.out.2]; exact hlt]
        rw [hge] at hce
        obtain ⟨y, hy⟩ : ∃ y, gs.getD k 0 = y := ⟨_, rfl⟩
        rw [hy] at hce
        change wr.cell? ⟨b, o + k, none⟩ = some (.slice (some ⟨y, 0, none⟩) N N) at hce
        have HY := Lib.hid hy
        obtain rfl := hA
        have s0 := Q.out.1.c0
        have hsz2 := Q.out.2.2.2.2.size
        have l2 := Q.out.2.2.1.lt
        have l0 := Q.out.1.lt
        clear hki hge hy
        go_wp2
        go_region_law
          ((refine step_append_lies _ (by rfl) _ _ _ (by rfl) w.heap.size 64 i0 _ 1 24 Try.underlying34 HI.out.1 HI.out.2.1 HI.out.2.2.1 HI.out.2.2.2 rfl (by omega) _ _ _ (by rfl) ((Q.out.2.2.2.1.alloc _).drew) ⟨wr.heap.size, 0, none⟩ 1 1 [.slice (some ⟨y, 0, none⟩) N N] (by rfl) (by rfl) (World.news_of_block (cs := #[.slice (some ⟨y, 0, none⟩) N N]) (t := 64) (fr := (0, 0)) (heap_alloc_new wr _)) (by simp [Value.oneCell']) (by omega) (by unfold maxLen; omega) (by omega) (by simp; omega) _ rfl ?_; intro gg cap2 w1 hown1 hgrow hat hlt2; have Q0 := (Q.out.1.alloc _).drew.grown hgrow (Q.out.1.row Q.out.2.2.2.1); have Q1 := (Q.out.2.1.alloc _).drew.grown hgrow (Q.out.2.1.row Q.out.2.2.2.1); have Q2 := (Q.out.2.2.1.alloc _).drew.grown hgrow (Q.out.2.2.1.row Q.out.2.2.2.1); have d0 := Q2.c0; have g0 := Q2.fz 0; have Q3 := Lib.hid (And.intro Q0 (And.intro Q1 (And.intro Q2 (And.intro hown1 hgrow)))); clear Q0 Q1 Q2 hown1 hgrow c0 f0))
        all_goals
          go_wp2
          go_roundw
          case rel =>
            have hq := Q3.out.2.2.1.row Q3.out.2.2.2.1
            refine ⟨k + 1, _, by omega, by go_num, Q3.out.1.other (by omega) _ _, Q3.out.2.1.other (by omega) _ _, Q3.out.2.2.1.put _, ?_, ((Q.out.2.2.2.2.alloc Q.out.2.2.2.2.size _).drew.grown Q3.out.2.2.2.2 (by have := Q.out.2.2.2.2.size; simp; omega) fun j ej => (Q.out.2.2.2.1.lt j ej).1).setCell (p := ⟨w.heap.size + 1 + 1, 0, none⟩) (by show w.heap.size ≤ w.heap.size + 1 + 1; omega) _⟩
            refine own_other ?_ hq 0 _
            rw [ST.out, if_neg KI.out, HY.out, List.map_append]
            exact Q3.out.2.2.2.1
          case measure => simp [intOf]; omega
    · have ke := Lib.hid (show k = 4 by omega)
      have kI : ¬ (k : Int) < 4 := by omega
      obtain ⟨A2, c2, rfl⟩ := own_form Q.out.2.2.2.1
      have hl : ((gs.set i x).take k) = gs.set i x := List.take_of_length_le (by rw [List.length_set, HH.out.2, ke.out]; exact Nat.le_refl _)
      have q1 := Lib.hid Q.out.2.1
      have q2 := Lib.hid Q.out.2.2.1
      have hq := q1.out.row Q.out.2.2.2.1
      have QR := Lib.hid (own_setRow Q.out.2.2.2.1 hq #[.slice A2 k c2, .bool hi, .int .i64 M])
      have hb := Lib.hid (belowSet Q.out.2.2.2.2 (show w.heap.size ≤ w.heap.size + 1 by omega) #[.slice A2 k c2, .bool hi, .int .i64 M])
      have HL := Lib.hid hl
      clear Q hl hq
      go_upto_region 8 with fail
      refine wp_region_lit ?_
      refine wpList_load_row rfl 36 (.tmp 7) rfl (w.heap.size + 1 + 1) (by simp [Act.eval]) _ _ _ _ q2.out Try.underlying36 rfl (by rw [infoScr]; rfl) ?_
      refine wpList_store_row rfl 36 (.tmp 6) (.tmp 37) rfl (w.heap.size + 1) #[.slice A2 k c2, .bool hi, .int .i64 M] (by simp [Act.eval, Act.put]) (by simp [Act.eval, Act.put]) _ _ q1.out (by rw [infoScr]; rfl) rfl (by simp [Value.oneCell']) ?_
      have q3 : SOut (w.heap.size + 1) (.slice A2 k c2) hi M (wr.setRow (w.heap.size + 1) #[.slice A2 k c2, .bool hi, .int .i64 M]) := setRow_heap _ _ _ _ _ (0, 0) q1.out
      have q3 := Lib.hid q3
      generalize wr.setRow (w.heap.size + 1) #[.slice A2 k c2, .bool hi, .int .i64 M] = w4 at *
      iterate 4 go_step
      refine bodyPost_ret (results_cell_row rfl _ _ (w.heap.size + 1) _ _ _ _ rfl q3.out Try.underlying36 rfl (by rw [infoScr]; rfl)) rfl ?_
      have e4 := ke.out
      have qr := Row.of_own QR.out
      rw [HL.out] at qr
      subst e4
      refine ⟨A2, c2, rfl, qr, hb.out, fun ad hA => ?_⟩
      rcases QR.out.2 with ⟨h, _⟩ | ⟨g, cp, cur, h, hg, _⟩
      · cases h
        try cases hA
      · injection h with h1 h2 h3
        subst h1
        injection hA with hA
        subst hA
        exact hg
end Go.Proofs.Ytplmmfgmbfcjpaa

/- The reference's screen (layer 8) as a whole; Select, Clear. -/
namespace Go.Proofs.Ytplmmfgmbfcjpaa
open Go.RowKit Num
set_option linter.unusedVariables false
set_option linter.unusedSimpArgs false

theorem SOut.put3 {q : Nat} {v v' : Value} {hi hi' : Bool} {M M' : Int} {w : World} (H : SOut q v hi M w) : SOut q v' hi' M' (((w.setCell ⟨q, 0, none⟩ v').setCell ⟨q, 1, none⟩ (.bool hi')).setCell ⟨q, 2, none⟩ (.int .i64 M')) := by
  have h1 := heap_setCell_same w q 0 _ _ v' H
  have h2 := heap_setCell_same _ q 1 _ _ (.bool hi') h1
  exact heap_setCell_same _ q 2 _ _ (.int .i64 M') h2
/-- A list of four lists of pixels, none of which lies in block q. -/
structure RefS (N q : Nat) (A : Option Addr) (gs : List Nat) (F : Nat → Nat → Bool) (w : World) : Prop where
  len : gs.length = 4
  row : Row (encP N) w A gs
  px : ∀ i, i < 4 → Pxs (gs.getD i 0) (F i) w
  ra : ∀ ad, A = some ad → ad.block ≠ q
  pa : ∀ i, i < 4 → gs.getD i 0 ≠ q
section
variable {N q : Nat} {A A' : Option Addr} {gs : List Nat} {F F' : Nat → Nat → Bool} {w w' : World}
theorem RefS.step (H : RefS N q A gs F w) (hb : Below w.heap.size w w') : RefS N q A gs F w' := ⟨H.len, H.row.below hb, fun i hi => (H.px i hi).step hb, H.ra, H.pa⟩
theorem RefS.congr (H : RefS N q A gs F w) (h : ∀ i, i < 4 → F i = F' i) : RefS N q A gs F' w := ⟨H.len, H.row, fun i hi => by rw [← h i hi]; exact H.px i hi, H.ra, H.pa⟩
theorem Pxs.other {g : Nat} {f : Nat → Bool} {w : World} (H : Pxs g f w) {b : Nat} (hb : b ≠ g) (o : Nat) (v : Value) : Pxs g f (w.setCell ⟨b, o, none⟩ v) :=
  ⟨by simpa using H.lt, fun j hj => by rw [World.cell?_setCell_other _ _ _ _ (by simp [hb])]; exact H.at_ j hj, fun j hj => by rw [World.frozen?_setCell]; exact H.fz j hj⟩
theorem RefS.put (H : RefS N q A gs F w) (o : Nat) (v : Value) : RefS N q A gs F (w.setCell ⟨q, o, none⟩ v) :=
  ⟨H.len, fun hne => by
    obtain ⟨b, oo, hA, hlt, hc⟩ := H.row hne
    have hbq : b ≠ q := H.ra _ hA
    exact ⟨b, oo, hA, by simpa using hlt, fun j hj => by rw [World.cell?_setCell_other _ _ _ _ (by simp [Ne.symm hbq])]; exact hc j hj⟩,
   fun i hi => (H.px i hi).other (Ne.symm (H.pa i hi)) _ _, H.ra, H.pa⟩
/-- One plane is another one. -/
theorem RefS.set (H : RefS N q A gs F w) {i x : Nat} {f : Nat → Bool} (hi : i < 4) (hrow : Row (encP N) w A' (gs.set i x)) (hx : Pxs x f w) (hra : ∀ ad, A' = some ad → ad.block ≠ q) (hxq : x ≠ q) : RefS N q A' (gs.set i x) (fun j => if j = i then f else F j) w := by
  have hg : ∀ j, j < 4 → (gs.set i x).getD j 0 = if j = i then x else gs.getD j 0 := fun j hj => by
    have := H.len
    rw [List.getD_eq_getElem?_getD, List.getD_eq_getElem?_getD, List.getElem?_set]
    by_cases e : i = j
    · subst e; simp [show i < gs.length by omega]
    · rw [if_neg e, if_neg (fun h => e h.symm)]
  refine ⟨by rw [List.length_set]; exact H.len, hrow, fun j hj => ?_, hra, fun j hj => ?_⟩
  · rw [hg j hj]
    by_cases e : j = i
    · rw [if_pos e, if_pos e]; exact hx
    · rw [if_neg e, if_neg e]; exact H.px j hj
  · rw [hg j hj]
    by_cases e : j = i
    · rw [if_pos e]; exact hxq
    · rw [if_neg e]; exact H.pa j hj
theorem SOut.no {q : Nat} {v : Value} {hi : Bool} {M : Int} {w : World} (H : SOut q v hi M w) (j : Nat) (hj : 3 ≤ j) : w.cell? ⟨q, j, none⟩ = none := by
  rw [cell_of_row w q j _ _ _ H]
  exact Array.getElem?_eq_none hj
/-- No list of it lies in the block of a screen. -/
theorem RefS.far {p : Nat} {v : Value} {hi : Bool} {M : Int} (H : RefS N q A gs F w) (S : SOut p v hi M w) : RefS N p A gs F w := by
  refine ⟨H.len, H.row, H.px, fun ad h e => ?_, fun i hi e => ?_⟩
  · obtain ⟨b, oo, hA, hlt, hc⟩ := H.row (by intro h0; have := H.len; rw [h0] at this; simp at this)
    rw [h] at hA
    cases hA
    have h3 := hc 3 (by rw [H.len]; decide)
    simp only at e
    rw [e, S.no (oo + 3) (by omega)] at h3
    cases h3
  · have h3 := (H.px i hi).at_ 3 (by decide)
    rw [e, S.no 3 (by omega)] at h3
    cases h3
end
/-- A reference screen comes back; nothing that was there has turned. -/
def BackS (N : Nat) (hi : Bool) (M : Int) (F : Nat → Nat → Bool) (w : World) (e : Ending) (w' : World) : Prop :=
  ∃ A cap gs, e = .returned (.agg #[.slice A 4 cap, .bool hi, .int .i64 M]) ∧ gs.length = 4 ∧ Row (encP N) w' A gs ∧ (∀ i, i < 4 → Pxs (gs.getD i 0) (F i) w') ∧ Below w.heap.size w w'
set_option maxRecDepth 100000 in
set_option maxHeartbeats 4000000 in
theorem rclear_any (N : Nat) (hN : N = 8192) (A : Option Addr) (cap : Nat) (gs : List Nat) (F : Nat → Nat → Bool) (hi : Bool) (M : Nat) (w : World) (hM : M ≤ 10000) (H : RefS N w.heap.size A gs F w) :
    Calls Try.prog 30 #[.agg #[.slice A 4 cap, .bool hi, .int .i64 (M : Int)]] w (BackS N hi M (fun i => if onB M i then fun _ => false else F i) w) := by
  have NN := Lib.hid hN
  have HH := Lib.hid H
  clear hN H
  go_enter Try.func30, Try.ntmps30
  go_wp2
  have S0 := Lib.hid ((SOut.new w (.slice A 4 cap) hi M).alloc (.cells #[.slice none 0 0, .bool false, .int .i64 0] 36))
  have B0 := Lib.hid (((Below.refl _ w).alloc (Nat.le_refl _) (.cells #[.slice A 4 cap, .bool hi, .int .i64 (M : Int)] 36)).alloc (by simp) (.cells #[.slice none 0 0, .bool false, .int .i64 0] 36))
  have S1 := Lib.hid (SOut.new (w.alloc (.cells #[.slice A 4 cap, .bool hi, .int .i64 (M : Int)] 36)) (.slice none 0 0) false 0)
  rw [show (w.alloc (.cells #[.slice A 4 cap, .bool hi, .int .i64 (M : Int)] 36)).heap.size = w.heap.size + 1 by simp] at S1
  have R0 := Lib.hid (HH.out.step B0.out)
  generalize (w.alloc (.cells #[.slice A 4 cap, .bool hi, .int .i64 (M : Int)] 36)).alloc (.cells #[.slice none 0 0, .bool false, .int .i64 0] 36) = w2 at *
  go_loopw [3] (fun t wr => ∃ (k : Nat) (A : Option Addr) (cap : Nat) (gs : List Nat), k ≤ 4 ∧ t = .int .i64 (k : Int) ∧ SOut w.heap.size (.slice A 4 cap) hi M wr ∧ SOut (w.heap.size + 1) (.slice none 0 0) false 0 wr ∧ RefS N w.heap.size A gs (fun i => if i < k ∧ onB M i = true then fun _ => false else F i) wr ∧ Below w.heap.size w wr) (fun t _ => 4 - (intOf t).toNat)
  case atStart => exact ⟨0, A, cap, gs, by omega, rfl, S0.out, S1.out, R0.out.congr fun i _ => by rw [if_neg (by omega)], B0.out⟩
  case round =>
    clear S0 S1 B0 R0 HH
    obtain ⟨k, A, cap, gs, hk, rfl, h0, h1, hR, hb⟩ := hrel
    have Q := Lib.hid (And.intro h0 (And.intro h1 (And.intro hR hb)))
    clear h0 h1 hR hb
    by_cases hlt : k < 4
    · have kI : (k : Int) < 4 := by omega
      obtain ⟨v, hv⟩ : ∃ v, onB M k = v := ⟨_, rfl⟩
      have ON := Lib.hid fun w => hv ▸ on_any M k w hM (by omega)
      have HV := Lib.hid hv
      have KL := Lib.hid hlt
      have c2 := Q.out.1.c2
      clear hv
      cases v
      · go_wp2_with fail
        refine (ON.out _).mono ?_
        rintro e w' ⟨rfl, rfl⟩
        go_wp2
        go_roundw
        case rel =>
          exact ⟨k + 1, A, cap, gs, by omega, by go_num, Q.out.1, Q.out.2.1, Q.out.2.2.1.congr fun j hj => by
            by_cases e : j = k
            · subst e; rw [if_neg (by omega), if_neg (by rw [HV.out]; simp)]
            · by_cases e2 : j < k ∧ onB M j = true
              · rw [if_pos e2, if_pos ⟨by omega, e2.2⟩]
              · rw [if_neg e2, if_neg (fun h => e2 ⟨by omega, h.2⟩)], Q.out.2.2.2⟩
        case measure => simp [intOf]; omega
      · go_wp2_with fail
        refine (ON.out _).mono ?_
        rintro e w' ⟨rfl, rfl⟩
        go_wp2_with fail
        have c0 := Q.out.1.c0
        have c1 := Q.out.1.c1
        have QD := Lib.hid (show SOut w.heap.size (.slice A 4 cap) hi M wr.drew ∧ SOut (w.heap.size + 1) (.slice none 0 0) false 0 wr.drew ∧ RefS N w.heap.size A gs (fun i => if i < k ∧ onB M i = true then fun _ => false else F i) wr.drew ∧ Below w.heap.size w wr.drew from ⟨Q.out.1, Q.out.2.1, Q.out.2.2.1.step (Below.refl _ _).drew, Q.out.2.2.2.drew⟩)
        clear Q
        go_region_with ((first
          | (go_at_call 28; refine (blankN NN.out _).mono ?_; rintro e wb ⟨g, rfl, hg, hP, b1⟩; have Q1 := Lib.hid (And.intro (QD.out.1.step b1) (And.intro (QD.out.2.1.step b1) (And.intro (QD.out.2.2.1.step b1) (And.intro (QD.out.2.2.2.trans (b1.mono QD.out.2.2.2.size)) (And.intro hP (show g ≠ w.heap.size by have := QD.out.1.lt; omega)))))); clear b1 hg hP c0 c1 c2; have c0 := Q1.out.1.c0; have c1 := Q1.out.1.c1; have c2 := Q1.out.1.c2)
          | (go_at_call 47; refine (with_any N A cap gs hi M k g _ Q1.out.2.2.1.len KL.out Q1.out.2.2.1.row).mono ?_; rintro e wc ⟨A3, cap3, rfl, hrow, b1, hA3⟩; have Q2 := Lib.hid (And.intro (Q1.out.1.step b1) (And.intro (Q1.out.2.1.step b1) (And.intro ((Q1.out.2.2.1.step b1).set KL.out hrow (Q1.out.2.2.2.2.1.step b1) (fun ad h => by have h1 := hA3 ad h; have := Q1.out.1.lt; omega) Q1.out.2.2.2.2.2) (Q1.out.2.2.2.1.trans (b1.mono Q1.out.2.2.2.1.size))))); clear b1 hrow hA3 c0 c1 c2; have c0 := Q2.out.1.c0; have c1 := Q2.out.1.c1; have c2 := Q2.out.1.c2; have f0 := Q2.out.1.fz 0; have f1 := Q2.out.1.fz 1; have f2 := Q2.out.1.fz 2)))
        all_goals
          go_wp2
          go_roundw
          case rel =>
            refine ⟨k + 1, A3, cap3, gs.set k g, by omega, by go_num, Q2.out.1.put3, ((Q2.out.2.1.other (by omega) _ _).other (by omega) _ _).other (by omega) _ _, (((Q2.out.2.2.1.put _ _).put _ _).put _ _).congr fun j hj => ?_, ((Q2.out.2.2.2.setCell (p := ⟨w.heap.size, 0, none⟩) (Nat.le_refl _) _).setCell (p := ⟨w.heap.size, 1, none⟩) (Nat.le_refl _) _).setCell (p := ⟨w.heap.size, 2, none⟩) (Nat.le_refl _) _⟩
            by_cases e : j = k
            · subst e; rw [if_pos rfl, if_pos ⟨by omega, HV.out⟩]
            · rw [if_neg e]
              by_cases e2 : j < k ∧ onB M j = true
              · rw [if_pos e2, if_pos ⟨by omega, e2.2⟩]
              · rw [if_neg e2, if_neg (fun h => e2 ⟨by omega, h.2⟩)]
          case measure => simp [intOf]; omega
    · obtain rfl : k = 4 := by omega
      have c0 := Q.out.1.c0
      have c1 := Q.out.1.c1
      have c2 := Q.out.1.c2
      have d0 := Q.out.2.1.c0
      have d1 := Q.out.2.1.c1
      have d2 := Q.out.2.1.c2
      have f0 := Q.out.2.1.fz 0
      have f1 := Q.out.2.1.fz 1
      have f2 := Q.out.2.1.fz 2
      have RQ := Lib.hid (Q.out.2.2.1.far Q.out.2.1)
      go_wp2_with fail
      have q3 := Q.out.2.1.put3 (v' := .slice A 4 cap) (hi' := hi) (M' := (M : Int))
      refine bodyPost_ret (results_cell_row rfl _ _ (w.heap.size + 1) _ _ _ _ rfl q3 Try.underlying36 rfl (by rw [infoScr]; rfl)) rfl ?_
      have R3 := (((RQ.out.put 0 (.slice A 4 cap)).put 1 (.bool hi)).put 2 (.int .i64 (M : Int))).congr (F' := fun i => if onB M i then fun _ => false else F i) fun i hi => by
        by_cases e : onB M i = true
        · rw [if_pos ⟨hi, e⟩, if_pos e]
        · rw [if_neg (fun h => e h.2), if_neg e]
      refine ⟨A, cap, gs, rfl, R3.len, R3.row, R3.px, ?_⟩
      exact ((Q.out.2.2.2.setCell (p := ⟨w.heap.size + 1, 0, none⟩) (Nat.le_succ _) _).setCell (p := ⟨w.heap.size + 1, 1, none⟩) (Nat.le_succ _) _).setCell (p := ⟨w.heap.size + 1, 2, none⟩) (Nat.le_succ _) _
end Go.Proofs.Ytplmmfgmbfcjpaa

/- The reference's Select (layer 8). -/
namespace Go.Proofs.Ytplmmfgmbfcjpaa
open Go.RowKit Num
set_option linter.unusedVariables false
set_option linter.unusedSimpArgs false
set_option maxRecDepth 100000 in
set_option maxHeartbeats 4000000 in
theorem rselect_any (A : Option Addr) (cap : Nat) (hi : Bool) (M m : Int) (w : World) :
    Calls Try.prog 29 #[.agg #[.slice A 4 cap, .bool hi, .int .i64 M], .int .i64 m] w fun e w' => e = .returned (.agg #[.slice A 4 cap, .bool hi, .int .i64 m]) ∧ Below w.heap.size w w' := by
  go_enter Try.func29, Try.ntmps29
  go_upto_region 1 with fail
  refine wp_region_lit ?_
  have S0 := Lib.hid ((SOut.new w (.slice A 4 cap) hi M).alloc (.cells #[.slice none 0 0, .bool false, .int .i64 0] 36))
  have B0 := Lib.hid (((Below.refl _ w).alloc (Nat.le_refl _) (.cells #[.slice A 4 cap, .bool hi, .int .i64 M] 36)).alloc (by simp) (.cells #[.slice none 0 0, .bool false, .int .i64 0] 36))
  have S1 := Lib.hid (SOut.new (w.alloc (.cells #[.slice A 4 cap, .bool hi, .int .i64 M] 36)) (.slice none 0 0) false 0)
  rw [show (w.alloc (.cells #[.slice A 4 cap, .bool hi, .int .i64 M] 36)).heap.size = w.heap.size + 1 by simp] at S1
  generalize (w.alloc (.cells #[.slice A 4 cap, .bool hi, .int .i64 M] 36)).alloc (.cells #[.slice none 0 0, .bool false, .int .i64 0] 36) = w2 at *
  have c0 := S0.out.c0
  have c1 := S0.out.c1
  have d0 := S1.out.c0
  have d1 := S1.out.c1
  have d2 := S1.out.c2
  have f0 := S1.out.fz 0
  have f1 := S1.out.fz 1
  have f2 := S1.out.fz 2
  go_wp2_with fail
  have q3 := S1.out.put3 (v' := .slice A 4 cap) (hi' := hi) (M' := m)
  refine bodyPost_ret (results_cell_row rfl _ _ (w.heap.size + 1) _ _ _ _ rfl q3 Try.underlying36 rfl (by rw [infoScr]; rfl)) rfl ?_
  exact ⟨rfl, ((B0.out.setCell (p := ⟨w.heap.size + 1, 0, none⟩) (Nat.le_succ _) _).setCell (p := ⟨w.heap.size + 1, 1, none⟩) (Nat.le_succ _) _).setCell (p := ⟨w.heap.size + 1, 2, none⟩) (Nat.le_succ _) _⟩
end Go.Proofs.Ytplmmfgmbfcjpaa

/- The reference's New (layer 8). -/
namespace Go.Proofs.Ytplmmfgmbfcjpaa
open Go.RowKit Num
set_option linter.unusedVariables false
set_option linter.unusedSimpArgs false
section
variable {N g : Nat} {f : Nat → Bool} {w w' : World}
theorem Pxs.grown {row : Option Nat} (H : Pxs g f w) (hg : w.grownBy w' row) (hne : some g ≠ row) : Pxs g f w' := by
  have hb := hg.block g H.lt hne
  exact ⟨Nat.lt_of_lt_of_le H.lt hg.size, fun j hj => (World.cell?_of_block (a := ⟨g, j, none⟩) hb).trans (H.at_ j hj), fun j hj => (World.frozen?_of_block (a := ⟨g, j, none⟩) hb).trans (H.fz j hj)⟩
theorem Pxs.notRow (H : Pxs g f w) {base k : Nat} {e : TypeId} {v : Value} {gs : List Nat} (hr : w.ownsRow base e 1 v k (gs.map (encP N))) (hne : gs ≠ []) : some g ≠ v.ownBlock := by
  intro h
  obtain ⟨y, t, rfl⟩ := List.exists_cons_of_ne_nil hne
  have h1 := hr.cells h.symm 0 (encP N y) rfl
  have h2 := H.at_ 0 (by decide)
  rw [show ((⟨g, 0, none⟩ : Addr).add 0) = ⟨g, 0, none⟩ from rfl, h2] at h1
  simp [encP] at h1
theorem own_below {base size n : Nat} {e : TypeId} {v : Value} {xs : List Value} (h : w.ownsRow base e size v n xs) (hb : Below w.heap.size w w') : w'.ownsRow base e size v n xs := by
  refine ⟨h.1, h.2.imp id ?_⟩
  rintro ⟨b, cap, cur, rfl, hbb, hh, r⟩
  exact ⟨b, cap, cur, rfl, hbb, (hb.block b (Array.getElem?_eq_some_iff.1 hh).1).trans hh, r⟩
end
set_option maxRecDepth 100000 in
set_option maxHeartbeats 4000000 in
theorem rnew8_any (N : Nat) (hN : N = 8192) (w : World) : Calls Try.prog 10 #[] w (BackS N false 1 (fun _ _ => false) w) := by
  obtain ⟨i0, hinfo, hz⟩ := Option.map_eq_some_iff.1 infoRow8
  simp only [Prod.mk.injEq] at hz
  obtain ⟨hz0, hz1, hz2⟩ := hz
  have NN := Lib.hid hN
  have HI := Lib.hid (And.intro hinfo (And.intro hz0 (And.intro hz1 hz2)))
  clear hN hinfo hz0 hz1 hz2
  go_enter Try.func10, Try.ntmps10
  go_wp2
  have S0 := Lib.hid ((SOut.new w (.slice none 0 0) false 0).alloc (.cells #[.slice none 0 0, .bool false, .int .i64 1] 36))
  have B0 := Lib.hid (((Below.refl _ w).alloc (Nat.le_refl _) (.cells #[.slice none 0 0, .bool false, .int .i64 0] 36)).alloc (by simp) (.cells #[.slice none 0 0, .bool false, .int .i64 1] 36))
  have S1 := Lib.hid (SOut.new (w.alloc (.cells #[.slice none 0 0, .bool false, .int .i64 0] 36)) (.slice none 0 0) false 1)
  rw [show (w.alloc (.cells #[.slice none 0 0, .bool false, .int .i64 0] 36)).heap.size = w.heap.size + 1 by simp] at S1
  generalize (w.alloc (.cells #[.slice none 0 0, .bool false, .int .i64 0] 36)).alloc (.cells #[.slice none 0 0, .bool false, .int .i64 1] 36) = w2 at *
  go_loopw [2] (fun t wr => ∃ (k : Nat) (v : Value) (gs : List Nat), k ≤ 4 ∧ t = .int .i64 (k : Int) ∧ SOut w.heap.size (.slice none 0 0) false 0 wr ∧ SOut (w.heap.size + 1) v false 1 wr ∧ wr.ownsRow w.heap.size 64 1 v k (gs.map (encP N)) ∧ (∀ i, i < k → Pxs (gs.getD i 0) (fun _ => false) wr) ∧ Below w.heap.size w wr) (fun t _ => 4 - (intOf t).toNat)
  case atStart => exact ⟨0, _, [], by omega, rfl, S0.out, S1.out, World.ownsRow_nil _ _ _ _, fun i hi => absurd hi (by omega), B0.out⟩
  case round =>
    clear S0 S1 B0
    obtain ⟨k, v, gs, hk, rfl, h0, h1, hown, hpx, hb⟩ := hrel
    have hgl : gs.length = k := by have := hown.1; simpa using this
    have Q := Lib.hid (And.intro h0 (And.intro h1 (And.intro hown (And.intro hpx (And.intro hb hgl)))))
    clear h0 h1 hown hpx hb hgl
    by_cases hlt : k < 4
    · have kI : (k : Int) < 4 := by omega
      have c0 := Q.out.2.1.c0
      have QD := Lib.hid (show SOut w.heap.size (.slice none 0 0) false 0 wr.drew ∧ SOut (w.heap.size + 1) v false 1 wr.drew ∧ wr.drew.ownsRow w.heap.size 64 1 v k (gs.map (encP N)) ∧ (∀ i, i < k → Pxs (gs.getD i 0) (fun _ => false) wr.drew) ∧ Below w.heap.size w wr.drew ∧ gs.length = k from ⟨Q.out.1, Q.out.2.1, Q.out.2.2.1.drew, fun i hi => (Q.out.2.2.2.1 i hi).drew, Q.out.2.2.2.2.1.drew, Q.out.2.2.2.2.2⟩)
      have KL := Lib.hid hlt
      clear Q
      go_wp2
      go_region_law ((first
        | (go_simp; go_at_call 28; refine (blankN NN.out _).mono ?_; rintro e wb ⟨g, rfl, hg, hP, b1⟩; have Q1 := Lib.hid (And.intro (QD.out.1.step b1) (And.intro (QD.out.2.1.step b1) (And.intro (own_below QD.out.2.2.1 b1) (And.intro (fun i hi => (QD.out.2.2.2.1 i hi).step b1) (And.intro (QD.out.2.2.2.2.1.trans (b1.mono QD.out.2.2.2.2.1.size)) (And.intro hP (show some g ≠ v.ownBlock from fun h => by have := (QD.out.2.2.1.lt g h.symm).2; omega))))))); clear b1 hg hP c0; have c0 := Q1.out.2.1.c0; have l1 := Q1.out.2.1.lt)
        | (refine step_append_lies _ (by rfl) _ _ _ (by rfl) w.heap.size 64 i0 _ 1 24 Try.underlying34 HI.out.1 HI.out.2.1 HI.out.2.2.1 HI.out.2.2.2 rfl (by omega) _ _ _ (by rfl) (Q1.out.2.2.1.alloc _) ⟨wb.heap.size, 0, none⟩ 1 1 [.slice (some ⟨g, 0, none⟩) N N] (by rfl) (by rfl) (World.news_of_block (cs := #[.slice (some ⟨g, 0, none⟩) N N]) (t := 64) (fr := (0, 0)) (heap_alloc_new wb _)) (by simp [Value.oneCell']) (by omega) (by unfold maxLen; omega) (by omega) (by have := Q1.out.2.2.2.2.1.size; simp; omega) _ rfl ?_; intro gg cap2 w1 hown1 hgrow hat hlt2; have R0 := (Q1.out.1.alloc _).grown hgrow (Q1.out.1.row Q1.out.2.2.1); have R1 := (Q1.out.2.1.alloc _).grown hgrow (Q1.out.2.1.row Q1.out.2.2.1); have d0 := R1.c0; have g0 := R1.fz 0; have Q3 := Lib.hid (And.intro R0 (And.intro R1 (And.intro hown1 (And.intro hgrow True.intro)))); clear R0 R1 hown1 hgrow c0)))
      all_goals
        go_wp2
        go_roundw
        case rel =>
          have hq := Q3.out.2.1.row Q3.out.2.2.1
          refine ⟨k + 1, _, gs ++ [g], by omega, by go_num, Q3.out.1.other (by omega) _ _, Q3.out.2.1.put _, ?_, fun i hi => ?_, ((Q1.out.2.2.2.2.1.alloc Q1.out.2.2.2.2.1.size _).grown Q3.out.2.2.2.1 (by have := Q1.out.2.2.2.2.1.size; simp; omega) fun j ej => (Q1.out.2.2.1.lt j ej).1).setCell (p := ⟨w.heap.size + 1, 0, none⟩) (Nat.le_succ _) _⟩
          · refine own_other ?_ hq 0 _
            rw [List.map_append]
            exact Q3.out.2.2.1
          · have hall : ∃ p, (gs ++ [g]).getD i 0 = p ∧ Pxs p (fun _ => false) wb ∧ some p ≠ v.ownBlock := by
              by_cases hik : i < k
              · refine ⟨_, rfl, ?_⟩
                have e : (gs ++ [g]).getD i 0 = gs.getD i 0 := by
                  rw [List.getD_eq_getElem?_getD, List.getD_eq_getElem?_getD, List.getElem?_append_left (by have := QD.out.2.2.2.2.2; omega)]
                rw [e]
                exact ⟨Q1.out.2.2.2.1 i hik, (Q1.out.2.2.2.1 i hik).notRow Q1.out.2.2.1 (by intro h; have := QD.out.2.2.2.2.2; rw [h] at this; simp at this; omega)⟩
              · have e : (gs ++ [g]).getD i 0 = g := by
                  obtain rfl : i = gs.length := by have := QD.out.2.2.2.2.2; omega
                  simp
                exact ⟨g, e, Q1.out.2.2.2.2.2.1, Q1.out.2.2.2.2.2.2⟩
            obtain ⟨p, hp, hP, hn⟩ := hall
            rw [hp]
            have hP1 := (hP.step ((Below.refl _ wb).alloc (Nat.le_refl _) _)).grown Q3.out.2.2.2.1 hn
            refine hP1.other (fun e => ?_) _ _
            have h3 := hP1.at_ 3 (by decide)
            rw [← e, Q3.out.2.1.no 3 (by omega)] at h3
            cases h3
        case measure => simp [intOf]; omega
    · obtain rfl : k = 4 := by omega
      obtain ⟨A, cap, rfl⟩ := own_form Q.out.2.2.1
      have c0 := Q.out.2.1.c0
      have c1 := Q.out.2.1.c1
      have c2 := Q.out.2.1.c2
      have d0 := Q.out.1.c0
      have d1 := Q.out.1.c1
      have d2 := Q.out.1.c2
      have f0 := Q.out.1.fz 0
      have f1 := Q.out.1.fz 1
      have f2 := Q.out.1.fz 2
      go_wp2_with fail
      have q3 := Q.out.1.put3 (v' := .slice A 4 cap) (hi' := false) (M' := 1)
      refine bodyPost_ret (results_cell_row rfl _ _ w.heap.size _ _ _ _ rfl q3 Try.underlying36 rfl (by rw [infoScr]; rfl)) rfl ?_
      have hq := Q.out.1.row Q.out.2.2.1
      have ho := own_other (own_other (own_other Q.out.2.2.1 hq 0 (.slice A 4 cap)) hq 1 (.bool false)) hq 2 (.int .i64 1)
      have hrow := Row.of_own ho
      refine ⟨A, cap, gs, rfl, Q.out.2.2.2.2.2, hrow, fun i hi => ?_, ((Q.out.2.2.2.2.1.setCell (p := ⟨w.heap.size, 0, none⟩) (Nat.le_refl _) _).setCell (p := ⟨w.heap.size, 1, none⟩) (Nat.le_refl _) _).setCell (p := ⟨w.heap.size, 2, none⟩) (Nat.le_refl _) _⟩
      have hP := Q.out.2.2.2.1 i hi
      have hne : w.heap.size ≠ gs.getD i 0 := fun e => by
        have h3 := hP.at_ 3 (by decide)
        rw [← e, Q.out.1.no 3 (by omega)] at h3
        cases h3
      exact ((hP.other hne _ _).other hne _ _).other hne _ _
end Go.Proofs.Ytplmmfgmbfcjpaa

/- The reference's Resolution (layer 8). -/
namespace Go.Proofs.Ytplmmfgmbfcjpaa
open Go.RowKit Num
set_option linter.unusedVariables false
set_option linter.unusedSimpArgs false
theorem RefS.of {N p : Nat} {A : Option Addr} {gs : List Nat} {F : Nat → Nat → Bool} {w : World} {v : Value} {hi : Bool} {M : Int} (S : SOut p v hi M w) (len : gs.length = 4) (row : Row (encP N) w A gs) (px : ∀ i, i < 4 → Pxs (gs.getD i 0) (F i) w) : RefS N p A gs F w := by
  refine ⟨len, row, px, fun ad h e => ?_, fun i hi e => ?_⟩
  · obtain ⟨b, oo, hA, hlt, hc⟩ := row (by intro h0; rw [h0] at len; simp at len)
    rw [h] at hA
    cases hA
    have h3 := hc 3 (by rw [len]; decide)
    simp only at e
    rw [e, S.no (oo + 3) (by omega)] at h3
    cases h3
  · have h3 := (px i hi).at_ 3 (by decide)
    rw [e, S.no 3 (by omega)] at h3
    cases h3
set_option maxRecDepth 100000 in
set_option maxHeartbeats 4000000 in
theorem rres8_any (N : Nat) (hN : N = 8192) (A : Option Addr) (cap : Nat) (hi v : Bool) (M : Int) (w : World) :
    Calls Try.prog 31 #[.agg #[.slice A 4 cap, .bool hi, .int .i64 M], .bool v] w (BackS N v M (fun _ _ => false) w) := by
  have NN := Lib.hid hN
  clear hN
  go_enter Try.func31, Try.ntmps31
  go_upto_region 1 with fail
  refine wp_region_lit ?_
  have S0 := Lib.hid ((SOut.new w (.slice A 4 cap) hi M).alloc (.cells #[.slice none 0 0, .bool false, .int .i64 0] 36))
  have B0 := Lib.hid (((Below.refl _ w).alloc (Nat.le_refl _) (.cells #[.slice A 4 cap, .bool hi, .int .i64 M] 36)).alloc (by simp) (.cells #[.slice none 0 0, .bool false, .int .i64 0] 36))
  have S1 := Lib.hid (SOut.new (w.alloc (.cells #[.slice A 4 cap, .bool hi, .int .i64 M] 36)) (.slice none 0 0) false 0)
  rw [show (w.alloc (.cells #[.slice A 4 cap, .bool hi, .int .i64 M] 36)).heap.size = w.heap.size + 1 by simp] at S1
  generalize (w.alloc (.cells #[.slice A 4 cap, .bool hi, .int .i64 M] 36)).alloc (.cells #[.slice none 0 0, .bool false, .int .i64 0] 36) = w2 at *
  go_wp2_with fail
  refine (rnew8_any N NN.out _).mono ?_
  rintro e wb ⟨A', cap', gs, rfl, hl, hrow, hpx, b1⟩
  have Q := Lib.hid (And.intro (S0.out.step b1) (And.intro (S1.out.step b1) (And.intro (B0.out.trans (b1.mono B0.out.size)) (RefS.of (S1.out.step b1) hl hrow hpx))))
  clear S0 S1 B0 hl hrow hpx b1
  have c2 := Q.out.1.c2
  have l0 := Q.out.1.lt
  have d0 := Q.out.2.1.c0
  have d1 := Q.out.2.1.c1
  have d2 := Q.out.2.1.c2
  have f0 := Q.out.2.1.fz 0
  have f1 := Q.out.2.1.fz 1
  have f2 := Q.out.2.1.fz 2
  have l1 := Q.out.2.1.lt
  go_wp2_with fail
  have q3 := (Q.out.2.1.put3 (v' := .slice A' 4 cap') (hi' := v) (M' := M)).alloc (.cells #[.slice A' 4 cap', .bool false, .int .i64 1] 36)
  refine bodyPost_ret (results_cell_row rfl _ _ (w.heap.size + 1) _ _ _ _ rfl q3 Try.underlying36 rfl (by rw [infoScr]; rfl)) rfl ?_
  have R2 := ((Q.out.2.2.2.put 0 (.slice A' 4 cap')).put 1 (.bool v)).put 2 (.int .i64 M)
  have R3 := R2.step ((Below.refl _ _).alloc (Nat.le_refl _) (.cells #[.slice A' 4 cap', .bool false, .int .i64 1] 36))
  have B3 := ((Q.out.2.2.1.setCell (p := ⟨w.heap.size + 1, 0, none⟩) (Nat.le_succ _) (.slice A' 4 cap')).setCell (p := ⟨w.heap.size + 1, 1, none⟩) (Nat.le_succ _) (.bool v)).setCell (p := ⟨w.heap.size + 1, 2, none⟩) (Nat.le_succ _) (.int .i64 M)
  exact ⟨A', cap', gs, rfl, R3.len, R3.row, R3.px, B3.alloc B3.size _⟩
end Go.Proofs.Ytplmmfgmbfcjpaa

/- The reference's Scroll (layer 8). -/
namespace Go.Proofs.Ytplmmfgmbfcjpaa
open Go.RowKit Num
set_option linter.unusedVariables false
set_option linter.unusedSimpArgs false
set_option maxRecDepth 100000 in
set_option maxHeartbeats 4000000 in
theorem rscr8_any (N : Nat) (hN : N = 8192) (A : Option Addr) (cap : Nat) (gs : List Nat) (F : Nat → Nat → Bool) (hi : Bool) (m h : Nat) (hr : Res hi m h) (M : Nat) (dx dy : Int) (d0 : -1000 ≤ dx) (d1 : dx ≤ 1000) (e0 : -1000 ≤ dy) (e1 : dy ≤ 1000) (w : World) (hM : M ≤ 10000) (H : RefS N w.heap.size A gs F w) :
    Calls Try.prog 32 #[.agg #[.slice A 4 cap, .bool hi, .int .i64 (M : Int)], .int .i64 dx, .int .i64 dy] w (BackS N hi M (fun i => if onB M i then rscF (F i) dx dy m h else F i) w) := by
  have NN := Lib.hid hN
  have HH := Lib.hid H
  have DD := Lib.hid (And.intro hr (And.intro d0 (And.intro d1 (And.intro e0 e1))))
  clear hN H hr d0 d1 e0 e1
  go_enter Try.func32, Try.ntmps32
  go_wp2
  have S0 := Lib.hid ((SOut.new w (.slice A 4 cap) hi M).alloc (.cells #[.slice none 0 0, .bool false, .int .i64 0] 36))
  have B0 := Lib.hid (((Below.refl _ w).alloc (Nat.le_refl _) (.cells #[.slice A 4 cap, .bool hi, .int .i64 (M : Int)] 36)).alloc (by simp) (.cells #[.slice none 0 0, .bool false, .int .i64 0] 36))
  have S1 := Lib.hid (SOut.new (w.alloc (.cells #[.slice A 4 cap, .bool hi, .int .i64 (M : Int)] 36)) (.slice none 0 0) false 0)
  rw [show (w.alloc (.cells #[.slice A 4 cap, .bool hi, .int .i64 (M : Int)] 36)).heap.size = w.heap.size + 1 by simp] at S1
  have R0 := Lib.hid (HH.out.step B0.out)
  generalize (w.alloc (.cells #[.slice A 4 cap, .bool hi, .int .i64 (M : Int)] 36)).alloc (.cells #[.slice none 0 0, .bool false, .int .i64 0] 36) = w2 at *
  go_loopw [7] (fun t wr => ∃ (k : Nat) (A : Option Addr) (cap : Nat) (gs : List Nat), k ≤ 4 ∧ t = .int .i64 (k : Int) ∧ SOut w.heap.size (.slice A 4 cap) hi M wr ∧ SOut (w.heap.size + 1) (.slice none 0 0) false 0 wr ∧ RefS N w.heap.size A gs (fun i => if i < k ∧ onB M i = true then rscF (F i) dx dy m h else F i) wr ∧ Below w.heap.size w wr) (fun t _ => 4 - (intOf t).toNat)
  case atStart => exact ⟨0, A, cap, gs, by omega, rfl, S0.out, S1.out, R0.out.congr fun i _ => by rw [if_neg (by omega)], B0.out⟩
  case round =>
    clear S0 S1 B0 R0 HH
    obtain ⟨k, A, cap, gs, hk, rfl, h0, h1, hR, hb⟩ := hrel
    have Q := Lib.hid (And.intro h0 (And.intro h1 (And.intro hR hb)))
    clear h0 h1 hR hb
    by_cases hlt : k < 4
    · have kI : (k : Int) < 4 := by omega
      obtain ⟨v, hv⟩ : ∃ v, onB M k = v := ⟨_, rfl⟩
      have ON := Lib.hid fun w => hv ▸ on_any M k w hM (by omega)
      have HV := Lib.hid hv
      have KL := Lib.hid hlt
      have c2 := Q.out.1.c2
      clear hv
      cases v
      · go_wp2_with fail
        refine (ON.out _).mono ?_
        rintro e w' ⟨rfl, rfl⟩
        go_wp2
        go_roundw
        case rel =>
          exact ⟨k + 1, A, cap, gs, by omega, by go_num, Q.out.1, Q.out.2.1, Q.out.2.2.1.congr fun j hj => by
            by_cases e : j = k
            · subst e; rw [if_neg (by omega), if_neg (by rw [HV.out]; simp)]
            · by_cases e2 : j < k ∧ onB M j = true
              · rw [if_pos e2, if_pos ⟨by omega, e2.2⟩]
              · rw [if_neg e2, if_neg (fun h => e2 ⟨by omega, h.2⟩)], Q.out.2.2.2⟩
        case measure => simp [intOf]; omega
      · go_wp2_with fail
        refine (ON.out _).mono ?_
        rintro e w' ⟨rfl, rfl⟩
        go_wp2_with fail
        have c0 := Q.out.1.c0
        have c1 := Q.out.1.c1
        have PK := Q.out.2.2.1.px k KL.out
        rw [if_neg (by omega)] at PK
        obtain ⟨b, o, hA, hbl, hce⟩ := Q.out.2.2.1.row.at_ (k := k) (by rw [Q.out.2.2.1.len]; exact KL.out)
        have hge : gs[k]'(by rw [Q.out.2.2.1.len]; exact KL.out) = gs.getD k 0 := by simp [show k < gs.length by rw [Q.out.2.2.1.len]; exact KL.out]
        rw [hge] at hce
        obtain ⟨y, hy⟩ : ∃ y, gs.getD k 0 = y := ⟨_, rfl⟩
        rw [hy] at hce PK
        change wr.cell? ⟨b, o + k, none⟩ = some (.slice (some ⟨y, 0, none⟩) N N) at hce
        obtain rfl := hA
        have QD := Lib.hid (show SOut w.heap.size (.slice (some ⟨b, o, none⟩) 4 cap) hi M wr.drew ∧ SOut (w.heap.size + 1) (.slice none 0 0) false 0 wr.drew ∧ RefS N w.heap.size (some ⟨b, o, none⟩) gs (fun i => if i < k ∧ onB M i = true then rscF (F i) dx dy m h else F i) wr.drew ∧ Below w.heap.size w wr.drew ∧ Pxs y (F k) wr.drew from ⟨Q.out.1, Q.out.2.1, Q.out.2.2.1.step (Below.refl _ _).drew, Q.out.2.2.2.drew, PK.step (Below.refl _ _).drew⟩)
        clear Q PK hge hy
        go_region_with ((first
          | (go_at_call 48; refine (rscN NN.out DD.out.1 QD.out.2.2.2.2 DD.out.2.1 DD.out.2.2.1 DD.out.2.2.2.1 DD.out.2.2.2.2 rfl).mono ?_; rintro e wb ⟨g, rfl, hg, hP, b1⟩; have Q1 := Lib.hid (And.intro (QD.out.1.step b1) (And.intro (QD.out.2.1.step b1) (And.intro (QD.out.2.2.1.step b1) (And.intro (QD.out.2.2.2.1.trans (b1.mono QD.out.2.2.2.1.size)) (And.intro hP (show g ≠ w.heap.size by have := QD.out.1.lt; omega)))))); clear b1 hg hP c0 c1 c2 hce; have c0 := Q1.out.1.c0; have c1 := Q1.out.1.c1; have c2 := Q1.out.1.c2)
          | (go_at_call 47; refine (with_any N (some ⟨b, o, none⟩) cap gs hi M k g _ Q1.out.2.2.1.len KL.out Q1.out.2.2.1.row).mono ?_; rintro e wc ⟨A3, cap3, rfl, hrow, b1, hA3⟩; have Q2 := Lib.hid (And.intro (Q1.out.1.step b1) (And.intro (Q1.out.2.1.step b1) (And.intro ((Q1.out.2.2.1.step b1).set KL.out hrow (Q1.out.2.2.2.2.1.step b1) (fun ad h => by have h1 := hA3 ad h; have := Q1.out.1.lt; omega) Q1.out.2.2.2.2.2) (Q1.out.2.2.2.1.trans (b1.mono Q1.out.2.2.2.1.size))))); clear b1 hrow hA3 c0 c1 c2; have c0 := Q2.out.1.c0; have c1 := Q2.out.1.c1; have c2 := Q2.out.1.c2; have f0 := Q2.out.1.fz 0; have f1 := Q2.out.1.fz 1; have f2 := Q2.out.1.fz 2)))
        all_goals
          go_wp2
          go_roundw
          case rel =>
            refine ⟨k + 1, A3, cap3, gs.set k g, by omega, by go_num, Q2.out.1.put3, ((Q2.out.2.1.other (by omega) _ _).other (by omega) _ _).other (by omega) _ _, (((Q2.out.2.2.1.put _ _).put _ _).put _ _).congr fun j hj => ?_, ((Q2.out.2.2.2.setCell (p := ⟨w.heap.size, 0, none⟩) (Nat.le_refl _) _).setCell (p := ⟨w.heap.size, 1, none⟩) (Nat.le_refl _) _).setCell (p := ⟨w.heap.size, 2, none⟩) (Nat.le_refl _) _⟩
            by_cases e : j = k
            · subst e; rw [if_pos rfl, if_pos ⟨by omega, HV.out⟩]
            · rw [if_neg e]
              by_cases e2 : j < k ∧ onB M j = true
              · rw [if_pos e2, if_pos ⟨by omega, e2.2⟩]
              · rw [if_neg e2, if_neg (fun h => e2 ⟨by omega, h.2⟩)]
          case measure => simp [intOf]; omega
    · obtain rfl : k = 4 := by omega
      have c0 := Q.out.1.c0
      have c1 := Q.out.1.c1
      have c2 := Q.out.1.c2
      have d0 := Q.out.2.1.c0
      have d1 := Q.out.2.1.c1
      have d2 := Q.out.2.1.c2
      have f0 := Q.out.2.1.fz 0
      have f1 := Q.out.2.1.fz 1
      have f2 := Q.out.2.1.fz 2
      have RQ := Lib.hid (Q.out.2.2.1.far Q.out.2.1)
      go_wp2_with fail
      have q3 := Q.out.2.1.put3 (v' := .slice A 4 cap) (hi' := hi) (M' := (M : Int))
      refine bodyPost_ret (results_cell_row rfl _ _ (w.heap.size + 1) _ _ _ _ rfl q3 Try.underlying36 rfl (by rw [infoScr]; rfl)) rfl ?_
      have R3 := (((RQ.out.put 0 (.slice A 4 cap)).put 1 (.bool hi)).put 2 (.int .i64 (M : Int))).congr (F' := fun i => if onB M i then rscF (F i) dx dy m h else F i) fun i hi => by
        by_cases e : onB M i = true
        · rw [if_pos ⟨hi, e⟩, if_pos e]
        · rw [if_neg (fun h => e h.2), if_neg e]
      refine ⟨A, cap, gs, rfl, R3.len, R3.row, R3.px, ?_⟩
      exact ((Q.out.2.2.2.setCell (p := ⟨w.heap.size + 1, 0, none⟩) (Nat.le_succ _) _).setCell (p := ⟨w.heap.size + 1, 1, none⟩) (Nat.le_succ _) _).setCell (p := ⟨w.heap.size + 1, 2, none⟩) (Nat.le_succ _) _
end Go.Proofs.Ytplmmfgmbfcjpaa
