/- Steps for the laws of layer 7: whole planes loaded, stored into new variables, compared; the laws' own helpers. -/
import Derived.Test.YtfijkbckokcbnaaPlaneDraw
import Derived.Test.YtfijkbckokcbnaaPlaneSpr
import Derived.Test.YtfijkbckokcbnaaPlaneRefSpr
import Derived.Test.YtfijkbckokcbnaaPlaneRefPl
import Derived.Test.YtfijkbckokcbnaaPlaneRefDr
import Derived.Test.YtfijkbckokcbnaaCalm
namespace Go.Proofs.Ytfijkbckokcbnaa
open Go.RowKit Num
set_option linter.unusedVariables false
set_option linter.unusedSimpArgs false

section
variable {P : Program} {ops : Array Oper} {C : World → Prop}
theorem list_of_quiet {Q : Exit → Act → World → Prop} : ∀ (l : List Oper) (a : Act) (w : World), C w → wpQuiet P ops C (fun a' => ∀ w', C w' → Q .normal a' w') l a → wpList P ops Q l a w
  | [], a, w, hC, h => h w hC
  | o :: l, a, w, hC, h => by
    refine wpList_step fun K hK => ?_
    simp only [wpQuiet] at h
    split
    · rename_i hw
      rw [if_pos hw] at h
      exact Oper.wp_of_quiet hC (fun a' w' hC' h' => hK a' w' (list_of_quiet l a' w' hC' h')) h
    · rename_i hw
      rw [if_neg hw] at h
      exact hK _ _ (list_of_quiet l _ w hC h)
/-- A plain region of reads and of calls that make memory. -/
theorem calm_plain {id : Nat} {l : List Oper} {Q : Exit → Act → World → Prop} {a : Act} {W : World}
    (h : wpQuiet P l.toArray (fun w' => ∃ x : Calm W, w' = x.w) (fun a' => ∀ w', (∃ x : Calm W, w' = x.w) → Q .normal a' w') l a) : (Code.region id l.toArray false).wp P Q a W :=
  wp_region_lit (list_of_quiet l a W ⟨⟨W, Below.refl _ _⟩, rfl⟩ h)
theorem wpQuiet_by {Q : Act → Prop} {o : Oper} {rest : List Oper} {a : Act} (hw : Region.wanted o (yielded ops a.tmps) = true) (v : Value) (h1 : ∀ w, C w → (execOp a.eval o).run P w = .ok (.value v) w) (h : wpQuiet P ops C Q rest (a.put o.dst v)) : wpQuiet P ops C Q (o :: rest) a := by
  simp only [wpQuiet, hw, if_true]
  exact ⟨v, fun w hC => by unfold Oper.quietAt; rw [h1 w hC]; exact ⟨rfl, rfl⟩, h⟩
end
theorem exec_eql {o : Oper} {ρ : Operand → Value} {w : World} (x y : Operand) (z : TypeId) (ho : o.op = .binOp .eql 35 x y z) (A B : Pl) (hx : ρ x = .agg (pcells A)) (hy : ρ y = .agg (pcells B)) : (execOp ρ o).run Try.prog w = .ok (.value (.bool (samePl A B))) w := by
  unfold execOp
  simp only [ho, hx, hy]
  rw [Sem.run_bind, Sem.run_bind, run_eqGuard_agg w .eql 35 x y (pcells A) (pcells B) eqGuardPlane, Result.andThen_ok, eq_planes, Result.andThen_ok, Sem.run_pure]
section
variable {ops : Array Oper} {W : World}
/-- A plane is loaded, in any world behind W. -/
theorem quiet_plane {Q : Act → Prop} {o : Oper} {rest : List Oper} {a : Act} {b : Nat} {A : Pl} (H : PBox b 35 A W) (hw : Region.wanted o (yielded ops a.tmps) = true) (x : Operand) (ho : o.op = .load 35 x) (hx : a.eval x = .pointer (some ⟨b, 0, none⟩))
    (h : wpQuiet Try.prog ops (fun w' => ∃ x : Calm W, w' = x.w) Q rest (a.put o.dst (.agg (pcells A)))) : wpQuiet Try.prog ops (fun w' => ∃ x : Calm W, w' = x.w) Q (o :: rest) a :=
  wpQuiet_by hw (.agg (pcells A)) (fun w' hC => by
    obtain ⟨y, rfl⟩ := hC
    exact exec_load 35 x ho b hx _ _ _ _ (H.step y.below) Try.underlying35 rfl (by rw [sizePlane, pcells_size])) h
theorem quiet_same {Q : Act → Prop} {o : Oper} {rest : List Oper} {a : Act} {A B : Pl} {v : Bool} (hv : samePl A B = v) (hw : Region.wanted o (yielded ops a.tmps) = true) (x y : Operand) (z : TypeId) (ho : o.op = .binOp .eql 35 x y z) (hx : a.eval x = .agg (pcells A)) (hy : a.eval y = .agg (pcells B))
    (h : wpQuiet Try.prog ops (fun w' => ∃ x : Calm W, w' = x.w) Q rest (a.put o.dst (.bool v))) : wpQuiet Try.prog ops (fun w' => ∃ x : Calm W, w' = x.w) Q (o :: rest) a :=
  wpQuiet_by hw (.bool v) (fun w' _ => by rw [← hv]; exact exec_eql x y z ho A B hx hy) h
/-- A plane is loaded, in the order of the text. -/
theorem list_plane {Q : Exit → Act → World → Prop} {o : Oper} {rest : List Oper} {a : Act} {b : Nat} {A : Pl} (H : PBox b 35 A W) (hgd : o.guard = none) (x : Operand) (ho : o.op = .load 35 x) (hx : a.eval x = .pointer (some ⟨b, 0, none⟩))
    (h : wpList Try.prog ops Q rest (a.put o.dst (.agg (pcells A))) W) : wpList Try.prog ops Q (o :: rest) a W :=
  wpList_load_row hgd 35 x ho b hx _ _ _ _ H Try.underlying35 rfl (by rw [sizePlane, pcells_size]) h
theorem setRow_new (W : World) (cs cs' : Array Value) (t : TypeId) : (W.alloc (.cells cs t)).setRow W.heap.size cs' = W.alloc (.cells cs' t) := by
  unfold World.setRow World.alloc
  congr 1
  apply Array.ext_getElem?
  intro i
  simp only [Array.getElem?_modify, Array.getElem?_push]
  by_cases e : W.heap.size = i
  · subst e
    simp
  · rw [if_neg e, if_neg (fun h => e h.symm), if_neg (fun h => e h.symm)]
/-- 'x := a plane': a new variable, and the plane is stored. -/
theorem list_var {Q : Exit → Act → World → Prop} {o1 o2 : Oper} {rest : List Oper} {a : Act} {A : Pl} (g1 : o1.guard = none) (ho1 : o1.op = .alloc 35) (g2 : o2.guard = none) (x y : Operand) (ho2 : o2.op = .store 35 x y)
    (hx : (a.put o1.dst (.pointer (some ⟨W.heap.size, 0, none⟩))).eval x = .pointer (some ⟨W.heap.size, 0, none⟩)) (hy : (a.put o1.dst (.pointer (some ⟨W.heap.size, 0, none⟩))).eval y = .agg (pcells A))
    (h : wpList Try.prog ops Q rest ((a.put o1.dst (.pointer (some ⟨W.heap.size, 0, none⟩))).put o2.dst undef) (W.alloc (.cells (pcells A) 35))) : wpList Try.prog ops Q (o1 :: o2 :: rest) a W := by
  refine wpList_plain g1 fun K hK => ?_
  unfold Oper.wp execOp
  simp only [ho1, Instr.alloc, newVar, newRow, newObj, Sem.run_bind, zeroPlane, Result.andThen_ok, Sem.run_pure]
  show K (a.put o1.dst (.pointer (some ⟨W.heap.size, 0, none⟩))) (W.alloc (.cells (pcells fun _ => 0#128) 35))
  refine hK _ _ (wpList_store_row g2 35 x y ho2 W.heap.size (pcells A) hx hy _ _ (PBox.new W (fun _ => 0#128) 35) (by rw [sizePlane, pcells_size]) (by rw [pcells_size, pcells_size]) (pcells_one _) ?_)
  rw [setRow_new]
  exact h
theorem list_build {Q : Exit → Act → World → Prop} {o : Oper} {rest : List Oper} {a : Act} (hgd : o.guard = none) (ho : o.op = .build 35 #[]) (h : wpList Try.prog ops Q rest (a.put o.dst (.agg (pcells fun _ => 0#128))) W) : wpList Try.prog ops Q (o :: rest) a W := by
  refine wpList_plain hgd fun K hK => ?_
  unfold Oper.wp
  rw [exec_build 35 ho _ (build_zero W)]
  exact hK _ _ h
end
/-- Sprite, its numbers as they stand in the text. -/
theorem spW {A : Option Addr} {L : List Nat} {n cap c x y : Nat} {ci xi yi : Int} {clip b : Bool} {m h : Nat} (hr : Res b m h) {w : World} (H : Rd16 w A L) (hL : ∀ x ∈ L, x ≤ 65535) (hn : L.length = n) (n1 : n ≤ 16) (c8 : c = 8 ∨ c = 16) (hx : x < m) (hy : y < h) (e1 : ci = (c : Int)) (e2 : xi = (x : Int)) (e3 : yi = (y : Int)) {Z : Pl} (hZ : spr (nth L) n c x y m h clip = Z) :
    Calls Try.prog 22 #[.slice A n cap, .int .i64 ci, .int .i64 xi, .int .i64 yi, .bool b, .bool clip] w fun e w' => e = .returned (.agg (pcells Z)) ∧ Below w.heap.size w w' := by
  subst e1 e2 e3 hZ
  exact psprite_any A L n cap c x y clip b m h hr w H hL hn n1 c8 hx hy
theorem drW {A B Z : Pl} {v : Bool} (e1 : drawn A B = Z) (e2 : hitB A B = v) (w : World) : Calls Try.prog 23 #[.agg (pcells A), .agg (pcells B)] w fun e w' => e = .returned (.tuple #[.agg (pcells Z), .bool v]) ∧ Below w.heap.size w w' := by
  subst e1 e2
  exact draw_any A B w
theorem ctW {A : Pl} {n : Int} (e : (pcount A : Int) = n) (w : World) : Calls Try.prog 25 #[.agg (pcells A)] w fun e w' => e = .returned (.int .i64 n) ∧ Below w.heap.size w w' := by
  subst e
  exact pcount_any A w
theorem pxW {A : Pl} {x y : Int} {v : Bool} (e : pget A x y = v) (x0 : -9223372036854775808 ≤ x) (x1 : x ≤ 9223372036854775807) (y0 : -9223372036854775808 ≤ y) (y1 : y ≤ 9223372036854775807) (w : World) : Calls Try.prog 16 #[.agg (pcells A), .int .i64 x, .int .i64 y] w fun e w' => e = .returned (.bool v) ∧ Below w.heap.size w w' := by
  subst e
  exact pixel_any A x y w x0 x1 y0 y1
theorem scW {A Z : Pl} {dx dy : Int} {b : Bool} {m h : Nat} (hr : Res b m h) (e : scroll A dx dy m h = Z) (d0 : -1000 ≤ dx) (d1 : dx ≤ 1000) (e0 : -1000 ≤ dy) (e1 : dy ≤ 1000) (w : World) : Calls Try.prog 18 #[.agg (pcells A), .int .i64 dx, .int .i64 dy, .bool b] w fun e w' => e = .returned (.agg (pcells Z)) ∧ Below w.heap.size w w' := by
  subst e
  exact scroll_any A dx dy b m h hr w d0 d1 e0 e1
theorem fwW {g : Nat} {f : Nat → Bool} {w : World} (H : Pxs g f w) {Z : Pl} (e : fwd f = Z) : Calls Try.prog 12 #[.slice (some ⟨g, 0, none⟩) 8192 8192] w fun e w' => e = .returned (.agg (pcells Z)) ∧ Below w.heap.size w w' := by
  subst e
  exact forward_any g f w H
theorem lcount_any (b : Bool) (c : Nat) (hc : c = if b then 16 else 8) (w : World) : Calls Try.prog 21 #[.bool b] w fun e w' => e = .returned (.int .i64 (c : Int)) ∧ w = w' := by
  subst hc
  cases b
  all_goals
    go_enter Try.func21, Try.ntmps21
    go_wp2
    go_ret
    exact ⟨rfl, rfl⟩
theorem Rd16.step {w w' : World} {A : Option Addr} {L : List Nat} (h : Rd16 w A L) (hb : Below w.heap.size w w') : Rd16 w' A L := h.below hb
theorem resOf (b : Bool) : ∃ m h, Res b m h := by
  cases b
  · exact ⟨64, 32, .inr ⟨rfl, rfl, rfl⟩⟩
  · exact ⟨128, 64, .inl ⟨rfl, rfl, rfl⟩⟩
theorem countOf (b : Bool) : ∃ c : Nat, (c = 8 ∨ c = 16) ∧ c = if b then 16 else 8 := by
  cases b
  · exact ⟨8, .inl rfl, rfl⟩
  · exact ⟨16, .inr rfl, rfl⟩
theorem same_of {A B : Pl} (h : ∀ y, y < 64 → A y = B y) : samePl A B = true := (samePl_iff A B).2 h
/-- The block b holds a seed. -/
structure SBox (b : Nat) (a1 a2 a3 : Int) (w : World) : Prop where
  lt : b < w.heap.size
  c0 : w.cell? ⟨b, 0, none⟩ = some (.int .i64 a1)
  c1 : w.cell? ⟨b, 1, none⟩ = some (.int .i64 a2)
  c2 : w.cell? ⟨b, 2, none⟩ = some (.int .i64 a3)
theorem SBox.step {b : Nat} {a1 a2 a3 : Int} {w w' : World} (H : SBox b a1 a2 a3 w) (hb : Below w.heap.size w w') : SBox b a1 a2 a3 w' :=
  ⟨Nat.lt_of_lt_of_le H.lt hb.size, (hb.cell (p := ⟨b, 0, none⟩) H.lt).trans H.c0, (hb.cell (p := ⟨b, 1, none⟩) H.lt).trans H.c1, (hb.cell (p := ⟨b, 2, none⟩) H.lt).trans H.c2⟩
theorem SBox.new (w : World) (a1 a2 a3 : Int) : SBox w.heap.size a1 a2 a3 (w.alloc (.cells #[.int .i64 a1, .int .i64 a2, .int .i64 a3] 23)) :=
  ⟨by simp, by rw [World.cell?_alloc_at _ _ _ _ rfl]; rfl, by rw [World.cell?_alloc_at _ _ _ _ rfl]; rfl, by rw [World.cell?_alloc_at _ _ _ _ rfl]; rfl⟩
/-- A seed's plane comes back. -/
theorem seedW {a1 a2 a3 : Int} (w1 : (Lit.int .i64 a1).wf = true) (w2 : (Lit.int .i64 a2).wf = true) (w3 : (Lit.int .i64 a3).wf = true) {b : Bool} {m h : Nat} (hr : Res b m h) (w : World) :
    Calls Try.prog 11 #[.agg #[.int .i64 a1, .int .i64 a2, .int .i64 a3], .bool b] w (DrawnR m h w) :=
  rplane_any a1 a2 a3 b m h hr w (Num.bd_i64 w1) (Num.bd_i64 w2) (Num.bd_i64 w3)
/-- The same, the length under a name. -/
theorem seedN {N : Nat} (hN : N = 8192) {a1 a2 a3 : Int} (w1 : (Lit.int .i64 a1).wf = true) (w2 : (Lit.int .i64 a2).wf = true) (w3 : (Lit.int .i64 a3).wf = true) {b : Bool} {m h : Nat} (hr : Res b m h) (w : World) :
    Calls Try.prog 11 #[.agg #[.int .i64 a1, .int .i64 a2, .int .i64 a3], .bool b] w fun e w' => ∃ f, InRes f m h ∧ ∃ g, e = .returned (.slice (some ⟨g, 0, none⟩) N N) ∧ w.heap.size ≤ g ∧ Pxs g f w' ∧ Below w.heap.size w w' := by
  subst hN
  exact seedW w1 w2 w3 hr w
theorem fwN {N : Nat} (hN : N = 8192) {g : Nat} {f : Nat → Bool} {w : World} (H : Pxs g f w) {Z : Pl} (e : fwd f = Z) : Calls Try.prog 12 #[.slice (some ⟨g, 0, none⟩) N N] w fun e w' => e = .returned (.agg (pcells Z)) ∧ Below w.heap.size w w' := by
  subst hN
  exact fwW H e
theorem rsN {N : Nat} (hN : N = 8192) {A : Option Addr} {L : List Nat} {n cap c x y : Nat} {ci xi yi : Int} {clip b : Bool} {m h : Nat} (hr : Res b m h) {w : World} (H : Rd16 w A L) (hL : ∀ x ∈ L, x ≤ 65535) (hn : L.length = n) (n1 : n ≤ 16) (c8 : c = 8 ∨ c = 16) (hx : x < m) (hy : y < h) (e1 : ci = (c : Int)) (e2 : xi = (x : Int)) (e3 : yi = (y : Int)) {F : Nat → Bool} (hF : rspF (nth L) n c x y m h clip = F) :
    Calls Try.prog 20 #[.slice A n cap, .int .i64 ci, .int .i64 xi, .int .i64 yi, .bool b, .bool clip] w fun e w' => ∃ g, e = .returned (.slice (some ⟨g, 0, none⟩) N N) ∧ w.heap.size ≤ g ∧ Pxs g F w' ∧ Below w.heap.size w w' := by
  subst hN e1 e2 e3 hF
  exact rpsprite_any A L n cap c x y clip b m h hr w H hL hn n1 (by omega) (by omega) hx hy
theorem rdN {N : Nat} (hN : N = 8192) {g1 g2 : Nat} {f1 f2 : Nat → Bool} {w : World} (H1 : Pxs g1 f1 w) (H2 : Pxs g2 f2 w) {F : Nat → Bool} {v : Bool} (hF : (fun i => f1 i ^^ f2 i) = F) (hv : hitTo (fun i => f1 i && f2 i) N = v) :
    Calls Try.prog 24 #[.slice (some ⟨g1, 0, none⟩) N N, .slice (some ⟨g2, 0, none⟩) N N] w fun e w' => ∃ g, e = .returned (.tuple #[.slice (some ⟨g, 0, none⟩) N N, .bool v]) ∧ w.heap.size ≤ g ∧ Pxs g F w' ∧ Below w.heap.size w w' := by
  subst hF hv hN
  exact rdraw_any g1 g2 f1 f2 w H1 H2
theorem rscN {N : Nat} (hN : N = 8192) {g : Nat} {f : Nat → Bool} {dx dy : Int} {b : Bool} {m h : Nat} (hr : Res b m h) {w : World} (H : Pxs g f w) (d0 : -1000 ≤ dx) (d1 : dx ≤ 1000) (e0 : -1000 ≤ dy) (e1 : dy ≤ 1000) {F : Nat → Bool} (hF : rscF f dx dy m h = F) :
    Calls Try.prog 19 #[.slice (some ⟨g, 0, none⟩) N N, .int .i64 dx, .int .i64 dy, .bool b] w fun e w' => ∃ g, e = .returned (.slice (some ⟨g, 0, none⟩) N N) ∧ w.heap.size ≤ g ∧ Pxs g F w' ∧ Below w.heap.size w w' := by
  subst hN hF
  exact rscroll_any g f dx dy b m h hr w H d0 d1 e0 e1
theorem fwd_rsp (bits : Nat → Nat) (len c x y m h : Nat) (clip : Bool) : fwd (rspF bits len c x y m h clip) = spr bits len c x y m h clip := funext fun j => fwd_sprite bits len c x y m h clip j
theorem pcn_step (f : Nat → Bool) (k : Nat) : pcn f (k + 1) = pcn f k + (f k).toNat := rfl
/-- Arguments of a sprite are as they must be. -/
def Right (n : Nat) (x y : Int) (m h : Nat) : Prop := n ≤ 16 ∧ 0 ≤ x ∧ 0 ≤ y ∧ x < m ∧ y < h
theorem right_yes (A : Option Addr) (n cap : Nat) (x y : Int) (b : Bool) (m h : Nat) (hr : Res b m h) (w : World) (H : Right n x y m h) :
    Calls Try.prog 10 #[.slice A n cap, .int .i64 x, .int .i64 y, .bool b] w fun e w' => e = .returned (.bool true) ∧ w = w' := by
  obtain ⟨h1, h2, h3, h4, h5⟩ := H
  have RR := Lib.hid hr
  have h1' : (n : Int) ≤ 16 := by omega
  clear hr
  go_enter Try.func10, Try.ntmps10
  go_wp2_with (first
    | (go_at_call 14; refine (rwidthR RR.out _).mono ?_; rintro e w' ⟨rfl, rfl⟩)
    | (go_at_call 15; refine (rheightR RR.out _).mono ?_; rintro e w' ⟨rfl, rfl⟩))
  go_ret
  exact ⟨rfl, rfl⟩
theorem right_no (A : Option Addr) (n cap : Nat) (x y : Int) (b : Bool) (m h : Nat) (hr : Res b m h) (w : World) (H : ¬ Right n x y m h) :
    Calls Try.prog 10 #[.slice A n cap, .int .i64 x, .int .i64 y, .bool b] w fun e w' => e = .returned (.bool false) ∧ w = w' := by
  have RR := Lib.hid hr
  unfold Right at H
  clear hr
  rcases (show (¬ (n ≤ 16))
      ∨ ((n ≤ 16) ∧ ¬ (0 ≤ x))
      ∨ ((n ≤ 16) ∧ (0 ≤ x) ∧ ¬ (0 ≤ y))
      ∨ ((n ≤ 16) ∧ (0 ≤ x) ∧ (0 ≤ y) ∧ ¬ (x < (m : Int)))
      ∨ ((n ≤ 16) ∧ (0 ≤ x) ∧ (0 ≤ y) ∧ (x < (m : Int)) ∧ ¬ (y < (h : Int))) by omega) with h1 | ⟨h1, h2⟩ | ⟨h1, h2, h3⟩ | ⟨h1, h2, h3, h4⟩ | ⟨h1, h2, h3, h4, h5⟩
  all_goals
    clear H
    go_enter Try.func10, Try.ntmps10
    go_wp2_with (first
      | (go_at_call 14; refine (rwidthR RR.out _).mono ?_; rintro e w' ⟨rfl, rfl⟩)
      | (go_at_call 15; refine (rheightR RR.out _).mono ?_; rintro e w' ⟨rfl, rfl⟩))
    go_ret
    first | exact ⟨rfl, rfl⟩ | (refine ⟨?_, rfl⟩; rw [decide_eq_false (show ¬ y < (h : Int) by omega)]; rfl)
end Go.Proofs.Ytfijkbckokcbnaa
