/- Steps for laws on planes: whole planes loaded, stored into new variables, compared; contracts as the laws meet them. -/
import Derived.Test.YtplmmfgmbfcjpaaPlaneDraw
import Derived.Test.YtplmmfgmbfcjpaaPlaneSpr
import Derived.Test.YtplmmfgmbfcjpaaPlaneRefSpr
import Derived.Test.YtplmmfgmbfcjpaaPlaneRefDr
import Derived.Test.YtplmmfgmbfcjpaaCalm
namespace Go.Proofs.Ytplmmfgmbfcjpaa
open Go.RowKit Num
set_option linter.unusedVariables false
set_option linter.unusedSimpArgs false

section
variable {P : Program} {ops : Array Oper} {C : World → Prop}
theorem list_of_quiet {Q : Exit → Act → World → Prop} : ∀ (l : List Oper) (a : Act) (w : World), C w → wpQuiet P ops C (fun a' => ∀ w', C w' → Q .normal a' w') l a → wpList P ops Q l a w
  | [], a, w, hC, h => h w hC
  | o :: l, a, w, hC, h => by
    refine wpList_step fun K hK => ?_
    simp only [wpQuiet] at h
    split
    · rename_i hw
      rw [if_pos hw] at h
      exact Oper.wp_of_quiet hC (fun a' w' hC' h' => hK a' w' (list_of_quiet l a' w' hC' h')) h
    · rename_i hw
      rw [if_neg hw] at h
      exact hK _ _ (list_of_quiet l _ w hC h)
/-- A plain region of reads and of calls that make memory. -/
theorem calm_plain {id : Nat} {l : List Oper} {Q : Exit → Act → World → Prop} {a : Act} {W : World}
    (h : wpQuiet P l.toArray (fun w' => ∃ x : Calm W, w' = x.w) (fun a' => ∀ w', (∃ x : Calm W, w' = x.w) → Q .normal a' w') l a) : (Code.region id l.toArray false).wp P Q a W :=
  wp_region_lit (list_of_quiet l a W ⟨⟨W, Below.refl _ _⟩, rfl⟩ h)
theorem wpQuiet_by {Q : Act → Prop} {o : Oper} {rest : List Oper} {a : Act} (hw : Region.wanted o (yielded ops a.tmps) = true) (v : Value) (h1 : ∀ w, C w → (execOp a.eval o).run P w = .ok (.value v) w) (h : wpQuiet P ops C Q rest (a.put o.dst v)) : wpQuiet P ops C Q (o :: rest) a := by
  simp only [wpQuiet, hw, if_true]
  exact ⟨v, fun w hC => by unfold Oper.quietAt; rw [h1 w hC]; exact ⟨rfl, rfl⟩, h⟩
end
theorem exec_eql {o : Oper} {ρ : Operand → Value} {w : World} (x y : Operand) (z : TypeId) (ho : o.op = .binOp .eql 29 x y z) (A B : Pl) (hx : ρ x = .agg (pcells A)) (hy : ρ y = .agg (pcells B)) : (execOp ρ o).run Try.prog w = .ok (.value (.bool (samePl A B))) w := by
  unfold execOp
  simp only [ho, hx, hy]
  rw [Sem.run_bind, Sem.run_bind, run_eqGuard_agg w .eql 29 x y (pcells A) (pcells B) eqGuardPlane, Result.andThen_ok, eq_planes, Result.andThen_ok, Sem.run_pure]
section
variable {ops : Array Oper} {W : World}
/-- A plane is loaded, in any world behind W. -/
theorem quiet_plane {Q : Act → Prop} {o : Oper} {rest : List Oper} {a : Act} {b : Nat} {A : Pl} (H : PBox b 29 A W) (hw : Region.wanted o (yielded ops a.tmps) = true) (x : Operand) (ho : o.op = .load 29 x) (hx : a.eval x = .pointer (some ⟨b, 0, none⟩))
    (h : wpQuiet Try.prog ops (fun w' => ∃ x : Calm W, w' = x.w) Q rest (a.put o.dst (.agg (pcells A)))) : wpQuiet Try.prog ops (fun w' => ∃ x : Calm W, w' = x.w) Q (o :: rest) a :=
  wpQuiet_by hw (.agg (pcells A)) (fun w' hC => by
    obtain ⟨y, rfl⟩ := hC
    exact exec_load 29 x ho b hx _ _ _ _ (H.step y.below) Try.underlying29 rfl (by rw [sizePlane, pcells_size])) h
theorem quiet_same {Q : Act → Prop} {o : Oper} {rest : List Oper} {a : Act} {A B : Pl} {v : Bool} (hv : samePl A B = v) (hw : Region.wanted o (yielded ops a.tmps) = true) (x y : Operand) (z : TypeId) (ho : o.op = .binOp .eql 29 x y z) (hx : a.eval x = .agg (pcells A)) (hy : a.eval y = .agg (pcells B))
    (h : wpQuiet Try.prog ops (fun w' => ∃ x : Calm W, w' = x.w) Q rest (a.put o.dst (.bool v))) : wpQuiet Try.prog ops (fun w' => ∃ x : Calm W, w' = x.w) Q (o :: rest) a :=
  wpQuiet_by hw (.bool v) (fun w' _ => by rw [← hv]; exact exec_eql x y z ho A B hx hy) h
/-- A plane is loaded, in the order of the text. -/
theorem list_plane {Q : Exit → Act → World → Prop} {o : Oper} {rest : List Oper} {a : Act} {b : Nat} {A : Pl} (H : PBox b 29 A W) (hgd : o.guard = none) (x : Operand) (ho : o.op = .load 29 x) (hx : a.eval x = .pointer (some ⟨b, 0, none⟩))
    (h : wpList Try.prog ops Q rest (a.put o.dst (.agg (pcells A))) W) : wpList Try.prog ops Q (o :: rest) a W :=
  wpList_load_row hgd 29 x ho b hx _ _ _ _ H Try.underlying29 rfl (by rw [sizePlane, pcells_size]) h
theorem setRow_new (W : World) (cs cs' : Array Value) (t : TypeId) : (W.alloc (.cells cs t)).setRow W.heap.size cs' = W.alloc (.cells cs' t) := by
  unfold World.setRow World.alloc
  congr 1
  apply Array.ext_getElem?
  intro i
  simp only [Array.getElem?_modify, Array.getElem?_push]
  by_cases e : W.heap.size = i
  · subst e
    simp
  · rw [if_neg e, if_neg (fun h => e h.symm), if_neg (fun h => e h.symm)]
/-- 'x := a plane': a new variable, and the plane is stored. -/
theorem list_var {Q : Exit → Act → World → Prop} {o1 o2 : Oper} {rest : List Oper} {a : Act} {A : Pl} (g1 : o1.guard = none) (ho1 : o1.op = .alloc 29) (g2 : o2.guard = none) (x y : Operand) (ho2 : o2.op = .store 29 x y)
    (hx : (a.put o1.dst (.pointer (some ⟨W.heap.size, 0, none⟩))).eval x = .pointer (some ⟨W.heap.size, 0, none⟩)) (hy : (a.put o1.dst (.pointer (some ⟨W.heap.size, 0, none⟩))).eval y = .agg (pcells A))
    (h : wpList Try.prog ops Q rest ((a.put o1.dst (.pointer (some ⟨W.heap.size, 0, none⟩))).put o2.dst undef) (W.alloc (.cells (pcells A) 29))) : wpList Try.prog ops Q (o1 :: o2 :: rest) a W := by
  refine wpList_plain g1 fun K hK => ?_
  unfold Oper.wp execOp
  simp only [ho1, Instr.alloc, newVar, newRow, newObj, Sem.run_bind, zeroPlane, Result.andThen_ok, Sem.run_pure]
  show K (a.put o1.dst (.pointer (some ⟨W.heap.size, 0, none⟩))) (W.alloc (.cells (pcells fun _ => 0#128) 29))
  refine hK _ _ (wpList_store_row g2 29 x y ho2 W.heap.size (pcells A) hx hy _ _ (PBox.new W (fun _ => 0#128) 29) (by rw [sizePlane, pcells_size]) (by rw [pcells_size, pcells_size]) (pcells_one _) ?_)
  rw [setRow_new]
  exact h
theorem list_build {Q : Exit → Act → World → Prop} {o : Oper} {rest : List Oper} {a : Act} (hgd : o.guard = none) (ho : o.op = .build 29 #[]) (h : wpList Try.prog ops Q rest (a.put o.dst (.agg (pcells fun _ => 0#128))) W) : wpList Try.prog ops Q (o :: rest) a W := by
  refine wpList_plain hgd fun K hK => ?_
  unfold Oper.wp
  rw [exec_build 29 ho _ (build_zero W)]
  exact hK _ _ h
end
/-- Sprite, its numbers as they stand in the text. -/
theorem spW {A : Option Addr} {L : List Nat} {n cap c x y : Nat} {ci xi yi : Int} {clip b : Bool} {m h : Nat} (hr : Res b m h) {w : World} (H : Rd16 w A L) (hL : ∀ x ∈ L, x ≤ 65535) (hn : L.length = n) (n1 : n ≤ 16) (c8 : c = 8 ∨ c = 16) (hx : x < m) (hy : y < h) (e1 : ci = (c : Int)) (e2 : xi = (x : Int)) (e3 : yi = (y : Int)) {Z : Pl} (hZ : spr (nth L) n c x y m h clip = Z) :
    Calls Try.prog 41 #[.slice A n cap, .int .i64 ci, .int .i64 xi, .int .i64 yi, .bool b, .bool clip] w fun e w' => e = .returned (.agg (pcells Z)) ∧ Below w.heap.size w w' := by
  subst e1 e2 e3 hZ
  exact psprite_any A L n cap c x y clip b m h hr w H hL hn n1 c8 hx hy
theorem drW {A B Z : Pl} {v : Bool} (e1 : drawn A B = Z) (e2 : hitB A B = v) (w : World) : Calls Try.prog 40 #[.agg (pcells A), .agg (pcells B)] w fun e w' => e = .returned (.tuple #[.agg (pcells Z), .bool v]) ∧ Below w.heap.size w w' := by
  subst e1 e2
  exact draw_any A B w
theorem pxW {A : Pl} {x y : Int} {v : Bool} (e : pget A x y = v) (x0 : -9223372036854775808 ≤ x) (x1 : x ≤ 9223372036854775807) (y0 : -9223372036854775808 ≤ y) (y1 : y ≤ 9223372036854775807) (w : World) : Calls Try.prog 23 #[.agg (pcells A), .int .i64 x, .int .i64 y] w fun e w' => e = .returned (.bool v) ∧ Below w.heap.size w w' := by
  subst e
  exact pixel_any A x y w x0 x1 y0 y1
theorem scW {A Z : Pl} {dx dy : Int} {b : Bool} {m h : Nat} (hr : Res b m h) (e : scroll A dx dy m h = Z) (d0 : -1000 ≤ dx) (d1 : dx ≤ 1000) (e0 : -1000 ≤ dy) (e1 : dy ≤ 1000) (w : World) : Calls Try.prog 46 #[.agg (pcells A), .int .i64 dx, .int .i64 dy, .bool b] w fun e w' => e = .returned (.agg (pcells Z)) ∧ Below w.heap.size w w' := by
  subst e
  exact scroll_any A dx dy b m h hr w d0 d1 e0 e1
theorem Rd16.step {w w' : World} {A : Option Addr} {L : List Nat} (h : Rd16 w A L) (hb : Below w.heap.size w w') : Rd16 w' A L := h.below hb
theorem resOf (b : Bool) : ∃ m h, Res b m h := by
  cases b
  · exact ⟨64, 32, .inr ⟨rfl, rfl, rfl⟩⟩
  · exact ⟨128, 64, .inl ⟨rfl, rfl, rfl⟩⟩
theorem countOf (b : Bool) : ∃ c : Nat, (c = 8 ∨ c = 16) ∧ c = if b then 16 else 8 := by
  cases b
  · exact ⟨8, .inl rfl, rfl⟩
  · exact ⟨16, .inr rfl, rfl⟩
theorem same_of {A B : Pl} (h : ∀ y, y < 64 → A y = B y) : samePl A B = true := (samePl_iff A B).2 h
theorem rsN {N : Nat} (hN : N = 8192) {A : Option Addr} {L : List Nat} {n cap c x y : Nat} {ci xi yi : Int} {clip b : Bool} {m h : Nat} (hr : Res b m h) {w : World} (H : Rd16 w A L) (hL : ∀ x ∈ L, x ≤ 65535) (hn : L.length = n) (n1 : n ≤ 16) (c8 : c = 8 ∨ c = 16) (hx : x < m) (hy : y < h) (e1 : ci = (c : Int)) (e2 : xi = (x : Int)) (e3 : yi = (y : Int)) {F : Nat → Bool} (hF : rspF (nth L) n c x y m h clip = F) :
    Calls Try.prog 52 #[.slice A n cap, .int .i64 ci, .int .i64 xi, .int .i64 yi, .bool b, .bool clip] w fun e w' => ∃ g, e = .returned (.slice (some ⟨g, 0, none⟩) N N) ∧ w.heap.size ≤ g ∧ Pxs g F w' ∧ Below w.heap.size w w' := by
  subst hN e1 e2 e3 hF
  exact rpsprite_any A L n cap c x y clip b m h hr w H hL hn n1 (by omega) (by omega) hx hy
theorem rdN {N : Nat} (hN : N = 8192) {g1 g2 : Nat} {f1 f2 : Nat → Bool} {w : World} (H1 : Pxs g1 f1 w) (H2 : Pxs g2 f2 w) {F : Nat → Bool} {v : Bool} (hF : (fun i => f1 i ^^ f2 i) = F) (hv : hitTo (fun i => f1 i && f2 i) N = v) :
    Calls Try.prog 51 #[.slice (some ⟨g1, 0, none⟩) N N, .slice (some ⟨g2, 0, none⟩) N N] w fun e w' => ∃ g, e = .returned (.tuple #[.slice (some ⟨g, 0, none⟩) N N, .bool v]) ∧ w.heap.size ≤ g ∧ Pxs g F w' ∧ Below w.heap.size w w' := by
  subst hF hv hN
  exact rdraw_any g1 g2 f1 f2 w H1 H2
theorem rscN {N : Nat} (hN : N = 8192) {g : Nat} {f : Nat → Bool} {dx dy : Int} {b : Bool} {m h : Nat} (hr : Res b m h) {w : World} (H : Pxs g f w) (d0 : -1000 ≤ dx) (d1 : dx ≤ 1000) (e0 : -1000 ≤ dy) (e1 : dy ≤ 1000) {F : Nat → Bool} (hF : rscF f dx dy m h = F) :
    Calls Try.prog 48 #[.slice (some ⟨g, 0, none⟩) N N, .int .i64 dx, .int .i64 dy, .bool b] w fun e w' => ∃ g, e = .returned (.slice (some ⟨g, 0, none⟩) N N) ∧ w.heap.size ≤ g ∧ Pxs g F w' ∧ Below w.heap.size w w' := by
  subst hN hF
  exact rscroll_any g f dx dy b m h hr w H d0 d1 e0 e1
theorem fwd_rsp (bits : Nat → Nat) (len c x y m h : Nat) (clip : Bool) : fwd (rspF bits len c x y m h clip) = spr bits len c x y m h clip := funext fun j => fwd_sprite bits len c x y m h clip j
end Go.Proofs.Ytplmmfgmbfcjpaa
