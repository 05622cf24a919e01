/- The function that screen.Draw hands to change. -/
import Derived.Test.YtplmmfgmbfcjpaaScrOps
import Derived.Test.YtplmmfgmbfcjpaaScrBits
namespace Go.Proofs.Ytplmmfgmbfcjpaa
open Go.RowKit Go.Shelf Num
set_option linter.unusedVariables false
set_option linter.unusedSimpArgs false

theorem But.rowNew {T : Nat → Prop} {u w : World} (h : But T u w) {b : Nat} (hb : u.heap.size ≤ b) (cs : Array Value) : But T u (w.setRow b cs) :=
  ⟨h.os, h.tape, h.output, by simpa [World.setRow] using h.size, fun k hk ht => (setRow_other w b k cs (by omega)).trans (h.block k hk ht)⟩
/-- What a drawing is: where the data lie, how many planes there are; the rows and the bytes of a row; the place; the resolution. -/
structure DrD where
  g : Nat
  o : Nat
  F : Nat → Nat
  N : Nat
  r : Nat
  z : Nat
  x : Nat
  y : Nat
  m : Nat
  h : Nat
  clip : Bool
  S : Sc
/-- The numbers of a plane's rows, q bytes behind the first. -/
def rowsL (F : Nat → Nat) (r z q : Nat) : List Nat := (List.range r).map (rowv (fun j => F (q + j)) z)
/-- The sprite of plane number k of those that are drawn on. -/
def DrD.sp (D : DrD) (k : Nat) : Pl := spr (nth (rowsL D.F D.r D.z (k * (D.r * D.z)))) D.r (D.z * 8) (D.x % D.m) (D.y % D.h) D.m D.h D.clip
/-- Is there a collision on one of these planes? -/
def DrD.coll (D : DrD) : Nat → List Pl → Bool
  | _, [] => false
  | k, p :: ps => hitB p (D.sp k) || D.coll (k + 1) ps
theorem coll_snoc (D : DrD) (p : Pl) : ∀ (ps : List Pl) (k : Nat), D.coll k (ps ++ [p]) = (D.coll k ps || hitB p (D.sp (k + ps.length)))
  | [], k => by simp [DrD.coll]
  | q :: ps, k => by
    rw [List.cons_append, DrD.coll, coll_snoc D p ps, DrD.coll, List.length_cons, Bool.or_assoc, show k + 1 + ps.length = k + (ps.length + 1) by omega]
structure DrOk (D : DrD) : Prop where
  r1 : D.r ≤ 16
  z0 : D.z = 1 ∨ D.z = 2
  F1 : ∀ j, D.F j ≤ 255
  N1 : D.N ≤ 4
  x1 : D.x ≤ 1000
  y1 : D.y ≤ 1000
  res : Res D.S.hi D.m D.h
/-- The variables that the function only reads. -/
structure DrB (D : DrD) (s0 : Nat) (W : World) : Prop where
  rows : Boxed W (s0 + 6) 3 (.int .i64 (D.r : Int))
  size : Boxed W (s0 + 7) 3 (.int .i64 (D.z : Int))
  x : Boxed W (s0 + 1) 3 (.int .i64 (D.x : Int))
  y : Boxed W (s0 + 2) 3 (.int .i64 (D.y : Int))
  wd : Boxed W (s0 + 8) 3 (.int .i64 (D.m : Int))
  ht : Boxed W (s0 + 9) 3 (.int .i64 (D.h : Int))
  clip : Boxed W (s0 + 3) 4 (.bool D.clip)
  s : SB s0 D.S W
section
variable {D : DrD} {s0 b : Nat} {w w' : World}
theorem boxOther {t : TypeId} {v : Value} {k : Nat} (h : Boxed w k t v) (hne : k ≠ b) (o : Nat) (u : Value) : Boxed (w.setCell ⟨b, o, none⟩ u) k t v := (Below.heap_setCell w ⟨b, o, none⟩ u k hne).trans h
theorem boxRow {t : TypeId} {v : Value} {k : Nat} (h : Boxed w k t v) (hne : k ≠ b) (cs : Array Value) : Boxed (w.setRow b cs) k t v := (setRow_other w b k cs hne).trans h
theorem DrB.step (H : DrB D s0 w) (hb : Below w.heap.size w w') : DrB D s0 w' := ⟨boxStep H.rows hb, boxStep H.size hb, boxStep H.x hb, boxStep H.y hb, boxStep H.wd hb, boxStep H.ht hb, boxStep H.clip hb, H.s.step hb⟩
theorem DrB.other (H : DrB D s0 w) (hb : b = s0 + 4 ∨ s0 + 10 ≤ b) (o : Nat) (u : Value) : DrB D s0 (w.setCell ⟨b, o, none⟩ u) :=
  ⟨boxOther H.rows (by omega) o u, boxOther H.size (by omega) o u, boxOther H.x (by omega) o u, boxOther H.y (by omega) o u, boxOther H.wd (by omega) o u, boxOther H.ht (by omega) o u, boxOther H.clip (by omega) o u, H.s.other (by omega) o u⟩
theorem DrB.row (H : DrB D s0 w) (hb : s0 + 10 ≤ b) (cs : Array Value) : DrB D s0 (w.setRow b cs) :=
  ⟨boxRow H.rows (by omega) cs, boxRow H.size (by omega) cs, boxRow H.x (by omega) cs, boxRow H.y (by omega) cs, boxRow H.wd (by omega) cs, boxRow H.ht (by omega) cs, boxRow H.clip (by omega) cs, H.s.otherRow (by omega) cs⟩
theorem DatA.other {g o n : Nat} {F : Nat → Nat} {A : Option Addr} (h : DatA g o F n A w) (hb : 0 < n → g ≠ b) (k : Nat) (u : Value) : DatA g o F n A (w.setCell ⟨b, k, none⟩ u) := fun hn => by
  obtain ⟨h1, h2, h3⟩ := h hn
  exact ⟨h1, by simpa using h2, fun j hj => by rw [World.cell?_setCell_other _ _ _ _ (by simp [Ne.symm (hb hn)])]; exact h3 j hj⟩
theorem DatA.row {g o n : Nat} {F : Nat → Nat} {A : Option Addr} (h : DatA g o F n A w) (hb : 0 < n → g ≠ b) (cs : Array Value) : DatA g o F n A (w.setRow b cs) := fun hn => by
  obtain ⟨h1, h2, h3⟩ := h hn
  exact ⟨h1, by simpa [World.setRow] using h2, fun j hj => by rw [World.cell?_of_block (a := ⟨g, o + j, none⟩) (setRow_other w b g cs (hb hn))]; exact h3 j hj⟩
theorem Rd16.other {A : Option Addr} {L : List Nat} (h : Rd16 w A L) (hb : ∀ ad, A = some ad → ad.block ≠ b) (o : Nat) (u : Value) : Rd16 (w.setCell ⟨b, o, none⟩ u) A L := fun hne => by
  obtain ⟨ad, hA, hlt, hc⟩ := h hne
  refine ⟨ad, hA, by simpa using hlt, fun j hj => ?_⟩
  rw [World.cell?_of_block (a := ad.add j) (Below.heap_setCell w ⟨b, o, none⟩ u (ad.add j).block (by rw [add_block16]; exact hb ad hA))]
  exact hc j hj
/-- Bytes do not lie in a variable of another kind. -/
theorem DatA.notBox {g o n : Nat} {F : Nat → Nat} {A : Option Addr} {t : TypeId} {v : Value} (h : DatA g o F n A w) (hx : Boxed w b t v) (hv : ∀ x, v ≠ .int .u8 x) (hn : 0 < n) : g ≠ b := fun e => by
  obtain ⟨_, _, h3⟩ := h hn
  have h4 := h3 0 hn
  rw [e, cell_of_row w b (o + 0) #[v] t (0, 0) hx] at h4
  rcases (show o = 0 ∨ 1 ≤ o by omega) with rfl | h5
  · simp at h4
    exact hv _ h4
  · rw [Array.getElem?_eq_none (by simp; omega)] at h4
    cases h4
theorem DatA.notPl {g o n : Nat} {F : Nat → Nat} {A : Option Addr} {t : TypeId} {Q : Pl} (h : DatA g o F n A w) (hx : PBox b t Q w) (hn : 0 < n) : g ≠ b := fun e => by
  obtain ⟨_, _, h3⟩ := h hn
  have h4 := h3 0 hn
  rw [e] at h4
  by_cases h5 : o + 0 < 128
  · rw [hx.cell _ h5] at h4; cases h4
  · rw [cell_of_row w b (o + 0) _ t (0, 0) hx, Array.getElem?_eq_none (by rw [pcells_size]; omega)] at h4; cases h4
end
/-- The world between two rounds: the variables that the function finds. -/
structure DrG (D : DrD) (s0 : Nat) (ps : List Pl) (W : World) : Prop where
  b : DrB D s0 W
  data : ∃ A c, Boxed W (s0 + 4) 39 (.slice A ((D.N - ps.length) * (D.r * D.z)) c) ∧ (D.N - ps.length) * (D.r * D.z) ≤ c ∧ c ≤ 1000 ∧ DatA D.g (D.o + ps.length * (D.r * D.z)) (fun j => D.F (ps.length * (D.r * D.z) + j)) ((D.N - ps.length) * (D.r * D.z)) A W
  coll : Boxed W (s0 + 10) 4 (.bool (D.coll 0 ps))
theorem DrG.step {D : DrD} {s0 : Nat} {ps : List Pl} {w w' : World} (G : DrG D s0 ps w) (hb : Below w.heap.size w w') : DrG D s0 ps w' := by
  obtain ⟨A, c, d1, d2, d3, d4⟩ := G.data
  exact ⟨G.b.step hb, ⟨A, c, boxStep d1 hb, d2, d3, d4.step hb⟩, boxStep G.coll hb⟩
/-- The variables that it turns. -/
def DrT (s0 : Nat) (k : Nat) : Prop := k = s0 + 4 ∨ k = s0 + 10
theorem DatA.short {g o n k : Nat} {F : Nat → Nat} {A : Option Addr} {w : World} (h : DatA g o F n A w) (hk : k ≤ n) : DatA g o F k A w := fun h0 => by
  obtain ⟨h1, h2, h3⟩ := h (by omega)
  exact ⟨h1, h2, fun j hj => h3 j (by omega)⟩
theorem DatA.rest {g o n k c : Nat} {F : Nat → Nat} {A : Option Addr} {w : World} (h : DatA g o F (n + k) A w) (hc : n + k ≤ c) : DatA g (o + k) (fun j => F (k + j)) n (if c = k then A else A.map fun a => a.add k) w := fun h0 => by
  obtain ⟨h1, h2, h3⟩ := h (by omega)
  subst h1
  rw [if_neg (by omega)]
  exact ⟨by simp [Addr.add_mid], h2, fun j hj => by have := h3 (k + j) (by omega); rwa [← Nat.add_assoc] at this⟩
theorem own_le (D : DrD) (ok : DrOk D) : D.r * D.z ≤ 32 := by
  refine Nat.le_trans (Nat.mul_le_mul ok.r1 (show D.z ≤ 2 by rcases ok.z0 with h | h <;> omega)) (by omega)
theorem step_len {N n : Nat} (q : Nat) (hn : n < N) : (N - n) * q = (N - (n + 1)) * q + q := by
  rw [← Nat.succ_mul]; congr 1; omega
set_option maxRecDepth 100000 in
set_option maxHeartbeats 8000000 in
theorem draw1_any (D : DrD) (ok : DrOk D) (s0 : Nat) (ps : List Pl) (hn : ps.length < D.N) (p : Pl) (w : World) (G : DrG D s0 ps w) :
    Calls Try.prog 38 #[.agg (pcells p), .pointer (some ⟨s0 + 6, 0, none⟩), .pointer (some ⟨s0 + 7, 0, none⟩), .pointer (some ⟨s0 + 4, 0, none⟩), .pointer (some ⟨s0 + 1, 0, none⟩), .pointer (some ⟨s0 + 8, 0, none⟩), .pointer (some ⟨s0 + 2, 0, none⟩), .pointer (some ⟨s0 + 9, 0, none⟩), .pointer (some ⟨s0, 0, none⟩), .pointer (some ⟨s0 + 3, 0, none⟩), .pointer (some ⟨s0 + 10, 0, none⟩)] w
      fun e w' => e = .returned (.agg (pcells (drawn p (D.sp ps.length)))) ∧ DrG D s0 (ps ++ [p]) w' ∧ But (DrT s0) w w' := by
  have hz := zeroPlane
  obtain ⟨q, hq⟩ : ∃ q, D.r * D.z = q := ⟨_, rfl⟩
  have q1 := own_le D ok
  rw [hq] at q1
  obtain ⟨m', hm'⟩ : ∃ m', (D.N - (ps.length + 1)) * q = m' := ⟨_, rfl⟩
  have hm : (D.N - ps.length) * (D.r * D.z) = m' + q := by rw [step_len _ hn, hq, hm']
  obtain ⟨Q, hQ⟩ : ∃ Q, drawn p (D.sp ps.length) = Q := ⟨_, rfl⟩
  obtain ⟨P, hP⟩ : ∃ P, D.sp ps.length = P := ⟨_, rfl⟩
  obtain ⟨hv, hhv⟩ : ∃ v, hitB p P = v := ⟨_, rfl⟩
  rw [hP] at hQ
  have DR := Lib.hid fun w => drW hQ hhv w
  have CO := Lib.hid (show D.coll 0 (ps ++ [p]) = (D.coll 0 ps || hv) by rw [coll_snoc, Nat.zero_add, hP, hhv])
  rw [hP, hQ]
  have P0 := Lib.hid ((PBox.new w p 29).alloc (.cells (pcells fun _ => 0#128) 29))
  have R := Lib.hid (PBox.new (w.alloc (.cells (pcells p) 29)) (fun _ => 0#128) 29)
  have B := Lib.hid ((below_new w (.cells (pcells p) 29)).alloc (by simp) (.cells (pcells fun _ => 0#128) 29))
  rw [World.size_alloc] at R
  have G1 := Lib.hid (G.step B.out)
  have Z1 : ((w.alloc (.cells (pcells p) 29)).alloc (.cells (pcells fun _ => 0#128) 29)).heap.size = w.heap.size + 2 := by simp
  have Gs := Lib.hid (show s0 + 10 < w.heap.size from G.coll.lt)
  have OK := Lib.hid (And.intro ok (And.intro hn (And.intro hq (And.intro hm hP))))
  have HM := Lib.hid hm'
  clear G ok hn hP hhv hQ hm'
  go_enter Try.func38, Try.ntmps38
  go_upto_region 1 with fail
  generalize (w.alloc (.cells (pcells p) 29)).alloc (.cells (pcells fun _ => 0#128) 29) = w1 at *
  clear hz
  obtain ⟨A, c, d1, d2, d3, d4⟩ := G1.out.data
  rw [hm] at d1 d2 d4
  have DD := Lib.hid (And.intro d1 (And.intro d2 (And.intro d3 d4)))
  have c1 := G1.out.b.rows.cell
  have c2 := G1.out.b.size.cell
  have c3 := d1.cell
  obtain ⟨r, hr⟩ : ∃ r, D.r = r := ⟨_, rfl⟩
  obtain ⟨z, hzz⟩ : ∃ z, D.z = z := ⟨_, rfl⟩
  rw [hr] at c1
  rw [hzz] at c2
  have e1 : (r : Int) * (z : Int) = (q : Int) := by rw [← hq, hr, hzz]; simp
  have e2 : max (q : Int) 0 = (q : Int) := by omega
  have e3 : min (q : Int) ((m' : Int) + (q : Int)) = (q : Int) := by omega
  have RZ := Lib.hid (And.intro hr hzz)
  clear d1 d2 d3 d4 hm hr hzz hq
  go_upto_region 2 with fail
  have RB := Lib.hid (show ∀ w', Below w1.heap.size w1 w' → Calls Try.prog 39 #[.slice A q c, .int .i64 (z : Int)] w' fun e w'' => ∃ A' c', e = .returned (.slice A' r c') ∧ Rd16 w'' A' (rowsL D.F r z (ps.length * (D.r * D.z))) ∧ (∀ ad, A' = some ad → w'.heap.size ≤ ad.block) ∧ Below w'.heap.size w' w'' from fun w' hb => by
    have h := rowBits_any D.g (D.o + ps.length * (D.r * D.z)) r z c A (fun j => D.F (ps.length * (D.r * D.z) + j)) (by have := OK.out.1.z0; have := RZ.out.2; omega) (by have := OK.out.1.z0; have := RZ.out.2; omega) (by have := OK.out.1.r1; have := RZ.out.1; omega) (by have h2 := DD.out.2.1; have h3 := OK.out.2.2.1; rw [RZ.out.1, RZ.out.2] at h3; omega) DD.out.2.2.1 (fun j => OK.out.1.F1 _) w' (by
      have h3 := OK.out.2.2.1
      rw [RZ.out.1, RZ.out.2] at h3
      rw [h3]
      exact (DD.out.2.2.2.step hb).short (by omega))
    have h3 := OK.out.2.2.1
    rw [RZ.out.1, RZ.out.2] at h3
    rw [h3] at h
    exact h)
  have k3 : ∀ x : Calm w1, x.w.cell? ⟨s0 + 4, 0, none⟩ = some (.slice A (m' + q) c) := fun x => (boxStep DD.out.1 x.below).cell
  have k2 : ∀ x : Calm w1, x.w.cell? ⟨s0 + 7, 0, none⟩ = some (.int .i64 (z : Int)) := fun x => by rw [← RZ.out.2]; exact (boxStep G1.out.b.size x.below).cell
  have qc : (q : Int) ≤ (c : Int) := by have := DD.out.2.1; omega
  have LL := Lib.hid (And.intro P0.out (And.intro R.out (And.intro B.out G1.out)))
  refine wp_region_mix (C := fun w' => ∃ x : Calm w1, w' = x.w) [([0, 1, 2, 3], 4)] [5] (by kernel_rfl) (by kernel_rfl) (fun _ _ d _ _ h => by cases d <;> exact h) ⟨⟨w1.drew, (Below.refl _ _).drew⟩, rfl⟩ ?_
  intro wd hwd
  have bd : Below w1.heap.size w1 wd := by rw [hwd]; exact (Below.refl _ _).drew
  clear hwd c1 c2 c3
  refine mix_run (by simp only [opsAt, List.getElem?_toArray, List.getElem?_cons_succ, List.getElem?_cons_zero]; rfl) (by simp only [List.getElem?_toArray, List.getElem?_cons_succ, List.getElem?_cons_zero]; rfl) ?_
  repeat (go_big_quiet_step (rfl))
  refine wpQuiet_nil ?_
  refine mix_call (by rfl) ?_
  intro K hK
  go_wp2_with fail
  refine (RB.out _ bd).mono ?_
  rintro e w2 ⟨A', c', rfl, hrd, hab, b2⟩
  have hab := Lib.hid fun ad h => Nat.le_trans bd.size (hab ad h)
  have b2' := bd.trans (b2.mono bd.size)
  have L2 := Lib.hid (And.intro (P0.out.step b2') (And.intro (R.out.step b2') (And.intro (B.out.trans (b2'.mono B.out.size)) (And.intro (G1.out.step b2') (And.intro (boxStep DD.out.1 b2') (And.intro (DD.out.2.2.2.step b2') hrd))))))
  simp only []
  refine hK _ _ ⟨⟨w2, b2'⟩, rfl⟩ ?_
  clear hK K b2 hrd LL P0 R B G1 RB k3 k2
  refine mix_last (by simp only [opsAt, List.getElem?_toArray, List.getElem?_cons_succ, List.getElem?_cons_zero]; rfl) ?_
  repeat (go_big_quiet_step (rfl))
  refine wpQuiet_nil ?_
  have k3 := L2.out.2.2.2.2.1.cell
  have f3 := L2.out.2.2.2.2.1.frozen
  go_upto_region 4 with fail
  have hcq := DD.out.2.1
  have DA := Lib.hid (L2.out.2.2.2.2.2.1.rest hcq)
  obtain ⟨A3, hA3⟩ : ∃ A3, (if c = q then A else Option.map (fun x => x.add q) A) = A3 := ⟨_, rfl⟩
  rw [hA3] at DA ⊢
  have nb : 0 < m' → D.g ≠ s0 + 4 := L2.out.2.2.2.2.2.1.short (by omega : m' ≤ m' + q) |>.notBox L2.out.2.2.2.2.1 (fun x h => by cases h)
  have S3 := Lib.hid (show DrB D s0 (w2.setCell ⟨s0 + 4, 0, none⟩ (.slice A3 m' (c - q))) ∧ Boxed (w2.setCell ⟨s0 + 4, 0, none⟩ (.slice A3 m' (c - q))) (s0 + 4) 39 (.slice A3 m' (c - q)) ∧
      DatA D.g (D.o + ps.length * (D.r * D.z) + q) (fun j => D.F (ps.length * (D.r * D.z) + (q + j))) m' A3 (w2.setCell ⟨s0 + 4, 0, none⟩ (.slice A3 m' (c - q))) ∧ Boxed (w2.setCell ⟨s0 + 4, 0, none⟩ (.slice A3 m' (c - q))) (s0 + 10) 4 (.bool (D.coll 0 ps)) ∧
      PBox w.heap.size 29 p (w2.setCell ⟨s0 + 4, 0, none⟩ (.slice A3 m' (c - q))) ∧ PBox (w.heap.size + 1) 29 (fun _ => 0#128) (w2.setCell ⟨s0 + 4, 0, none⟩ (.slice A3 m' (c - q))) ∧ Rd16 (w2.setCell ⟨s0 + 4, 0, none⟩ (.slice A3 m' (c - q))) A' (rowsL D.F r z (ps.length * (D.r * D.z))) ∧ But (DrT s0) w (w2.setCell ⟨s0 + 4, 0, none⟩ (.slice A3 m' (c - q))) ∧ w.heap.size + 2 ≤ (w2.setCell ⟨s0 + 4, 0, none⟩ (.slice A3 m' (c - q))).heap.size from
    ⟨L2.out.2.2.2.1.b.other (.inl rfl) _ _, L2.out.2.2.2.2.1.set _, DA.out.other nb _ _, boxOther L2.out.2.2.2.1.coll (by omega) _ _, L2.out.1.other (by have := Gs.out; omega) _ _, L2.out.2.1.other (by have := Gs.out; omega) _ _,
      L2.out.2.2.2.2.2.2.other (fun ad h => by have := hab.out ad h; have := Gs.out; omega) _ _, (But.of_below L2.out.2.2.1).trans (But.cell _ _ (.inl rfl)), by have := b2'.size; simp; omega⟩)
  generalize w2.setCell ⟨s0 + 4, 0, none⟩ (.slice A3 m' (c - q)) = w3 at *
  clear k3 f3 hA3 nb DA L2 bd b2' qc e1 e2 e3
  obtain ⟨x, hx⟩ : ∃ x, D.x = x := ⟨_, rfl⟩
  obtain ⟨y, hy⟩ : ∃ y, D.y = y := ⟨_, rfl⟩
  obtain ⟨m, hm⟩ : ∃ m, D.m = m := ⟨_, rfl⟩
  obtain ⟨h, hh⟩ : ∃ h, D.h = h := ⟨_, rfl⟩
  obtain ⟨hi, hhi⟩ : ∃ hi, D.S.hi = hi := ⟨_, rfl⟩
  obtain ⟨cl, hcl⟩ : ∃ cl, D.clip = cl := ⟨_, rfl⟩
  have VV := Lib.hid (And.intro hx (And.intro hy (And.intro hm (And.intro hh (And.intro hhi hcl)))))
  have res := OK.out.1.res
  rw [hm, hh, hhi] at res
  obtain ⟨m0, m1, h0, h1⟩ := res.bounds
  have k2 : ∀ u : Calm w3, u.w.cell? ⟨s0 + 7, 0, none⟩ = some (.int .i64 (z : Int)) := fun u => by rw [← RZ.out.2]; exact (boxStep S3.out.1.size u.below).cell
  have k4 : ∀ u : Calm w3, u.w.cell? ⟨s0 + 1, 0, none⟩ = some (.int .i64 (x : Int)) := fun u => by rw [← hx]; exact (boxStep S3.out.1.x u.below).cell
  have k5 : ∀ u : Calm w3, u.w.cell? ⟨s0 + 8, 0, none⟩ = some (.int .i64 (m : Int)) := fun u => by rw [← hm]; exact (boxStep S3.out.1.wd u.below).cell
  have k6 : ∀ u : Calm w3, u.w.cell? ⟨s0 + 2, 0, none⟩ = some (.int .i64 (y : Int)) := fun u => by rw [← hy]; exact (boxStep S3.out.1.y u.below).cell
  have k7 : ∀ u : Calm w3, u.w.cell? ⟨s0 + 9, 0, none⟩ = some (.int .i64 (h : Int)) := fun u => by rw [← hh]; exact (boxStep S3.out.1.ht u.below).cell
  have k8 : ∀ u : Calm w3, u.w.cell? ⟨s0, 512, none⟩ = some (.bool hi) := fun u => by rw [← hhi]; exact (S3.out.1.s.step u.below).hires
  have k9 : ∀ u : Calm w3, u.w.cell? ⟨s0 + 3, 0, none⟩ = some (.bool cl) := fun u => by rw [← hcl]; exact (boxStep S3.out.1.clip u.below).cell
  have kp := Lib.hid (fun (w' : World) (hw : ∃ u : Calm w3, w' = u.w) => show Blk w.heap.size 29 (pcells p) w' by obtain ⟨u, rfl⟩ := hw; exact S3.out.2.2.2.2.1.step u.below)
  have z8 : (z : Int) ≤ 2 := by have := OK.out.1.z0; have := RZ.out.2; omega
  have mI : (0 : Int) < (m : Int) := by omega
  have hI : (0 : Int) < (h : Int) := by omega
  have RS := Lib.hid res
  clear hx hy hm hh hhi hcl res hcq
  refine wp_region_late (C := fun w' => ∃ u : Calm w3, w' = u.w) 18 [([0, 1, 2, 3, 4, 5, 6, 7, 8, 9, 10, 11, 12], 13, true), ([], 14, true)] [15, 16, 17] [19] (by kernel_rfl) (by kernel_rfl) ?_ ?_ ⟨⟨w3.drew, (Below.refl _ _).drew⟩, rfl⟩ ?_
  · exact fun _ _ d _ _ h => by cases d <;> exact h
  · rintro _ w' ⟨u, rfl⟩ hg
    exact ⟨⟨w', u.below.trans (hg.mono u.below.size)⟩, rfl⟩
  intro wd hwd
  have bd := Lib.hid (show Below w3.heap.size w3 wd by rw [hwd]; exact (Below.refl _ _).drew)
  clear hwd
  refine late_calm (by simp only [opsAt, List.getElem?_toArray, List.getElem?_cons_succ, List.getElem?_cons_zero]; rfl) (by simp only [List.getElem?_toArray, List.getElem?_cons_succ, List.getElem?_cons_zero]; rfl) ?_
  refine quiet_load_all aggPl kp.out (pcells_size _) rfl (.tmp 11) rfl (by simp [Act.eval]) ?_
  simp only [Act.put, List.setIfInBounds_toArray, List.set_cons_zero, List.set_cons_succ]
  repeat (go_big_quiet_step (rfl))
  refine wpQuiet_nil ?_
  have HSP : spr (nth (rowsL D.F r z (ps.length * (D.r * D.z)))) r (z * 8) (x % m) (y % h) m h cl = P := by
    have e := OK.out.2.2.2.2
    unfold DrD.sp at e
    obtain ⟨v1, v2, v3, v4, v5, v6⟩ := VV.out
    rw [v1, v2, v3, v4, v6] at e
    rw [← e]
    rw [RZ.out.1, RZ.out.2]
  have SP : ∀ w', (∃ u : Calm w3, w' = u.w) → Calls Try.prog 41 #[.slice A' r c', .int .i64 ((z : Int) * 8), .int .i64 ((x : Int) % (m : Int)), .int .i64 ((y : Int) % (h : Int)), .bool hi, .bool cl] w' fun e w'' => e = .returned (.agg (pcells P)) ∧ Gr w' w'' := by
    rintro w' ⟨u, rfl⟩
    exact spW RS.out (S3.out.2.2.2.2.2.2.1.step u.below) (by
      intro v hv
      unfold rowsL at hv
      obtain ⟨j, _, rfl⟩ := List.mem_map.1 hv
      exact rowv_le (fun j => OK.out.1.F1 _) z j (by have := OK.out.1.z0; have := RZ.out.2; omega)) (by simp [rowsL]) (by have := OK.out.1.r1; have := RZ.out.1; omega) (by have := OK.out.1.z0; have := RZ.out.2; omega) (Nat.mod_lt _ (by omega)) (Nat.mod_lt _ (by omega)) (by simp) (by simp) (by simp) HSP
  refine calm_next (v := .agg (pcells P)) (calm_fn (g := 41) (caps := #[]) (args := #[.slice A' r c', .int .i64 ((z : Int) * 8), .int .i64 ((x : Int) % (m : Int)), .int .i64 ((y : Int) % (h : Int)), .bool hi, .bool cl]) (.func 41) #[.tmp 33, .tmp 35, .tmp 38, .tmp 41, .tmp 43, .tmp 44] #[77, 3, 3, 3, 4, 4] rfl rfl (enters_of Try.func41 (by kernel_rfl) rfl) SP rfl (by simp [Act.eval])) ?_
  clear SP HSP k2 k4 k5 k6 k7 k8 k9
  simp only [Act.put, List.setIfInBounds_toArray, List.set_cons_zero, List.set_cons_succ]
  refine late_calm (by simp only [opsAt, List.getElem?_toArray, List.getElem?_cons_succ, List.getElem?_cons_zero]; rfl) (by simp only [List.getElem?_toArray, List.getElem?_cons_succ, List.getElem?_cons_zero]; rfl) ?_
  refine wpQuiet_nil ?_
  refine calm_next (v := .tuple #[.agg (pcells Q), .bool hv]) (calm_fn (g := 40) (caps := #[]) (args := #[.agg (pcells p), .agg (pcells P)]) (.func 40) #[.tmp 32, .tmp 45] #[29, 29] rfl rfl (enters_of Try.func40 (by kernel_rfl) rfl) (fun w' _ => DR.out w') rfl (by simp [Act.eval])) ?_
  simp only [Act.put, List.setIfInBounds_toArray, List.set_cons_zero, List.set_cons_succ]
  refine late_last (by simp only [opsAt, List.getElem?_toArray, List.getElem?_cons_succ, List.getElem?_cons_zero]; rfl) (by simp only [List.getElem?_toArray, List.getElem?_cons_succ, List.getElem?_cons_zero]; rfl) ?_
  repeat (go_big_quiet_step (rfl))
  refine wpQuiet_nil ?_
  refine last_next rfl ?_
  intro w4 g4 C4 K hK
  have b4 := Lib.hid (bd.out.trans (g4.mono bd.out.size))
  refine wp_store_all (ds := pcells Q) aggPl (PBox.step S3.out.2.2.2.2.1 b4.out) (pcells_size _) (pcells_size _) (pcells_one _) (.tmp 11) (.tmp 47) rfl (by simp [Act.eval, Act.put]) (by simp [Act.eval, Act.put]) ?_
  refine hK _ _ ?_
  clear hK K
  simp only [Act.put, List.setIfInBounds_toArray, List.set_cons_zero, List.set_cons_succ]
  simp only [opsAt, List.getElem?_toArray, List.getElem?_cons_succ, List.getElem?_cons_zero]
  repeat (go_big_quiet_step (rfl))
  refine wpQuiet_nil ?_
  intro w5 g5
  obtain ⟨cv, hcv⟩ : ∃ cv, D.coll 0 ps = cv := ⟨_, rfl⟩
  rw [hcv] at S3 CO
  have S4 := S3.out
  obtain ⟨s1, s2, s3, s4, s5, s6, -, s8, s9⟩ := S4
  have ng : 0 < m' → D.g ≠ w.heap.size := fun h0 => (s3.step b4.out).notPl (PBox.step s5 b4.out) h0
  have S5 := Lib.hid (show DrB D s0 w5 ∧ Boxed w5 (s0 + 4) 39 (.slice A3 m' (c - q)) ∧ DatA D.g (D.o + ps.length * (D.r * D.z) + q) (fun j => D.F (ps.length * (D.r * D.z) + (q + j))) m' A3 w5 ∧ Boxed w5 (s0 + 10) 4 (.bool cv) ∧
      PBox w.heap.size 29 Q w5 ∧ PBox (w.heap.size + 1) 29 (fun _ => 0#128) w5 ∧ But (DrT s0) w w5 from
    ⟨((s1.step b4.out).row (by have := Gs.out; omega) _).step g5, boxStep (boxRow (boxStep s2 b4.out) (by have := Gs.out; omega) _) g5, ((s3.step b4.out).row ng _).step g5, boxStep (boxRow (boxStep s4 b4.out) (by have := Gs.out; omega) _) g5,
      (PBox.store (PBox.step s5 b4.out) Q).step g5, ((PBox.step s6 b4.out).otherRow (by omega) _).step g5, ((s8.trans (But.of_below b4.out)).rowNew (Nat.le_refl _) _).trans (But.of_below g5)⟩)
  clear S3 s1 s2 s3 s4 s5 s6 s8 s9 ng b4 g4 C4 g5 bd kp VV m0 m1 h0 h1 z8 mI hI RS
  have CB := Lib.hid (And.intro DD.out.2.1 DD.out.2.2.1)
  clear DD
  have k10 := S5.out.2.2.2.1.cell
  have f10 := S5.out.2.2.2.1.frozen
  obtain ⟨nv, hnv⟩ : ∃ nv, (cv || hv) = nv := ⟨_, rfl⟩
  rw [hnv] at CO
  have NV := Lib.hid hnv
  clear hnv hcv
  have fin : ∀ (K : Act → World → Prop), True := fun _ => trivial
  clear fin
  have stage : cv = true ∧ nv = true ∨ cv = false ∧ nv = hv := by
    have := NV.out
    cases cv
    · exact .inr ⟨rfl, by rw [← this]; rfl⟩
    · exact .inl ⟨rfl, by rw [← this]; rfl⟩
  rcases stage with ⟨rfl, rfl⟩ | ⟨rfl, rfl⟩
  · go_upto_region 6 with fail
    obtain ⟨s1, s2, s3, s4, s5, s6, s8⟩ := S5.out
    have ng : 0 < m' → D.g ≠ s0 + 10 := fun h0 => s3.notBox s4 (fun x h => by cases h) h0
    have ng2 : 0 < m' → D.g ≠ w.heap.size + 1 := fun h0 => s3.notPl s6 h0
    have S6 := Lib.hid (show DrB D s0 (w5.setCell ⟨s0 + 10, 0, none⟩ (.bool true)) ∧ Boxed (w5.setCell ⟨s0 + 10, 0, none⟩ (.bool true)) (s0 + 4) 39 (.slice A3 m' (c - q)) ∧ DatA D.g (D.o + ps.length * (D.r * D.z) + q) (fun j => D.F (ps.length * (D.r * D.z) + (q + j))) m' A3 (w5.setCell ⟨s0 + 10, 0, none⟩ (.bool true)) ∧ Boxed (w5.setCell ⟨s0 + 10, 0, none⟩ (.bool true)) (s0 + 10) 4 (.bool true) ∧
        PBox w.heap.size 29 Q (w5.setCell ⟨s0 + 10, 0, none⟩ (.bool true)) ∧ PBox (w.heap.size + 1) 29 (fun _ => 0#128) (w5.setCell ⟨s0 + 10, 0, none⟩ (.bool true)) ∧ But (DrT s0) w (w5.setCell ⟨s0 + 10, 0, none⟩ (.bool true)) from
      ⟨s1.other (.inr (Nat.le_refl _)) _ _, boxOther s2 (by omega) _ _, s3.other ng _ _, s4.set _, s5.other (by have := Gs.out; omega) _ _, s6.other (by have := Gs.out; omega) _ _, s8.trans (But.cell _ _ (.inr rfl))⟩)
    generalize w5.setCell ⟨s0 + 10, 0, none⟩ (.bool true) = w6 at *
    clear s1 s2 s3 s4 s5 s6 s8 S5 k10 f10
    refine wp_region_lit ?_
    refine list_load_all aggPl S6.out.2.2.2.2.1 (pcells_size _) rfl (.tmp 11) rfl (by simp [Act.eval]) ?_
    simp only [Act.put, List.setIfInBounds_toArray, List.set_cons_zero, List.set_cons_succ]
    refine list_store_all (ds := pcells Q) aggPl S6.out.2.2.2.2.2.1 (pcells_size _) (pcells_size _) (pcells_one _) rfl (.tmp 12) (.tmp 53) rfl (by simp [Act.eval, Act.put]) (by simp [Act.eval, Act.put]) ?_
    simp only [Act.put, List.setIfInBounds_toArray, List.set_cons_zero, List.set_cons_succ]
    have R7 := Lib.hid (S6.out.2.2.2.2.2.1.store Q)
    have G7 := Lib.hid (show DrG D s0 (ps ++ [p]) (w6.setRow (w.heap.size + 1) (pcells Q)) ∧ But (DrT s0) w (w6.setRow (w.heap.size + 1) (pcells Q)) from by
      obtain ⟨s1, s2, s3, s4, s5, s6, s8⟩ := S6.out
      refine ⟨⟨s1.row (by have := Gs.out; omega) _, ⟨A3, c - q, ?_, ?_, ?_, ?_⟩, ?_⟩, s8.rowNew (by omega) _⟩
      · have e : (D.N - (ps ++ [p]).length) * (D.r * D.z) = m' := by rw [List.length_append, List.length_singleton, OK.out.2.2.1, HM.out]
        rw [e]
        exact boxRow s2 (by have := Gs.out; omega) _
      · have e : (D.N - (ps ++ [p]).length) * (D.r * D.z) = m' := by rw [List.length_append, List.length_singleton, OK.out.2.2.1, HM.out]
        rw [e]
        have := CB.out.1
        omega
      · have := CB.out.2
        omega
      · have e : (D.N - (ps ++ [p]).length) * (D.r * D.z) = m' := by rw [List.length_append, List.length_singleton, OK.out.2.2.1, HM.out]
        rw [e]
        have e2 : (ps ++ [p]).length * (D.r * D.z) = ps.length * (D.r * D.z) + q := by rw [List.length_append, List.length_singleton, Nat.succ_mul, OK.out.2.2.1]
        rw [e2, ← Nat.add_assoc]
        have h := s3.row (b := w.heap.size + 1) ng2 (pcells Q)
        simpa [Nat.add_assoc] using h
      · rw [CO.out]
        exact boxRow s4 (by have := Gs.out; omega) _)
    generalize w6.setRow (w.heap.size + 1) (pcells Q) = w7 at *
    iterate 4 go_step
    exact bodyPost_ret (results_cell_row rfl _ _ (w.heap.size + 1) _ _ _ _ rfl R7.out Try.underlying29 rfl (by rw [aggPl.i, pcells_size])) rfl ⟨rfl, G7.out.1, G7.out.2⟩
  · go_upto_region 6 with fail
    obtain ⟨s1, s2, s3, s4, s5, s6, s8⟩ := S5.out
    have ng : 0 < m' → D.g ≠ s0 + 10 := fun h0 => s3.notBox s4 (fun x h => by cases h) h0
    have ng2 : 0 < m' → D.g ≠ w.heap.size + 1 := fun h0 => s3.notPl s6 h0
    have S6 := Lib.hid (show DrB D s0 (w5.setCell ⟨s0 + 10, 0, none⟩ (.bool nv)) ∧ Boxed (w5.setCell ⟨s0 + 10, 0, none⟩ (.bool nv)) (s0 + 4) 39 (.slice A3 m' (c - q)) ∧ DatA D.g (D.o + ps.length * (D.r * D.z) + q) (fun j => D.F (ps.length * (D.r * D.z) + (q + j))) m' A3 (w5.setCell ⟨s0 + 10, 0, none⟩ (.bool nv)) ∧ Boxed (w5.setCell ⟨s0 + 10, 0, none⟩ (.bool nv)) (s0 + 10) 4 (.bool nv) ∧
        PBox w.heap.size 29 Q (w5.setCell ⟨s0 + 10, 0, none⟩ (.bool nv)) ∧ PBox (w.heap.size + 1) 29 (fun _ => 0#128) (w5.setCell ⟨s0 + 10, 0, none⟩ (.bool nv)) ∧ But (DrT s0) w (w5.setCell ⟨s0 + 10, 0, none⟩ (.bool nv)) from
      ⟨s1.other (.inr (Nat.le_refl _)) _ _, boxOther s2 (by omega) _ _, s3.other ng _ _, s4.set _, s5.other (by have := Gs.out; omega) _ _, s6.other (by have := Gs.out; omega) _ _, s8.trans (But.cell _ _ (.inr rfl))⟩)
    generalize w5.setCell ⟨s0 + 10, 0, none⟩ (.bool nv) = w6 at *
    clear s1 s2 s3 s4 s5 s6 s8 S5 k10 f10
    refine wp_region_lit ?_
    refine list_load_all aggPl S6.out.2.2.2.2.1 (pcells_size _) rfl (.tmp 11) rfl (by simp [Act.eval]) ?_
    simp only [Act.put, List.setIfInBounds_toArray, List.set_cons_zero, List.set_cons_succ]
    refine list_store_all (ds := pcells Q) aggPl S6.out.2.2.2.2.2.1 (pcells_size _) (pcells_size _) (pcells_one _) rfl (.tmp 12) (.tmp 53) rfl (by simp [Act.eval, Act.put]) (by simp [Act.eval, Act.put]) ?_
    simp only [Act.put, List.setIfInBounds_toArray, List.set_cons_zero, List.set_cons_succ]
    have R7 := Lib.hid (S6.out.2.2.2.2.2.1.store Q)
    have G7 := Lib.hid (show DrG D s0 (ps ++ [p]) (w6.setRow (w.heap.size + 1) (pcells Q)) ∧ But (DrT s0) w (w6.setRow (w.heap.size + 1) (pcells Q)) from by
      obtain ⟨s1, s2, s3, s4, s5, s6, s8⟩ := S6.out
      refine ⟨⟨s1.row (by have := Gs.out; omega) _, ⟨A3, c - q, ?_, ?_, ?_, ?_⟩, ?_⟩, s8.rowNew (by omega) _⟩
      · have e : (D.N - (ps ++ [p]).length) * (D.r * D.z) = m' := by rw [List.length_append, List.length_singleton, OK.out.2.2.1, HM.out]
        rw [e]
        exact boxRow s2 (by have := Gs.out; omega) _
      · have e : (D.N - (ps ++ [p]).length) * (D.r * D.z) = m' := by rw [List.length_append, List.length_singleton, OK.out.2.2.1, HM.out]
        rw [e]
        have := CB.out.1
        omega
      · have := CB.out.2
        omega
      · have e : (D.N - (ps ++ [p]).length) * (D.r * D.z) = m' := by rw [List.length_append, List.length_singleton, OK.out.2.2.1, HM.out]
        rw [e]
        have e2 : (ps ++ [p]).length * (D.r * D.z) = ps.length * (D.r * D.z) + q := by rw [List.length_append, List.length_singleton, Nat.succ_mul, OK.out.2.2.1]
        rw [e2, ← Nat.add_assoc]
        have h := s3.row (b := w.heap.size + 1) ng2 (pcells Q)
        simpa [Nat.add_assoc] using h
      · rw [CO.out]
        exact boxRow s4 (by have := Gs.out; omega) _)
    generalize w6.setRow (w.heap.size + 1) (pcells Q) = w7 at *
    iterate 4 go_step
    exact bodyPost_ret (results_cell_row rfl _ _ (w.heap.size + 1) _ _ _ _ rfl R7.out Try.underlying29 rfl (by rw [aggPl.i, pcells_size])) rfl ⟨rfl, G7.out.1, G7.out.2⟩
end Go.Proofs.Ytplmmfgmbfcjpaa
