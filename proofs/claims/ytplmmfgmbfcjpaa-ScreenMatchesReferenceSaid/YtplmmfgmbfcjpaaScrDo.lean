/- Contracts of the law package's needs and do (layer 8). -/
import Derived.Test.YtplmmfgmbfcjpaaScrNeed
import Derived.Test.YtplmmfgmbfcjpaaScrDraw
import Derived.Test.YtplmmfgmbfcjpaaScrFill
namespace Go.Proofs.Ytplmmfgmbfcjpaa
open Go.RowKit Go.Shelf Num
set_option linter.unusedVariables false
set_option linter.unusedSimpArgs false

/-- A step. -/
structure Stp where
  k : Int
  m : Int
  hires : Bool
  x : Int
  y : Int
  n : Int
  big : Bool
  clip : Bool
  A : Option Addr
  len : Nat
  cap : Nat
def stc (x : Stp) : Array Value := #[.int .i64 x.k, .int .i64 x.m, .bool x.hires, .int .i64 x.x, .int .i64 x.y, .int .i64 x.n, .bool x.big, .bool x.clip, .slice x.A x.len x.cap]
theorem stc_size (x : Stp) : (stc x).size = 9 := rfl
theorem stc_one (x : Stp) : Ones (stc x) := by simp [Ones, stc, Value.oneCell']
theorem aggStp : AggT Try.prog 41 9 := ⟨⟨_, Try.underlying41, rfl⟩, by kernel_rfl⟩
def InI (x : Int) : Prop := -9223372036854775808 ≤ x ∧ x ≤ 9223372036854775807
/-- A step whose data reads as L. -/
structure StpOk (q : Stp) (L : List Nat) (w : World) : Prop where
  k : InI q.k
  m : InI q.m
  x : InI q.x
  y : InI q.y
  n : InI q.n
  rd : Rd8 w q.A L
  len : L.length = q.len
  max : q.len ≤ maxLen
  le : ∀ b ∈ L, b ≤ 255
theorem StpOk.step {x : Stp} {L : List Nat} {w w' : World} (h : StpOk x L w) (hb : Below w.heap.size w w') : StpOk x L w' := ⟨h.k, h.m, h.x, h.y, h.n, h.rd.step hb, h.len, h.max, h.le⟩
theorem fill_le {L : List Nat} (h : ∀ b ∈ L, b ≤ 255) (j : Nat) : fillF L j ≤ 255 := by
  unfold fillF
  split
  · omega
  · rename_i h0
    rw [List.getD_eq_getElem?_getD]
    have hl : j % L.length < L.length := Nat.mod_lt _ (by omega)
    rw [List.getElem?_eq_getElem hl]
    exact h _ (List.getElem_mem hl)
/-- A screen's width and height. -/
def wid (hires : Bool) : Nat := if hires then 128 else 64
def hei (hires : Bool) : Nat := if hires then 64 else 32
theorem res_of (hires : Bool) : Res hires (wid hires) (hei hires) := by
  cases hires
  · exact .inr ⟨rfl, rfl, rfl⟩
  · exact .inl ⟨rfl, rfl, rfl⟩
/-- A drawing on the selected planes. -/
def mkD (F : Nat → Nat) (S : Sc) (M n : Nat) (big clip : Bool) (x y g o : Nat) : DrD :=
  ⟨g, o, F, (selTo M 4).length, if big then 16 else n, if big then 2 else 1, x, y, wid S.hi, hei S.hi, clip, S⟩
theorem mkD_ok (F : Nat → Nat) (hF : ∀ j, F j ≤ 255) (S : Sc) (M n : Nat) (hn : n ≤ 16) (big clip : Bool) (x y g o : Nat) (hx : x ≤ 1000) (hy : y ≤ 1000) : DrOk (mkD F S M n big clip x y g o) :=
  ⟨by unfold mkD; simp only; split <;> omega, by unfold mkD; simp only; cases big <;> simp, hF, by unfold mkD; exact selTo_len M 4, hx, hy, res_of S.hi⟩
def drS (D : DrD) (M : Nat) : Sc := onPl (fun i p => drawn p (D.sp (selTo M i).length)) M D.S
def coS (D : DrD) (M : Nat) : Bool := D.coll 0 ((selTo M 4).map fun i => D.S.P i.val)
theorem sp_any (F : Nat → Nat) (S : Sc) (M n : Nat) (big clip : Bool) (x y g o g' o' k : Nat) : (mkD F S M n big clip x y g o).sp k = (mkD F S M n big clip x y g' o').sp k := rfl
theorem coll_any (F : Nat → Nat) (S : Sc) (M n : Nat) (big clip : Bool) (x y g o g' o' : Nat) : ∀ (ps : List Pl) (k : Nat), (mkD F S M n big clip x y g o).coll k ps = (mkD F S M n big clip x y g' o').coll k ps
  | [], k => rfl
  | p :: ps, k => by rw [DrD.coll, DrD.coll, coll_any F S M n big clip x y g o g' o' ps]; rfl
theorem coS_any (F : Nat → Nat) (S : Sc) (M n : Nat) (big clip : Bool) (x y g o g' o' : Nat) : coS (mkD F S M n big clip x y g o) M = coS (mkD F S M n big clip x y g' o') M := coll_any _ _ _ _ _ _ _ _ _ _ _ _ _ _
/-- The screen and the collision after a step. -/
def stD (S : Sc) (M : Nat) (x : Stp) (L : List Nat) : DrD := mkD (fillF L) S M (x.n % 16).toNat x.big x.clip (x.x % 256).toNat (x.y % 256).toNat 0 0
def doS (S : Sc) (M : Nat) (x : Stp) (L : List Nat) : Sc × Bool :=
  if x.k = 0 then (S.mask (x.m % 16), false) else if x.k = 1 then (onPl (fun _ _ _ => 0#128) M S, false) else if x.k = 2 then (blankS x.hires S.M, false)
  else if x.k = 3 then (onPl (fun _ p => scroll p (x.x % 33 - 16) (x.y % 33 - 16) (wid S.hi) (hei S.hi)) M S, false)
  else (drS (stD S M x L) M, coS (stD S M x L) M)
/-- The mask behind it. -/
def doM (M : Nat) (x : Stp) : Nat := if x.k = 0 then (x.m % 16).toNat else M
theorem doM_le {M : Nat} (h : M ≤ 15) (x : Stp) : doM M x ≤ 15 := by unfold doM; split <;> omega
theorem doS_mask {S : Sc} {M : Nat} (h : S.M = (M : Int)) (x : Stp) (L : List Nat) : (doS S M x L).1.M = (doM M x : Int) := by
  unfold doS doM
  split
  · unfold Sc.mask; simp only; omega
  · split
    · exact h
    · split
      · exact h
      · split
        · exact h
        · exact h
theorem need_le4 (M n : Nat) (big : Bool) (hn : n ≤ 32) : need M n big 4 ≤ 128 := need_le M n big hn 4
set_option maxRecDepth 100000 in
set_option maxHeartbeats 8000000 in
theorem needs_any (S : Sc) (M : Nat) (hM : S.M = (M : Int)) (M1 : M ≤ 15) (x : Stp) (L : List Nat) (w : World) (hx : StpOk x L w) :
    Calls Try.prog 11 #[.agg (scells S), .agg (stc x)] w fun e w' => e = .returned (.bool true) ∧ Below w.heap.size w w' := by
  obtain ⟨nn, hnn⟩ : ∃ nn : Nat, x.n % 16 = (nn : Int) := ⟨(x.n % 16).toNat, by omega⟩
  have n1 : nn ≤ 15 := by omega
  obtain ⟨bg, hbg⟩ : ∃ bg, x.big = bg := ⟨_, rfl⟩
  obtain ⟨nd, hnd⟩ : ∃ nd, need M nn bg 4 = nd := ⟨_, rfl⟩
  have N8 := Lib.hid fun w => hnd ▸ need8_any S M nn bg hM (by omega) (by omega) w
  have NR := Lib.hid fun w => hnd ▸ need_any M nn bg w (by omega) (by omega)
  have MD := Lib.hid fun w => hnn ▸ smod_any x.n 16 w hx.n.1 hx.n.2 (by omega) (by omega)
  have S0 := Lib.hid ((SB.new w S).alloc (.cells (stc x) 41))
  have T0 := Lib.hid (Blk.new (w.alloc (.cells (scells S) 32)) 41 (stc x))
  have B0 := Lib.hid ((below_new w (.cells (scells S) 32)).alloc (by simp) (.cells (stc x) 41))
  rw [World.size_alloc] at T0
  have HM := Lib.hid hM
  have HB := Lib.hid hbg
  obtain ⟨n0, hn0⟩ : ∃ n0, x.n = n0 := ⟨_, rfl⟩
  have HN := Lib.hid hn0
  rw [hn0] at MD
  clear hnn hnd hM hbg hx hn0
  go_enter Try.func11, Try.ntmps11
  go_upto_region 1 with fail
  generalize (w.alloc (.cells (scells S) 32)).alloc (.cells (stc x) 41) = w1 at *
  have k5 : w1.cell? ⟨w.heap.size + 1, 5, none⟩ = some (.int .i64 n0) := by rw [T0.out.cell, ← HN.out]; rfl
  go_wp2_with fail
  refine (MD.out _).mono ?_
  rintro e w' ⟨rfl, rfl⟩
  go_upto_region 2 with fail
  have k6 : ∀ u : Calm w1, u.w.cell? ⟨w.heap.size + 1, 6, none⟩ = some (.bool bg) := fun u => by rw [(T0.out.step u.below).cell, ← HB.out]; rfl
  have km : ∀ u : Calm w1, u.w.cell? ⟨w.heap.size, 513, none⟩ = some (.int .i64 (M : Int)) := fun u => by rw [(S0.out.step u.below).maskc, HM.out]
  have kp := Lib.hid (fun (w' : World) (hw : ∃ u : Calm w1, w' = u.w) => show Blk w.heap.size 32 (scells S) w' by obtain ⟨u, rfl⟩ := hw; exact S0.out.step u.below)
  refine calm_region (by kernel_rfl) (by kernel_rfl) ?_
  repeat (first
    | (refine quiet_load_all aggScr kp.out (scells_size _) ?_ (.tmp 2) ?_ ?_ ?_; (focus rfl); (focus rfl); (focus (simp [Act.eval]; done)); simp only [Act.put, List.setIfInBounds_toArray, List.set_cons_zero, List.set_cons_succ])
    | go_big_quiet_step ((first
      | rfl
      | (go_at_call 24; exact calm_call (N8.out _))
      | (go_at_call 19; exact calm_same (NR.out _)))))
  refine wpQuiet_nil ?_
  intro _ hw'
  obtain ⟨u, rfl⟩ := hw'
  have B1 := Lib.hid (B0.out.trans (u.below.mono B0.out.size))
  generalize u.w = w2 at *
  go_wp2
  go_ret
  exact ⟨by simp, B1.out⟩
set_option maxRecDepth 100000 in
set_option maxHeartbeats 8000000 in
theorem do_sel (S : Sc) (M : Nat) (hM : S.M = (M : Int)) (M1 : M ≤ 15) (k m x y n : Int) (hires big clip : Bool) (A : Option Addr) (len cap : Nat) (L : List Nat) (w : World) (hx : StpOk ⟨k, m, hires, x, y, n, big, clip, A, len, cap⟩ L w) (hk : k = 0) :
    Calls Try.prog 12 #[.agg (scells S), .agg (stc ⟨k, m, hires, x, y, n, big, clip, A, len, cap⟩)] w fun e w' => e = .returned (.tuple #[.agg (scells (doS S M ⟨k, m, hires, x, y, n, big, clip, A, len, cap⟩ L).1), .bool (doS S M ⟨k, m, hires, x, y, n, big, clip, A, len, cap⟩ L).2]) ∧ Below w.heap.size w w' := by
  subst hk
  have hz := zeroScreen
  obtain ⟨nn, hnn⟩ : ∃ nn : Nat, n % 16 = (nn : Int) := ⟨(n % 16).toNat, by omega⟩
  have n1 : nn ≤ 15 := by omega
  have MN := Lib.hid fun w => hnn ▸ smod_any n 16 w hx.n.1 hx.n.2 (by omega) (by omega)
  obtain ⟨mm, hmm⟩ : ∃ mm, m % 16 = mm := ⟨_, rfl⟩
  have MM := Lib.hid fun w => hmm ▸ smod_any m 16 w hx.m.1 hx.m.2 (by omega) (by omega)
  have SEL := Lib.hid fun w => select8_any S mm w
  rw [show doS S M ⟨0, m, hires, x, y, n, big, clip, A, len, cap⟩ L = (S.mask mm, false) by unfold doS; rw [if_pos rfl, ← hmm]]
  clear hmm
  have S1 := Lib.hid (((SB.new w S).alloc (.cells (stc ⟨0, m, hires, x, y, n, big, clip, A, len, cap⟩) 41)).alloc (.cells (scells (blankS false 0)) 32))
  have T1 := Lib.hid ((Blk.new (w.alloc (.cells (scells S) 32)) 41 (stc ⟨0, m, hires, x, y, n, big, clip, A, len, cap⟩)).alloc (.cells (scells (blankS false 0)) 32))
  have R1 := Lib.hid (SB.new ((w.alloc (.cells (scells S) 32)).alloc (.cells (stc ⟨0, m, hires, x, y, n, big, clip, A, len, cap⟩) 41)) (blankS false 0))
  have B1 := Lib.hid (((below_new w (.cells (scells S) 32)).alloc (by simp) (.cells (stc ⟨0, m, hires, x, y, n, big, clip, A, len, cap⟩) 41)).alloc (by simp; omega) (.cells (scells (blankS false 0)) 32))
  rw [World.size_alloc] at T1
  rw [World.size_alloc, World.size_alloc] at R1
  clear hx
  go_enter Try.func12, Try.ntmps12
  go_upto_region 1 with fail
  simp only [Nat.add_assoc, Nat.reduceAdd] at *
  generalize ((w.alloc (.cells (scells S) 32)).alloc (.cells (stc ⟨0, m, hires, x, y, n, big, clip, A, len, cap⟩) 41)).alloc (.cells (scells (blankS false 0)) 32) = w1 at *
  clear hz
  have k5 : w1.cell? ⟨w.heap.size + 1, 5, none⟩ = some (.int .i64 n) := by rw [T1.out.cell]; rfl
  go_wp2_with fail
  refine (MN.out _).mono ?_
  rintro e w' ⟨rfl, rfl⟩
  have k0 : w1.cell? ⟨w.heap.size + 1, 0, none⟩ = some (.int .i64 0) := by rw [T1.out.cell]; rfl
  go_upto_region 4 with fail
  have kp := Lib.hid (fun (w' : World) (hw : ∃ u : Calm w1, w' = u.w) => show Blk w.heap.size 32 (scells S) w' by obtain ⟨u, rfl⟩ := hw; exact S1.out.step u.below)
  have k1 : ∀ u : Calm w1, u.w.cell? ⟨w.heap.size + 1, 1, none⟩ = some (.int .i64 m) := fun u => by rw [(T1.out.step u.below).cell]; rfl
  refine wp_region_late (C := fun w' => ∃ u : Calm w1, w' = u.w) 5 [([0, 1, 2], 3, true), ([], 4, true)] [] [6] (by kernel_rfl) (by kernel_rfl) ?_ ?_ ⟨⟨w1.drew, (Below.refl _ _).drew⟩, rfl⟩ ?_
  · exact fun _ _ d _ _ h => by cases d <;> exact h
  · rintro _ w' ⟨u, rfl⟩ hg
    exact ⟨⟨w', u.below.trans (hg.mono u.below.size)⟩, rfl⟩
  intro wd hwd
  have bd := Lib.hid (show Below w1.heap.size w1 wd by rw [hwd]; exact (Below.refl _ _).drew)
  clear hwd
  refine late_calm (by simp only [opsAt, List.getElem?_toArray, List.getElem?_cons_succ, List.getElem?_cons_zero]; rfl) (by simp only [List.getElem?_toArray, List.getElem?_cons_succ, List.getElem?_cons_zero]; rfl) ?_
  repeat (first
    | (refine quiet_load_all aggScr kp.out (scells_size _) ?_ (.tmp 2) ?_ ?_ ?_; (focus rfl); (focus rfl); (focus (simp [Act.eval]; done)); simp only [Act.put, List.setIfInBounds_toArray, List.set_cons_zero, List.set_cons_succ])
    | go_big_quiet_step (rfl))
  refine wpQuiet_nil ?_
  refine calm_next (v := .int .i64 mm) (calm_fn (g := 17) (caps := #[]) (args := #[.int .i64 m, .int .i64 16]) (.func 17) #[.tmp 16, .const (.int .i64 16)] #[3, 3] rfl rfl (enters_of Try.func17 (by kernel_rfl) rfl) (fun w' hw => (MM.out w').mono fun e w'' h => ⟨h.1, by rw [← h.2]; exact Gr.refl _⟩) rfl (by simp [Act.eval])) ?_
  simp only [Act.put, List.setIfInBounds_toArray, List.set_cons_zero, List.set_cons_succ]
  refine late_calm (by simp only [opsAt, List.getElem?_toArray, List.getElem?_cons_succ, List.getElem?_cons_zero]; rfl) (by simp only [List.getElem?_toArray, List.getElem?_cons_succ, List.getElem?_cons_zero]; rfl) ?_
  repeat (go_big_quiet_step (rfl))
  refine wpQuiet_nil ?_
  refine calm_next (v := .agg (scells (S.mask mm))) (calm_fn (g := 15) (caps := #[]) (args := #[.agg (scells S), .int .i64 mm]) (.func 15) #[.tmp 14, .tmp 17] #[32, 3] rfl rfl (enters_of Try.func15 (by kernel_rfl) rfl) (fun w' hw => SEL.out w') rfl (by simp [Act.eval])) ?_
  simp only [Act.put, List.setIfInBounds_toArray, List.set_cons_zero, List.set_cons_succ]
  refine late_last (by simp only [opsAt, List.getElem?_toArray, List.getElem?_cons_succ, List.getElem?_cons_zero]; rfl) (by simp only [List.getElem?_toArray, List.getElem?_cons_succ, List.getElem?_cons_zero]; rfl) ?_
  repeat (go_big_quiet_step (rfl))
  refine wpQuiet_nil ?_
  refine last_next rfl ?_
  intro w5 g5 C5 K hK
  obtain ⟨u5, rfl⟩ := C5
  have b5 := Lib.hid u5.below
  generalize u5.w = w5 at *
  refine wp_store_all (ds := scells (S.mask mm)) aggScr (R1.out.step b5.out) (scells_size _) (scells_size _) (scells_one _) (.tmp 4) (.tmp 18) rfl (by simp [Act.eval, Act.put]) (by simp [Act.eval, Act.put]) ?_
  refine hK _ _ ?_
  clear hK K
  simp only [Act.put, List.setIfInBounds_toArray, List.set_cons_zero, List.set_cons_succ]
  simp only [opsAt, List.getElem?_toArray, List.getElem?_cons_succ, List.getElem?_cons_zero]
  repeat (go_big_quiet_step (rfl))
  refine wpQuiet_nil ?_
  intro w6 g6
  have R6 := Lib.hid (((R1.out.step b5.out).store (S.mask mm)).step g6)
  have B6 := Lib.hid ((belowRow (B1.out.trans (b5.out.mono B1.out.size)) (by omega : w.heap.size ≤ w.heap.size + 2) (scells (S.mask mm))).trans (g6.mono (by have := B1.out.size; have := b5.out.size; simp [World.setRow]; omega)))
  clear R1 B1 b5 g5 g6 bd
  iterate 4 go_step
  exact bodyPost_ret (results_cell_and rfl _ _ (w.heap.size + 2) _ _ _ _ (.bool false) rfl rfl R6.out Try.underlying32 rfl (by rw [aggScr.i, scells_size])) rfl ⟨rfl, B6.out⟩
set_option maxRecDepth 100000 in
set_option maxHeartbeats 8000000 in
theorem do_clr (S : Sc) (M : Nat) (hM : S.M = (M : Int)) (M1 : M ≤ 15) (k m x y n : Int) (hires big clip : Bool) (A : Option Addr) (len cap : Nat) (L : List Nat) (w : World) (hx : StpOk ⟨k, m, hires, x, y, n, big, clip, A, len, cap⟩ L w) (hk : k = 1) :
    Calls Try.prog 12 #[.agg (scells S), .agg (stc ⟨k, m, hires, x, y, n, big, clip, A, len, cap⟩)] w fun e w' => e = .returned (.tuple #[.agg (scells (doS S M ⟨k, m, hires, x, y, n, big, clip, A, len, cap⟩ L).1), .bool (doS S M ⟨k, m, hires, x, y, n, big, clip, A, len, cap⟩ L).2]) ∧ Below w.heap.size w w' := by
  subst hk
  have hz := zeroScreen
  obtain ⟨nn, hnn⟩ : ∃ nn : Nat, n % 16 = (nn : Int) := ⟨(n % 16).toNat, by omega⟩
  have n1 : nn ≤ 15 := by omega
  have MN := Lib.hid fun w => hnn ▸ smod_any n 16 w hx.n.1 hx.n.2 (by omega) (by omega)
  obtain ⟨Z, hZ⟩ : ∃ Z, onPl (fun _ _ _ => 0#128) M S = Z := ⟨_, rfl⟩
  have CL := Lib.hid fun w => hZ ▸ clear8_any S M hM (by omega) w
  rw [show doS S M ⟨1, m, hires, x, y, n, big, clip, A, len, cap⟩ L = (Z, false) by unfold doS; rw [if_neg (by simp), if_pos rfl, hZ]]
  clear hZ
  have S1 := Lib.hid (((SB.new w S).alloc (.cells (stc ⟨1, m, hires, x, y, n, big, clip, A, len, cap⟩) 41)).alloc (.cells (scells (blankS false 0)) 32))
  have T1 := Lib.hid ((Blk.new (w.alloc (.cells (scells S) 32)) 41 (stc ⟨1, m, hires, x, y, n, big, clip, A, len, cap⟩)).alloc (.cells (scells (blankS false 0)) 32))
  have R1 := Lib.hid (SB.new ((w.alloc (.cells (scells S) 32)).alloc (.cells (stc ⟨1, m, hires, x, y, n, big, clip, A, len, cap⟩) 41)) (blankS false 0))
  have B1 := Lib.hid (((below_new w (.cells (scells S) 32)).alloc (by simp) (.cells (stc ⟨1, m, hires, x, y, n, big, clip, A, len, cap⟩) 41)).alloc (by simp; omega) (.cells (scells (blankS false 0)) 32))
  rw [World.size_alloc] at T1
  rw [World.size_alloc, World.size_alloc] at R1
  clear hx
  go_enter Try.func12, Try.ntmps12
  go_upto_region 1 with fail
  simp only [Nat.add_assoc, Nat.reduceAdd] at *
  generalize ((w.alloc (.cells (scells S) 32)).alloc (.cells (stc ⟨1, m, hires, x, y, n, big, clip, A, len, cap⟩) 41)).alloc (.cells (scells (blankS false 0)) 32) = w1 at *
  clear hz
  have k5 : w1.cell? ⟨w.heap.size + 1, 5, none⟩ = some (.int .i64 n) := by rw [T1.out.cell]; rfl
  go_wp2_with fail
  refine (MN.out _).mono ?_
  rintro e w' ⟨rfl, rfl⟩
  have k0 : w1.cell? ⟨w.heap.size + 1, 0, none⟩ = some (.int .i64 1) := by rw [T1.out.cell]; rfl
  go_upto_region 6 with fail
  refine wp_region_lit ?_
  refine list_load_all aggScr S1.out (scells_size _) rfl (.tmp 2) rfl (by simp [Act.eval]) ?_
  simp only [Act.put, List.setIfInBounds_toArray, List.set_cons_zero, List.set_cons_succ]
  go_wp2_with fail
  refine (CL.out _).mono ?_
  rintro e w2 ⟨rfl, b2⟩
  have R2 := Lib.hid (R1.out.step b2)
  have B2 := Lib.hid (B1.out.trans (b2.mono B1.out.size))
  clear b2 S1 T1 R1 B1
  simp only []
  go_at_K
  go_step
  refine list_store_all (ds := scells Z) aggScr R2.out (scells_size _) (scells_size _) (scells_one _) rfl (.tmp 4) (.tmp 22) rfl (by simp [Act.eval, Act.put]) (by simp [Act.eval, Act.put]) ?_
  simp only [Act.put, List.setIfInBounds_toArray, List.set_cons_zero, List.set_cons_succ]
  have R6 := Lib.hid (R2.out.store Z)
  have B6 := Lib.hid (belowRow B2.out (by omega : w.heap.size ≤ w.heap.size + 2) (scells Z))
  generalize w2.setRow (w.heap.size + 2) (scells Z) = w6 at *
  iterate 8 go_step
  exact bodyPost_ret (results_cell_and rfl _ _ (w.heap.size + 2) _ _ _ _ (.bool false) rfl rfl R6.out Try.underlying32 rfl (by rw [aggScr.i, scells_size])) rfl ⟨rfl, B6.out⟩
set_option maxRecDepth 100000 in
set_option maxHeartbeats 8000000 in
theorem do_res (S : Sc) (M : Nat) (hM : S.M = (M : Int)) (M1 : M ≤ 15) (k m x y n : Int) (hires big clip : Bool) (A : Option Addr) (len cap : Nat) (L : List Nat) (w : World) (hx : StpOk ⟨k, m, hires, x, y, n, big, clip, A, len, cap⟩ L w) (hk : k = 2) :
    Calls Try.prog 12 #[.agg (scells S), .agg (stc ⟨k, m, hires, x, y, n, big, clip, A, len, cap⟩)] w fun e w' => e = .returned (.tuple #[.agg (scells (doS S M ⟨k, m, hires, x, y, n, big, clip, A, len, cap⟩ L).1), .bool (doS S M ⟨k, m, hires, x, y, n, big, clip, A, len, cap⟩ L).2]) ∧ Below w.heap.size w w' := by
  subst hk
  have hz := zeroScreen
  obtain ⟨nn, hnn⟩ : ∃ nn : Nat, n % 16 = (nn : Int) := ⟨(n % 16).toNat, by omega⟩
  have n1 : nn ≤ 15 := by omega
  have MN := Lib.hid fun w => hnn ▸ smod_any n 16 w hx.n.1 hx.n.2 (by omega) (by omega)
  obtain ⟨Z, hZ⟩ : ∃ Z, blankS hires S.M = Z := ⟨_, rfl⟩
  have CL := Lib.hid fun w => hZ ▸ res8_any S hires w
  rw [show doS S M ⟨2, m, hires, x, y, n, big, clip, A, len, cap⟩ L = (Z, false) by unfold doS; rw [if_neg (by simp), if_neg (by simp), if_pos rfl, hZ]]
  clear hZ
  have S1 := Lib.hid (((SB.new w S).alloc (.cells (stc ⟨2, m, hires, x, y, n, big, clip, A, len, cap⟩) 41)).alloc (.cells (scells (blankS false 0)) 32))
  have T1 := Lib.hid ((Blk.new (w.alloc (.cells (scells S) 32)) 41 (stc ⟨2, m, hires, x, y, n, big, clip, A, len, cap⟩)).alloc (.cells (scells (blankS false 0)) 32))
  have R1 := Lib.hid (SB.new ((w.alloc (.cells (scells S) 32)).alloc (.cells (stc ⟨2, m, hires, x, y, n, big, clip, A, len, cap⟩) 41)) (blankS false 0))
  have B1 := Lib.hid (((below_new w (.cells (scells S) 32)).alloc (by simp) (.cells (stc ⟨2, m, hires, x, y, n, big, clip, A, len, cap⟩) 41)).alloc (by simp; omega) (.cells (scells (blankS false 0)) 32))
  rw [World.size_alloc] at T1
  rw [World.size_alloc, World.size_alloc] at R1
  clear hx
  go_enter Try.func12, Try.ntmps12
  go_upto_region 1 with fail
  simp only [Nat.add_assoc, Nat.reduceAdd] at *
  generalize ((w.alloc (.cells (scells S) 32)).alloc (.cells (stc ⟨2, m, hires, x, y, n, big, clip, A, len, cap⟩) 41)).alloc (.cells (scells (blankS false 0)) 32) = w1 at *
  clear hz
  have k5 : w1.cell? ⟨w.heap.size + 1, 5, none⟩ = some (.int .i64 n) := by rw [T1.out.cell]; rfl
  go_wp2_with fail
  refine (MN.out _).mono ?_
  rintro e w' ⟨rfl, rfl⟩
  have k0 : w1.cell? ⟨w.heap.size + 1, 0, none⟩ = some (.int .i64 2) := by rw [T1.out.cell]; rfl
  go_upto_region 8 with fail
  have k2 : w1.cell? ⟨w.heap.size + 1, 2, none⟩ = some (.bool hires) := by rw [T1.out.cell]; rfl
  refine wp_region_lit ?_
  refine list_load_all aggScr S1.out (scells_size _) rfl (.tmp 2) rfl (by simp [Act.eval]) ?_
  simp only [Act.put, List.setIfInBounds_toArray, List.set_cons_zero, List.set_cons_succ]
  go_wp2_with fail
  refine (CL.out _).mono ?_
  rintro e w2 ⟨rfl, b2⟩
  have R2 := Lib.hid (R1.out.step b2)
  have B2 := Lib.hid (B1.out.trans (b2.mono B1.out.size))
  clear b2 S1 T1 R1 B1
  simp only []
  go_at_K
  go_step
  refine list_store_all (ds := scells Z) aggScr R2.out (scells_size _) (scells_size _) (scells_one _) rfl (.tmp 4) (.tmp 28) rfl (by simp [Act.eval, Act.put]) (by simp [Act.eval, Act.put]) ?_
  simp only [Act.put, List.setIfInBounds_toArray, List.set_cons_zero, List.set_cons_succ]
  have R6 := Lib.hid (R2.out.store Z)
  have B6 := Lib.hid (belowRow B2.out (by omega : w.heap.size ≤ w.heap.size + 2) (scells Z))
  generalize w2.setRow (w.heap.size + 2) (scells Z) = w6 at *
  iterate 8 go_step
  exact bodyPost_ret (results_cell_and rfl _ _ (w.heap.size + 2) _ _ _ _ (.bool false) rfl rfl R6.out Try.underlying32 rfl (by rw [aggScr.i, scells_size])) rfl ⟨rfl, B6.out⟩
set_option maxRecDepth 100000 in
set_option maxHeartbeats 8000000 in
theorem do_scr (S : Sc) (M : Nat) (hM : S.M = (M : Int)) (M1 : M ≤ 15) (k m x y n : Int) (hires big clip : Bool) (A : Option Addr) (len cap : Nat) (L : List Nat) (w : World) (hx : StpOk ⟨k, m, hires, x, y, n, big, clip, A, len, cap⟩ L w) (hk : k = 3) :
    Calls Try.prog 12 #[.agg (scells S), .agg (stc ⟨k, m, hires, x, y, n, big, clip, A, len, cap⟩)] w fun e w' => e = .returned (.tuple #[.agg (scells (doS S M ⟨k, m, hires, x, y, n, big, clip, A, len, cap⟩ L).1), .bool (doS S M ⟨k, m, hires, x, y, n, big, clip, A, len, cap⟩ L).2]) ∧ Below w.heap.size w w' := by
  subst hk
  have hz := zeroScreen
  obtain ⟨nn, hnn⟩ : ∃ nn : Nat, n % 16 = (nn : Int) := ⟨(n % 16).toNat, by omega⟩
  have n1 : nn ≤ 15 := by omega
  have MN := Lib.hid fun w => hnn ▸ smod_any n 16 w hx.n.1 hx.n.2 (by omega) (by omega)
  obtain ⟨dx, hdx⟩ : ∃ dx, x % 33 = dx := ⟨_, rfl⟩
  obtain ⟨dy, hdy⟩ : ∃ dy, y % 33 = dy := ⟨_, rfl⟩
  have dx0 : 0 ≤ dx := by omega
  have dx1 : dx ≤ 32 := by omega
  have dy0 : 0 ≤ dy := by omega
  have dy1 : dy ≤ 32 := by omega
  have MX := Lib.hid fun w => hdx ▸ smod_any x 33 w hx.x.1 hx.x.2 (by omega) (by omega)
  have MY := Lib.hid fun w => hdy ▸ smod_any y 33 w hx.y.1 hx.y.2 (by omega) (by omega)
  obtain ⟨Z, hZ⟩ : ∃ Z, onPl (fun _ p => scroll p (dx - 16) (dy - 16) (wid S.hi) (hei S.hi)) M S = Z := ⟨_, rfl⟩
  have CL := Lib.hid fun w => hZ ▸ scroll8_any S M hM (by omega) (dx - 16) (dy - 16) (wid S.hi) (hei S.hi) (res_of S.hi) (by omega) (by omega) (by omega) (by omega) w
  rw [show doS S M ⟨3, m, hires, x, y, n, big, clip, A, len, cap⟩ L = (Z, false) by unfold doS; rw [if_neg (by simp), if_neg (by simp), if_neg (by simp), if_pos rfl, ← hZ, hdx, hdy]]
  clear hZ hdx hdy
  have S1 := Lib.hid (((SB.new w S).alloc (.cells (stc ⟨3, m, hires, x, y, n, big, clip, A, len, cap⟩) 41)).alloc (.cells (scells (blankS false 0)) 32))
  have T1 := Lib.hid ((Blk.new (w.alloc (.cells (scells S) 32)) 41 (stc ⟨3, m, hires, x, y, n, big, clip, A, len, cap⟩)).alloc (.cells (scells (blankS false 0)) 32))
  have R1 := Lib.hid (SB.new ((w.alloc (.cells (scells S) 32)).alloc (.cells (stc ⟨3, m, hires, x, y, n, big, clip, A, len, cap⟩) 41)) (blankS false 0))
  have B1 := Lib.hid (((below_new w (.cells (scells S) 32)).alloc (by simp) (.cells (stc ⟨3, m, hires, x, y, n, big, clip, A, len, cap⟩) 41)).alloc (by simp; omega) (.cells (scells (blankS false 0)) 32))
  rw [World.size_alloc] at T1
  rw [World.size_alloc, World.size_alloc] at R1
  clear hx
  go_enter Try.func12, Try.ntmps12
  go_upto_region 1 with fail
  simp only [Nat.add_assoc, Nat.reduceAdd] at *
  generalize ((w.alloc (.cells (scells S) 32)).alloc (.cells (stc ⟨3, m, hires, x, y, n, big, clip, A, len, cap⟩) 41)).alloc (.cells (scells (blankS false 0)) 32) = w1 at *
  clear hz
  have k5 : w1.cell? ⟨w.heap.size + 1, 5, none⟩ = some (.int .i64 n) := by rw [T1.out.cell]; rfl
  go_wp2_with fail
  refine (MN.out _).mono ?_
  rintro e w' ⟨rfl, rfl⟩
  have k0 : w1.cell? ⟨w.heap.size + 1, 0, none⟩ = some (.int .i64 3) := by rw [T1.out.cell]; rfl
  go_upto_region 10 with fail
  have kp := Lib.hid (fun (w' : World) (hw : ∃ u : Calm w1, w' = u.w) => show Blk w.heap.size 32 (scells S) w' by obtain ⟨u, rfl⟩ := hw; exact S1.out.step u.below)
  have k3 : ∀ u : Calm w1, u.w.cell? ⟨w.heap.size + 1, 3, none⟩ = some (.int .i64 x) := fun u => by rw [(T1.out.step u.below).cell]; rfl
  have k4 : ∀ u : Calm w1, u.w.cell? ⟨w.heap.size + 1, 4, none⟩ = some (.int .i64 y) := fun u => by rw [(T1.out.step u.below).cell]; rfl
  refine wp_region_late (C := fun w' => ∃ u : Calm w1, w' = u.w) 10 [([0, 1, 2, 5, 6], 3, true), ([4], 7, true), ([8], 9, true)] [] [11] (by kernel_rfl) (by kernel_rfl) ?_ ?_ ⟨⟨w1.drew, (Below.refl _ _).drew⟩, rfl⟩ ?_
  · exact fun _ _ d _ _ h => by cases d <;> exact h
  · rintro _ w' ⟨u, rfl⟩ hg
    exact ⟨⟨w', u.below.trans (hg.mono u.below.size)⟩, rfl⟩
  intro wd hwd
  have bd := Lib.hid (show Below w1.heap.size w1 wd by rw [hwd]; exact (Below.refl _ _).drew)
  clear hwd
  refine late_calm (by simp only [opsAt, List.getElem?_toArray, List.getElem?_cons_succ, List.getElem?_cons_zero]; rfl) (by simp only [List.getElem?_toArray, List.getElem?_cons_succ, List.getElem?_cons_zero]; rfl) ?_
  repeat (first
    | (refine quiet_load_all aggScr kp.out (scells_size _) ?_ (.tmp 2) ?_ ?_ ?_; (focus rfl); (focus rfl); (focus (simp [Act.eval]; done)); simp only [Act.put, List.setIfInBounds_toArray, List.set_cons_zero, List.set_cons_succ])
    | go_big_quiet_step (rfl))
  refine wpQuiet_nil ?_
  refine calm_next (v := .int .i64 dx) (calm_fn (g := 17) (caps := #[]) (args := #[.int .i64 x, .int .i64 33]) (.func 17) #[.tmp 33, .const (.int .i64 33)] #[3, 3] rfl rfl (enters_of Try.func17 (by kernel_rfl) rfl) (fun w' hw => (MX.out w').mono fun e w'' h => ⟨h.1, by rw [← h.2]; exact Gr.refl _⟩) rfl (by simp [Act.eval])) ?_
  simp only [Act.put, List.setIfInBounds_toArray, List.set_cons_zero, List.set_cons_succ]
  refine late_calm (by simp only [opsAt, List.getElem?_toArray, List.getElem?_cons_succ, List.getElem?_cons_zero]; rfl) (by simp only [List.getElem?_toArray, List.getElem?_cons_succ, List.getElem?_cons_zero]; rfl) ?_
  repeat (go_big_quiet_step (rfl))
  refine wpQuiet_nil ?_
  refine calm_next (v := .int .i64 dy) (calm_fn (g := 17) (caps := #[]) (args := #[.int .i64 y, .int .i64 33]) (.func 17) #[.tmp 37, .const (.int .i64 33)] #[3, 3] rfl rfl (enters_of Try.func17 (by kernel_rfl) rfl) (fun w' hw => (MY.out w').mono fun e w'' h => ⟨h.1, by rw [← h.2]; exact Gr.refl _⟩) rfl (by simp [Act.eval])) ?_
  simp only [Act.put, List.setIfInBounds_toArray, List.set_cons_zero, List.set_cons_succ]
  refine late_calm (by simp only [opsAt, List.getElem?_toArray, List.getElem?_cons_succ, List.getElem?_cons_zero]; rfl) (by simp only [List.getElem?_toArray, List.getElem?_cons_succ, List.getElem?_cons_zero]; rfl) ?_
  repeat (go_big_quiet_step (rfl))
  refine wpQuiet_nil ?_
  refine calm_next (v := .agg (scells Z)) (calm_fn (g := 27) (caps := #[]) (args := #[.agg (scells S), .int .i64 (dx - 16), .int .i64 (dy - 16)]) (.func 27) #[.tmp 31, .tmp 35, .tmp 39] #[32, 3, 3] rfl rfl (enters_of Try.func27 (by kernel_rfl) rfl) (fun w' hw => CL.out w') rfl (by simp [Act.eval])) ?_
  simp only [Act.put, List.setIfInBounds_toArray, List.set_cons_zero, List.set_cons_succ]
  refine late_last (by simp only [opsAt, List.getElem?_toArray, List.getElem?_cons_succ, List.getElem?_cons_zero]; rfl) (by simp only [List.getElem?_toArray, List.getElem?_cons_succ, List.getElem?_cons_zero]; rfl) ?_
  repeat (go_big_quiet_step (rfl))
  refine wpQuiet_nil ?_
  refine last_next rfl ?_
  intro w5 g5 C5 K hK
  obtain ⟨u5, rfl⟩ := C5
  have b5 := Lib.hid u5.below
  generalize u5.w = w5 at *
  refine wp_store_all (ds := scells Z) aggScr (R1.out.step b5.out) (scells_size _) (scells_size _) (scells_one _) (.tmp 4) (.tmp 40) rfl (by simp [Act.eval, Act.put]) (by simp [Act.eval, Act.put]) ?_
  refine hK _ _ ?_
  clear hK K
  simp only [Act.put, List.setIfInBounds_toArray, List.set_cons_zero, List.set_cons_succ]
  simp only [opsAt, List.getElem?_toArray, List.getElem?_cons_succ, List.getElem?_cons_zero]
  repeat (go_big_quiet_step (rfl))
  refine wpQuiet_nil ?_
  intro w6 g6
  have R6 := Lib.hid (((R1.out.step b5.out).store Z).step g6)
  have B6 := Lib.hid ((belowRow (B1.out.trans (b5.out.mono B1.out.size)) (by omega : w.heap.size ≤ w.heap.size + 2) (scells Z)).trans (g6.mono (by have := B1.out.size; have := b5.out.size; simp [World.setRow]; omega)))
  clear R1 B1 b5 g5 g6 bd
  iterate 4 go_step
  exact bodyPost_ret (results_cell_and rfl _ _ (w.heap.size + 2) _ _ _ _ (.bool false) rfl rfl R6.out Try.underlying32 rfl (by rw [aggScr.i, scells_size])) rfl ⟨rfl, B6.out⟩
set_option maxRecDepth 100000 in
set_option maxHeartbeats 8000000 in
theorem do_drw (S : Sc) (M : Nat) (hM : S.M = (M : Int)) (M1 : M ≤ 15) (k m x y n : Int) (hires big clip : Bool) (A : Option Addr) (len cap : Nat) (L : List Nat) (w : World) (hx : StpOk ⟨k, m, hires, x, y, n, big, clip, A, len, cap⟩ L w) (h0 : k ≠ 0) (h1 : k ≠ 1) (h2 : k ≠ 2) (h3 : k ≠ 3) :
    Calls Try.prog 12 #[.agg (scells S), .agg (stc ⟨k, m, hires, x, y, n, big, clip, A, len, cap⟩)] w fun e w' => e = .returned (.tuple #[.agg (scells (doS S M ⟨k, m, hires, x, y, n, big, clip, A, len, cap⟩ L).1), .bool (doS S M ⟨k, m, hires, x, y, n, big, clip, A, len, cap⟩ L).2]) ∧ Below w.heap.size w w' := by
  have hz := zeroScreen
  obtain ⟨nn, hnn⟩ : ∃ nn : Nat, n % 16 = (nn : Int) := ⟨(n % 16).toNat, by omega⟩
  have n1 : nn ≤ 15 := by omega
  have MN := Lib.hid fun w => hnn ▸ smod_any n 16 w hx.n.1 hx.n.2 (by omega) (by omega)
  obtain ⟨xx, hxx⟩ : ∃ xx : Nat, x % 256 = (xx : Int) := ⟨(x % 256).toNat, by omega⟩
  obtain ⟨yy, hyy⟩ : ∃ yy : Nat, y % 256 = (yy : Int) := ⟨(y % 256).toNat, by omega⟩
  have x1 : xx ≤ 255 := by omega
  have y1 : yy ≤ 255 := by omega
  have MX := Lib.hid fun w => hxx ▸ smod_any x 256 w hx.x.1 hx.x.2 (by omega) (by omega)
  have MY := Lib.hid fun w => hyy ▸ smod_any y 256 w hx.y.1 hx.y.2 (by omega) (by omega)
  obtain ⟨nd, hnd⟩ : ∃ nd, need M nn big 4 = nd := ⟨_, rfl⟩
  have nd1 : nd ≤ 128 := by rw [← hnd]; exact need_le4 M nn big (by omega)
  have N8 := Lib.hid fun w => hnd ▸ need8_any S M nn big hM (by omega) (by omega) w
  have hnd2 : (selTo M 4).length * ((if big then 16 else nn) * (if big then 2 else 1)) = nd := by rw [← hnd, need_len M nn big 4 (by omega), per_shape]
  obtain ⟨Z, hZ⟩ : ∃ Z, drS (mkD (fillF L) S M nn big clip xx yy 0 0) M = Z := ⟨_, rfl⟩
  obtain ⟨cv, hcv⟩ : ∃ cv, coS (mkD (fillF L) S M nn big clip xx yy 0 0) M = cv := ⟨_, rfl⟩
  have FL := Lib.hid fun (w' : World) (hb : Below w.heap.size w w') => fill_any A L len cap nd w' (hx.rd.step hb) hx.len hx.max (by omega)
  have DW := Lib.hid fun (g : Nat) (w' : World) (hB : Bys g nd (fillF L) w') => draw8_any (mkD (fillF L) S M nn big clip xx yy g 0) (mkD_ok _ (fill_le hx.le) S M nn (by omega) big clip xx yy g 0 (by omega) (by omega)) M nn big hM (by omega) rfl rfl rfl (some ⟨g, 0, none⟩) nd nd hnd2 (Nat.le_refl _) (by omega) w' (fun _ => ⟨rfl, hB.lt, fun j hj => by show w'.cell? ⟨g, 0 + j, none⟩ = _; rw [Nat.zero_add]; exact hB.at_ j hj⟩)
  have E1 := Lib.hid fun g => show drS (mkD (fillF L) S M nn big clip xx yy g 0) M = Z by rw [← hZ]; rfl
  have E2 := Lib.hid fun g => show coS (mkD (fillF L) S M nn big clip xx yy g 0) M = cv by rw [← hcv]; exact coS_any _ _ _ _ _ _ _ _ _ _ _ _
  rw [show doS S M ⟨k, m, hires, x, y, n, big, clip, A, len, cap⟩ L = (Z, cv) by
    unfold doS stD
    rw [if_neg h0, if_neg h1, if_neg h2, if_neg h3]
    simp only
    rw [show (n % 16).toNat = nn by omega, show (x % 256).toNat = xx by omega, show (y % 256).toNat = yy by omega, hZ, hcv]]
  have e0 : (k == 0) = false := by simpa using h0
  have e1 : (k == 1) = false := by simpa using h1
  have e2 : (k == 2) = false := by simpa using h2
  have e3 : (k == 3) = false := by simpa using h3
  clear hZ hcv hnd hnd2 hxx hyy
  have S1 := Lib.hid (((SB.new w S).alloc (.cells (stc ⟨k, m, hires, x, y, n, big, clip, A, len, cap⟩) 41)).alloc (.cells (scells (blankS false 0)) 32))
  have T1 := Lib.hid ((Blk.new (w.alloc (.cells (scells S) 32)) 41 (stc ⟨k, m, hires, x, y, n, big, clip, A, len, cap⟩)).alloc (.cells (scells (blankS false 0)) 32))
  have R1 := Lib.hid (SB.new ((w.alloc (.cells (scells S) 32)).alloc (.cells (stc ⟨k, m, hires, x, y, n, big, clip, A, len, cap⟩) 41)) (blankS false 0))
  have B1 := Lib.hid (((below_new w (.cells (scells S) 32)).alloc (by simp) (.cells (stc ⟨k, m, hires, x, y, n, big, clip, A, len, cap⟩) 41)).alloc (by simp; omega) (.cells (scells (blankS false 0)) 32))
  rw [World.size_alloc] at T1
  rw [World.size_alloc, World.size_alloc] at R1
  clear hx
  go_enter Try.func12, Try.ntmps12
  go_upto_region 1 with fail
  simp only [Nat.add_assoc, Nat.reduceAdd] at *
  generalize ((w.alloc (.cells (scells S) 32)).alloc (.cells (stc ⟨k, m, hires, x, y, n, big, clip, A, len, cap⟩) 41)).alloc (.cells (scells (blankS false 0)) 32) = w1 at *
  clear hz
  have k5 : w1.cell? ⟨w.heap.size + 1, 5, none⟩ = some (.int .i64 n) := by rw [T1.out.cell]; rfl
  go_wp2_with fail
  refine (MN.out _).mono ?_
  rintro e w' ⟨rfl, rfl⟩
  have k0 : w1.cell? ⟨w.heap.size + 1, 0, none⟩ = some (.int .i64 k) := by rw [T1.out.cell]; rfl
  go_upto_region 11 with fail
  have kp := Lib.hid (fun (w' : World) (hw : ∃ u : Calm w1, w' = u.w) => show Blk w.heap.size 32 (scells S) w' by obtain ⟨u, rfl⟩ := hw; exact S1.out.step u.below)
  have k3 : ∀ u : Calm w1, u.w.cell? ⟨w.heap.size + 1, 3, none⟩ = some (.int .i64 x) := fun u => by rw [(T1.out.step u.below).cell]; rfl
  have k4 : ∀ u : Calm w1, u.w.cell? ⟨w.heap.size + 1, 4, none⟩ = some (.int .i64 y) := fun u => by rw [(T1.out.step u.below).cell]; rfl
  have k6 : ∀ u : Calm w1, u.w.cell? ⟨w.heap.size + 1, 6, none⟩ = some (.bool big) := fun u => by rw [(T1.out.step u.below).cell]; rfl
  have k7 : ∀ u : Calm w1, u.w.cell? ⟨w.heap.size + 1, 7, none⟩ = some (.bool clip) := fun u => by rw [(T1.out.step u.below).cell]; rfl
  have k8 : ∀ u : Calm w1, u.w.cell? ⟨w.heap.size + 1, 8, none⟩ = some (.slice A len cap) := fun u => by rw [(T1.out.step u.below).cell]; rfl
  refine wp_region_late (C := fun w' => ∃ u : Calm w1, w' = u.w) 23 [([0, 1, 2, 4, 5, 7, 8, 9, 10, 11, 12, 13, 14, 15, 16, 17], 3, true), ([], 6, true), ([], 18, true), ([], 19, false), ([], 20, false)] [21, 22] [24] (by kernel_rfl) (by kernel_rfl) ?_ ?_ ⟨⟨w1.drew, (Below.refl _ _).drew⟩, rfl⟩ ?_
  · exact fun _ _ d _ _ h => by cases d <;> exact h
  · rintro _ w' ⟨u, rfl⟩ hg
    exact ⟨⟨w', u.below.trans (hg.mono u.below.size)⟩, rfl⟩
  intro wd hwd
  have bd := Lib.hid (show Below w1.heap.size w1 wd by rw [hwd]; exact (Below.refl _ _).drew)
  clear hwd
  refine late_calm (by simp only [opsAt, List.getElem?_toArray, List.getElem?_cons_succ, List.getElem?_cons_zero]; rfl) (by simp only [List.getElem?_toArray, List.getElem?_cons_succ, List.getElem?_cons_zero]; rfl) ?_
  repeat (first
    | (refine quiet_load_all aggScr kp.out (scells_size _) ?_ (.tmp 2) ?_ ?_ ?_; (focus rfl); (focus rfl); (focus (simp [Act.eval]; done)); simp only [Act.put, List.setIfInBounds_toArray, List.set_cons_zero, List.set_cons_succ])
    | go_big_quiet_step (rfl))
  refine wpQuiet_nil ?_
  refine calm_next (v := .int .i64 (xx : Int)) (calm_fn (g := 17) (caps := #[]) (args := #[.int .i64 x, .int .i64 256]) (.func 17) #[.tmp 43, .const (.int .i64 256)] #[3, 3] rfl rfl (enters_of Try.func17 (by kernel_rfl) rfl) (fun w' hw => (MX.out w').mono fun e w'' h => ⟨h.1, by rw [← h.2]; exact Gr.refl _⟩) rfl (by simp [Act.eval])) ?_
  simp only [Act.put, List.setIfInBounds_toArray, List.set_cons_zero, List.set_cons_succ]
  refine late_calm (by simp only [opsAt, List.getElem?_toArray, List.getElem?_cons_succ, List.getElem?_cons_zero]; rfl) (by simp only [List.getElem?_toArray, List.getElem?_cons_succ, List.getElem?_cons_zero]; rfl) ?_
  repeat (go_big_quiet_step (rfl))
  refine wpQuiet_nil ?_
  refine calm_next (v := .int .i64 (yy : Int)) (calm_fn (g := 17) (caps := #[]) (args := #[.int .i64 y, .int .i64 256]) (.func 17) #[.tmp 46, .const (.int .i64 256)] #[3, 3] rfl rfl (enters_of Try.func17 (by kernel_rfl) rfl) (fun w' hw => (MY.out w').mono fun e w'' h => ⟨h.1, by rw [← h.2]; exact Gr.refl _⟩) rfl (by simp [Act.eval])) ?_
  simp only [Act.put, List.setIfInBounds_toArray, List.set_cons_zero, List.set_cons_succ]
  refine late_calm (by simp only [opsAt, List.getElem?_toArray, List.getElem?_cons_succ, List.getElem?_cons_zero]; rfl) (by simp only [List.getElem?_toArray, List.getElem?_cons_succ, List.getElem?_cons_zero]; rfl) ?_
  repeat (go_big_quiet_step (rfl))
  refine wpQuiet_nil ?_
  refine calm_next (v := .int .i64 (nd : Int)) (calm_fn (g := 24) (caps := #[]) (args := #[.agg (scells S), .int .i64 (nn : Int), .bool big]) (.func 24) #[.tmp 55, .tmp 56, .tmp 58] #[32, 3, 4] rfl rfl (enters_of Try.func24 (by kernel_rfl) rfl) (fun w' hw => N8.out w') rfl (by simp [Act.eval])) ?_
  simp only [Act.put, List.setIfInBounds_toArray, List.set_cons_zero, List.set_cons_succ]
  refine late_real (by simp only [opsAt, List.getElem?_toArray, List.getElem?_cons_succ, List.getElem?_cons_zero]; rfl) (by simp only [List.getElem?_toArray, List.getElem?_cons_succ, List.getElem?_cons_zero]; rfl) ?_
  repeat (go_big_quiet_step (rfl))
  refine wpQuiet_nil ?_
  refine real_next rfl ?_
  intro w3 g3 Cw3 K hK
  refine wp_call_fn (g := 18) (caps := #[]) (args := #[.slice A len cap, .int .i64 (nd : Int)]) (.func 18) #[.tmp 54, .tmp 59] #[39, 3] rfl (enters_of Try.func18 (by kernel_rfl) rfl) rfl (by simp [Act.eval]) ?_
  refine (FL.out w3 (B1.out.trans ((bd.out.trans (g3.mono bd.out.size)).mono B1.out.size))).mono ?_
  rintro e w3' ⟨g, rfl, hg, hB, b3⟩
  have bd := Lib.hid ((bd.out.trans (g3.mono bd.out.size)).trans (b3.mono (bd.out.trans (g3.mono bd.out.size)).size))
  have GB := Lib.hid hB
  clear hg hB b3 g3 Cw3
  refine ⟨_, rfl, ?_⟩
  refine hK _ _ ⟨⟨w3', bd.out⟩, rfl⟩ ?_
  clear hK K
  simp only [Act.put, List.setIfInBounds_toArray, List.set_cons_zero, List.set_cons_succ]
  refine late_real (by simp only [opsAt, List.getElem?_toArray, List.getElem?_cons_succ, List.getElem?_cons_zero]; rfl) (by simp only [List.getElem?_toArray, List.getElem?_cons_succ, List.getElem?_cons_zero]; rfl) ?_
  repeat (go_big_quiet_step (rfl))
  refine wpQuiet_nil ?_
  refine real_next rfl ?_
  intro w4 g4 Cw4 K hK
  refine wp_call_fn (g := 20) (caps := #[]) (args := #[.agg (scells S), .int .i64 (xx : Int), .int .i64 (yy : Int), .int .i64 (nn : Int), .bool big, .bool clip, .slice (some ⟨g, 0, none⟩) nd nd]) (.func 20) #[.tmp 41, .tmp 44, .tmp 47, .tmp 48, .tmp 50, .tmp 52, .tmp 60] #[32, 3, 3, 3, 4, 4, 39] rfl (enters_of Try.func20 (by kernel_rfl) rfl) rfl (by simp [Act.eval]) ?_
  refine (DW.out g w4 (GB.out.step g4)).mono ?_
  rintro e w4' ⟨rfl, b4⟩
  have E1 := E1.out g
  have E2 := E2.out g
  unfold drS at E1
  unfold coS at E2
  rw [E1, E2]
  have bd := Lib.hid ((bd.out.trans (g4.mono bd.out.size)).trans (b4.mono (bd.out.trans (g4.mono bd.out.size)).size))
  clear b4 g4 Cw4 GB E1 E2
  refine ⟨_, rfl, ?_⟩
  refine hK _ _ ⟨⟨w4', bd.out⟩, rfl⟩ ?_
  clear hK K
  simp only [Act.put, List.setIfInBounds_toArray, List.set_cons_zero, List.set_cons_succ]
  refine late_last (by simp only [opsAt, List.getElem?_toArray, List.getElem?_cons_succ, List.getElem?_cons_zero]; rfl) (by simp only [List.getElem?_toArray, List.getElem?_cons_succ, List.getElem?_cons_zero]; rfl) ?_
  repeat (go_big_quiet_step (rfl))
  refine wpQuiet_nil ?_
  refine last_next rfl ?_
  intro w5 g5 C5 K hK
  obtain ⟨u5, rfl⟩ := C5
  have b5 := Lib.hid u5.below
  generalize u5.w = w5 at *
  refine wp_store_all (ds := scells Z) aggScr (R1.out.step b5.out) (scells_size _) (scells_size _) (scells_one _) (.tmp 4) (.tmp 62) rfl (by simp [Act.eval, Act.put]) (by simp [Act.eval, Act.put]) ?_
  refine hK _ _ ?_
  clear hK K
  simp only [Act.put, List.setIfInBounds_toArray, List.set_cons_zero, List.set_cons_succ]
  simp only [opsAt, List.getElem?_toArray, List.getElem?_cons_succ, List.getElem?_cons_zero]
  repeat (go_big_quiet_step (rfl))
  refine wpQuiet_nil ?_
  intro w6 g6
  have R6 := Lib.hid (((R1.out.step b5.out).store Z).step g6)
  have B6 := Lib.hid ((belowRow (B1.out.trans (b5.out.mono B1.out.size)) (by omega : w.heap.size ≤ w.heap.size + 2) (scells Z)).trans (g6.mono (by have := B1.out.size; have := b5.out.size; simp [World.setRow]; omega)))
  clear R1 B1 b5 g5 g6 bd
  iterate 3 go_step
  exact bodyPost_ret (results_cell_and rfl _ _ (w.heap.size + 2) _ _ _ _ (.bool cv) rfl rfl R6.out Try.underlying32 rfl (by rw [aggScr.i, scells_size])) rfl ⟨rfl, B6.out⟩
theorem do_any (S : Sc) (M : Nat) (hM : S.M = (M : Int)) (M1 : M ≤ 15) (q : Stp) (L : List Nat) (w : World) (hx : StpOk q L w) :
    Calls Try.prog 12 #[.agg (scells S), .agg (stc q)] w fun e w' => e = .returned (.tuple #[.agg (scells (doS S M q L).1), .bool (doS S M q L).2]) ∧ Below w.heap.size w w' := by
  obtain ⟨k, m, hires, x, y, n, big, clip, A, len, cap⟩ := q
  by_cases h0 : k = 0
  · exact do_sel S M hM M1 k m x y n hires big clip A len cap L w hx h0
  · by_cases h1 : k = 1
    · exact do_clr S M hM M1 k m x y n hires big clip A len cap L w hx h1
    · by_cases h2 : k = 2
      · exact do_res S M hM M1 k m x y n hires big clip A len cap L w hx h2
      · by_cases h3 : k = 3
        · exact do_scr S M hM M1 k m x y n hires big clip A len cap L w hx h3
        · exact do_drw S M hM M1 k m x y n hires big clip A len cap L w hx h0 h1 h2 h3
end Go.Proofs.Ytplmmfgmbfcjpaa
