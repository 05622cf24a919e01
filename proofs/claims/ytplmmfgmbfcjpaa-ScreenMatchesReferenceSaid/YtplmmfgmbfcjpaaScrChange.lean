/- Contract of screen.change, for any function that may be handed to it. -/
import Derived.Test.YtplmmfgmbfcjpaaScrIter
namespace Go.Proofs.Ytplmmfgmbfcjpaa
open Go.RowKit Go.Shelf Num
set_option linter.unusedVariables false
set_option linter.unusedSimpArgs false
attribute [local go_sem] Oper.semAt_some

/-- All blocks that were there are as they were, but those of T. -/
structure But (T : Nat → Prop) (w w' : World) : Prop where
  os : w'.os = w.os
  tape : w'.tape = w.tape
  output : w'.output = w.output
  size : w.heap.size ≤ w'.heap.size
  block : ∀ k, k < w.heap.size → ¬ T k → w'.heap[k]? = w.heap[k]?
section
variable {T : Nat → Prop} {u w w' : World}
theorem But.refl (T : Nat → Prop) (w : World) : But T w w := ⟨rfl, rfl, rfl, Nat.le_refl _, fun _ _ _ => rfl⟩
theorem But.trans (h : But T u w) (k : But T w w') : But T u w' := ⟨k.os.trans h.os, k.tape.trans h.tape, k.output.trans h.output, Nat.le_trans h.size k.size, fun j hj ht => (k.block j (Nat.lt_of_lt_of_le hj h.size) ht).trans (h.block j hj ht)⟩
theorem But.of_below (h : Below w.heap.size w w') : But T w w' := ⟨h.os, h.tape, h.output, h.size, fun k hk _ => h.block k hk⟩
theorem But.all (h : But (fun _ => False) w w') : Below w.heap.size w w' := ⟨h.os, h.tape, h.output, h.size, fun k hk => h.block k hk id⟩
theorem But.below (h : But T w w') {B : Nat} (hB : B ≤ w.heap.size) (hT : ∀ k, T k → B ≤ k) : Below B w w' := ⟨h.os, h.tape, h.output, h.size, fun k hk => h.block k (by omega) fun ht => by have := hT k ht; omega⟩
theorem But.mono {T' : Nat → Prop} (h : But T w w') (hT : ∀ k, T k → T' k) : But T' w w' := ⟨h.os, h.tape, h.output, h.size, fun k hk ht => h.block k hk fun h => ht (hT k h)⟩
theorem But.row {b : Nat} (cs : Array Value) (h : T b) : But T w (w.setRow b cs) := ⟨rfl, rfl, rfl, by simp [World.setRow], fun k hk ht => setRow_other w b k cs (fun e => ht (e ▸ h))⟩
theorem But.cell {b : Nat} (o : Nat) (v : Value) (h : T b) : But T w (w.setCell ⟨b, o, none⟩ v) := ⟨rfl, rfl, rfl, by simp, fun k hk ht => Below.heap_setCell w _ v k (fun e => ht (e ▸ h))⟩
theorem But.drew : But T w w.drew := ⟨rfl, rfl, rfl, Nat.le_refl _, fun _ _ _ => rfl⟩
theorem Blk.but {b : Nat} {t : TypeId} {cs : Array Value} (H : Blk b t cs w) (h : But T w w') (hb : ¬ T b) : Blk b t cs w' := (h.block b H.lt hb).trans H
end
/-- What is done to the planes of a list, one after the other; n have been done. -/
def runS (step : Nat → Pl → Pl) (n : Nat) (S : Sc) : List (Fin 4) → Sc
  | [] => S
  | x :: xs => runS step (n + 1) (S.put x.val (step n (S.P x.val))) xs
theorem runS_snoc (step : Nat → Pl → Pl) : ∀ (pre : List (Fin 4)) (n : Nat) (S : Sc) (x : Fin 4), runS step n S (pre ++ [x]) = (runS step n S pre).put x.val (step (n + pre.length) ((runS step n S pre).P x.val))
  | [], n, S, x => rfl
  | y :: ys, n, S, x => by
    rw [List.cons_append, runS, runS_snoc step ys, runS, List.length_cons, show n + 1 + ys.length = n + (ys.length + 1) by omega]
/-- The planes as they are handed over, one after the other. -/
def passed (step : Nat → Pl → Pl) (n : Nat) (S : Sc) : List (Fin 4) → List Pl
  | [] => []
  | x :: xs => S.P x.val :: passed step (n + 1) (S.put x.val (step n (S.P x.val))) xs
theorem passed_snoc (step : Nat → Pl → Pl) : ∀ (pre : List (Fin 4)) (n : Nat) (S : Sc) (x : Fin 4), passed step n S (pre ++ [x]) = passed step n S pre ++ [(runS step n S pre).P x.val]
  | [], n, S, x => rfl
  | y :: ys, n, S, x => by
    rw [List.cons_append, passed, passed_snoc step ys, passed, runS]
    rfl
theorem passed_len (step : Nat → Pl → Pl) : ∀ (pre : List (Fin 4)) (n : Nat) (S : Sc), (passed step n S pre).length = pre.length
  | [], n, S => rfl
  | y :: ys, n, S => by rw [passed, List.length_cons, passed_len step ys, List.length_cons]
/-- What change's round needs of the world. -/
structure ChW (b : Nat) (S : Sc) (fv : Value) where
  w : World
  s : SB b S w
  f : Blk (b + 1) 82 #[fv] w
theorem setRow_keepsFrom {W : World} {b B : Nat} (cs : Array Value) (hb : b < B) : KeepsFrom B W (W.setRow b cs) :=
  ⟨by simp [World.setRow], fun k o hk h _ => (setRow_other W b k cs (by omega)).trans h⟩
theorem But.keepsFrom {T : Nat → Prop} {B : Nat} {W W' : World} (h : But T W W') (hT : ∀ k, T k → k < B) : KeepsFrom B W W' :=
  ⟨h.size, fun k o hk ho _ => (h.block k (Array.getElem?_eq_some_iff.1 ho).1 fun ht => by have := hT k ht; omega).trans ho⟩
/-- The world between two rounds. -/
structure ChI (step : Nat → Pl → Pl) (T : Nat → Prop) (G : List Pl → World → Prop) (S : Sc) (fv : Value) (w : World) (ps : List Pl) (Z : Sc) (W : World) : Prop where
  s : SB w.heap.size Z W
  f : Blk (w.heap.size + 1) 82 #[fv] W
  r : SB (w.heap.size + 1 + 1) (blankS false 0) W
  g : G ps W
  b : But T w W
  sz : w.heap.size + 4 ≤ W.heap.size
theorem But.turn {T : Nat → Prop} {u W W' : World} {row : Option Nat} (h : But T u W) (hg : W.grownBy W' row) (hr : ∀ r, row = some r → u.heap.size ≤ r) : But T u W' :=
  ⟨hg.os.trans h.os, hg.tape.trans h.tape, hg.output.trans h.output, Nat.le_trans h.size hg.size, fun k hk ht => (hg.block k (Nat.lt_of_lt_of_le hk h.size) (fun e => by have := hr k e.symm; omega)).trans (h.block k hk ht)⟩
theorem Blk.turn {b : Nat} {t : TypeId} {cs : Array Value} {W W' : World} {row : Option Nat} (H : Blk b t cs W) (hg : W.grownBy W' row) (hr : ∀ r, row = some r → ∃ o : Obj, W.heap[r]? = some o ∧ o.isCells = false) : Blk b t cs W' :=
  (hg.block b H.lt fun e => by obtain ⟨o, ho, hc⟩ := hr b e.symm; rw [show W.heap[b]? = _ from H] at ho; cases ho; cases hc).trans H
set_option maxRecDepth 100000 in
set_option maxHeartbeats 4000000 in
theorem change_any (M : Nat) {g : Nat} {caps : Array Value} (eg : ∀ args w, (callFunc g args).run Try.prog w = .ok (.enter g args) w) (step : Nat → Pl → Pl) (T : Nat → Prop) (G : List Pl → World → Prop) (w : World) (hT : ∀ k, T k → k < w.heap.size)
    (hG : ∀ ps W W', G ps W → Below w.heap.size W W' → G ps W')
    (hf : ∀ ps p W, ps.length < (selTo M 4).length → G ps W → But T w W → Calls Try.prog g (#[.agg (pcells p)] ++ caps) W fun e W' => e = .returned (.agg (pcells (step ps.length p))) ∧ G (ps ++ [p]) W' ∧ But T W W')
    (S : Sc) (hM : S.M = (M : Int)) (M1 : M ≤ 10000) (h0 : G [] w) :
    Calls Try.prog 37 #[.agg (scells S), .func (.func g) #[] caps] w fun e w' => e = .returned (.agg (scells (runS step 0 S (selTo M 4)))) ∧ G (passed step 0 S (selTo M 4)) w' ∧ But T w w' := by
  refine (callsIn_wide (n := 6)).1 ?_
  have hz := zeroScreen
  have S0 := Lib.hid (((SB.new w S).alloc (.cells #[.func (.func g) #[] caps] 82)).alloc (.cells (scells (blankS false 0)) 32))
  have F0 := Lib.hid ((Blk.new (w.alloc (.cells (scells S) 32)) 82 #[.func (.func g) #[] caps]).alloc (.cells (scells (blankS false 0)) 32))
  have R0 := Lib.hid (SB.new ((w.alloc (.cells (scells S) 32)).alloc (.cells #[.func (.func g) #[] caps] 82)) (blankS false 0))
  have B0 := Lib.hid ((((Below.refl _ w).alloc (Nat.le_refl _) (.cells (scells S) 32)).alloc (by simp) (.cells #[.func (.func g) #[] caps] 82)).alloc (by simp; omega) (.cells (scells (blankS false 0)) 32))
  rw [World.size_alloc] at F0
  rw [World.size_alloc, World.size_alloc] at R0
  have Z0 : (((w.alloc (.cells (scells S) 32)).alloc (.cells #[.func (.func g) #[] caps] 82)).alloc (.cells (scells (blankS false 0)) 32)).heap.size = w.heap.size + 3 := by simp
  have c513 : (scells S)[513]? = some (.int .i64 (M : Int)) := by rw [scells_get _ _ (by omega), ← hM]; rfl
  have HM := Lib.hid hM
  have HF := Lib.hid hf
  have GG := Lib.hid (And.intro hT (And.intro hG h0))
  clear hM hf hT hG h0
  refine callsIn_of_wp_marks Try.func37 rfl trivial ?_ rfl
  simp only [Try.ntmps37, List.size_toArray, List.length_cons, List.length_nil, Nat.reduceAdd, Nat.reduceSub, Array.replicate_succ, Array.replicate_zero, List.push_toArray, List.append_toArray, List.nil_append, List.cons_append]
  gi_wp2_with fail
  generalize ((w.alloc (.cells (scells S) 32)).alloc (.cells #[.func (.func g) #[] caps] 82)).alloc (.cells (scells (blankS false 0)) 32) = w2 at *
  clear c513 hz
  refine ⟨trivial, ?_⟩
  refine (selected_in _ _ _).mono ?_
  rintro e w' ⟨rfl, rfl⟩
  simp only []
  gi_wp2_with fail
  have BM := Boxed.new w2 3 (.int .i64 (M : Int))
  have S1 := Lib.hid (S0.out.alloc (.cells #[.int .i64 (M : Int)] 3))
  have F1 := Lib.hid (F0.out.alloc (.cells #[.int .i64 (M : Int)] 3))
  have R1 := Lib.hid (R0.out.alloc (.cells #[.int .i64 (M : Int)] 3))
  have B1 := Lib.hid (B0.out.alloc B0.out.size (.cells #[.int .i64 (M : Int)] 3))
  have Z1 : (w2.alloc (.cells #[.int .i64 (M : Int)] 3)).heap.size = w.heap.size + 4 := by simp [Z0]
  rw [Z0] at BM ⊢
  generalize w2.alloc (.cells #[.int .i64 (M : Int)] 3) = w3 at *
  clear Z0 S0 F0 R0 B0
  refine wpIn_rangeFunc_ownG rfl (by omega) (gf := 61) (lb := #[.pointer (some ⟨w.heap.size + 3, 0, none⟩)]) rfl trivial (enters_of Try.func61 (by kernel_rfl) rfl)
    (selected_stops _ (by omega) (w.heap.size + 3) M M1 w3 BM) KeepM.trans (fun W l o o' hl _ _ _ => keepM_put (by omega)) (Below.refl _ _) (fun _ => rfl)
    (fun pre W => ChI step T G S (.func (.func g) #[] caps) w (passed step 0 S pre) (runS step 0 S pre) W)
    (fun _ _ _ => False)
    (fun pre W W' row hs hg hr => ⟨Blk.turn hs.s hg (fun r e => (hr r e).2), Blk.turn hs.f hg (fun r e => (hr r e).2), Blk.turn hs.r hg (fun r e => (hr r e).2), GG.out.2.1 _ _ _ hs.g ⟨hg.os, hg.tape, hg.output, hg.size, fun k hk => hg.block k (Nat.lt_of_lt_of_le hk hs.b.size) (fun e => by have := (hr k e.symm).1; omega)⟩, hs.b.turn hg (fun r e => by have := (hr r e).1; omega), Nat.le_trans hs.sz hg.size⟩)
    (fun _ _ _ _ _ hs _ _ => hs)
    ⟨S1.out, F1.out, R1.out, GG.out.2.1 _ _ _ GG.out.2.2 B1.out, But.of_below B1.out, by omega⟩
    (fun x => { tmps := #[.agg (scells S), .func (.func g) #[] caps, .pointer (some ⟨w.heap.size, 0, none⟩), .pointer (some ⟨w.heap.size + 1, 0, none⟩), .pointer (some ⟨w.heap.size + 1 + 1, 0, none⟩), .int .i64 (x.val : Int), .pointer (some ⟨w.heap.size, 513, none⟩), .int .i64 (M : Int), .func (.func 61) #[] #[.pointer (some ⟨w.heap.size + 3, 0, none⟩)], .int .i64 (x.val : Int), undef, undef, undef, undef, undef, undef, undef, undef, undef, undef], defers := [] }) ?assign ?body ?done ?stop
  case assign =>
    intro l x W K hK
    gi_wp2
    exact hK
  case body =>
    rintro l pre x W H hlt
    obtain ⟨k, hk⟩ := x
    obtain ⟨Z, hZ⟩ : ∃ Z, runS step 0 S pre = Z := ⟨_, rfl⟩
    obtain ⟨ps, hps⟩ : ∃ ps, passed step 0 S pre = ps := ⟨_, rfl⟩
    have hpl : ps.length = pre.length := by rw [← hps, passed_len]
    have HP := Lib.hid (show passed step 0 S (pre ++ [⟨k, hk⟩]) = ps ++ [Z.P k] by rw [passed_snoc, hps, hZ])
    rw [hps] at H
    clear hps
    have HZ := Lib.hid (show runS step 0 S (pre ++ [⟨k, hk⟩]) = Z.put k (step ps.length (Z.P k)) by rw [runS_snoc, hZ, Nat.zero_add, hpl])
    rw [hZ] at H
    have HH := Lib.hid H
    have HL := Lib.hid (And.intro hlt hk)
    clear H hlt hZ
    gi_step
    apply wpIn_block
    refine wpIn_region_late (C := fun w' => ∃ x : ChW w.heap.size Z (.func (.func g) #[] caps), w' = x.w) 9 [([0, 1, 2, 3, 4, 5, 7], 6, false)] [8] [] (by kernel_rfl) (by kernel_rfl) ?_ ?_ ?_ ⟨⟨W.drew, HH.out.s.drew, HH.out.f.drew⟩, rfl⟩ ?_
    · exact fun _ _ d _ _ h => by cases d <;> exact h
    · exact fun _ _ h => h
    · rintro _ w' ⟨x, rfl⟩ h
      exact ⟨⟨w', x.s.step h, x.f.step h⟩, rfl⟩
    intro wd hwd
    have D := Lib.hid (show ChI step T G S (.func (.func g) #[] caps) w ps Z wd from by rw [hwd]; exact ⟨HH.out.s.drew, HH.out.f.drew, HH.out.r.drew, GG.out.2.1 _ _ _ HH.out.g ⟨rfl, rfl, rfl, Nat.le_refl _, fun _ _ => rfl⟩, HH.out.b.trans But.drew, HH.out.sz⟩)
    have KW := Lib.hid (show But T W wd from by rw [hwd]; exact But.drew)
    have kI : (k : Int) < 4 := by omega
    have cf : ∀ x : ChW w.heap.size Z (.func (.func g) #[] caps), x.w.cell? ⟨w.heap.size + 1, 0, none⟩ = some (.func (.func g) #[] caps) := fun x => by rw [x.f.cell]; rfl
    have CF := Lib.hid (fun (w' : World) (h : ∃ x : ChW w.heap.size Z (.func (.func g) #[] caps), w' = x.w) => show w'.cell? ⟨w.heap.size + 1, 0, none⟩ = some (.func (.func g) #[] caps) by obtain ⟨x, rfl⟩ := h; exact cf x)
    have HS := Lib.hid (fun (w' : World) (h : ∃ x : ChW w.heap.size Z (.func (.func g) #[] caps), w' = x.w) => show SB w.heap.size Z w' by obtain ⟨x, rfl⟩ := h; exact x.s)
    clear hwd
    dsimp only
    refine late_real (by simp only [opsAt, List.getElem?_toArray, List.getElem?_cons_succ, List.getElem?_cons_zero]; rfl) (by simp only [List.getElem?_toArray, List.getElem?_cons_succ, List.getElem?_cons_zero]; rfl) ?_
    go_big_quiet_step (rfl)
    refine quiet_load_one ⟨_, Try.underlying82, rfl⟩ CF.out rfl (.tmp 3) rfl (by simp [Act.eval]) ?_
    simp only [Act.put, List.setIfInBounds_toArray, List.set_cons_zero, List.set_cons_succ]
    go_big_quiet_step (rfl)
    go_big_quiet_step (rfl)
    go_big_quiet_step (rfl)
    refine quiet_load_part (o := k * 128) (n := 128) aggPl HS.out (by rw [scells_size]; omega) rfl (.tmp 14) rfl (by simp [Act.eval]) ?_
    rw [sc_plane _ _ hk]
    simp only [Act.put, List.setIfInBounds_toArray, List.set_cons_zero, List.set_cons_succ]
    go_big_quiet_step (rfl)
    refine wpQuiet_nil ?_
    refine real_next rfl ?_
    intro w1 g1 C1 K hK
    have D1 := Lib.hid (show ChI step T G S (.func (.func g) #[] caps) w ps Z w1 from ⟨D.out.s.step g1, D.out.f.step g1, D.out.r.step g1, GG.out.2.1 _ _ _ D.out.g (g1.mono D.out.b.size), D.out.b.trans (But.of_below g1), Nat.le_trans D.out.sz g1.size⟩)
    have K1 := Lib.hid (KW.out.trans (But.of_below g1))
    refine wp_call_fn (g := g) (caps := caps) (args := #[.agg (pcells (Z.P k))] ++ caps) (.tmp 11) #[.tmp 15] #[29] rfl eg (by simp [Act.eval, Act.put]) (by simp [Act.eval, Act.put]) ?_
    refine (HF.out ps (Z.P k) w1 (by rw [hpl]; exact HL.out.1) D1.out.g D1.out.b).mono ?_
    rintro e w2' ⟨rfl, hg2, b2⟩
    have nT : ∀ j, w.heap.size ≤ j → ¬ T j := fun j hj ht => by have := GG.out.1 j ht; omega
    have D2 := Lib.hid (show ChI step T G S (.func (.func g) #[] caps) w (ps ++ [Z.P k]) Z w2' from ⟨Blk.but D1.out.s b2 (nT _ (by omega)), Blk.but D1.out.f b2 (nT _ (by omega)), Blk.but D1.out.r b2 (nT _ (by omega)), hg2, D1.out.b.trans b2, Nat.le_trans D1.out.sz b2.size⟩)
    have K2 := Lib.hid (K1.out.trans b2)
    clear D D1 K1 KW b2 hg2 g1 C1
    refine ⟨_, rfl, ?_⟩
    refine hK _ _ ⟨⟨w2', D2.out.s, D2.out.f⟩, rfl⟩ ?_
    clear hK K
    simp only [Act.put, List.setIfInBounds_toArray, List.set_cons_zero, List.set_cons_succ]
    refine late_last (by simp only [opsAt, List.getElem?_toArray, List.getElem?_cons_succ, List.getElem?_cons_zero]; rfl) (by simp only [List.getElem?_toArray, List.getElem?_cons_succ, List.getElem?_cons_zero]; rfl) ?_
    go_big_quiet_step (rfl)
    refine wpQuiet_nil ?_
    refine last_next rfl ?_
    intro w3' g3 C3 K hK
    obtain ⟨st, hst⟩ : ∃ st, step ps.length (Z.P k) = st := ⟨_, rfl⟩
    rw [hst] at HZ ⊢
    refine wp_store_part (o := k * 128) (ds := pcells st) aggPl (D2.out.s.step g3) (pcells_size _) (by rw [scells_size]; omega) (pcells_one _) (.tmp 18) (.tmp 16) rfl (by simp [Act.eval, Act.put]) (by simp [Act.eval, Act.put]) ?_
    rw [sc_put _ _ hk]
    refine hK _ _ ?_
    clear hK K
    refine wpQuiet_nil ?_
    intro w4 g4
    have D3 := Lib.hid (show ChI step T G S (.func (.func g) #[] caps) w (ps ++ [Z.P k]) Z w3' from ⟨D2.out.s.step g3, D2.out.f.step g3, D2.out.r.step g3, GG.out.2.1 _ _ _ D2.out.g (g3.mono D2.out.b.size), D2.out.b.trans (But.of_below g3), Nat.le_trans D2.out.sz g3.size⟩)
    have K3 := Lib.hid (K2.out.trans (But.of_below g3))
    have q1 := Z1
    have hsz := K3.out.size
    have B4 := Lib.hid (show But (fun j => j = w.heap.size) w3' w4 from (But.row (T := fun j => j = w.heap.size) _ rfl).trans (But.of_below g4))
    have hgr : Below w.heap.size w3' w4 := B4.out.below (D3.out.b.size) (fun j hj => by omega)
    have hWs := HH.out.sz
    have hkeep : ∀ j, w.heap.size + 1 ≤ j → j < W.heap.size → w4.heap[j]? = W.heap[j]? := fun j hj hl => by
      have h1 := K3.out.block j hl (fun ht => by have := GG.out.1 j ht; omega)
      have h2 := B4.out.block j (Nat.lt_of_lt_of_le hl K3.out.size) (by show ¬ j = w.heap.size; omega)
      exact h2.trans h1
    refine ⟨⟨Nat.le_trans K3.out.size B4.out.size, fun j o hB ho hc => ?_⟩, ?_, ?_⟩
    · rw [hkeep j (by omega) (Array.getElem?_eq_some_iff.1 ho).1, ho]
    · exact hkeep _ (by omega) (by omega)
    · show ChI step T G S (.func (.func g) #[] caps) w (passed step 0 S (pre ++ [(⟨k, hk⟩ : Fin 4)])) (runS step 0 S (pre ++ [(⟨k, hk⟩ : Fin 4)])) w4
      rw [HP.out, HZ.out]
      refine ⟨?_, ?_, ?_, ?_, ?_, Nat.le_trans D3.out.sz B4.out.size⟩
      · exact Blk.but (Blk.store D3.out.s _) (But.of_below (T := fun _ => False) g4) id
      · exact Blk.but D3.out.f B4.out (by show ¬ w.heap.size + 1 = w.heap.size; omega)
      · exact Blk.but D3.out.r B4.out (by show ¬ w.heap.size + 1 + 1 = w.heap.size; omega)
      · exact GG.out.2.1 _ _ _ D3.out.g hgr
      · exact ⟨hgr.os.trans D3.out.b.os, hgr.tape.trans D3.out.b.tape, hgr.output.trans D3.out.b.output, Nat.le_trans D3.out.b.size hgr.size, fun j hj ht => (hgr.block j hj).trans (D3.out.b.block j hj ht)⟩
  case done =>
    rintro D ys W hD rfl H hK
    obtain ⟨Z, hZ⟩ : ∃ Z, runS step 0 S (selTo M 4) = Z := ⟨_, rfl⟩
    rw [hZ] at H
    have HH := Lib.hid H
    have HZ := Lib.hid hZ
    clear H hZ
    simp only [Exit.inBlock, Exit.then]
    gi_step
    refine wpIn_wide.2 ?_
    go_step
    refine wp_region_lit ?_
    refine list_load_all aggScr HH.out.s (scells_size _) rfl (.tmp 2) rfl (by simp [Act.eval]) ?_
    refine list_store_all (ds := scells Z) aggScr HH.out.r (scells_size _) (scells_size _) (scells_one _) rfl (.tmp 4) (.tmp 19) rfl (by simp [Act.eval, Act.put]) (by simp [Act.eval, Act.put]) ?_
    simp only [Act.put, List.setIfInBounds_toArray, List.set_cons_zero, List.set_cons_succ]
    have hDs : w.heap.size + 4 ≤ D := by omega
    have R5 : SB (w.heap.size + 1 + 1) Z ((W.setRow (w.heap.size + 1 + 1) (scells Z)).putObj D (.deferred none)) := (World.putObj_heap_other (by omega)).trans (Blk.store HH.out.r (scells Z))
    have B5 : Below w.heap.size W ((W.setRow (w.heap.size + 1 + 1) (scells Z)).putObj D (.deferred none)) :=
      ⟨rfl, rfl, rfl, by simp [World.setRow, World.putObj], fun j hj => (World.putObj_heap_other (by omega)).trans (setRow_other W _ j _ (by omega))⟩
    have hK5 : (W.setRow (w.heap.size + 1 + 1) (scells Z)).heap[D]? = some (.deferred (some [])) := (setRow_other W _ D _ (by omega)).trans hK
    have RR := Lib.hid (And.intro R5 (And.intro B5 hK5))
    clear R5 B5 hK5
    generalize W.setRow (w.heap.size + 1 + 1) (scells Z) = W5 at *
    iterate 4 go_step
    refine ⟨by simp, .inl ⟨_, _, rfl, run_takeDeferred RR.out.2.2, ?_⟩⟩
    refine ⟨_, results_cell_row rfl _ _ (w.heap.size + 1 + 1) _ _ _ _ rfl RR.out.1 Try.underlying32 rfl (by rw [aggScr.i, scells_size]), ?_, ?_, ?_⟩
    · rw [HZ.out]
    · exact GG.out.2.1 _ _ _ HH.out.g RR.out.2.1
    · have h1 := RR.out.2.1
      exact ⟨h1.os.trans HH.out.b.os, h1.tape.trans HH.out.b.tape, h1.output.trans HH.out.b.output, Nat.le_trans HH.out.b.size h1.size, fun j hj ht => (h1.block j hj).trans (HH.out.b.block j hj ht)⟩
  case stop =>
    rintro D c pre W _ _ h _
    exact h.elim
end Go.Proofs.Ytplmmfgmbfcjpaa
