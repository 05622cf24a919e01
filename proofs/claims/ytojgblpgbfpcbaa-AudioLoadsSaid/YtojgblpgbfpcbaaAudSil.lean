/- Contracts of audio.all (an iterator over the samples) and audio.Silent. -/
import Derived.Test.YtojgblpgbfpcbaaAud
import Derived.Test.YtojgblpgbfpcbaaIterOp
namespace Go.Proofs.Ytojgblpgbfpcbaa
open Go.RowKit Go.Shelf Num
set_option linter.unusedVariables false
attribute [local go_sem] Oper.semAt_some

/-- What a round keeps for the iterator: the block of the state. -/
def KeepA (b : Nat) (W W' : World) : Prop := W'.heap[b]? = W.heap[b]?
theorem KeepA.trans {b : Nat} {u v w : World} (h : KeepA b u v) (h' : KeepA b v w) : KeepA b u w := Eq.trans h' h
theorem keepA_put {b : Nat} {W : World} {l : Nat} {o' : Obj} (h1 : b ≠ l) : KeepA b W (W.putObj l o') := World.putObj_heap_other h1

set_option maxRecDepth 100000 in
set_option maxHeartbeats 2000000 in
theorem all1_in (m : Nat) (hm : 1 ≤ m) (l q : Nat) (P : Nat → Int) (p : Int) (J Jx : List Bool → World → Prop)
    (hJ : ∀ pre W W', J pre W → Below W.heap.size W W' → J pre W')
    (hY : ∀ pre x W, J pre W → pre.length < 128 → YieldAt Fence.wide (m - 1) Try.prog l #[.bool x] W fun e W' =>
      (e = .returned (.bool true) ∧ J (pre ++ [x]) W' ∧ KeepA q W W') ∨ (e = .returned (.bool false) ∧ Jx (pre ++ [x]) W'))
    (W : World) (hB : AB q P p W) (h0 : J [] W) :
    CallsIn Fence.wide m Try.prog 17 #[.func (.yield l) #[] #[], .pointer (some ⟨q, 0, none⟩)] W fun e W' => (∃ v, e = .returned v) ∧
      ((∃ ys, ys = smps P 128 ∧ J ys W') ∨ (∃ pre, (∃ k, k < 128 ∧ pre = smps P (k + 1)) ∧ Jx pre W')) := by
  refine callsIn_of_wp Try.func17 rfl trivial ?_ rfl
  simp only [Try.ntmps17, List.size_toArray, List.length_cons, List.length_nil, Nat.reduceAdd, Nat.reduceSub, Array.replicate_succ, Array.replicate_zero, List.push_toArray, List.append_toArray, List.nil_append, List.cons_append]
  gi_wp2
  gi_loopw [4] (fun i wr => ∃ k : Nat, k ≤ 128 ∧ i = .int .i64 k ∧ AB q P p wr ∧ J (smps P k) wr) (fun i _ => 128 - (intOf i).toNat)
  case atStart => exact ⟨0, by omega, rfl, hB, h0⟩
  case round =>
    obtain ⟨k, hk, rfl, hB, hJ1⟩ := hrel
    by_cases hlt : k < 128
    · have kI : (k : Int) < 128 := by omega
      have S := Lib.hid hB
      have JJ := Lib.hid hJ1
      have SS := Lib.hid (smps_succ P k)
      have SM := Lib.hid fun w => smp_nat P k hlt ▸ sample_any P p (k : Int) w
      have KL := Lib.hid hlt
      clear hB hJ1
      obtain ⟨v, hv⟩ : ∃ v, smpN P k = v := ⟨_, rfl⟩
      rw [hv] at SS SM
      clear hv
      gi_upto_region 3 with fail
      refine wpIn_region_lit ?_
      iterate 3 gi_step
      refine listIn_run rfl (fun _ h => by cases h) _ (exec_load_all aggAud S.out (ac_size _ _) (.tmp 1) rfl (by simp [Act.eval])) ?_
      simp only [Act.put, List.setIfInBounds_toArray, List.set_cons_zero, List.set_cons_succ]
      gi_wp2_with fail
      refine ⟨trivial, ?_⟩
      refine (callsIn_wide.2 (SM.out wr)).mono ?_
      rintro e w2 ⟨rfl, b2⟩
      have S2 := Lib.hid (S.out.step b2)
      obtain ⟨fn, tmps, assign, body, hy, hR⟩ := hY (smps P k) v w2 (hJ _ _ _ JJ.out b2) (by rw [smps_len]; exact KL.out)
      clear b2
      simp only []
      gi_wp2
      refine hR.mono ?_
      rintro e W3 (⟨rfl, hJ3, hk3⟩ | ⟨rfl, hJx3⟩)
      · gi_wp2
        go_roundw
        case rel => exact ⟨k + 1, by have := KL.out; omega, by go_num, (show W3.heap[q]? = w2.heap[q]? from hk3).trans S2.out, by rw [SS.out]; exact hJ3⟩
        case measure => simp [intOf]; omega
      · gi_wp2
        refine bodyPost_ret (results_none rfl _ _ _) rfl ?_
        exact ⟨⟨_, rfl⟩, .inr ⟨_, ⟨k, KL.out, SS.out.symm⟩, hJx3⟩⟩
    · have hkn : k = 128 := by omega
      subst hkn
      gi_wp2
      go_end0
      exact ⟨⟨_, rfl⟩, .inl ⟨_, rfl, hJ1⟩⟩
set_option maxHeartbeats 1000000 in
theorem all_in (m : Nat) (P : Nat → Int) (p : Int) (w : World) : CallsIn Fence.wide m Try.prog 16 #[.agg (ac P p)] w fun e w' =>
      e = .returned (.func (.func 17) #[] #[.pointer (some ⟨w.heap.size, 0, none⟩)]) ∧ w' = w.alloc (.cells (ac P p) 26) := by
  refine callsIn_of_wp Try.func16 rfl trivial ?_ rfl
  simp only [Try.ntmps16, List.size_toArray, List.length_cons, List.length_nil, Nat.reduceAdd, Nat.reduceSub, Array.replicate_succ, Array.replicate_zero, List.push_toArray, List.append_toArray, List.nil_append, List.cons_append]
  gi_wp2
  go_ret
  exact ⟨rfl, rfl⟩
theorem all_stops (m : Nat) (hm : 1 ≤ m) (q : Nat) (P : Nat → Int) (p : Int) (w : World) (hB : AB q P p w) :
    SeqStopsK Fence.wide m Try.prog 17 #[.pointer (some ⟨q, 0, none⟩)] (fun x : Bool => #[Value.bool x]) (KeepA q) (fun ys => ys = smps P 128) (fun pre => ∃ k, k < 128 ∧ pre = smps P (k + 1)) 128 w := fun l J Jx W hW hJ _ hY h0 =>
  all1_in m hm l q P p J Jx (fun pre W1 W2 h hb => hJ pre W1 W2 none h (grown_of_below hb) (fun r e => by cases e)) hY W ((hW.block q hB.lt).trans hB) h0

set_option maxRecDepth 100000 in
set_option maxHeartbeats 4000000 in
theorem silent_any (P : Nat → Int) (p : Int) (w : World) : Calls Try.prog 15 #[.agg (ac P p)] w fun e w' => e = .returned (.bool (sil P)) ∧ Below w.heap.size w w' := by
  refine (callsIn_wide (n := 6)).1 ?_
  have s0 : smp P 0 = smpN P 0 := smp_nat P 0 (by omega)
  have SM := Lib.hid fun w : World => s0 ▸ sample_any P p 0 w
  clear s0
  have SF := Lib.hid (And.intro (fun k => sil_no (P := P) (k := k)) (show (∀ k, k < 128 → smpN P k = smpN P 0) → sil P = true from fun h => decide_eq_true h))
  obtain ⟨f, hf⟩ : ∃ f, smpN P 0 = f := ⟨_, rfl⟩
  rw [hf] at SM SF
  clear hf
  refine callsIn_of_wp_marks Try.func15 rfl trivial ?_ rfl
  simp only [Try.ntmps15, List.size_toArray, List.length_cons, List.length_nil, Nat.reduceAdd, Nat.reduceSub, Array.replicate_succ, Array.replicate_zero, List.push_toArray, List.append_toArray, List.nil_append, List.cons_append]
  gi_upto_region 1 with fail
  have S := Lib.hid ((AB.new w P p).alloc (.cells #[.bool false] 4))
  have R := Lib.hid (Boxed.new (w.alloc (.cells (ac P p) 26)) 4 (.bool false))
  have B := Lib.hid ((below_new w (.cells (ac P p) 26)).alloc (by simp) (.cells #[.bool false] 4))
  rw [World.size_alloc] at R
  have Z : ((w.alloc (.cells (ac P p) 26)).alloc (.cells #[.bool false] 4)).heap.size = w.heap.size + 2 := by simp
  generalize (w.alloc (.cells (ac P p) 26)).alloc (.cells #[.bool false] 4) = w1 at *
  obtain ⟨s, hs⟩ : ∃ s, w.heap.size = s := ⟨_, rfl⟩
  have HS := Lib.hid hs
  rw [hs] at S R B Z ⊢
  clear hs
  refine wpIn_region_lit ?_
  refine listIn_run rfl (fun _ h => by cases h) _ (exec_load_all aggAud S.out (ac_size _ _) (.tmp 1) rfl (by simp [Act.eval])) ?_
  simp only [Act.put, List.setIfInBounds_toArray, List.set_cons_zero, List.set_cons_succ]
  gi_wp2_with fail
  refine ⟨trivial, ?_⟩
  refine (callsIn_wide.2 (SM.out w1)).mono ?_
  rintro e w2 ⟨rfl, b2⟩
  have S2 := Lib.hid ((S.out.step b2).alloc (.cells #[.bool f] 4))
  have R2 := Lib.hid (Boxed.alloc ((b2.block (s + 1) R.out.lt).trans R.out) (.cells #[.bool f] 4))
  have F2 := Lib.hid (Boxed.new w2 4 (.bool f))
  have z2 := b2.size
  rw [Z] at z2
  have B2 := Lib.hid ((B.out.trans (b2.mono (by omega))).alloc (by omega) (.cells #[.bool f] 4))
  clear b2 B S R SM
  simp only []
  gi_upto_region 2 with fail
  have Z2 : w2.heap.size + 1 = (w2.alloc (.cells #[.bool f] 4)).heap.size := by simp
  obtain ⟨r, hr⟩ : ∃ r, w2.heap.size = r := ⟨_, rfl⟩
  rw [hr] at F2 Z2 z2 ⊢
  clear hr
  generalize w2.alloc (.cells #[.bool f] 4) = w3 at *
  clear Z
  refine wpIn_region_lit ?_
  refine listIn_run rfl (fun _ h => by cases h) _ (exec_load_all aggAud S2.out (ac_size _ _) (.tmp 1) rfl (by simp [Act.eval])) ?_
  simp only [Act.put, List.setIfInBounds_toArray, List.set_cons_zero, List.set_cons_succ]
  gi_wp2_with fail
  refine ⟨trivial, ?_⟩
  refine (all_in _ P p w3).mono ?_
  rintro e w' ⟨rfl, rfl⟩
  rw [← Z2]
  simp only []
  gi_wp2_with fail
  have Q3 := AB.new w3 P p
  rw [← Z2] at Q3
  have F3 := Lib.hid (F2.out.alloc (.cells (ac P p) 26))
  have R3 := Lib.hid (R2.out.alloc (.cells (ac P p) 26))
  have B3 := Lib.hid (B2.out.alloc (by omega) (.cells (ac P p) 26))
  have Z3 : (w3.alloc (.cells (ac P p) 26)).heap.size = r + 2 := by simp; omega
  generalize w3.alloc (.cells (ac P p) 26) = w4 at *
  clear S2 F2 R2 B2 Z2
  refine wpIn_rangeFunc_ownG rfl (by omega) (gf := 17) (lb := #[.pointer (some ⟨r + 1, 0, none⟩)]) rfl trivial (enters_of Try.func17 (by kernel_rfl) rfl)
    (all_stops _ (by omega) (r + 1) P p w4 Q3) KeepA.trans (fun W l o o' hl _ _ _ => keepA_put (by omega)) (Below.refl _ _) (fun _ => rfl)
    (fun pre W => (Boxed W r 4 (.bool f) ∧ Boxed W (s + 1) 4 (.bool false) ∧ ∀ x ∈ pre, x = f) ∧ Below s w W)
    (fun c pre W => (c = .ret ∧ Boxed W (s + 1) 4 (.bool false) ∧ ∃ x ∈ pre, x ≠ f) ∧ Below s w W)
    (OwnFrom.and (Own.from (fun pre A B row hs hg hr => ⟨boxed_turn hs.1 hg hr, boxed_turn hs.2.1 hg hr, hs.2.2⟩) _) (ownFrom_below (by have := HS.out; omega) (by omega)))
    (fun c => OwnFrom.and (Own.from (fun pre A B row hs hg hr => ⟨hs.1, boxed_turn hs.2.1 hg hr, hs.2.2⟩) _) (ownFrom_below (by have := HS.out; omega) (by omega)))
    ⟨⟨F3.out, R3.out, by simp⟩, B3.out⟩
    (fun x => { tmps := #[.agg (ac P p), .pointer (some ⟨s, 0, none⟩), .pointer (some ⟨s + 1, 0, none⟩), .pointer (some ⟨r, 0, none⟩), .bool x, .agg (ac P p), .bool f, .agg (ac P p), .func (.func 17) #[] #[.pointer (some ⟨r + 1, 0, none⟩)], .bool x, undef, undef, undef], defers := [] }) ?assign ?body ?done ?stop
  case assign =>
    intro l x W K hK
    gi_wp2
    exact hK
  case body =>
    rintro l pre x W ⟨⟨hF, hR, hall⟩, hB⟩ hlt
    have cf := hF.cell
    have cr := hR.cell
    have fr := hR.frozen
    by_cases hx : x = f
    · subst hx
      gi_wp2
      exact ⟨KeepsFrom.refl _ _, rfl, ⟨hF, hR, fun y hy => (List.mem_append.1 hy).elim (hall y) (fun e => by simpa using e)⟩, hB⟩
    · have hne : (x == f) = false := by simpa using hx
      gi_wp2
      exact ⟨(KeepsOthers.setCell _ _ _).from _, ⟨rfl, hR.set _, x, by simp, hx⟩, hB.setCell (p := ⟨s + 1, 0, none⟩) (by simp) _⟩
  case done =>
    rintro D ys W hD rfl ⟨⟨hF, hR, hall⟩, hB⟩ hK
    have hsil : sil P = true := SF.out.2 fun k hk => hall _ (by simp only [smps, List.mem_map, List.mem_range]; exact ⟨k, hk, rfl⟩)
    have cr := hR.cell
    have fr := hR.frozen
    gi_wp2
    have hK' := (KeepsOthers.setCell W ⟨s + 1, 0, none⟩ (.bool true)).same D _ hK rfl
    refine ⟨by simp, .inl ⟨_, _, rfl, run_takeDeferred hK', ?_⟩⟩
    have hc5 := (boxed_turn (hR.set (.bool true)) (grownBy_putObj' _ D (.deferred none)) (fun r e => by cases e; exact ⟨_, hK', rfl⟩)).cell
    refine ⟨.bool true, ?_, by rw [hsil], ?_⟩
    · simp [results, Try.results15, go_sem, hc5]
    · rw [HS.out]
      exact (hB.setCell (p := ⟨s + 1, 0, none⟩) (by simp) _).trans (belowK_b (w := w4) (by omega) _ D _ _ (by omega) hK' rfl rfl)
  case stop =>
    rintro D c pre W hD ⟨k, hk, rfl⟩ ⟨⟨rfl, hR, x, hx, hne⟩, hB⟩ hK
    have hsil : sil P = false := by
      simp only [smps, List.mem_map, List.mem_range] at hx
      obtain ⟨j, hj, rfl⟩ := hx
      exact SF.out.1 j (by omega) hne
    gi_wp2
    refine ⟨by simp, .inl ⟨_, _, rfl, run_takeDeferred hK, ?_⟩⟩
    have hc5 := (boxed_turn hR (grownBy_putObj' _ D (.deferred none)) (fun r e => by cases e; exact ⟨_, hK, rfl⟩)).cell
    refine ⟨.bool false, ?_, by rw [hsil], ?_⟩
    · simp [results, Try.results15, go_sem, hc5]
    · rw [HS.out]
      exact hB.trans (belowK_b (w := w4) (by omega) W D _ _ (by omega) hK rfl rfl)
end Go.Proofs.Ytojgblpgbfpcbaa
