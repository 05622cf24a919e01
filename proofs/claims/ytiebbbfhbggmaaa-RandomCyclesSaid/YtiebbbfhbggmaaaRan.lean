/- Contracts of package random: the looked-up byte, At, and the methods of a stream. -/
import Derived.Test.YtiebbbfhbggmaaaRanNum
import Derived.Test.YtiebbbfhbggmaaaByt
import Derived.Test.YtiebbbfhbggmaaaAppRd
import Derived.Test.YtiebbbfhbggmaaaBlk
import Derived.Test.YtiebbbfhbggmaaaPlain
import Derived.Test.YtiebbbfhbggmaaaMix
import Derived.Test.YtiebbbfhbggmaaaTail
import Derived.Lib.MinMax
import Derived.Lib.SliceRun
import Derived.Maps.OwnSet
import Derived.IntWalk
namespace Go.Proofs.Ytiebbbfhbggmaaa
open Go.RowKit Num
set_option linter.unusedVariables false
set_option linter.unusedSimpArgs false

theorem below_newS (w : World) (o : Obj) : Below w.heap.size w (w.alloc o) := (Below.refl _ _).alloc (Nat.le_refl _) o

set_option maxRecDepth 100000 in
set_option maxHeartbeats 2000000 in
theorem around_any (A : Option Addr) (n c : Nat) (w : World) :
    Calls Try.prog 16 #[.slice A n c] w fun e w' => e = .returned (.func (.func 18) #[] #[.pointer (some ⟨w.heap.size, 0, none⟩)]) ∧ w' = w.alloc (.cells #[.slice A n c] 22) := by
  go_enter Try.func16, Try.ntmps16
  go_wp2
  go_returns
  exact ⟨rfl, rfl⟩

set_option maxRecDepth 100000 in
set_option maxHeartbeats 2000000 in
theorem look_any (A : Option Addr) (n c : Nat) (L : List Int) (k g : Nat) (w : World) (hc : w.cell? ⟨g, 0, none⟩ = some (.slice A n c)) (H : Rd w A L) (hn : L.length = n) (n1 : n ≤ 1000000) :
    Calls Try.prog 18 #[.int .u64 (k : Int), .pointer (some ⟨g, 0, none⟩)] w fun e w' => e = .returned (.int .u8 (nxt L k)) ∧ Below w.heap.size w w' := by
  by_cases h0 : n = 0
  · have E := Lib.hid (nxt_zero L (hn.trans h0) k)
    subst h0
    clear H hn n1
    go_enter Try.func18, Try.ntmps18
    go_wp2
    go_ret
    exact ⟨ret_int E.out.symm, by go_grown⟩
  · obtain ⟨j, hj⟩ : ∃ j, k % L.length = j := ⟨_, rfl⟩
    have hl : k % L.length < L.length := nxt_lt L k (by omega)
    obtain ⟨ad, rfl, hb, c1⟩ := H.at_ hl
    rw [nxt_get L k hl, hj] at c1
    rw [hj, hn] at hl
    have u0 : IntKind.u64.wrap (n : Int) = (n : Int) := by rw [IntKind.wrap_u64]; omega
    have u1 : ((k : Int) % (n : Int)) = (j : Int) := by rw [← hj, hn]; rfl
    have u2 : Int.tmod (k : Int) (n : Int) = (j : Int) := by rw [Int.tmod_eq_emod_of_nonneg (by omega)]; exact u1
    have u3 : IntKind.u64.wrap (j : Int) = (j : Int) := by rw [IntKind.wrap_u64]; omega
    have h0I : ¬ (n : Int) = 0 := by omega
    generalize nxt L k = x at *
    clear hj hb H hn
    go_enter Try.func18, Try.ntmps18
    go_wp2
    go_quiet (fail)
    go_wp2
    go_ret
    exact ⟨rfl, ⟨rfl, rfl, rfl, Nat.le_refl _, fun _ _ => rfl⟩⟩

theorem Blk.apart {b p : Nat} {T : TypeId} {cs : Array Value} {w w' : World} (H : Blk b T cs w) (ha : Apart p none w w') (hp : b ≠ p) : Blk b T cs w' := (ha.block b H.lt hp (fun e => by cases e)).trans H

/-- Block g is the stream of the list L, of which k bytes were read; it and its list lie at the block base or above it. -/
structure St (base g : Nat) (L : List Int) (k : Nat) (w : World) : Prop where
  low : base ≤ g
  held : ∃ A c, Blk g 38 #[.slice A L.length c, .int .u64 (k : Int)] w ∧ w.ownsRow base 5 1 (.slice A L.length c) L.length (L.map (Value.int .u8))
section
variable {base g p k : Nat} {L : List Int} {w w' : World}
theorem St.lt (H : St base g L k w) : g < w.heap.size := by obtain ⟨A, c, h, _⟩ := H.held; exact h.lt
/-- What is written lies neither in the stream nor in its list. -/
theorem St.kept (H : St base g L k w) (ha : Apart p none w w') (hp : g ≠ p) (hr : ∀ A c, w.ownsRow base 5 1 (.slice A L.length c) L.length (L.map (Value.int .u8)) → (Value.slice A L.length c).ownBlock ≠ some p) : St base g L k w' := by
  obtain ⟨A, c, h, ho⟩ := H.held
  exact ⟨H.low, A, c, h.apart ha hp, own_apart ho ha (hr A c ho) (fun _ e => by cases e)⟩
theorem St.step (H : St base g L k w) (hb : Below w.heap.size w w') : St base g L k w' :=
  H.kept (p := w.heap.size) (Apart.of_below hb) (by have := H.lt; omega) (fun A c ho e => by have := (ho.lt _ e).2; omega)
theorem St.alloc (H : St base g L k w) (o : Obj) : St base g L k (w.alloc o) := H.step (below_newS w o)
theorem St.mono (H : St base g L k w) {b' : Nat} (hb : b' ≤ base) : St b' g L k w := by
  obtain ⟨A, c, h, ho⟩ := H.held
  exact ⟨Nat.le_trans hb H.low, A, c, h, own_mono ho hb⟩
/-- .. below it. -/
theorem St.under (H : St base g L k w) (ha : Apart p none w w') (hp : p < base) : St base g L k w' :=
  H.kept ha (by have := H.low; omega) (fun A c ho e => by have := (own_block ho e).1; omega)
/-- .. another stream. -/
theorem St.other {b' k' : Nat} {L' : List Int} (H : St base g L k w) (ha : Apart p none w w') (hp : g ≠ p) (X : St b' p L' k' w) : St base g L k w' :=
  H.kept ha hp (fun A c ho e => by
    obtain ⟨A', c', h', _⟩ := X.held
    exact own_tag ho h' (by decide) e)
/-- A new stream, whose list is of the call's own. -/
theorem St.new {A : Option Addr} {n c : Nat} (ho : w.ownsRow base 5 1 (.slice A n c) n (L.map (Value.int .u8))) (hn : L.length = n) (hb : base ≤ w.heap.size) (k : Nat) : St base w.heap.size L k (w.alloc (.cells #[.slice A n c, .int .u64 (k : Int)] 38)) := by
  subst hn
  exact ⟨hb, A, c, Blk.new _ _ _, ho.alloc _⟩
end

def nilStream : Value := .pointer none
set_option maxRecDepth 100000 in
set_option maxHeartbeats 2000000 in
theorem next_nil (w : World) : Calls Try.prog 10 #[.pointer none] w fun e w' => e = .returned (.int .u8 0) ∧ w = w' := by
  go_enter Try.func10, Try.ntmps10
  go_wp2
  go_ret
  exact ⟨rfl, rfl⟩
set_option maxRecDepth 100000 in
set_option maxHeartbeats 2000000 in
theorem sclone_nil (w : World) : Calls Try.prog 13 #[.pointer none] w fun e w' => e = .returned (.pointer none) ∧ w = w' := by
  go_enter Try.func13, Try.ntmps13
  go_wp2
  go_ret
  exact ⟨rfl, rfl⟩

set_option maxRecDepth 100000 in
set_option maxHeartbeats 2000000 in
theorem count_any {base g k : Nat} {L : List Int} {w : World} (H : St base g L k w) (hk : k ≤ 9223372036854775807) :
    Calls Try.prog 9 #[.pointer (some ⟨g, 0, none⟩)] w fun e w' => e = .returned (.int .i64 (k : Int)) ∧ w = w' := by
  obtain ⟨A, c, h, ho⟩ := H.held
  have c1 := h.cell 1
  have kI : (k : Int) ≤ 9223372036854775807 := by omega
  have k0 : (0 : Int) ≤ (k : Int) := by omega
  have mn : min (k : Int) 9223372036854775807 = (k : Int) := by omega
  have wr : IntKind.i64.wrap (k : Int) = (k : Int) := by rw [IntKind.wrap_i64]; omega
  simp only [List.getElem?_toArray, List.getElem?_cons_succ, List.getElem?_cons_zero] at c1
  clear h ho
  go_enter Try.func9, Try.ntmps9
  go_wp2
  go_ret
  exact ⟨rfl, rfl⟩

set_option maxRecDepth 100000 in
set_option maxHeartbeats 2000000 in
/-- The next byte is read: only the stream's own block is written. -/
theorem next_any {base g k : Nat} {L : List Int} {w : World} (H : St base g L k w) (hk : k ≤ 9223372036854775807) (n1 : L.length ≤ 1000000) :
    Calls Try.prog 10 #[.pointer (some ⟨g, 0, none⟩)] w fun e w' => e = .returned (.int .u8 (nxt L k)) ∧ St base g L (k + 1) w' ∧ Apart g none w w' := by
  obtain ⟨A, c, h, ho⟩ := H.held
  have HH := Lib.hid (And.intro h (And.intro ho n1))
  have LT := Lib.hid H.lt
  have LO := Lib.hid H.low
  have c0 := h.cell 0
  have c1 := h.cell 1
  simp only [List.getElem?_toArray, List.getElem?_cons_succ, List.getElem?_cons_zero] at c0 c1
  have k0 := Calm.cell c0 H.lt
  have k1 := Calm.cell c1 H.lt
  have kI : (k : Int) + 1 ≤ 9223372036854775808 := by omega
  have wr : IntKind.u64.wrap ((k : Int) + 1) = (k : Int) + 1 := by rw [IntKind.wrap_u64]; omega
  clear h ho n1 hk c0 c1 H
  go_enter Try.func10, Try.ntmps10
  go_upto_region 3 with fail
  refine wp_region_mix (C := fun w' => ∃ x : Calm w, w' = x.w) [([0, 1, 2, 3, 5, 6, 7, 8], 4), ([], 9)] [10] (by kernel_rfl) (by kernel_rfl) (fun _ _ d _ _ h => by cases d <;> exact h) ⟨⟨w.drew, (Below.refl _ _).drew⟩, rfl⟩ ?_
  intro wd hwd
  have BD := Lib.hid (show Below w.heap.size w wd by rw [hwd]; exact (Below.refl _ _).drew)
  clear hwd
  refine mix_run (by simp only [opsAt, List.getElem?_toArray, List.getElem?_cons_succ, List.getElem?_cons_zero]; rfl) (by rfl) ?_
  repeat (go_big_quiet_step (fail))
  refine wpQuiet_nil ?_
  refine mix_call (by rfl) ?_
  intro K hK
  go_wp2_with fail
  refine (around_any A L.length c wd).mono ?_
  rintro e w1 ⟨rfl, hw1⟩
  have B1 := Lib.hid (show Below w.heap.size w w1 by rw [hw1]; exact BD.out.alloc BD.out.size _)
  have X1 := Lib.hid (show w1.cell? ⟨wd.heap.size, 0, none⟩ = some (.slice A L.length c) by rw [hw1]; simp)
  clear hw1
  simp only []
  refine hK _ _ ⟨⟨w1, B1.out⟩, rfl⟩ ?_
  clear hK K
  refine mix_run (by simp only [opsAt, List.getElem?_toArray, List.getElem?_cons_succ, List.getElem?_cons_zero]; rfl) (by rfl) ?_
  refine wpQuiet_nil ?_
  refine mix_call (by rfl) ?_
  intro K hK
  go_wp2_with fail
  refine (look_any A L.length c L k wd.heap.size w1 X1.out ((own_rd HH.out.2.1).below B1.out) rfl HH.out.2.2).mono ?_
  rintro e w2 ⟨rfl, b2⟩
  have B2 := Lib.hid (B1.out.trans (b2.mono B1.out.size))
  clear b2 X1 B1 BD
  simp only []
  refine hK _ _ ⟨⟨w2, B2.out⟩, rfl⟩ ?_
  clear hK K
  refine mix_last (by simp only [opsAt, List.getElem?_toArray, List.getElem?_cons_succ, List.getElem?_cons_zero]; rfl) ?_
  repeat (go_big_quiet_step (fail))
  refine wpQuiet_nil ?_
  clear k0 k1
  have Y := Lib.hid (HH.out.1.step B2.out)
  have c1 := Y.out.cell 1
  have f1 := Y.out.frozen 1
  simp only [List.getElem?_toArray, List.getElem?_cons_succ, List.getElem?_cons_zero] at c1
  go_wp2
  go_ret
  have ap : Apart g none w2 (w2.setCell ⟨g, 1, none⟩ (.int .u64 ((k : Int) + 1))) := Apart.setCell _ _
  have ow : w2.ownsRow base 5 1 (.slice A L.length c) L.length (L.map (Value.int .u8)) := own_apart (p := w.heap.size) (g := none) HH.out.2.1 (Apart.of_below B2.out) (fun h => by have := (HH.out.2.1.lt _ h).2; omega) (fun k hk => by cases hk)
  exact ⟨rfl, ⟨LO.out, A, c, (Y.out.put 1 (.int .u64 ((k : Int) + 1))).eq (by simp), own_apart ow ap (own_tag ow Y.out (by decide)) (fun _ e => by cases e)⟩, (Apart.of_below B2.out).trans ap⟩
end Go.Proofs.Ytiebbbfhbggmaaa
