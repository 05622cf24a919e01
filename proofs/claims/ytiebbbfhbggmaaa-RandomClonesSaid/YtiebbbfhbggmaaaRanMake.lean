/- Contracts of package random: Resume, New, Clone, List, At; of its reference: At. -/
import Derived.Test.YtiebbbfhbggmaaaRan
import Derived.Maps.Views
namespace Go.Proofs.Ytiebbbfhbggmaaa
open Go.RowKit Num
set_option linter.unusedVariables false
set_option linter.unusedSimpArgs false

set_option maxRecDepth 100000 in
set_option maxHeartbeats 2000000 in
/-- slices.Clone of a slice of bytes, nil or not. -/
theorem gclone_any (A : Option Addr) (n c : Nat) (L : List Int) (w : World) (H : Rd w A L) (hn : L.length = n) (n1 : n ≤ 1000000) :
    Calls Try.prog 17 #[.slice A n c] w (Gives 5 L w) := by
  have qN : ∀ (w : World) (a : Option Addr) (n c n' c' : Nat), (binOp .eql 22 (.slice a n c) (.slice none n' c')).run Try.prog w = .ok (.bool a.isNone) w := fun w a n c n' c' => Lib.run_eql_slice_nil w _ _ a n c n' c' Try.underlying22
  rcases A with _ | ad
  · have e : L = [] := by
      by_cases h : L = []
      · exact h
      · obtain ⟨ad, e, _⟩ := H h
        cases e
    subst e
    clear H
    go_enter Try.func17, Try.ntmps17
    go_wp2
    go_ret
    exact ⟨_, rfl, World.ownsRow_nil _ _ _ _, Below.refl _ _⟩
  · have HL := Lib.hid (And.intro H (And.intro hn n1))
    clear H hn n1
    go_enter Try.func17, Try.ntmps17
    have hown0 : (w.alloc (.cells #[] 5)).ownsRow w.heap.size 5 1 (.slice (some ⟨w.heap.size, 0, none⟩) 0 0) 0 (([] : List Int).map (Value.int .u8)) := World.ownsRow_made w #[] 0 (Nat.le_refl _) (by unfold maxLen; omega) rfl
    have Q := Lib.hid (And.intro hown0 (below_newS w (.cells #[] 5)))
    clear hown0
    go_wp2_with (first
      | (at_builtin; refine wpList_append_rd rfl (.tmp 5) (.tmp 6) rfl w.heap.size _ 0 [] rfl Q.out.1 (some ad) n c L rfl (HL.out.1.below Q.out.2) HL.out.2.1 (by have := HL.out.2.2; omega) (by simp) ?_; intro v1 w1 o1 g1; have P1 := Lib.hid (And.intro o1 (Q.out.2.grown g1 (by simp) fun j ej => (Q.out.1.lt j ej).1)); clear o1 g1))
    go_ret
    refine ⟨v1, rfl, ?_, P1.out.2⟩
    have := P1.out.1
    rw [HL.out.2.1]
    simpa using this

/-- A call hands back a new stream. -/
def Streams (L : List Int) (k : Nat) (w : World) (e : Ending) (w' : World) : Prop := ∃ g, e = .returned (.pointer (some ⟨g, 0, none⟩)) ∧ St w.heap.size g L k w' ∧ Below w.heap.size w w'

set_option maxRecDepth 100000 in
set_option maxHeartbeats 2000000 in
theorem resume_any (A : Option Addr) (n c : Nat) (L : List Int) (m : Int) (k : Nat) (w : World) (H : Rd w A L) (hn : L.length = n) (n1 : n ≤ 1000000) (hk : max m 0 = (k : Int)) (m1 : m ≤ 9223372036854775807) :
    Calls Try.prog 15 #[.slice A n c, .int .i64 m] w (Streams L k w) := by
  have HC := Lib.hid (gclone_any A n c L w H hn n1)
  have kI : (k : Int) ≤ 9223372036854775807 := by omega
  have wr : IntKind.u64.wrap (k : Int) = (k : Int) := by rw [IntKind.wrap_u64]; omega
  have HN := Lib.hid hn
  clear H hn n1 m1
  go_enter Try.func15, Try.ntmps15
  go_wp2_with fail
  refine HC.out.mono ?_
  rintro e w1 ⟨v, rfl, ho, hb⟩
  obtain ⟨A', c', rfl⟩ := own_form ho
  have S := Lib.hid (St.new ho rfl hb.size k)
  have B := Lib.hid (hb.alloc hb.size (.cells #[.slice A' L.length c', .int .u64 (k : Int)] 38))
  clear ho hb HC
  go_wp2_with fail
  go_ret
  exact ⟨_, rfl, S.out, B.out⟩

set_option maxRecDepth 100000 in
set_option maxHeartbeats 2000000 in
theorem new_any (A : Option Addr) (n c : Nat) (L : List Int) (w : World) (H : Rd w A L) (hn : L.length = n) (n1 : n ≤ 1000000) :
    Calls Try.prog 8 #[.slice A n c] w (Streams L 0 w) := by
  have HC := Lib.hid (resume_any A n c L 0 0 w H hn n1 (by decide) (by decide))
  clear H hn n1
  go_enter Try.func8, Try.ntmps8
  go_wp2_with fail
  refine HC.out.mono ?_
  rintro e w1 ⟨g, rfl, hs, hb⟩
  have S := Lib.hid (And.intro hs hb)
  clear hs hb HC
  go_wp2_with fail
  go_ret
  exact ⟨_, rfl, S.out.1, S.out.2⟩

set_option maxRecDepth 100000 in
set_option maxHeartbeats 2000000 in
theorem sclone_any {base g k : Nat} {L : List Int} {w : World} (H : St base g L k w) (n1 : L.length ≤ 1000000) :
    Calls Try.prog 13 #[.pointer (some ⟨g, 0, none⟩)] w (Streams L k w) := by
  obtain ⟨A, c, h, ho⟩ := H.held
  have HH := Lib.hid (And.intro (own_rd ho) n1)
  have c0 := h.cell 0
  have c1 := h.cell 1
  simp only [List.getElem?_toArray, List.getElem?_cons_succ, List.getElem?_cons_zero] at c0 c1
  have k0 := Calm.cell c0 H.lt
  have k1 := Calm.cell c1 H.lt
  clear h ho n1 c0 c1 H
  go_enter Try.func13, Try.ntmps13
  go_upto_region 3 with fail
  refine wp_region_mix (C := fun w' => ∃ x : Calm w, w' = x.w) [([0, 1, 2, 3, 5, 6, 7, 8], 4), ([9], 10)] [11] (by kernel_rfl) (by kernel_rfl) (fun _ _ d _ _ h => by cases d <;> exact h) ⟨⟨w.drew, (Below.refl _ _).drew⟩, rfl⟩ ?_
  intro wd hwd
  have BD := Lib.hid (show Below w.heap.size w wd by rw [hwd]; exact (Below.refl _ _).drew)
  clear hwd
  refine mix_run (by simp only [opsAt, List.getElem?_toArray, List.getElem?_cons_succ, List.getElem?_cons_zero]; rfl) (by rfl) ?_
  repeat (go_big_quiet_step (fail))
  refine wpQuiet_nil ?_
  refine mix_call (by rfl) ?_
  intro K hK
  go_wp2_with fail
  refine (gclone_any A L.length c L wd (HH.out.1.below BD.out) rfl HH.out.2).mono ?_
  rintro e w1 ⟨v, rfl, ho, hb⟩
  obtain ⟨A', c', rfl⟩ := own_form ho
  have B1 := Lib.hid (BD.out.trans (hb.mono BD.out.size))
  have S := Lib.hid ((St.new ho rfl hb.size k).mono BD.out.size)
  have B := Lib.hid (B1.out.alloc B1.out.size (.cells #[.slice A' L.length c', .int .u64 (k : Int)] 38))
  clear ho hb
  simp only []
  refine hK _ _ ⟨⟨w1, B1.out⟩, rfl⟩ ?_
  clear hK K
  refine mix_run (by simp only [opsAt, List.getElem?_toArray, List.getElem?_cons_succ, List.getElem?_cons_zero]; rfl) (by rfl) ?_
  repeat (go_big_quiet_step (fail))
  refine wpQuiet_nil ?_
  refine mix_call (by rfl) ?_
  intro K hK
  go_wp2_with fail
  refine hK _ _ ⟨⟨_, B.out⟩, rfl⟩ ?_
  clear hK K
  refine mix_last (by simp only [opsAt, List.getElem?_toArray, List.getElem?_cons_succ, List.getElem?_cons_zero]; rfl) ?_
  repeat (go_big_quiet_step (fail))
  refine wpQuiet_nil ?_
  go_wp2_with fail
  go_ret
  exact ⟨_, rfl, S.out, B.out⟩

set_option maxRecDepth 100000 in
set_option maxHeartbeats 2000000 in
theorem list_any {base g k : Nat} {L : List Int} {w : World} (H : St base g L k w) (n1 : L.length ≤ 1000000) :
    Calls Try.prog 14 #[.pointer (some ⟨g, 0, none⟩)] w (Gives 5 L w) := by
  obtain ⟨A, c, h, ho⟩ := H.held
  have HC := Lib.hid (gclone_any A L.length c L w (own_rd ho) rfl n1)
  have c0 := h.cell 0
  simp only [List.getElem?_toArray, List.getElem?_cons_succ, List.getElem?_cons_zero] at c0
  clear h ho n1 H
  go_enter Try.func14, Try.ntmps14
  go_wp2_with fail
  refine HC.out.mono ?_
  rintro e w1 ⟨v, rfl, ho, hb⟩
  have S := Lib.hid (And.intro ho hb)
  clear ho hb HC c0
  go_wp2_with fail
  go_ret
  exact ⟨_, rfl, S.out.1, S.out.2⟩

set_option maxRecDepth 100000 in
set_option maxHeartbeats 2000000 in
theorem at_any (A : Option Addr) (n c : Nat) (L : List Int) (m : Int) (w : World) (H : Rd w A L) (hn : L.length = n) (n1 : n ≤ 1000000) (m1 : m ≤ 9223372036854775807) :
    Calls Try.prog 12 #[.slice A n c, .int .i64 m] w fun e w' => e = .returned (.int .u8 (rat L m)) ∧ Below w.heap.size w w' := by
  by_cases h0 : m < 0
  · have E := Lib.hid (rat_neg L m h0)
    clear H hn n1 m1
    go_enter Try.func12, Try.ntmps12
    go_wp2
    go_ret
    exact ⟨ret_int E.out.symm, Below.refl _ _⟩
  · obtain ⟨k, rfl⟩ : ∃ k : Nat, m = (k : Int) := ⟨m.toNat, by omega⟩
    have wr : IntKind.u64.wrap (k : Int) = (k : Int) := by rw [IntKind.wrap_u64]; omega
    have E := Lib.hid (rat_nat L k)
    have HH := Lib.hid (And.intro H (And.intro hn n1))
    clear H hn n1 m1
    go_enter Try.func12, Try.ntmps12
    go_wp2_with fail
    refine (around_any A n c w).mono ?_
    rintro e w1 ⟨rfl, hw1⟩
    have B1 := Lib.hid (show Below w.heap.size w w1 by rw [hw1]; exact below_newS w _)
    have X1 := Lib.hid (show w1.cell? ⟨w.heap.size, 0, none⟩ = some (.slice A n c) by rw [hw1]; simp)
    clear hw1
    go_wp2_with fail
    refine (look_any A n c L k w.heap.size w1 X1.out (HH.out.1.below B1.out) HH.out.2.1 HH.out.2.2).mono ?_
    rintro e w2 ⟨rfl, b2⟩
    have B2 := Lib.hid (B1.out.trans (b2.mono B1.out.size))
    clear b2 X1
    go_wp2_with fail
    go_ret
    exact ⟨ret_int E.out.symm, B2.out⟩

set_option maxRecDepth 100000 in
set_option maxHeartbeats 2000000 in
theorem rat_any (A : Option Addr) (n c : Nat) (L : List Int) (m : Int) (w : World) (H : Rd w A L) (hn : L.length = n) (n1 : n ≤ 1000000) (m1 : m ≤ 9223372036854775807) :
    Calls Try.prog 11 #[.slice A n c, .int .i64 m] w fun e w' => e = .returned (.int .u8 (rat L m)) ∧ w = w' := by
  by_cases h0 : m < 0
  · have E := Lib.hid (rat_neg L m h0)
    clear H hn n1 m1
    go_enter Try.func11, Try.ntmps11
    go_wp2
    go_ret
    exact ⟨ret_int E.out.symm, rfl⟩
  · obtain ⟨k, rfl⟩ : ∃ k : Nat, m = (k : Int) := ⟨m.toNat, by omega⟩
    by_cases hz : n = 0
    · have E := Lib.hid ((rat_nat L k).trans (nxt_zero L (hn.trans hz) k))
      subst hz
      clear H hn n1 m1
      go_enter Try.func11, Try.ntmps11
      go_wp2
      go_ret
      exact ⟨ret_int E.out.symm, rfl⟩
    · obtain ⟨j, hj⟩ : ∃ j, k % L.length = j := ⟨_, rfl⟩
      have E := Lib.hid (rat_nat L k)
      have hl : k % L.length < L.length := nxt_lt L k (by omega)
      obtain ⟨ad, rfl, hb, c1⟩ := H.at_ hl
      rw [nxt_get L k hl, hj] at c1
      rw [hj, hn] at hl
      have u1 : ((k : Int) % (n : Int)) = (j : Int) := by rw [← hj, hn]; rfl
      have u2 : Int.tmod (k : Int) (n : Int) = (j : Int) := by rw [Int.tmod_eq_emod_of_nonneg (by omega)]; exact u1
      have hzI : ¬ (n : Int) = 0 := by omega
      clear hj hb H hn
      go_enter Try.func11, Try.ntmps11
      go_wp2
      go_ret
      exact ⟨ret_int E.out.symm, rfl⟩
end Go.Proofs.Ytiebbbfhbggmaaa
