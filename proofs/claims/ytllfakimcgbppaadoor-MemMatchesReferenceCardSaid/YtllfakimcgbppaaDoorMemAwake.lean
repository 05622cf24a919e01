/- 'awake' of the law package of layer 5 returns true. -/
import Derived.Test.YtllfakimcgbppaaDoorMemFew
namespace Go.Proofs.YtllfakimcgbppaaDoor
open Go.RowKit Num
set_option linter.unusedVariables false

theorem get_written (M b : List Int) (a : Int) (j k : Nat) (hM : M.length = 65536) (hb : b.length ≤ 65536) (hj : j < 65536) (hk : ((j : Int) - a) % 65536 = k) (h : k < b.length) : (put M a b)[j]? = b[k]? := by
  have e : (((j : Int) - a) % 65536).toNat = k := by omega
  rw [put_get b M a hb hM j hj, e, if_pos h]
theorem get_kept (M b : List Int) (a : Int) (j k : Nat) (hM : M.length = 65536) (hb : b.length ≤ 65536) (hj : j < 65536) (hk : ((j : Int) - a) % 65536 = k) (h : b.length ≤ k) : (put M a b)[j]? = M[j]? := by
  have e : (((j : Int) - a) % 65536).toNat = k := by omega
  rw [put_get b M a hb hM j hj, e, if_neg (by omega)]
theorem awake_0 : (put (initial [1, 2]) 65535 [7, 8, 9])[0]? = some 8 := by
  rw [get_written _ _ _ 0 1 (initial_len _) (by simp) (by omega) (by omega) (by simp)]
  rfl
theorem awake_513 : (put (initial [1, 2]) 65535 [7, 8, 9])[513]? = some 2 := by
  rw [get_kept _ _ _ 513 514 (initial_len _) (by simp) (by omega) (by omega) (by simp)]
  unfold initial
  rw [get_written _ _ _ 513 1 (by rw [put_len, put_len]; exact zeros_len) (by simp) (by omega) (by omega) (by simp)]
  rfl
theorem awake_80 : (put (initial [1, 2]) 65535 [7, 8, 9])[80]? = some 240 := by
  rw [get_kept _ _ _ 80 81 (initial_len _) (by simp) (by omega) (by omega) (by simp)]
  unfold initial
  rw [get_kept _ _ _ 80 65104 (by rw [put_len, put_len]; exact zeros_len) (by simp) (by omega) (by omega) (by simp)]
  rw [get_kept _ _ _ 80 65456 (by rw [put_len]; exact zeros_len) (by rw [bigL_len]; omega) (by omega) (by omega) (by rw [bigL_len]; omega)]
  rw [get_written _ _ _ 80 0 zeros_len (by rw [smallL_len]; omega) (by omega) (by omega) (by rw [smallL_len]; omega)]
  decide +kernel

/-- What is kept all through 'awake'. -/
structure Aw (w : World) (p z : Nat) (M : List Int) (v : Value) (wi : World) : Prop where
  below : Below w.heap.size w wi
  hp : w.heap.size ≤ p
  mem : MemAt p M v wi
  zer : MemAt z zeros (.slice none 0 0) wi
  ne : z ≠ p
theorem Aw.step {w wi wj : World} {p z : Nat} {M : List Int} {v : Value} (h : Aw w p z M v wi) (hb : Below wi.heap.size wi wj) : Aw w p z M v wj :=
  ⟨h.below.trans (hb.mono h.below.size), h.hp, h.mem.keep (hb.block p h.mem.lt), h.zer.keep (hb.block z h.zer.lt), h.ne⟩
theorem below_drewN (w : World) (n : Nat) : Below w.heap.size w (w.drewN n) := ⟨rfl, rfl, rfl, Nat.le_refl _, fun _ _ => rfl⟩
theorem below_new (w : World) (o : Obj) : Below w.heap.size w (w.alloc o) := (Below.refl _ _).alloc (Nat.le_refl _) _
theorem Laid.go {w w' : World} (h : Laid w) (hb : Below w.heap.size w w') : Laid w' := h.step hb
theorem rd_new (w : World) (L : List Int) (t : TypeId) : Rd (w.alloc (.cells (arr L) t)) (some ⟨w.heap.size, 0, none⟩) L := fun _ => ⟨_, rfl, by simp, fun j hj => by
  rw [add_pl, Nat.zero_add, cell_of_row _ _ _ _ _ _ (heap_alloc_new w _)]
  exact arr_get L j hj⟩

set_option linter.unusedSimpArgs false in
set_option maxRecDepth 100000 in
set_option maxHeartbeats 8000000 in
theorem awake5 (w : World) (hF : Laid w) : Calls Tryd.prog 8 #[] w fun e w' => e = .returned (.bool true) ∧ Below w.heap.size w w' := by
  have hz := zeroMem
  obtain ⟨n1, hn1⟩ : ∃ n : Nat, n = 65025 := ⟨_, rfl⟩
  obtain ⟨n2, hn2⟩ : ∃ n : Nat, n = 65024 := ⟨_, rfl⟩
  have mk1 : ∀ w : World, (Instr.makeSlice 22 (.int .i64 65025) (.int .i64 65025)).run Tryd.prog w = .ok (.slice (some ⟨w.heap.size, 0, none⟩) n1 n1) (w.alloc (.cells (arr (List.replicate n1 0)) 5)) := make_bytes n1 65025 (by omega) (by omega)
  have mk2 : ∀ w : World, (Instr.makeSlice 22 (.int .i64 65024) (.int .i64 65024)).run Tryd.prog w = .ok (.slice (some ⟨w.heap.size, 0, none⟩) n2 n2) (w.alloc (.cells (arr (List.replicate n2 0)) 5)) := make_bytes n2 65024 (by omega) (by omega)
  have H := Lib.hid (And.intro hn1 (And.intro hn2 hF))
  clear hn1 hn2 hF
  go_enter Tryd.func8, Tryd.ntmps8
  go_wp2_with fail
  refine (new_yes _ 2 2 [1, 2] _ (by omega) rfl (rd_new w [1, 2] 5) (H.out.2.2.step (below_new w _))).mono ?_
  rintro e w1 h
  obtain ⟨p, rfl, hp, m1, b1⟩ := h
  have B1 := (below_new w (.cells (arr [1, 2]) 5)).trans (b1.mono (by simp))
  have P1 := Lib.hid (And.intro B1 (And.intro m1 (Nat.le_trans (by simp) hp : w.heap.size ≤ p)))
  clear hp m1 b1 B1
  go_wp2_with fail
  clear hz mk1
  have S2 : Aw w p w1.heap.size (initial [1, 2]) (.slice none 0 0) (w1.alloc (.cells (cells zeros (.slice none 0 0)) 55)) :=
    ⟨P1.out.1.trans ((below_new _ _).mono P1.out.1.size), P1.out.2.2, P1.out.2.1.keep (heap_alloc_old _ _ P1.out.2.1.lt), MemAt.new w1, by have := P1.out.2.1.lt; omega⟩
  have S2 := S2.step (below_new _ (.cells (arr (List.replicate n1 0)) 5))
  generalize w1.alloc (.cells (cells zeros (.slice none 0 0)) 55) = w2 at *
  obtain ⟨z, hz⟩ : ∃ z, z = w1.heap.size := ⟨_, rfl⟩
  rw [← hz] at S2 ⊢
  clear hz P1
  generalize w2.alloc (.cells (arr (List.replicate n1 0)) 5) = w3 at *
  have T2 := Lib.hid S2
  clear S2
  refine (new_no _ n1 n1 _ (by have := H.out.1; omega)).mono ?_
  rintro e w' ⟨rfl, rfl⟩
  go_wp2_with fail
  clear mk2
  have S3 := T2.out.step (below_new _ (.cells (arr (List.replicate n2 0)) 5))
  have R3 := rd_new w3 (List.replicate n2 0) 5
  generalize w3.alloc (.cells (arr (List.replicate n2 0)) 5) = w4 at *
  have T3 := Lib.hid (And.intro S3 R3)
  clear S3 R3 T2
  refine (new_yes _ n2 n2 (List.replicate n2 0) _ (by have := H.out.2.1; omega) List.length_replicate T3.out.2 (H.out.2.2.below T3.out.1.below H.out.2.2.lt)).mono ?_
  rintro e w5 h
  obtain ⟨p2, rfl, _, _, b5⟩ := h
  have T5 := Lib.hid (T3.out.1.step b5)
  clear b5 T3
  go_wp2_with fail
  have S6 := T5.out.step (below_new w5 (.cells (arr [7, 8, 9]) 5))
  have R6 := rd_new w5 [7, 8, 9] 5
  have hw5 : w5.heap.size ≠ p := by have := T5.out.mem.lt; omega
  refine (write_any p (initial [1, 2]) (.slice none 0 0) 0 w.heap.size [] 65535 65535 _ 3 3 [7, 8, 9] _ (initial_len _) S6.mem (World.ownsRow_nil _ _ _ _) S6.below.size (by omega) (by omega) rfl (by omega) (by omega) (by omega) R6 (fun ad e => by injection e with e; rw [← e]; exact hw5)).mono ?_
  rintro e w6 h
  obtain ⟨rfl, v6, m6, o6, a6, _⟩ := h
  obtain ⟨g6, c6, rfl, hg6, hl6⟩ := o6.form (by omega)
  have S7 : Aw w p z (put (initial [1, 2]) 65535 [7, 8, 9]) (.slice (some ⟨g6, 0, none⟩) 1 c6) w6 :=
    ⟨S6.below.trans (a6.below S6.below.size S6.hp (fun k hk => by cases hk)), S6.hp, m6, S6.zer.keep (a6.block z S6.zer.lt S6.ne (by simp [Value.ownBlock])), S6.ne⟩
  have T7 := Lib.hid (And.intro S7 o6)
  clear S6 R6 hw5 m6 o6 a6 S7 T5 hg6 hl6
  go_wp2_with fail
  refine (write_none p 5 none 0 _).mono ?_
  rintro e w' ⟨rfl, rfl⟩
  go_wp2_with fail
  refine (dirty_any p _ _ 1 c6 _ (by rw [put_len]; exact initial_len _) T7.out.1.mem).mono ?_
  rintro e w8 h
  obtain ⟨rfl, m8, a8⟩ := h
  have S8 : Aw w p z (put (initial [1, 2]) 65535 [7, 8, 9]) (.slice none 0 0) w8 :=
    ⟨T7.out.1.below.trans ((a8 none).below T7.out.1.below.size T7.out.1.hp (fun k hk => by cases hk)), T7.out.1.hp, m8, T7.out.1.zer.keep ((a8 none).block z T7.out.1.zer.lt T7.out.1.ne (by simp)), T7.out.1.ne⟩
  have o8 := own_apart (g := none) T7.out.2 (a8 none) (own_tag T7.out.2 T7.out.1.mem (by decide)) (fun k hk => by cases hk)
  have c0 := o8.cellAt 0 (by omega)
  have c1 := o8.cellAt 1 (by omega)
  simp only [List.nil_append, List.getElem?_cons_zero, List.getElem?_cons_succ] at c0 c1
  have T8 := Lib.hid S8
  clear m8 a8 S8 o8 T7
  go_wp2_with fail
  refine (read_any p _ _ 0 8 0 _ (by rw [put_len]; exact initial_len _) T8.out.mem (by omega) awake_0).mono ?_
  rintro e w9 ⟨rfl, n9, hw⟩
  have T9 := Lib.hid (T8.out.step (wj := w9) (by rw [hw]; exact below_drewN _ _))
  clear hw T8
  go_wp2_with fail
  refine (read_any p _ _ 513 2 513 _ (by rw [put_len]; exact initial_len _) T9.out.mem (by omega) awake_513).mono ?_
  rintro e w10 ⟨rfl, n10, hw⟩
  have T10 := Lib.hid (T9.out.step (wj := w10) (by rw [hw]; exact below_drewN _ _))
  clear hw T9
  go_wp2_with fail
  refine (read_any p _ _ 80 240 80 _ (by rw [put_len]; exact initial_len _) T10.out.mem (by omega) awake_80).mono ?_
  rintro e w11 ⟨rfl, n11, hw⟩
  have T11 := Lib.hid (T10.out.step (wj := w11) (by rw [hw]; exact below_drewN _ _))
  clear hw T10
  go_wp2_with fail
  refine (dirty_any p _ none 0 0 _ (by rw [put_len]; exact initial_len _) T11.out.mem).mono ?_
  rintro e w12 h
  obtain ⟨rfl, m12, a12⟩ := h
  have S12 : Aw w p z (put (initial [1, 2]) 65535 [7, 8, 9]) (.slice none 0 0) w12 :=
    ⟨T11.out.below.trans ((a12 none).below T11.out.below.size T11.out.hp (fun k hk => by cases hk)), T11.out.hp, m12, T11.out.zer.keep ((a12 none).block z T11.out.zer.lt T11.out.ne (by simp)), T11.out.ne⟩
  have T12 := Lib.hid S12
  clear m12 a12 S12 T11 c0 c1
  go_wp2_with fail
  refine (read_any z _ _ 80 0 80 _ zeros_len T12.out.zer (by omega) (zeros_get 80 (by omega))).mono ?_
  rintro e w13 ⟨rfl, n13, hw⟩
  have T13 := Lib.hid (T12.out.step (wj := w13) (by rw [hw]; exact below_drewN _ _))
  clear hw T12
  go_wp2_with fail
  refine (read_nil 5 _).mono ?_
  rintro e w' ⟨rfl, rfl⟩
  go_wp2_with fail
  refine (clone_nil _).mono ?_
  rintro e w' ⟨rfl, rfl⟩
  go_wp2
  go_ret
  exact ⟨rfl, T13.out.below⟩
end Go.Proofs.YtllfakimcgbppaaDoor
