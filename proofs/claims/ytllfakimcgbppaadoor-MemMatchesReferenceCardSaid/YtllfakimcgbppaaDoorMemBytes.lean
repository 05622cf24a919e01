/- The contracts of Bytes and Clone. -/
import Derived.Test.YtllfakimcgbppaaDoorMemNew
import Derived.Deep.OwnRows
namespace Go.Proofs.YtllfakimcgbppaaDoor
open Go.RowKit Num
set_option linter.unusedVariables false

/-- A new slice of n bytes, which reads as L. -/
def Gave (n : Nat) (L : List Int) (w : World) (e : Ending) (w' : World) : Prop :=
  ∃ g, e = .returned (.slice (some ⟨g, 0, none⟩) n n) ∧ w.heap.size ≤ g ∧ Rd w' (some ⟨g, 0, none⟩) L ∧ Below w.heap.size w w'

theorem make_bytes (n : Nat) (x : Int) (hx : x = n) (hn : n ≤ 1000000) (w : World) : (Instr.makeSlice 22 (.int .i64 x) (.int .i64 x)).run Tryd.prog w = .ok (.slice (some ⟨w.heap.size, 0, none⟩) n n) (w.alloc (.cells (arr (List.replicate n 0)) 5)) := by
  subst hx
  obtain ⟨i0, hi, hz0, hz1, hz2⟩ := info_parts infoByte
  have h := run_make_row (P := Tryd.prog) 22 5 i0 (.int .u8 0) Tryd.underlying22 hi hz0 hz1 rfl .i64 .i64 n (by rw [hz2]; omega) (by omega) w
  rw [h]
  congr 3
  apply Array.ext'
  unfold arr
  rw [toList_madeCells_one, List.map_replicate]
theorem cut_row (g n d : Nat) (hd : d ≤ n) (D : Option Addr) (hD : D = if n = d then some ⟨g, 0, none⟩ else some ⟨g, d, none⟩) (w : World) :
    (Instr.sliceAt 22 (.slice (some ⟨g, 0, none⟩) n n) (some (.int .i64 (d : Int))) none none).run Tryd.prog w = .ok (.slice D (n - d) (n - d)) w := by
  rw [run_sliceAt_slice (P := Tryd.prog) w 22 _ _ _ _ Tryd.underlying22, run_slice_l (P := Tryd.prog) w 22 _ n n Tryd.underlying22 .i64 d (by omega) (by omega), hD]
  show Result.ok (sliced _ _ _ _ 1) w = _
  unfold sliced
  by_cases h : n = d
  · subst h
    simp
  · rw [if_neg (by simpa using h), if_neg h]
    simp [add_pl]

set_option linter.unusedSimpArgs false in
set_option maxRecDepth 100000 in
set_option maxHeartbeats 2000000 in
theorem bytes_any (p : Nat) (M : List Int) (v : Value) (a : Int) (k n : Nat) (w : World) (hM : M.length = 65536) (hp : MemAt p M v w) (hk : a % 65536 = k) (hn : n ≤ 65536) :
    Calls Tryd.prog 13 #[.pointer (some ⟨p, 0, none⟩), .int .i64 a, .int .i64 (n : Int)] w (Gave n (seg M a n) w) := by
  have m1 : max (n : Int) 0 = n := by omega
  have m2 : min (n : Int) 65536 = n := by omega
  have mk := make_bytes n n rfl (by omega)
  have H := Lib.hid (And.intro hM (And.intro hp hk))
  clear hM hp hk
  go_enter Tryd.func13, Tryd.ntmps13
  go_wp2_with fail
  clear mk m1 m2
  have B1 : Below w.heap.size w (w.alloc (.cells (arr (List.replicate n 0)) 5)) := (Below.refl _ _).alloc (Nat.le_refl _) _
  have G1 : (w.alloc (.cells (arr (List.replicate n 0)) 5)).heap[w.heap.size]? = some (.cells (arr (List.replicate n 0)) 5 (0, 0)) := heap_alloc_new _ _
  obtain ⟨g, hg⟩ : ∃ g, g = w.heap.size := ⟨_, rfl⟩
  generalize w.alloc (.cells (arr (List.replicate n 0)) 5) = w1 at *
  rw [← hg] at G1 ⊢
  have P1 := Lib.hid (And.intro B1 (And.intro G1 hg))
  clear B1 G1 hg
  have k2 : k < 65536 := by have := H.out.2.2; omega
  have c1 := cut_mem p k k2
  obtain ⟨N, hN⟩ : ∃ N, N = 65536 := ⟨_, rfl⟩
  have c2 := cut_all p N hN
  obtain ⟨d, hd⟩ : ∃ d, d = min (65536 - k) n := ⟨_, rfl⟩
  obtain ⟨D, hD⟩ : ∃ D, D = if n = d then some (⟨g, 0, none⟩ : Addr) else some ⟨g, d, none⟩ := ⟨_, rfl⟩
  have c3 := cut_row g n d (by omega) D hD
  have HD := Lib.hid (And.intro hN (And.intro hd hD))
  clear hN hd hD
  refine wp_region_mix (C := fun w' => ∃ x : AnyW, w' = x.w) [([0, 1, 2, 3, 4], 5), ([6], 7)] [8] (by kernel_rfl) (by kernel_rfl) (fun _ _ d _ _ h => by cases d <;> exact h) (AnyW.any _) ?_
  intro wd hwd
  have P2 : Below w.heap.size w wd ∧ wd.heap[g]? = some (.cells (arr (List.replicate n 0)) 5 (0, 0)) ∧ g = w.heap.size := by rw [hwd]; exact ⟨P1.out.1.drew, P1.out.2⟩
  have PD := Lib.hid P2
  clear hwd P2 P1
  refine mix_run (by simp only [opsAt, List.getElem?_toArray, List.getElem?_cons_succ, List.getElem?_cons_zero]; rfl) (by rfl) ?_
  repeat (go_big_quiet_step (fail))
  refine wpQuiet_nil ?_
  refine mix_call (by rfl) ?_
  intro K hK
  go_wp2_with fail
  refine (mwrap_any _ k _ H.out.2.2).mono ?_
  rintro e w' ⟨rfl, h⟩
  replace h := h.symm
  subst h
  simp only []
  refine hK _ _ (AnyW.any _) ?_
  clear hK K
  refine mix_run (by simp only [opsAt, List.getElem?_toArray, List.getElem?_cons_succ, List.getElem?_cons_zero]; rfl) (by rfl) ?_
  repeat (go_big_quiet_step (fail))
  refine wpQuiet_nil ?_
  refine mix_call (by rfl) ?_
  intro K hK
  have mp : MemAt p M v wd := H.out.2.1.keep (PD.out.1.block p H.out.2.1.lt)
  have R1 : Rd wd (some ⟨p, k, none⟩) (M.drop k) := fun _ => ⟨_, rfl, mp.lt, fun j hj => by
    have hM := H.out.1
    rw [List.length_drop] at hj
    rw [add_pl, mp.cell hM (k + j) (by omega), List.getElem_drop]⟩
  obtain ⟨w2, hrun, hg2, ha2⟩ := run_copy_bytes 3 g 0 n n (some ⟨g, 0, none⟩) (fun _ => rfl) (some ⟨p, k, none⟩) (65536 - k) (65536 - k) d HD.out.2.1 (M.drop k) (by rw [List.length_drop, H.out.1]) R1 (List.replicate n 0) 5 PD.out.2.1 (by simp)
  refine wp_copy_run (.tmp 15) (.tmp 21) rfl 3 rfl _ _ _ (by rfl) (by rfl) hrun 22 (by rfl) ?_
  simp only [List.setIfInBounds_toArray, List.set_cons_zero, List.set_cons_succ]
  refine hK _ _ (AnyW.any _) ?_
  have Q2 := Lib.hid (And.intro (PD.out.1.trans ((ha2 none).below PD.out.1.size (by have := PD.out.2.2; omega) (fun k hk => by cases hk))) (And.intro hg2 PD.out.2.2))
  clear hK K hrun hg2 ha2 mp R1 PD c1
  refine mix_last (by simp only [opsAt, List.getElem?_toArray, List.getElem?_cons_succ, List.getElem?_cons_zero]; rfl) ?_
  repeat (go_big_quiet_step (fail))
  refine wpQuiet_nil ?_
  go_wp2_with fail
  refine wp_region_mix (C := fun w' => ∃ x : AnyW, w' = x.w) [([0, 1, 2, 3, 4, 5, 6], 7)] [] (by kernel_rfl) (by kernel_rfl) (fun _ _ d _ _ h => by cases d <;> exact h) (AnyW.any _) ?_
  intro wd hwd
  have P2 : Below w.heap.size w wd ∧ wd.heap[g]? = some (.cells (arr (splice (List.replicate n 0) 0 ((M.drop k).take n))) 5 (0, 0)) ∧ g = w.heap.size := by rw [hwd]; exact ⟨Q2.out.1.drew, Q2.out.2⟩
  have PD := Lib.hid P2
  clear hwd P2 Q2
  refine mix_run (by simp only [opsAt, List.getElem?_toArray, List.getElem?_cons_succ, List.getElem?_cons_zero]; rfl) (by rfl) ?_
  repeat (go_big_quiet_step (fail))
  refine wpQuiet_nil ?_
  refine mix_call (by rfl) ?_
  intro K hK
  have mp : MemAt p M v wd := H.out.2.1.keep (PD.out.1.block p H.out.2.1.lt)
  have R1 : Rd wd (some ⟨p, 0, none⟩) M := fun _ => ⟨_, rfl, mp.lt, fun j hj => by
    have hM := H.out.1
    rw [add_pl, Nat.zero_add, mp.cell hM j (by omega)]⟩
  have hl2 : (splice (List.replicate n (0 : Int)) 0 ((M.drop k).take n)).length = n := by
    rw [splice_len _ _ _ (by rw [List.length_take, List.length_replicate]; omega), List.length_replicate]
  have hdn : d ≤ n := by have := HD.out.2.1; omega
  obtain ⟨w3, hrun, hg3, ha3⟩ := run_copy_bytes 3 g d (n - d) (n - d) D (fun h => by rw [HD.out.2.2, if_neg (by omega)]) (some ⟨p, 0, none⟩) N N (n - d) (by have := HD.out.1; omega) M (by rw [HD.out.1]; exact H.out.1) R1 _ 5 PD.out.2.1 (by rw [hl2]; omega)
  refine wp_copy_run (.tmp 25) (.tmp 29) rfl 3 rfl _ _ _ (by rfl) (by rfl) hrun 30 (by rfl) ?_
  simp only [List.setIfInBounds_toArray, List.set_cons_zero, List.set_cons_succ]
  refine hK _ _ (AnyW.any _) ?_
  rw [splice_read2 M (List.replicate n 0) a k n d H.out.2.2 HD.out.2.1 H.out.1 hn List.length_replicate] at hg3
  have Q3 := Lib.hid (And.intro (PD.out.1.trans ((ha3 none).below PD.out.1.size (by have := PD.out.2.2; omega) (fun k hk => by cases hk))) (And.intro hg3 PD.out.2.2))
  clear hK K hrun hg3 ha3 mp R1 PD hl2 c2 c3
  refine mix_last (by simp only [opsAt, List.getElem?_toArray, List.getElem?_cons_succ, List.getElem?_cons_zero]; rfl) ?_
  refine wpQuiet_nil ?_
  go_wp2
  go_ret
  refine ⟨g, rfl, by have := Q3.out.2.2; omega, ?_, Q3.out.1⟩
  intro _
  have hg := Q3.out.2.1
  refine ⟨_, rfl, (Array.getElem?_eq_some_iff.1 hg).1, fun j hj => ?_⟩
  rw [add_pl, Nat.zero_add, cell_of_row _ _ _ _ _ _ hg]
  exact arr_get _ j hj
end Go.Proofs.YtllfakimcgbppaaDoor
