/- The walk of MemLongest. -/
import Derived.Test.YtllfakimcgbppaaDoorMemAwake
namespace Go.Proofs.YtllfakimcgbppaaDoor
open Go.RowKit Num
set_option linter.unusedVariables false

theorem initial_get (L : List Int) (j i : Nat) (hL : L.length ≤ 65024) (hi : i < L.length) (hj : j = 512 + i) : (initial L)[j]? = L[i]? := by
  unfold initial
  exact get_written _ L 512 j i (by rw [put_len, put_len]; exact zeros_len) (by omega) (by omega) (by omega) hi
/-- The ROM of zero bytes, but for the last one. -/
def lastB (k t : Nat) (b : Int) : List Int := (List.replicate k 0).set t b
theorem lastB_len (k t : Nat) (b : Int) : (lastB k t b).length = k := by simp [lastB]
theorem lastB_get (k t : Nat) (b : Int) (h : t < k) : (lastB k t b)[t]? = some b := by simp [lastB, h]
theorem arr_set (k t : Nat) (b : Int) : (arr (List.replicate k 0)).setIfInBounds t (.int .u8 b) = arr (lastB k t b) := by
  unfold arr lastB
  apply Array.ext'
  simp [List.map_set]

set_option linter.unusedSimpArgs false in
set_option maxRecDepth 100000 in
set_option maxHeartbeats 4000000 in
theorem memLongest_walk (n b : Int) (w0 : (Lit.int .u16 n).wf = true) (w1 : (Lit.int .u8 b).wf = true) (w : World) (hF : Laid w) :
    Calls Tryd.prog 5 #[.int .u16 n, .int .u8 b] w fun e w' => e = .returned (.bool true) ∧ Below w.heap.size w w' := by
  obtain ⟨n0, n1⟩ := bd_u16 w0
  obtain ⟨q, hq⟩ : ∃ q : Nat, n.tmod 300 = q := ⟨(n % 300).toNat, by rw [tmod_pos n 300 n0]; omega⟩
  have q1 : q < 300 := by rw [tmod_pos n 300 n0] at hq; omega
  have hq2 : n % 300 = q := by rw [← tmod_pos n 300 n0]; exact hq
  obtain ⟨k, hk⟩ : ∃ k : Nat, 64900 + (q : Int) = k := ⟨64900 + q, by omega⟩
  obtain ⟨t, ht⟩ : ∃ t : Nat, (k : Int) - 1 = t := ⟨k - 1, by omega⟩
  have mk := make_bytes k k rfl (by omega)
  have k0 : 64900 ≤ k := by omega
  have k1 : k < 65200 := by omega
  have t0 : 0 ≤ (t : Int) := by omega
  have t1 : (t : Int) < (k : Int) := by omega
  have H := Lib.hid (And.intro hF (And.intro hk ht))
  clear hF w0 w1
  go_enter Tryd.func5, Tryd.ntmps5
  go_wp2_with fail
  refine (awake5 _ H.out.1).mono ?_
  rintro e wa ⟨rfl, ba⟩
  have B0 := Lib.hid ba
  have R0 := heap_alloc_new wa (.cells (arr (List.replicate k 0)) 5)
  have ct : (wa.alloc (.cells (arr (List.replicate k 0)) 5)).cell? ⟨wa.heap.size, t, none⟩ = some (.int .u8 0) := by
    rw [cell_of_row _ _ _ _ _ _ R0, arr_get _ t (by simp; omega)]
    simp
  have cf : (wa.alloc (.cells (arr (List.replicate k 0)) 5)).frozen? ⟨wa.heap.size, t, none⟩ = false := frozen_of_row _ _ _ _ _ R0
  clear ba R0
  go_wp2_with fail
  rw [arr_set]
  have B1 := B0.out.trans ((below_new wa (.cells (arr (lastB k t b)) 5)).mono B0.out.size)
  have R1 := rd_new wa (lastB k t b) 5
  clear ct cf mk hk ht hq
  by_cases hg : 65024 < k
  · have g1 : (65024 : Int) < (k : Int) := by omega
    refine (new_no _ k k _ hg).mono ?_
    rintro e w' ⟨rfl, rfl⟩
    have B2 := Lib.hid B1
    clear B1 R1
    go_wp2
    go_ret
    exact ⟨rfl, B2.out⟩
  · have g1 : ¬ (65024 : Int) < (k : Int) := by omega
    refine (new_yes _ k k (lastB k t b) _ (by omega) (lastB_len _ _ _) R1 (H.out.1.below B1 H.out.1.lt)).mono ?_
    rintro e w2 h
    obtain ⟨p, rfl, hp, m2, b2⟩ := h
    have P2 := Lib.hid (And.intro (B1.trans (b2.mono B1.size)) m2)
    clear B1 R1 b2 m2
    have gx : (initial (lastB k t b))[511 + k]? = some b := by
      have := H.out.2.2
      rw [initial_get _ (511 + k) t (by rw [lastB_len]; omega) (by rw [lastB_len]; omega) (by omega), lastB_get _ _ _ (by omega)]
    have GX := Lib.hid gx
    clear gx
    go_wp2_with fail
    refine (read_any p _ _ (511 + (k : Int)) b (511 + k) _ (initial_len _) P2.out.2 (by omega) GX.out).mono ?_
    rintro e w3 ⟨rfl, n3, hw⟩
    have b3 : Below w2.heap.size w2 w3 := by rw [hw]; exact below_drewN _ _
    have P3 := Lib.hid (And.intro (P2.out.1.trans (b3.mono P2.out.1.size)) (P2.out.2.keep (b3.block p P2.out.2.lt)))
    clear hw b3 P2
    go_wp2_with fail
    refine (read_any p _ _ (66047 + (k : Int)) b (511 + k) _ (initial_len _) P3.out.2 (by omega) GX.out).mono ?_
    rintro e w4 ⟨rfl, n4, hw⟩
    have b4 : Below w3.heap.size w3 w4 := by rw [hw]; exact below_drewN _ _
    have P4 := Lib.hid (P3.out.1.trans (b4.mono P3.out.1.size))
    clear hw b4 P3
    go_wp2
    go_ret
    exact ⟨rfl, P4.out⟩
end Go.Proofs.YtllfakimcgbppaaDoor
