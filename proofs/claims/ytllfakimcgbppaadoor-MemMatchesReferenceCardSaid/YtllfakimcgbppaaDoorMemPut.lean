/- The contract of the reference's Put. -/
import Derived.Test.YtllfakimcgbppaaDoorMemRef
namespace Go.Proofs.YtllfakimcgbppaaDoor
open Go.RowKit Num
set_option linter.unusedVariables false

theorem int_cells (L : List Int) : ∀ u ∈ L.map (Value.int .u8), u.oneCell' = true := fun u hu => by
  obtain ⟨y, _, rfl⟩ := List.mem_map.1 hu
  rfl
theorem rd_cells {w : World} {ad : Addr} {L : List Int} (hc : ∀ j (h : j < L.length), w.cell? (ad.add j) = some (.int .u8 L[j])) : ∀ j u, (L.map (Value.int .u8))[j]? = some u → w.cell? (ad.add j) = some u := fun j u hu => by
  rw [List.getElem?_map] at hu
  by_cases hj : j < L.length
  · rw [List.getElem?_eq_getElem hj] at hu
    rw [hc j hj]
    exact hu
  · rw [List.getElem?_eq_none (by omega)] at hu
    cases hu

set_option linter.unusedSimpArgs false in
set_option maxRecDepth 100000 in
set_option maxHeartbeats 2000000 in
theorem rput_any (ad : Addr) (N c : Nat) (M : List Int) (a : Int) (B : Option Addr) (m d : Nat) (L : List Int) (w : World) (hN : N = 65536) (hM : M.length = N) (hR : ad.block < w.heap.size ∧ ∀ j (h : j < M.length), w.cell? (ad.add j) = some (.int .u8 M[j]))
    (a0 : -2000000 ≤ a) (a1 : a ≤ 2000000) (hL : L.length = m) (m1 : m ≤ 65536) (hB : Rd w B L) :
    Calls Tryd.prog 16 #[.slice (some ad) N c, .int .i64 a, .slice B m d] w (Gives 5 (put M a L) w) := by
  obtain ⟨i0, hi, hz0, hz1, hz2⟩ := info_parts infoByte
  have Hi := Lib.hid (And.intro hi (And.intro hz0 (And.intro hz1 hz2)))
  have N0 : 0 < N := by omega
  have N1 : N ≤ 65536 := by omega
  have H := Lib.hid (And.intro hN (And.intro hM (And.intro hL (And.intro hR hB))))
  clear hN hM hL hR hB hi hz0 hz1 hz2
  have hown0 : (w.alloc (.cells #[] 5)).ownsRow w.heap.size 5 1 (.slice (some ⟨w.heap.size, 0, none⟩) 0 0) 0 [] := World.ownsRow_made w #[] 0 (Nat.le_refl _) (by unfold maxLen; omega) rfl
  have hb0 : Below w.heap.size w (w.alloc (.cells #[] 5)) := (Below.refl _ _).alloc (Nat.le_refl _) _
  have hnews : ∀ j u, (M.map (Value.int .u8))[j]? = some u → (w.alloc (.cells #[] 5)).cell? (ad.add j) = some u :=
    rd_cells fun j h => (hb0.cell (p := ad.add j) (by rw [add_block]; exact H.out.2.2.2.1.1)).trans (H.out.2.2.2.1.2 j h)
  have Hn := Lib.hid (And.intro hown0 (And.intro hb0 hnews))
  clear hown0 hb0 hnews
  go_enter Tryd.func16, Tryd.ntmps16
  go_wp2_with ((at_builtin; refine wpList_append_own _ rfl _ _ 22 rfl w.heap.size 5 i0 (.int .u8 0) 1 1 Tryd.underlying22 Hi.out.1 Hi.out.2.1 Hi.out.2.2.1 Hi.out.2.2.2 rfl (by decide) _ 0 [] rfl Hn.out.1 ad N c (M.map (Value.int .u8)) rfl (by rw [List.length_map, Nat.mul_one]; exact H.out.2.1) Hn.out.2.2 (int_cells M) (by unfold maxLen; omega) (by omega) (by simp) ?_; intro v' w1 hown1 hgrow _))
  have hb1 : Below w.heap.size w w1 := Hn.out.2.1.grown hgrow (by simp) fun j ej => (Hn.out.1.lt j ej).1
  rw [List.nil_append, Nat.zero_add] at hown1
  obtain ⟨g, cap, rfl, hg, hgl⟩ := hown1.form N0
  have hNc : N ≤ cap := by
    rcases hown1.2 with ⟨h1, _⟩ | ⟨g', c', cur, h1, _, _, hc, _⟩
    · cases h1
    · injection h1 with _ _ h2
      omega
  have Q := Lib.hid (And.intro hown1 hb1)
  clear hown1 hb1 hgrow Hn
  go_loopw [8] (fun i wr => ∃ k : Nat, k ≤ m ∧ i = .int .i64 k ∧ wr.ownsRow w.heap.size 5 1 (.slice (some ⟨g, 0, none⟩) N cap) N ((put M a (L.take k)).map (Value.int .u8)) ∧ Below w.heap.size w wr) (fun i _ => m - (intOf i).toNat)
  case atStart => exact ⟨0, Nat.zero_le _, rfl, by rw [List.take_zero, put_nil]; exact Q.out.1, Q.out.2⟩
  case round =>
    clear Q
    obtain ⟨k, hk, rfl, hown, hb⟩ := hrel
    have P := Lib.hid (And.intro hown hb)
    clear hown hb
    by_cases hlt : k < m
    · obtain ⟨adb, rfl, hlb, hcb⟩ := (H.out.2.2.2.2.below P.out.2).at_ (k := k) (by rw [H.out.2.2.1]; exact hlt)
      have hkL : k < L.length := by rw [H.out.2.2.1]; exact hlt
      have ht := take_step hkL
      obtain ⟨x, hx⟩ : ∃ x, L[k] = x := ⟨_, rfl⟩
      rw [hx] at ht hcb
      obtain ⟨j, hj⟩ : ∃ j : Nat, (a + (k : Int)) % 65536 = j := ⟨((a + (k : Int)) % 65536).toNat, by omega⟩
      have j0 : 0 ≤ (j : Int) := by omega
      have j1 : (j : Int) < (N : Int) := by have := H.out.1; omega
      have f1 := IntWalk.i64_in (a + (k : Int)) (by omega)
      have k0 : 0 ≤ (k : Int) := by omega
      have k1 : (k : Int) < (m : Int) := by omega
      have HT := Lib.hid (And.intro ht (And.intro hx hj))
      clear ht hx hj
      go_wp2
      refine tail_region 10 (by kernel_rfl) (by kernel_rfl) ?_
      intro wd hwd
      have PD : (wd.ownsRow w.heap.size 5 1 (.slice (some ⟨g, 0, none⟩) N cap) N ((put M a (L.take k)).map (Value.int .u8)) ∧ Below w.heap.size w wd) ∧ wd.cell? (adb.add k) = some (.int .u8 x) := by rw [hwd]; exact ⟨⟨P.out.1, P.out.2.drew⟩, hcb⟩
      have hcb := PD.2
      obtain ⟨y, cj⟩ : ∃ y, wd.cell? ⟨g, j, none⟩ = some y := by
        have hl : ((put M a (L.take k)).map (Value.int .u8)).length = N := by rw [List.length_map, put_len]; exact H.out.2.1
        exact ⟨_, (PD.1.1.cellAt j (by omega)).trans (List.getElem?_eq_getElem (by omega))⟩
      have fj := PD.1.1.frozenAt j
      have PD := Lib.hid PD.1
      clear hwd P
      simp only [List.take_succ_cons, List.take_zero, List.drop_succ_cons, List.drop_zero]
      repeat still_step
      still_call (mmod_any _ j _ HT.out.2.2)
      repeat still_step
      refine wpStill_nil ?_
      go_wp2
      go_roundw
      case rel =>
        refine ⟨k + 1, by omega, by go_num, ?_, PD.out.2.setCell hg _⟩
        have hs := (PD.out.1.stored j (.int .u8 x)).1
        have e : ((a + ((L.take k).length : Int)) % 65536).toNat = j := by
          rw [List.length_take, Nat.min_eq_left (by omega)]
          have := HT.out.2.2
          omega
        rw [HT.out.1, put_snoc, e, List.map_set]
        exact hs
      case measure => simp [intOf]; omega
    · have hkn : k = m := by omega
      subst hkn
      go_wp2
      go_ret
      have h := P.out.1
      rw [List.take_of_length_le (by rw [H.out.2.2.1]; omega)] at h
      have hl : (put M a L).length = N := by rw [put_len]; exact H.out.2.1
      exact ⟨_, rfl, by rw [hl]; exact h, P.out.2⟩
end Go.Proofs.YtllfakimcgbppaaDoor
