/- Contracts of the reference's Bytes, New and Few. -/
import Derived.Test.YtllfakimcgbppaaDoorMemPut
namespace Go.Proofs.YtllfakimcgbppaaDoor
open Go.RowKit Num
set_option linter.unusedVariables false

theorem mmod_at (n : Int) (k : Nat) (w : World) (h : n % 65536 = k) : Calls Tryd.prog 17 #[.int .i64 n] w fun e w' => e = .returned (.int .i64 k) ∧ w = w' :=
  (mmod_any n k w h).mono fun _ _ ⟨he, hw⟩ => ⟨he, hw.symm⟩

/-- A slice of n bytes, which reads as L. -/
def Got (n : Nat) (L : List Int) (w : World) (e : Ending) (w' : World) : Prop := (∃ A c, e = .returned (.slice A n c) ∧ Rd w' A L) ∧ Below w.heap.size w w'

set_option maxRecDepth 100000 in
set_option maxHeartbeats 2000000 in
theorem rbytes_any (ad : Addr) (N c : Nat) (M : List Int) (a : Int) (n : Nat) (w : World) (hN : N = 65536) (hM : M.length = N) (hR : ad.block < w.heap.size ∧ ∀ j (h : j < M.length), w.cell? (ad.add j) = some (.int .u8 M[j]))
    (a0 : -2000000 ≤ a) (a1 : a ≤ 2000000) (n1 : n ≤ 1000) :
    Calls Tryd.prog 18 #[.slice (some ad) N c, .int .i64 a, .int .i64 (n : Int)] w (Got n (seg M a n) w) := by
  obtain ⟨i0, hi, hz0, hz1, hz2⟩ := info_parts infoByte
  have H := Lib.hid (And.intro hN (And.intro hM hR))
  clear hN hM hR
  go_enter Tryd.func18, Tryd.ntmps18
  go_wp2
  go_loopw [7, 8] (fun o i wr => ∃ k : Nat, k ≤ n ∧ i = .int .i64 k ∧ wr.ownsRow w.heap.size 5 1 o k ((seg M a k).map (Value.int .u8)) ∧ Below w.heap.size w wr) (fun _ i _ => n - (intOf i).toNat)
  case atStart => exact ⟨0, Nat.zero_le _, rfl, World.ownsRow_nil _ _ _ _, Below.refl _ _⟩
  case round =>
    obtain ⟨k, hk, rfl, hown, hb⟩ := hrel
    by_cases hlt : k < n
    · obtain ⟨j, hj⟩ : ∃ j : Nat, (a + (k : Int)) % 65536 = j := ⟨((a + (k : Int)) % 65536).toNat, by omega⟩
      have j0 : 0 ≤ (j : Int) := by omega
      have j1 : (j : Int) < (N : Int) := by have := H.out.1; omega
      have jM : j < M.length := by have := H.out.2.1; omega
      have hs := seg_succ M a k
      have e : M.getD ((a + (k : Int)) % 65536).toNat 0 = M[j] := by
        rw [hj]
        simp [jM]
      have hc : wr.cell? (ad.add j) = some (.int .u8 M[j]) := (hb.cell (p := ad.add j) (by rw [add_block]; exact H.out.2.2.1)).trans (H.out.2.2.2 j jM)
      rw [e] at hs
      clear e
      obtain ⟨x, hx⟩ : ∃ x, M[j] = x := ⟨_, rfl⟩
      rw [hx] at hc hs
      have HS := Lib.hid (And.intro hs hj)
      clear hx hs hj
      go_wp2_with (first
        | (go_at_call 17; refine (mmod_at _ j _ HS.out.2).mono ?_; rintro e w' ⟨rfl, rfl⟩)
        | (at_builtin; refine wpList_append_own _ rfl _ _ 22 rfl w.heap.size 5 i0 (.int .u8 0) 1 1 Tryd.underlying22 hi hz0 hz1 hz2 rfl (by decide) _ _ _ rfl (hown.alloc _) ⟨_, 0, none⟩ 1 1 [.int .u8 x] rfl rfl (cell_one_new _ _ _) (by simp [Value.oneCell']) (by unfold maxLen; omega) (by omega) (by have := hb.size; simp; omega) ?_; intro v' w1 hown' hgrow _))
      go_roundw
      case rel =>
        refine ⟨k + 1, by omega, by go_num, by rw [HS.out.1]; simpa using hown', (hb.alloc hb.size _).grown hgrow (by have := hb.size; simp; omega) fun j ej => ?_⟩
        exact (hown.lt j ej).1
      case measure => simp [intOf]; omega
    · have hkn : k = n := by omega
      subst hkn
      go_wp2
      go_ret
      obtain ⟨A, c, rfl⟩ := own_form hown
      exact ⟨⟨A, c, rfl, own_rd hown⟩, hb⟩

theorem Gives.bytes {L : List Int} {w w' : World} {e : Ending} {n : Nat} (h : Gives 5 L w e w') (hn : L.length = n) (h0 : 0 < n) :
    ∃ g c, e = .returned (.slice (some ⟨g, 0, none⟩) n c) ∧ w.heap.size ≤ g ∧ g < w'.heap.size ∧ w'.ownsRow w.heap.size 5 1 (.slice (some ⟨g, 0, none⟩) n c) n (L.map (Value.int .u8)) ∧ Below w.heap.size w w' := by
  obtain ⟨v, rfl, hown, hb⟩ := h
  rw [hn] at hown
  obtain ⟨g, c, rfl, hg, hlt⟩ := hown.form h0
  exact ⟨g, c, rfl, hg, hlt, hown, hb⟩
theorem own_at {w : World} {base : Nat} {e : TypeId} {n c g : Nat} {L : List Int} (h : w.ownsRow base e 1 (.slice (some ⟨g, 0, none⟩) n c) n (L.map (Value.int .u8))) : ∀ j (hj : j < L.length), w.cell? ((⟨g, 0, none⟩ : Addr).add j) = some (.int .u8 L[j]) := fun j hj => by
  have hl := h.1
  rw [List.length_map] at hl
  rw [add_pl, Nat.zero_add, h.cellAt j (by omega), List.getElem?_map, List.getElem?_eq_getElem hj]
  rfl

set_option maxRecDepth 100000 in
set_option maxHeartbeats 2000000 in
theorem rnew_any (A : Option Addr) (n c : Nat) (L : List Int) (w : World) (hL : L.length = n) (hn : n ≤ 65024) (hR : Rd w A L) :
    Calls Tryd.prog 11 #[.slice A n c] w (Gives 5 (initial L) w) := by
  obtain ⟨N, hN⟩ : ∃ N, N = 65536 := ⟨_, rfl⟩
  have mk : ∀ w : World, (Instr.makeSlice 22 (.int .i64 65536) (.int .i64 65536)).run Tryd.prog w = .ok (.slice (some ⟨w.heap.size, 0, none⟩) N N) (w.alloc (.cells (arr zeros) 5)) := by
    subst hN
    exact make_bytes 65536 65536 rfl (by omega)
  have N0 : 0 < N := by omega
  have N1 : N ≤ 65536 := by omega
  have H := Lib.hid (And.intro hN (And.intro hL hR))
  clear hN hL hR
  go_enter Tryd.func11, Tryd.ntmps11
  go_wp2_with fail
  clear mk
  have B1 : Below w.heap.size w (w.alloc (.cells (arr zeros) 5)) := (Below.refl _ _).alloc (Nat.le_refl _) _
  have G1 : (w.alloc (.cells (arr zeros) 5)).heap[w.heap.size]? = some (.cells (arr zeros) 5 (0, 0)) := heap_alloc_new _ _
  obtain ⟨g, hg⟩ : ∃ g, g = w.heap.size := ⟨_, rfl⟩
  generalize w.alloc (.cells (arr zeros) 5) = w1 at *
  rw [← hg] at G1 ⊢
  have P1 := Lib.hid (And.intro B1 G1)
  clear B1 G1 hg
  refine (rsmall_any _).mono ?_
  rintro e w2 h
  obtain ⟨g2, c2, rfl, _, _, o2, b2⟩ := h.bytes smallL_len (by omega)
  have P2 := Lib.hid (And.intro (P1.out.1.trans (b2.mono P1.out.1.size)) (And.intro ((b2.block g (Array.getElem?_eq_some_iff.1 P1.out.2).1).trans P1.out.2) (own_rd o2)))
  clear h o2 b2 P1
  go_wp2_with fail
  refine (rput_any ⟨g, 0, none⟩ N N zeros 80 (some ⟨g2, 0, none⟩) 80 c2 smallL _ H.out.1 (by rw [H.out.1]; exact zeros_len) ⟨(Array.getElem?_eq_some_iff.1 P2.out.2.1).1, fun j hj => by rw [add_pl, Nat.zero_add, cell_of_row _ _ _ _ _ _ P2.out.2.1]; exact arr_get _ j hj⟩ (by omega) (by omega) smallL_len (by omega) P2.out.2.2).mono ?_
  rintro e w3 h
  obtain ⟨g3, c3, rfl, _, l3, o3, b3⟩ := h.bytes (n := N) (by rw [put_len, H.out.1]; exact zeros_len) N0
  have P3 := Lib.hid (And.intro (P2.out.1.trans (b3.mono P2.out.1.size)) (And.intro l3 (own_at o3)))
  clear h o3 b3 l3 P2
  go_wp2_with fail
  refine (rbig_any _).mono ?_
  rintro e w4 h
  obtain ⟨g4, c4, rfl, _, _, o4, b4⟩ := h.bytes bigL_len (by omega)
  have P4 := Lib.hid (And.intro (P3.out.1.trans (b4.mono P3.out.1.size)) (And.intro (Nat.lt_of_lt_of_le P3.out.2.1 b4.size) (And.intro (fun j hj => (b4.cell (p := (⟨g3, 0, none⟩ : Addr).add j) (by rw [add_block]; exact P3.out.2.1)).trans (P3.out.2.2 j hj)) (own_rd o4))))
  clear h o4 b4 P3
  go_wp2_with fail
  refine (rput_any ⟨g3, 0, none⟩ N c3 (put zeros 80 smallL) 160 (some ⟨g4, 0, none⟩) 160 c4 bigL _ H.out.1 (by rw [put_len, H.out.1]; exact zeros_len) ⟨P4.out.2.1, P4.out.2.2.1⟩ (by omega) (by omega) bigL_len (by omega) P4.out.2.2.2).mono ?_
  rintro e w5 h
  obtain ⟨g5, c5, rfl, _, l5, o5, b5⟩ := h.bytes (n := N) (by rw [put_len, put_len, H.out.1]; exact zeros_len) N0
  have P5 := Lib.hid (And.intro (P4.out.1.trans (b5.mono P4.out.1.size)) (And.intro l5 (own_at o5)))
  clear h o5 b5 l5 P4
  go_wp2_with fail
  refine (rput_any ⟨g5, 0, none⟩ N c5 (put (put zeros 80 smallL) 160 bigL) 512 A n c L _ H.out.1 (by rw [put_len, put_len, H.out.1]; exact zeros_len) ⟨P5.out.2.1, P5.out.2.2⟩ (by omega) (by omega) H.out.2.1 (by omega) (H.out.2.2.below P5.out.1)).mono ?_
  rintro e w6 h
  obtain ⟨v6, rfl, o6, b6⟩ := h
  have P6 := Lib.hid (And.intro (P5.out.1.trans (b6.mono P5.out.1.size)) (own_mono o6 P5.out.1.size))
  clear o6 b6 P5
  go_wp2
  go_ret
  exact ⟨_, rfl, P6.out.2, P6.out.1⟩
end Go.Proofs.YtllfakimcgbppaaDoor
