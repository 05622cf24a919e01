/- Contracts of the reference of layer 11: Fill, Samples. -/
import Derived.Test.YtojgblpgbfpcbaaAudBox
import Derived.Test.YtojgblpgbfpcbaaTail
import Derived.Deep.RegionHeld3
import Derived.Deep.AppendLies
namespace Go.Proofs.Ytojgblpgbfpcbaa
open Go.RowKit Num
set_option linter.unusedVariables false
set_option linter.unusedSimpArgs false

/-- A new slice of 16 bytes, which reads as the pattern F. -/
def Fills (F : Nat → Int) (w : World) (e : Ending) (w' : World) : Prop := ∃ g, e = .returned (.slice (some ⟨g, 0, none⟩) 16 16) ∧ w.heap.size ≤ g ∧ Blk g 5 (pc F) w' ∧ Below w.heap.size w w'
theorem pc_put (F : Nat → Int) (k : Nat) (hk : k < 16) (v : Int) : (pc F).setIfInBounds k (.int .u8 v) = pc fun j => if j = k then v else F j := by
  apply Array.ext_getElem?
  intro j
  rw [Array.getElem?_setIfInBounds, pc_size]
  by_cases h1 : k = j
  · subst h1
    rw [if_pos rfl, if_pos hk, pc_get _ _ hk, if_pos rfl]
  · rw [if_neg h1]
    by_cases h3 : j < 16
    · rw [pc_get _ _ h3, pc_get _ _ h3, if_neg (fun e => h1 e.symm)]
    · rw [Array.getElem?_eq_none (by rw [pc_size]; omega), Array.getElem?_eq_none (by rw [pc_size]; omega)]
theorem pc_congr {P Q : Nat → Int} (h : ∀ j, j < 16 → P j = Q j) : pc P = pc Q := by
  apply Array.ext_getElem?
  intro j
  by_cases h3 : j < 16
  · rw [pc_get _ _ h3, pc_get _ _ h3, h j h3]
  · rw [Array.getElem?_eq_none (by rw [pc_size]; omega), Array.getElem?_eq_none (by rw [pc_size]; omega)]
theorem pc_zeros : arr (List.replicate 16 0) = pc zeroP := rfl
theorem pc_rd {g : Nat} {F : Nat → Int} {w : World} (H : Blk g 5 (pc F) w) : Rd w (some ⟨g, 0, none⟩) (lstP F) := fun _ => by
  refine ⟨_, rfl, H.lt, fun j hj => ?_⟩
  have h16 : j < 16 := by rw [lstP_len] at hj; exact hj
  rw [add_pl, Nat.zero_add, H.cell, pc_get _ _ h16, lstP_get _ _ h16]
/-- The first k bytes of a list. -/
def padTo (L : List Int) (k : Nat) (j : Nat) : Int := if j < k then pad L j else 0

set_option maxRecDepth 100000 in
set_option maxHeartbeats 2000000 in
theorem fill_any (A : Option Addr) (n c : Nat) (L : List Int) (w : World) (H : Rd w A L) (hn : L.length = n) (n1 : n ≤ maxLen) :
    Calls Try.prog 11 #[.slice A n c] w (Fills (pad L) w) := by
  have mk : ∀ w : World, (Instr.makeSlice 22 (.int .i64 16) (.int .i64 16)).run Try.prog w = .ok (.slice (some ⟨w.heap.size, 0, none⟩) 16 16) (w.alloc (.cells (pc zeroP) 5)) := fun w => make_bytes 16 16 rfl (by omega) w
  have HH := Lib.hid (And.intro H hn)
  unfold maxLen at n1
  have nI : (n : Int) ≤ 9223372036854775807 := by omega
  clear H hn
  go_enter Try.func11, Try.ntmps11
  go_wp2
  have N := Lib.hid (show Blk w.heap.size 5 (pc (padTo L 0)) (w.alloc (.cells (pc zeroP) 5)) from by
    exact (Blk.new w 5 (pc zeroP)).eq (pc_congr fun j _ => by unfold padTo zeroP; rw [if_neg (by omega)]))
  have B := Lib.hid (below_new w (.cells (pc zeroP) 5))
  generalize w.alloc (.cells (pc zeroP) 5) = w1 at *
  obtain ⟨g, hg⟩ : ∃ g, w.heap.size = g := ⟨_, rfl⟩
  have HG := Lib.hid hg
  rw [hg] at N B ⊢
  clear mk hg
  go_loopw [4] (fun i wr => ∃ k : Nat, k ≤ 16 ∧ i = .int .i64 (k : Int) ∧ Blk g 5 (pc (padTo L k)) wr ∧ Below g w wr) (fun i _ => 16 - (intOf i).toNat)
  case atStart => exact ⟨0, by omega, rfl, N.out, B.out⟩
  case round =>
    clear N B
    obtain ⟨k, hk, rfl, hP, hB⟩ := hrel
    have PB := Lib.hid (And.intro hP hB)
    clear hP hB
    rcases (show (k < 16 ∧ k < n) ∨ ¬ k < 16 ∨ (k < 16 ∧ ¬ k < n) by omega) with ⟨i1, i2⟩ | i1 | ⟨i1, i2⟩
    · obtain ⟨ad, hA, hab, hc⟩ := (HH.out.1.below (by rw [HG.out]; exact PB.out.2)).at_ (k := k) (by rw [HH.out.2]; exact i2)
      obtain ⟨v, hv⟩ : ∃ v, L[k]'(by rw [HH.out.2]; exact i2) = v := ⟨_, rfl⟩
      rw [hv] at hc
      have FV := Lib.hid (show pad L k = v by rw [pad_in _ _ (by rw [HH.out.2]; exact i2), hv])
      obtain rfl := hA
      have c3 := PB.out.1.cell k
      rw [pc_get _ _ i1] at c3
      have c4 := PB.out.1.frozen k
      have J1 := Lib.hid i1
      have i1I : (k : Int) < 16 := by omega
      have i2I : (k : Int) < (n : Int) := by omega
      clear hv hab
      go_wp2
      go_roundw
      case rel =>
        refine ⟨k + 1, by have := J1.out; omega, by go_num, ((PB.out.1.put k (.int .u8 v)).eq (pc_put _ k J1.out v)).eq (pc_congr fun j hj => ?_), PB.out.2.setCell (p := ⟨g, k, none⟩) (Nat.le_refl _) _⟩
        unfold padTo
        by_cases e : j = k
        · subst e; rw [if_pos rfl, if_pos (by omega), FV.out]
        · rw [if_neg e]
          by_cases e3 : j < k
          · rw [if_pos e3, if_pos (by omega)]
          · rw [if_neg e3, if_neg (by omega)]
      case measure => simp [intOf]; omega
    · have ke := Lib.hid (show k = 16 by omega)
      have i1I : ¬ (k : Int) < 16 := by omega
      go_wp2
      go_ret
      exact ⟨g, rfl, by rw [HG.out]; exact Nat.le_refl _, PB.out.1.eq (pc_congr fun j hj => by unfold padTo; rw [if_pos (by rw [ke.out]; exact hj)]), by rw [HG.out]; exact PB.out.2⟩
    · have ne := Lib.hid i2
      have i1I : (k : Int) < 16 := by omega
      have i2I : ¬ (k : Int) < (n : Int) := by omega
      go_wp2
      go_ret
      exact ⟨g, rfl, by rw [HG.out]; exact Nat.le_refl _, PB.out.1.eq (pc_congr fun j hj => by
        unfold padTo
        by_cases e : j < k
        · rw [if_pos e]
        · rw [if_neg e, pad_out _ _ (by rw [HH.out.2]; have := ne.out; omega)]), by rw [HG.out]; exact PB.out.2⟩

theorem infoBool : (Try.prog.info? 4).map (fun i => (i.zero, i.size, i.bytes)) = some (some (.bool false), 1, 1) := by kernel_rfl
/-- A slice of the first n samples. -/
def Smps (P : Nat → Int) (w : World) (e : Ending) (w' : World) : Prop := (∃ A c, e = .returned (.slice A 128 c) ∧ Row Value.bool w' A (smps P 128)) ∧ Below w.heap.size w w'

set_option maxRecDepth 100000 in
set_option maxHeartbeats 4000000 in
theorem samples_any (g : Nat) (P : Nat → Int) (w : World) (hP : OkP P) (H : Blk g 5 (pc P) w) :
    Calls Try.prog 12 #[.slice (some ⟨g, 0, none⟩) 16 16] w (Smps P w) := by
  obtain ⟨i0, hi, hz0, hz1, hz2⟩ := info_parts infoBool
  have HH := Lib.hid (And.intro hP H)
  clear hP H
  go_enter Try.func12, Try.ntmps12
  go_wp2
  go_loopw [3, 4] (fun o i wr => ∃ k : Nat, k ≤ 16 ∧ i = .int .i64 (k : Int) ∧ wr.ownsRow w.heap.size 4 1 o (8 * k) ((smps P (8 * k)).map Value.bool) ∧ Below w.heap.size w wr) (fun _ i _ => 16 - (intOf i).toNat)
  case atStart => exact ⟨0, by omega, rfl, World.ownsRow_nil _ _ _ _, Below.refl _ _⟩
  case round =>
    obtain ⟨k, hk, rfl, hown, hB⟩ := hrel
    have OB := Lib.hid (And.intro hown hB)
    clear hown hB
    by_cases hlt : k < 16
    · have kI : (k : Int) < 16 := by omega
      have c1 : wr.cell? ⟨g, k, none⟩ = some (.int .u8 (P k)) := by rw [(HH.out.2.step OB.out.2).cell, pc_get _ _ hlt]
      obtain ⟨x0, x1⟩ := HH.out.1 k hlt
      have SR := Lib.hid (fun t => smp_ref P k t)
      obtain ⟨x, hx⟩ : ∃ x, P k = x := ⟨_, rfl⟩
      rw [hx] at c1 x0 x1 SR
      have KL := Lib.hid hlt
      clear hx hlt
      go_wp2
      clear c1
      obtain ⟨wo, hwo⟩ : ∃ wo, wo = wr := ⟨_, rfl⟩
      subst hwo
      go_loopw [3, 6, 7] (fun o v i wr => ∃ (t : Nat) (V : Int), t ≤ 8 ∧ i = .int .i64 (t : Int) ∧ v = .int .i64 V ∧ V = bitv t ∧ wr.ownsRow w.heap.size 4 1 o (8 * k + t) ((smps P (8 * k + t)).map Value.bool) ∧ Below w.heap.size w wr) (fun _ _ i _ => 8 - (intOf i).toNat)
      case atStart => exact ⟨0, 128, by omega, rfl, rfl, bitv_zero.symm, OB.out.1, OB.out.2⟩
      case round =>
        clear OB
        obtain ⟨t, V, ht, rfl, rfl, hV, hown, hB⟩ := hrel
        have HB := Lib.hid hB
        by_cases htt : t < 8
        · have tI : (t : Int) < 8 := by omega
          obtain ⟨v0, v1, v2, v3⟩ := bitv_in htt
          rw [← hV] at v0 v1 v2
          have SV := Lib.hid (SR.out t htt)
          rw [← hV] at SV
          have HV2 := Lib.hid v2
          have HT := Lib.hid htt
          obtain ⟨u, hu⟩ : ∃ u, x / V = u := ⟨_, rfl⟩
          have u0 : 0 ≤ u := by rw [← hu]; exact Int.ediv_nonneg x0 (by omega)
          have u1 : u ≤ 255 := by rw [← hu]; exact Int.le_trans (Int.ediv_le_self _ x0) x1
          rw [hu] at SV
          clear v3 hV htt v2
          go_wp2_with ((at_builtin; refine wpList_append_own _ rfl _ _ 31 rfl w.heap.size 4 i0 (.bool false) 1 1 Try.underlying31 hi hz0 hz1 hz2 rfl (by decide) _ _ _ rfl (hown.alloc _) ⟨_, 0, none⟩ 1 1 [.bool (u % 2 == 1)] rfl rfl (cell_one_new _ _ _) (by simp [Value.oneCell']) (by unfold maxLen; omega) (by omega) (by have := HB.out.size; simp; omega) ?_; intro v' w1' hown' hgrow _))
          go_roundw
          case rel =>
            refine ⟨t + 1, bitv (t + 1), by have := HT.out; omega, by go_num, by rw [← HV2.out], rfl, ?_, (HB.out.alloc HB.out.size _).grown hgrow (by have := HB.out.size; simp; omega) fun j ej => (hown.lt j ej).1⟩
            have e : (u % 2 == 1) = smpN P (8 * k + t) := by
              rw [SV.out]
              by_cases h : u % 2 = 1 <;> simp [h]
            rw [← Nat.add_assoc, smps_succ, ← e]
            simpa using hown'
          case measure => simp [intOf]; omega
        · obtain rfl : t = 8 := by omega
          go_wp2
          go_roundw
          case rel => exact ⟨k + 1, by have := KL.out; omega, by go_num, by rw [Nat.mul_add]; exact hown, HB.out⟩
          case measure => simp [intOf]; have := KL.out; omega
    · have kI : ¬ (k : Int) < 16 := by omega
      have k16 := Lib.hid (show k = 16 by omega)
      go_wp2
      go_ret
      have ho := OB.out.1
      rw [k16.out] at ho
      obtain ⟨A, c, rfl⟩ := own_form ho
      exact ⟨⟨A, c, rfl, Row.of_own ho⟩, OB.out.2⟩
end Go.Proofs.Ytojgblpgbfpcbaa
