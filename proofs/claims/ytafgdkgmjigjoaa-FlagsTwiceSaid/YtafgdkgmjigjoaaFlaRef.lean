/- Contracts of the reference of layer 12: Save, Load. -/
import Derived.Test.YtafgdkgmjigjoaaFlaBox
import Derived.Test.YtafgdkgmjigjoaaAppRd
import Derived.Test.YtafgdkgmjigjoaaTail
import Derived.Deep.RegionHeld3
import Derived.Deep.AppendLies
namespace Go.Proofs.Ytafgdkgmjigjoaa
open Go.RowKit Num
set_option linter.unusedVariables false
set_option linter.unusedSimpArgs false

theorem lst_set (P : Nat → Int) (M : List Int) (k : Nat) (h1 : k < 16) (h2 : k < M.length) : (lstP (ov P (M.take k))).set k M[k] = lstP (ov P (M.take (k + 1))) := by
  apply List.ext_getElem?
  intro j
  rw [List.getElem?_set, lstP_len, lstP_get?, lstP_get?]
  by_cases e : k = j
  · subst e
    rw [if_pos rfl, if_pos h1, if_pos h1, ov_in _ _ _ (by rw [List.length_take]; omega), List.getElem_take]
  · rw [if_neg e]
    by_cases h3 : j < 16
    · rw [if_pos h3, if_pos h3]
      by_cases h4 : j < k
      · rw [ov_in _ _ _ (by rw [List.length_take]; omega), ov_in _ _ _ (by rw [List.length_take]; omega), List.getElem_take, List.getElem_take]
      · rw [ov_out _ _ _ (by rw [List.length_take]; omega), ov_out _ _ _ (by rw [List.length_take]; omega)]
    · rw [if_neg h3, if_neg h3]
theorem lst_done (P : Nat → Int) (M : List Int) (k : Nat) (h : M.length ≤ k ∨ 16 ≤ k) : lstP (ov P (M.take k)) = lstP (ov P M) := by
  apply List.ext_getElem?
  intro j
  rw [lstP_get?, lstP_get?]
  by_cases h3 : j < 16
  · rw [if_pos h3, if_pos h3]
    by_cases h4 : j < M.length
    · rw [ov_in _ _ _ (by rw [List.length_take]; omega), ov_in _ _ _ h4, List.getElem_take]
    · rw [ov_out _ _ _ (by rw [List.length_take]; omega), ov_out _ _ _ h4]
  · rw [if_neg h3, if_neg h3]
theorem lst_none (P : Nat → Int) : lstP (ov P []) = lstP P := by
  have h : ∀ j, j < 16 → ov P [] j = P j := fun j _ => ov_out P [] j (Nat.not_lt_zero j)
  apply List.ext_getElem?
  intro j
  rw [lstP_get?, lstP_get?]
  by_cases h3 : j < 16
  · rw [if_pos h3, if_pos h3, h j h3]
  · rw [if_neg h3, if_neg h3]

set_option maxRecDepth 100000 in
set_option maxHeartbeats 2000000 in
theorem rsave_any (P : Nat → Int) (A : Option Addr) (c : Nat) (B : Option Addr) (m d : Nat) (M : List Int) (w : World) (H : Rd w A (lstP P)) (K : Rd w B M) (hm : M.length = m) (m1 : m ≤ 1000) :
    Calls Try.prog 9 #[.slice A 16 c, .slice B m d] w (Gives 5 (lstP (ov P M)) w) := by
  have HH := Lib.hid (And.intro H (And.intro K hm))
  clear H K hm
  go_enter Try.func9, Try.ntmps9
  have hown0 : (w.alloc (.cells #[] 5)).ownsRow w.heap.size 5 1 (.slice (some ⟨w.heap.size, 0, none⟩) 0 0) 0 (([] : List Int).map (Value.int .u8)) := World.ownsRow_made w #[] 0 (Nat.le_refl _) (by unfold maxLen; omega) rfl
  have Q := Lib.hid (And.intro hown0 (below_new w (.cells #[] 5)))
  clear hown0
  go_wp2_with (first
    | (at_builtin; refine wpList_append_rd rfl (.tmp 7) (.tmp 8) rfl w.heap.size _ 0 [] rfl Q.out.1 A 16 c (lstP P) rfl (HH.out.1.below Q.out.2) (lstP_len P) (by omega) (by simp) ?_; intro v1 w1 o1 g1; have P1 := Lib.hid (And.intro o1 (Q.out.2.grown g1 (by simp) fun j ej => (Q.out.1.lt j ej).1)); clear o1 g1))
  obtain ⟨g, cap, hv, hg, hl⟩ := P1.out.1.form (by omega)
  subst hv
  have HG := Lib.hid hg
  clear hg hl Q
  go_loopw [6] (fun i wr => ∃ k : Nat, k ≤ 16 ∧ k ≤ m ∧ i = .int .i64 (k : Int) ∧ wr.ownsRow w.heap.size 5 1 (.slice (some ⟨g, 0, none⟩) 16 cap) 16 ((lstP (ov P (M.take k))).map (Value.int .u8)) ∧ Below w.heap.size w wr) (fun i _ => 16 - (intOf i).toNat)
  case atStart => exact ⟨0, by omega, by omega, rfl, by rw [List.take_zero, lst_none]; simpa using P1.out.1, P1.out.2⟩
  case round =>
    clear P1
    obtain ⟨k, hk, hkm, rfl, ho, hb⟩ := hrel
    have OB := Lib.hid (And.intro ho hb)
    clear ho hb
    rcases (show (k < 16 ∧ k < m) ∨ ¬ k < m ∨ (k < m ∧ ¬ k < 16) by omega) with ⟨i1, i2⟩ | i2 | ⟨i2, i1⟩
    · obtain ⟨ad, hA, hab, hc⟩ := (HH.out.2.1.below OB.out.2).at_ (k := k) (by rw [HH.out.2.2]; exact i2)
      obtain ⟨v, hv⟩ : ∃ v, M[k]'(by rw [HH.out.2.2]; exact i2) = v := ⟨_, rfl⟩
      rw [hv] at hc
      have FV := Lib.hid (show (lstP (ov P (M.take k))).set k v = lstP (ov P (M.take (k + 1))) by rw [← hv]; exact lst_set P M k i1 _)
      obtain rfl := hA
      have c3 := OB.out.1.cellAt k (by omega)
      have c4 := OB.out.1.frozenAt k
      have c5 : ((lstP (ov P (M.take k))).map (Value.int .u8))[k]? = some (.int .u8 (ov P (M.take k) k)) := by rw [List.getElem?_map, lstP_get?, if_pos i1]; rfl
      rw [c5] at c3
      have J1 := Lib.hid (And.intro i1 i2)
      have i1I : (k : Int) < 16 := by omega
      have i2I : (k : Int) < (m : Int) := by omega
      clear hv hab c5
      go_wp2
      go_roundw
      case rel =>
        refine ⟨k + 1, by have := J1.out.1; omega, by have := J1.out.2; omega, by go_num, ?_, OB.out.2.setCell (p := ⟨g, k, none⟩) HG.out _⟩
        rw [← FV.out, List.map_set]
        exact (OB.out.1.stored k _).1
      case measure => simp [intOf]; omega
    · have i2I : ¬ (k : Int) < (m : Int) := by omega
      have e := Lib.hid (lst_done P M k (.inl (by rw [HH.out.2.2]; omega)))
      clear i2 hkm
      go_wp2
      go_ret
      have ho := OB.out.1
      rw [e.out] at ho
      exact ⟨_, rfl, by rw [lstP_len]; exact ho, OB.out.2⟩
    · have i2I : (k : Int) < (m : Int) := by omega
      have i1I : ¬ (k : Int) < 16 := by omega
      have e := Lib.hid (lst_done P M k (.inr (by omega)))
      clear i1 i2 hkm
      go_wp2
      go_ret
      have ho := OB.out.1
      rw [e.out] at ho
      exact ⟨_, rfl, by rw [lstP_len]; exact ho, OB.out.2⟩

set_option maxRecDepth 100000 in
set_option maxHeartbeats 2000000 in
theorem rload_any (P : Nat → Int) (A : Option Addr) (c : Nat) (n : Int) (w : World) (H : Rd w A (lstP P)) :
    Calls Try.prog 12 #[.slice A 16 c, .int .i64 n] w (Gives 5 ((lstP P).take (cl n)) w) := by
  obtain ⟨i0, hi, hz0, hz1, hz2⟩ := info_parts infoByte
  have HH := Lib.hid H
  have CL := Lib.hid (show ∀ k : Nat, k ≤ 16 → ((k : Int) ≤ n ∨ k = 0) → (¬ (k : Int) < n ∨ ¬ k < 16) → cl n = k by intro k h1 h2 h3; unfold cl; omega)
  clear H
  go_enter Try.func12, Try.ntmps12
  go_wp2
  go_loopw [5, 6] (fun o i wr => ∃ k : Nat, k ≤ 16 ∧ ((k : Int) ≤ n ∨ k = 0) ∧ i = .int .i64 (k : Int) ∧ wr.ownsRow w.heap.size 5 1 o k (((lstP P).take k).map (Value.int .u8)) ∧ Below w.heap.size w wr) (fun _ i _ => 16 - (intOf i).toNat)
  case atStart => exact ⟨0, by omega, .inr rfl, rfl, World.ownsRow_nil _ _ _ _, Below.refl _ _⟩
  case round =>
    obtain ⟨k, hk, hkn, rfl, hown, hB⟩ := hrel
    have HB := Lib.hid hB
    have KN := Lib.hid (And.intro hk hkn)
    clear hkn
    rcases (show ((k : Int) < n ∧ k < 16) ∨ ¬ (k : Int) < n ∨ ((k : Int) < n ∧ ¬ k < 16) by omega) with ⟨i2, i1⟩ | i2 | ⟨i2, i1⟩
    · have IK := Lib.hid (And.intro i1 i2)
      have i1I : (k : Int) < 16 := by omega
      obtain ⟨ad, hA, hab, c1⟩ := (HH.out.below hB).at_ (k := k) (by rw [lstP_len]; exact i1)
      rw [lstP_get _ _ i1] at c1
      obtain rfl := hA
      have SX := Lib.hid (show (lstP P).take (k + 1) = (lstP P).take k ++ [P k] by rw [take_step (by rw [lstP_len]; exact i1), lstP_get _ _ i1])
      obtain ⟨x, hx⟩ : ∃ x, P k = x := ⟨_, rfl⟩
      rw [hx] at c1 SX
      clear hx hab hB
      go_wp2_with ((at_builtin; refine wpList_append_own _ rfl _ _ 22 rfl w.heap.size 5 i0 (.int .u8 0) 1 1 Try.underlying22 hi hz0 hz1 hz2 rfl (by decide) _ _ _ rfl (hown.alloc _) ⟨_, 0, none⟩ 1 1 [.int .u8 x] rfl rfl (cell_one_new _ _ _) (by simp [Value.oneCell']) (by unfold maxLen; omega) (by omega) (by have := HB.out.size; simp; omega) ?_; intro v' w1' hown' hgrow _))
      go_roundw
      case rel =>
        refine ⟨k + 1, by have := IK.out.1; omega, .inl (by have := IK.out.2; omega), by go_num, ?_, (HB.out.alloc HB.out.size _).grown hgrow (by have := HB.out.size; simp; omega) fun j ej => (hown.lt j ej).1⟩
        rw [SX.out]
        simpa using hown'
      case measure => simp [intOf]; omega
    · have e := Lib.hid (CL.out k KN.out.1 KN.out.2 (.inl (by omega)))
      go_wp2
      go_ret
      obtain ⟨A', c', rfl⟩ := own_form hown
      refine ⟨_, rfl, ?_, HB.out⟩
      rw [e.out, take_len _ _ KN.out.1]
      exact hown
    · have e := Lib.hid (CL.out k KN.out.1 KN.out.2 (.inr (by omega)))
      have i1I : ¬ (k : Int) < 16 := by omega
      go_wp2
      go_ret
      obtain ⟨A', c', rfl⟩ := own_form hown
      refine ⟨_, rfl, ?_, HB.out⟩
      rw [e.out, take_len _ _ KN.out.1]
      exact hown
end Go.Proofs.Ytafgdkgmjigjoaa
