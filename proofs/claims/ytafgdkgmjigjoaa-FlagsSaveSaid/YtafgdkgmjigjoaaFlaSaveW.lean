/- The walk of FlagsSave. -/
import Derived.Test.YtafgdkgmjigjoaaFlaAwake
import Derived.Test.YtafgdkgmjigjoaaFlaRef
import Derived.Test.YtafgdkgmjigjoaaBytOpen
import Derived.Deep.Cut
import Derived.Deep.Draws
namespace Go.Proofs.Ytafgdkgmjigjoaa
open Go.RowKit Num
set_option linter.unusedVariables false
set_option linter.unusedSimpArgs false

/-- A new row of n bytes, whatever they are. -/
def RowB (base : Nat) (v : Value) (n : Nat) (w : World) : Prop := ∃ T : List Int, T.length = n ∧ w.ownsRow base 5 1 v n (T.map (Value.int .u8))
theorem RowB.stored {base n c g : Nat} {w : World} (h : RowB base (.slice (some ⟨g, 0, none⟩) n c) n w) (k : Nat) (x : Int) : RowB base (.slice (some ⟨g, 0, none⟩) n c) n (w.setCell ⟨g, k, none⟩ (.int .u8 x)) := by
  obtain ⟨T, hT, ho⟩ := h
  refine ⟨T.set k x, by rw [List.length_set]; exact hT, ?_⟩
  rw [List.map_set]
  exact (ho.stored k _).1
theorem RowB.opened {base n c g : Nat} {X : Option Addr} {Q : Nat → Int} {w : World} (h : RowB base (.slice X n c) n w) (G : FB g Q w) (k : Nat) (hk : k < n) :
    ∃ g3 x, X = some ⟨g3, 0, none⟩ ∧ base ≤ g3 ∧ g ≠ g3 ∧ w.cell? ⟨g3, k, none⟩ = some (.int .u8 x) ∧ w.frozen? ⟨g3, k, none⟩ = false := by
  obtain ⟨T, hT, ho⟩ := h
  obtain ⟨g3, cap, he, hg3, hl3⟩ := ho.form (by omega)
  injection he with eA _ ec
  subst eA
  subst ec
  refine ⟨g3, T[k], rfl, hg3, fun e => own_tag ho G (by decide) (by rw [← e]; rfl), ?_, ho.frozenAt k⟩
  rw [ho.cellAt k (by omega), List.getElem?_map, List.getElem?_eq_getElem (by omega)]
  rfl

set_option maxRecDepth 100000 in
set_option maxHeartbeats 8000000 in
theorem flagsSave_walk (A : Option Addr) (n c : Nat) (L : List Int) (B : Option Addr) (m d : Nat) (M : List Int) (w : World) (H : ArgB w A n c L) (K : ArgB w B m d M) :
    Calls Try.prog 4 #[.slice A n c, .slice B m d] w fun e w' => e = .returned (.bool true) ∧ Below w.heap.size w w' := by
  have HA := Lib.hid H
  have HB := Lib.hid K
  clear H K
  obtain ⟨v0, hv0⟩ : ∃ v0, v0 = w := ⟨_, rfl⟩
  subst hv0
  go_enter Try.func4, Try.ntmps4
  go_wp2_with fail
  refine (awake12 _).mono ?_
  rintro e v1 ⟨rfl, b1⟩
  have BV := Lib.hid b1
  clear b1
  by_cases hlen0 : 100 < n
  · have k0 : (100 : Int) < (n : Int) := by omega
    go_wp2_with fail
    refine (awake12 _).mono ?_
    rintro e v2 ⟨rfl, b1⟩
    have BV := Lib.hid (BV.out.trans (b1.mono BV.out.size))
    clear b1
    go_wp2
    go_ret
    exact ⟨rfl, BV.out⟩
  have k0 : ¬ (100 : Int) < (n : Int) := by omega
  by_cases hlen1 : 16 < m
  · have k1 : (16 : Int) < (m : Int) := by omega
    go_wp2_with fail
    refine (awake12 _).mono ?_
    rintro e v2 ⟨rfl, b1⟩
    have BV := Lib.hid (BV.out.trans (b1.mono BV.out.size))
    clear b1
    go_wp2
    go_ret
    exact ⟨rfl, BV.out⟩
  have k1 : ¬ (16 : Int) < (m : Int) := by omega
  have N0 := Lib.hid (show n ≤ 100 by omega)
  have N1 := Lib.hid (show m ≤ 16 by omega)
  obtain ⟨P, hP⟩ : ∃ P, ov zeroP L = P := ⟨_, rfl⟩
  have HP := Lib.hid hP
  clear hP
  obtain ⟨Q, hQ⟩ : ∃ Q, ov P M = Q := ⟨_, rfl⟩
  have HQ := Lib.hid hQ
  clear hQ
  have QO := Lib.hid (show ∀ j, ¬ j < m → Q j = P j by intro j hj; rw [← HQ.out]; exact ov_out P M j (by rw [HB.out.len]; exact hj))
  have QM := Lib.hid (show (lstP Q).take (cl (m : Int)) = M by rw [cl_nat m N1.out, ← HQ.out]; have h := HB.out.len; subst h; exact lst_saved P M N1.out)
  go_upto_region 3 with fail
  refine wp_region_lit ?_
  refine list_litF rfl rfl ?_
  simp only [Act.put, List.setIfInBounds_toArray, List.set_cons_zero, List.set_cons_succ]
  go_wp2_with fail
  refine (HP.out ▸ save_any zeroP A n c L v1 (HA.out.rd.below BV.out) HA.out.len).mono ?_
  rintro e v2 ⟨rfl, b1⟩
  have BV := Lib.hid (BV.out.trans (b1.mono BV.out.size))
  clear b1
  simp only []
  go_at_K
  go_step
  refine list_var_all (ds := pc (P)) aggFla zeroFla (pc_size _) (pc_size _) (pc_one _) rfl rfl rfl (.tmp 5) (.tmp 27) rfl (by simp [Act.eval, Act.put]) (by simp [Act.eval, Act.put]) ?_
  simp only [Act.put, List.setIfInBounds_toArray, List.set_cons_zero, List.set_cons_succ]
  have S := Lib.hid (FB.new v2 (P))
  have BA := below_new v2 (.cells (pc (P)) 26)
  have BV := Lib.hid (BV.out.trans (BA.mono BV.out.size))
  clear BA
  obtain ⟨a, hq⟩ : ∃ q, v2.heap.size = q := ⟨_, rfl⟩
  generalize v2.alloc (.cells (pc (P)) 26) = v3 at *
  rw [hq] at S ⊢
  clear hq
  have NB3 := BV.out.size
  have hown0 : (v3.alloc (.cells #[] 5)).ownsRow v3.heap.size 5 1 (.slice (some ⟨v3.heap.size, 0, none⟩) 0 0) 0 (([] : List Int).map (Value.int .u8)) := World.ownsRow_made v3 #[] 0 (Nat.le_refl _) (by unfold maxLen; omega) rfl
  have Q0 := Lib.hid (And.intro hown0 (below_new v3 (.cells #[] 5)))
  clear hown0
  go_upto_region 5 with (first
    | (at_builtin; refine wpList_append_rd rfl (.tmp 28) (.tmp 29) rfl v3.heap.size _ 0 [] rfl Q0.out.1 B m d M rfl (HB.out.rd.below (BV.out.trans (Q0.out.2.mono BV.out.size))) HB.out.len (by have := N1.out; omega) (by simp) ?_; intro v4 w4 o4 g4; have P4 := Lib.hid (And.intro o4 (Q0.out.2.grown g4 (by simp) fun j ej => (Q0.out.1.lt j ej).1)); clear o4 g4))
  obtain ⟨X, c4, hX⟩ := own_form P4.out.1
  subst hX
  have OW := Lib.hid (show w4.ownsRow v3.heap.size 5 1 (.slice X (0 + m) c4) (0 + m) (M.map (Value.int .u8)) from P4.out.1)
  rw [Nat.zero_add] at OW ⊢
  have S := Lib.hid (S.out.step P4.out.2)
  have BV := Lib.hid (BV.out.trans (P4.out.2.mono BV.out.size))
  have NB := Lib.hid NB3
  clear NB3
  clear P4 Q0
  refine wp_region_lit ?_
  refine list_loadF S.out rfl (.tmp 5) rfl (by simp [Act.eval]) ?_
  simp only [Act.put, List.setIfInBounds_toArray, List.set_cons_zero, List.set_cons_succ]
  go_wp2_with fail
  refine (HQ.out ▸ save_any P X m c4 M w4 (own_rd OW.out) HB.out.len).mono ?_
  rintro e v5 ⟨rfl, b1⟩
  have S := Lib.hid (S.out.step b1)
  have OW := Lib.hid (show v5.ownsRow v3.heap.size 5 1 (.slice X m c4) m (M.map (Value.int .u8)) from own_apart (p := w4.heap.size) (g := none) OW.out (Apart.of_below b1) (fun h => by have := (OW.out.lt _ h).2; omega) (fun k hk => by cases hk))
  have BV := Lib.hid (BV.out.trans (b1.mono BV.out.size))
  clear b1
  simp only []
  go_at_K
  go_step
  refine list_var_all (ds := pc (Q)) aggFla zeroFla (pc_size _) (pc_size _) (pc_one _) rfl rfl rfl (.tmp 7) (.tmp 33) rfl (by simp [Act.eval, Act.put]) (by simp [Act.eval, Act.put]) ?_
  simp only [Act.put, List.setIfInBounds_toArray, List.set_cons_zero, List.set_cons_succ]
  have G := Lib.hid (FB.new v5 (Q))
  have BA := below_new v5 (.cells (pc (Q)) 26)
  have S := Lib.hid (S.out.step BA)
  have OW := Lib.hid (OW.out.alloc (.cells (pc (Q)) 26))
  have BV := Lib.hid (BV.out.trans (BA.mono BV.out.size))
  clear BA
  obtain ⟨g, hq⟩ : ∃ q, v5.heap.size = q := ⟨_, rfl⟩
  generalize v5.alloc (.cells (pc (Q)) 26) = v6 at *
  rw [hq] at G ⊢
  clear hq
  go_wp2
  go_loopw [8] (fun i wr => ∃ k : Nat, m ≤ k ∧ k ≤ 16 ∧ i = .int .i64 (k : Int) ∧ Below v6.heap.size v6 wr) (fun i _ => 16 - (intOf i).toNat)
  case atStart => exact ⟨m, Nat.le_refl _, N1.out, rfl, Below.refl _ _⟩
  case round =>
    obtain ⟨k, hmk, hk, rfl, hb⟩ := hrel
    have WB := Lib.hid hb
    clear hb
    by_cases hlt : k < 16
    · have KL := Lib.hid (And.intro hlt hmk)
      have c1 := (G.out.step WB.out).cell hlt
      have c2 := (S.out.step WB.out).cell hlt
      rw [QO.out k (by omega)] at c1
      obtain ⟨x, hx⟩ : ∃ x, P k = x := ⟨_, rfl⟩
      rw [hx] at c1 c2
      have kI : (k : Int) < 16 := by omega
      clear hx hlt hk hmk
      go_wp2
      go_quiet (fail)
      go_wp2
      go_roundw
      case rel => exact ⟨k + 1, by have := KL.out.2; omega, by have := KL.out.1; omega, by go_num, WB.out.trans ⟨rfl, rfl, rfl, Nat.le_refl _, fun _ _ => rfl⟩⟩
      case measure => simp [intOf]; have := KL.out.1; omega
    · have kI : ¬ (k : Int) < 16 := by omega
      clear hlt hmk hk
      obtain ⟨v7, hv⟩ : ∃ v, v = wr := ⟨_, rfl⟩
      subst hv
      have G := Lib.hid (G.out.step WB.out)
      have OW := Lib.hid (show v7.ownsRow v3.heap.size 5 1 (.slice X m c4) m (M.map (Value.int .u8)) from own_apart (p := v6.heap.size) (g := none) OW.out (Apart.of_below WB.out) (fun h => by have := (OW.out.lt _ h).2; omega) (fun k hk => by cases hk))
      have BV := Lib.hid (BV.out.trans (WB.out.mono BV.out.size))
      clear S WB
      go_wp2
      go_loopw [9] (fun i wr => ∃ k : Nat, k ≤ m ∧ i = .int .i64 (k : Int) ∧ RowB v3.heap.size (.slice X m c4) m wr ∧ FB g Q wr ∧ Below v0.heap.size v0 wr) (fun i _ => m - (intOf i).toNat)
      case atStart => exact ⟨0, Nat.zero_le _, rfl, ⟨M, HB.out.len, OW.out⟩, G.out, BV.out⟩
      case round =>
        clear G BV
        obtain ⟨k, hk, rfl, hR, hG, hV⟩ := hrel
        have RR := Lib.hid hR
        have G := Lib.hid hG
        have BV := Lib.hid hV
        clear hR hG hV
        by_cases hlt : k < m
        · obtain ⟨g3, x, hX, hgb, hne, cc, cf⟩ := RR.out.opened G.out k hlt
          subst hX
          have kI : (k : Int) < (m : Int) := by omega
          have KL := Lib.hid hlt
          have HN := Lib.hid (And.intro hgb hne)
          clear hgb hne hlt hk
          go_wp2
          go_roundw
          case rel => exact ⟨k + 1, by have := KL.out; omega, by go_num, RR.out.stored k _, G.out.other HN.out.2 _ _, BV.out.setCell (p := ⟨g3, k, none⟩) (Nat.le_trans NB.out HN.out.1) _⟩
          case measure => simp [intOf]; have := KL.out; omega
        · have kI : ¬ (k : Int) < (m : Int) := by omega
          clear hlt hk RR
          obtain ⟨v8, hv⟩ : ∃ v, v = wr := ⟨_, rfl⟩
          subst hv
          have NB2 := Lib.hid BV.out.size
          go_upto_region 15 with fail
          refine wp_region_lit ?_
          refine list_loadF G.out rfl (.tmp 7) rfl (by simp [Act.eval]) ?_
          simp only [Act.put, List.setIfInBounds_toArray, List.set_cons_zero, List.set_cons_succ]
          go_wp2_with fail
          refine ((load_any Q (m : Int) v8).mono fun e w' h => Got.of (QM.out ▸ h) HB.out.len).mono ?_
          rintro e v9 h
          obtain ⟨Y, c9, rfl, o1, l1, b1⟩ := h
          have O9 := Lib.hid (And.intro o1 l1)
          clear o1 l1
          have G := Lib.hid (G.out.step b1)
          have BV := Lib.hid (BV.out.trans (b1.mono BV.out.size))
          clear b1
          go_wp2_with fail
          refine (((decide_eq_true (rfl : M = M)) ▸ same2_any Y B c9 d m m M M v9 HB.out.len HB.out.len (by have := N1.out; omega) (by have := N1.out; omega) (own_rd O9.out.1) (HB.out.rd.below BV.out) : Calls Try.prog 10 #[.slice Y m c9, .slice B m d] v9 fun e w' => e = .returned (.bool true) ∧ Below v9.heap.size v9 w')).mono ?_
          rintro e v10 ⟨rfl, b1⟩
          have G := Lib.hid (G.out.step b1)
          have OZ := Lib.hid (show v10.ownsRow v8.heap.size 5 1 (.slice Y m c9) m (M.map (Value.int .u8)) from own_apart (p := v9.heap.size) (g := none) O9.out.1 (Apart.of_below b1) (fun h => by have := (O9.out.1.lt _ h).2; omega) (fun k hk => by cases hk))
          have BV := Lib.hid (BV.out.trans (b1.mono BV.out.size))
          clear b1
          go_wp2
          go_loopw [11] (fun i wr => ∃ k : Nat, k ≤ m ∧ i = .int .i64 (k : Int) ∧ RowB v8.heap.size (.slice Y m c9) m wr ∧ FB g Q wr ∧ Below v0.heap.size v0 wr) (fun i _ => m - (intOf i).toNat)
          case atStart => exact ⟨0, Nat.zero_le _, rfl, ⟨M, HB.out.len, OZ.out⟩, G.out, BV.out⟩
          case round =>
            clear G BV
            obtain ⟨k, hk, rfl, hR, hG, hV⟩ := hrel
            have RR := Lib.hid hR
            have G := Lib.hid hG
            have BV := Lib.hid hV
            clear hR hG hV
            by_cases hlt : k < m
            · obtain ⟨g3, x, hX, hgb, hne, cc, cf⟩ := RR.out.opened G.out k hlt
              subst hX
              have kI : (k : Int) < (m : Int) := by omega
              have KL := Lib.hid hlt
              have HN := Lib.hid (And.intro hgb hne)
              clear hgb hne hlt hk
              go_wp2
              go_roundw
              case rel => exact ⟨k + 1, by have := KL.out; omega, by go_num, RR.out.stored k _, G.out.other HN.out.2 _ _, BV.out.setCell (p := ⟨g3, k, none⟩) (Nat.le_trans NB2.out HN.out.1) _⟩
              case measure => simp [intOf]; have := KL.out; omega
            · have kI : ¬ (k : Int) < (m : Int) := by omega
              clear hlt hk RR
              obtain ⟨v12, hv⟩ : ∃ v, v = wr := ⟨_, rfl⟩
              subst hv
              go_upto_region 22 with fail
              refine wp_region_lit ?_
              refine list_loadF G.out rfl (.tmp 7) rfl (by simp [Act.eval]) ?_
              simp only [Act.put, List.setIfInBounds_toArray, List.set_cons_zero, List.set_cons_succ]
              go_wp2_with fail
              refine ((load_any Q (m : Int) v12).mono fun e w' h => Got.of (QM.out ▸ h) HB.out.len).mono ?_
              rintro e v13 h
              obtain ⟨Z, c13, rfl, o1, l1, b1⟩ := h
              have O13 := Lib.hid (And.intro o1 l1)
              clear o1 l1
              have BV := Lib.hid (BV.out.trans (b1.mono BV.out.size))
              clear b1
              go_wp2_with fail
              refine (((decide_eq_true (rfl : M = M)) ▸ same2_any Z B c13 d m m M M v13 HB.out.len HB.out.len (by have := N1.out; omega) (by have := N1.out; omega) (own_rd O13.out.1) (HB.out.rd.below BV.out) : Calls Try.prog 10 #[.slice Z m c13, .slice B m d] v13 fun e w' => e = .returned (.bool true) ∧ Below v13.heap.size v13 w')).mono ?_
              rintro e v14 ⟨rfl, b1⟩
              have BV := Lib.hid (BV.out.trans (b1.mono BV.out.size))
              clear b1
              go_wp2_with fail
              go_ret
              exact ⟨rfl, BV.out⟩
end Go.Proofs.Ytafgdkgmjigjoaa
