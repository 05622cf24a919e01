/- IcacheExact: the walk, over whatever cache keeps what IcSpec says. -/
import Derived.Test.YtgilkbmipgejeaaDoorPk5a
namespace Go.Proofs.YtgilkbmipgejeaaDoor
open Go.RowKit Num Dec
set_option linter.unusedVariables false
set_option linter.unusedSimpArgs false

theorem look_mono {l : Ents} {x y : Nat} {i : Ins} (h : (lookE l y).isSome = true) : (lookE (l ++ [(x, i)]) y).isSome = true := by
  rw [look_snoc]
  cases hl : lookE l y with
  | none => rw [hl] at h; cases h
  | some j => rfl
theorem wr16_nat {x : Nat} (h : x ≤ 65535) : wr16 (x : Int) = x := by unfold wr16; omega
theorem wrap_u16i {x : Int} (h0 : 0 ≤ x) (h : x ≤ 65535) : IntKind.i64.wrap x = x := by rw [IntKind.wrap_i64]; omega

set_option maxRecDepth 100000 in
set_option maxHeartbeats 8000000 in
theorem icacheExact_walk {F : IcForm} (S : IcSpec F Laid) (AW : ∀ w, Laid w → Calls Tryd.prog 8 #[] w fun e w' => e = .returned (.bool true) ∧ Below w.heap.size w w') (A : Option Addr) (n c : Nat) (R : List Int) (B : Option Addr) (m d : Nat) (L : List Nat) (at_ ln : Int) (w : World) (hA : ArgB w A n c R) (hB : Arg16 w B m L) (wa : (Lit.int .u16 at_).wf = true) (wn : (Lit.int .u16 ln).wf = true) (hL : Laid w) :
    Calls Tryd.prog 5 #[.slice A n c, .slice B m d, .int .u16 at_, .int .u16 ln] w fun e w' => e = .returned (.bool true) ∧ Below w.heap.size w w' := by
  have H := Lib.hid (And.intro hA (And.intro hB hL))
  have n1 := Nat.le_trans hA.cap hA.max
  have AW := Lib.hid AW
  have S := Lib.hid S
  have HU := Lib.hid (And.intro (bd_u16 wa) (bd_u16 wn))
  clear wa wn
  clear hA hB hL
  go_enter Tryd.func5, Tryd.ntmps5
  go_wp2_with fail
  refine (AW.out _ H.out.2.2).mono ?_
  rintro e w1 ⟨rfl, b1⟩
  have B1 := Lib.hid b1
  clear b1
  go_wp2_with fail
  refine (few_any A n c none 0 0 [] _ n1 (Nat.zero_le _) rfl (fun h => absurd rfl h)).mono ?_
  rintro e w' ⟨f1, rfl, hf1, rfl⟩
  have Hf1 := Lib.hid hf1
  clear hf1 n1
  have stop_ : ∀ wi, Below w.heap.size w wi → Calls Tryd.prog 8 #[] wi fun e w' => e = .returned (.bool true) ∧ Below w.heap.size w w' := fun wi hb => (AW.out _ (H.out.2.2.step hb)).mono fun e w' h => ⟨h.1, hb.trans (h.2.mono hb.size)⟩
  have ST := Lib.hid stop_
  clear stop_
  cases f1
  · go_wp2_with fail
    refine (ST.out _ B1.out).mono ?_
    rintro e w3 ⟨rfl, b3⟩
    have B3 := Lib.hid b3
    clear b3
    go_wp2
    go_ret
    exact ⟨rfl, B3.out⟩
  by_cases hm : m ≤ 40
  case neg =>
    have hm2 : (40 : Int) < (m : Int) := by omega
    clear hm
    go_wp2_with fail
    refine (ST.out _ B1.out).mono ?_
    rintro e w3 ⟨rfl, b3⟩
    have B3 := Lib.hid b3
    clear b3
    go_wp2
    go_ret
    exact ⟨rfl, B3.out⟩
  have hm2 : ¬ (40 : Int) < (m : Int) := by omega
  obtain ⟨n2, _, _⟩ := Hf1.out rfl
  have HM := Lib.hid hm
  clear Hf1 hm ST
  go_wp2_with fail
  refine (new_yes A n c R _ (by omega) H.out.1.len (H.out.1.rd.below B1.out) (H.out.2.2.step B1.out)).mono ?_
  rintro e w2 h
  obtain ⟨pm, rfl, hpm, mm, b2⟩ := h
  have MM := Lib.hid mm
  have HMB := Lib.hid (And.intro (initial_len R) (btm_initial H.out.1.bd))
  have B2 := Lib.hid (B1.out.trans (b2.mono B1.out.size))
  generalize initial R = M at MM HMB
  clear mm b2 hpm B1 hm2
  go_wp2_with fail
  refine (S.out.new_ 3 true _ (H.out.2.2.step B2.out) (by decide)).mono ?_
  rintro e w3 ⟨p, O, rfl, hF, hO, b3⟩
  have IA := Lib.hid (IcAt.mk (base := w2.heap.size) hF hO (S.out.lt _ _ _ _ _ _ _ _ hF) b3.size)
  have MM := Lib.hid (And.intro MM.out.lt (MM.out.keep (b3.block pm MM.out.lt)))
  have B3 := Lib.hid (B2.out.trans (b3.mono B2.out.size))
  have BS := Lib.hid B2.out.size
  generalize w2.heap.size = base at IA MM BS
  clear hF hO b3 B2
  go_wp2_with fail
  go_loopw [12] (fun vi wr => ∃ (k : Nat) (O : Nat → Prop) (l : Ents) (h m' : Nat), k ≤ m ∧ vi = .int .i64 (k : Int) ∧ IcAt F base O p 3 true l h m' wr ∧ (h + m' = k ∧ l.length ≤ k) ∧ (∀ j, j < k → (lookE l (wr16 (L.getD j 0 : Nat))).isSome = true) ∧ MemAt pm M (.slice none 0 0) wr ∧ Below w.heap.size w wr) (fun vi _ => m - (intOf vi).toNat)
  case atStart => exact ⟨0, O, [], 0, 0, Nat.zero_le _, rfl, IA.out, ⟨rfl, Nat.le_refl _⟩, fun j hj => absurd hj (Nat.not_lt_zero _), MM.out.2, B3.out⟩
  case round =>
    obtain ⟨k, O, l, h, m', hk, rfl, ia, hc, hall, mm, bb⟩ := hrel
    have IA := Lib.hid ia
    have HC := Lib.hid hc
    have HALL := Lib.hid hall
    have MM := Lib.hid (And.intro MM.out.1 mm)
    have BB := Lib.hid bb
    clear ia hc hall mm bb B3
    by_cases hlt : k < m
    · have kl : k < L.length := by have := H.out.2.1.len; omega
      obtain ⟨ad, rfl, hb, hcell⟩ := H.out.2.1.rd.at_ kl
      have hx : L.getD k 0 ≤ 65535 := by
        rw [List.getD_eq_getElem?_getD, List.getElem?_eq_getElem kl]
        exact H.out.2.1.le _ (List.getElem_mem kl)
      obtain ⟨x, hxe⟩ : ∃ x, L.getD k 0 = x := ⟨_, rfl⟩
      rw [hxe] at hcell hx
      have HXE := Lib.hid hxe
      have HCX := Lib.hid (fun (w' : World) (hb' : Below w.heap.size w w') => (hb'.cell (p := ad.add k) (by rw [add_block16]; exact hb)).trans hcell)
      have HX := Lib.hid hx
      have HK := Lib.hid hlt
      have hki : (k : Int) < (m : Int) := by omega
      have hk4 : k ≤ 40 := by have := HM.out; omega
      clear hk hlt kl hx hcell hxe
      have cx := wrap_u16 HX.out
      have hcell := HCX.out wr BB.out
      go_wp2_with fail
      clear cx hcell
      refine (S.out.get (a := (x : Int)) (H.out.2.2.step BB.out) IA.out.form MM.out.2 HMB.out.1 HMB.out.2 (IA.out.away MM.out.1) (by omega) (by have := HX.out; omega) (by have := HC.out; omega) (by have := HC.out; omega) (by have := HC.out; omega)).mono ?_
      rintro e w4 ⟨i, l1, h1, m1, rfl, ht, hl1, hc1, hm1, hle, hor⟩
      obtain ⟨O1, ia, hg, hk, hb1⟩ := IA.out.to S.out ht
      have MM1 := Lib.hid (MM.out.2.keep (hk.block pm MM.out.2.lt (IA.out.away MM.out.1)))
      have IA1 := Lib.hid ia
      have HC1 := Lib.hid (show h1 + m1 = k + 1 ∧ l1.length ≤ k + 1 from ⟨by have := HC.out.1; omega, by have := HC.out.2; omega⟩)
      have BB1 := Lib.hid (BB.out.trans (hb1.mono BS.out))
      have HALL1 := Lib.hid (show ∀ j, j < k + 1 → (lookE l1 (wr16 (L.getD j 0 : Nat))).isSome = true from fun j hj => by
        by_cases e : j = k
        · subst e
          rw [HXE.out, hl1]
          rfl
        · have hj0 := HALL.out j (by omega)
          rcases hor with ⟨_, e1⟩ | ⟨_, _, e1⟩
          · rw [e1]; exact hj0
          · rw [e1]; exact look_mono hj0)
      clear ht ia hg hk hb1 hl1 hc1 hm1 hle IA HC BB hor HALL hk4
      go_wp2_with fail
      exact ⟨⟨k + 1, O1, l1, h1, m1, HK.out, rfl, IA1.out, HC1.out, HALL1.out, MM1.out, BB1.out⟩, by have := HK.out; simp [intOf]; omega⟩
    · obtain rfl : k = m := by omega
      clear hk hlt
      have ca := wrap_u16i HU.out.1.1 HU.out.1.2
      have cn := wrap_u16i HU.out.2.1 HU.out.2.2
      have X5 := Lib.hid (below_new' wr (.cells #[.int .i64 at_, .int .i64 ln] 52))
      have G5 := Lib.hid (Blk.new wr 52 #[.int .i64 at_, .int .i64 ln])
      have NG := Lib.hid (show ¬ O wr.heap.size from fun c => Nat.lt_irrefl _ (IA.out.lt _ c))
      go_wp2_with fail
      clear ca cn
      refine (S.out.drop O p 3 true l h m' _ ⟨wr.heap.size, 0, none⟩ 1 at_ ln (H.out.2.2.step (BB.out.trans (X5.out.mono BB.out.size))) (S.out.step IA.out.form X5.out) ((G5.out.cell 0).trans rfl) ((G5.out.cell 1).trans rfl) G5.out.lt NG.out HU.out.1.1 HU.out.1.2 HU.out.2.1 (Int.le_trans HU.out.2.2 (by decide)) (by have := HC.out; have := HM.out; omega) (Nat.le_refl 1)).mono ?_
      rintro e w5 ⟨rfl, ht⟩
      obtain ⟨O5, ia, hg, hk, hb1⟩ := (IA.out.step S.out X5.out).to S.out ht
      have IA5 := Lib.hid ia
      have BB5 := Lib.hid (BB.out.trans ((X5.out.mono IA.out.base_le).trans hb1 |>.mono BS.out))
      have LL5 := Lib.hid (show (dropE l at_ ln).length ≤ 1000 by have h1 := List.length_filter_le (fun p : Nat × Ins => !hitB (p.1 : Int) at_ ln) l; have := HC.out; have := HM.out; unfold dropE; omega)
      have LK5 := Lib.hid (show ∀ j, j < k → (lookE (dropE l at_ ln) (wr16 (L.getD j 0 : Nat))).isSome = !hitB ((wr16 (L.getD j 0 : Nat) : Nat) : Int) at_ ln from fun j hj => by
        have := HALL.out j hj
        rw [look_drop]
        cases hitB ((wr16 (L.getD j 0 : Nat) : Nat) : Int) at_ ln
        · simpa using this
        · simp)
      generalize dropE l at_ ln = l5 at IA5 LL5 LK5
      clear ht ia hg hk hb1 G5 X5 NG IA BB HALL HC MM
      go_wp2_with fail
      go_loopw [13] (fun vi wr => ∃ (j : Nat), j ≤ k ∧ vi = .int .i64 (j : Int) ∧ IcAt F base O5 p 3 true l5 h m' wr ∧ Below w.heap.size w wr) (fun vi _ => k - (intOf vi).toNat)
      case atStart => exact ⟨0, Nat.zero_le _, rfl, IA5.out, BB5.out⟩
      case round =>
        obtain ⟨j, hk, rfl, ia, bb⟩ := hrel
        have IA := Lib.hid ia
        have BB := Lib.hid bb
        clear ia bb
        by_cases hlt : j < k
        · have kl : j < L.length := by have := H.out.2.1.len; omega
          obtain ⟨ad, rfl, hb, hcell⟩ := H.out.2.1.rd.at_ kl
          have hx : L.getD j 0 ≤ 65535 := by
            rw [List.getD_eq_getElem?_getD, List.getElem?_eq_getElem kl]
            exact H.out.2.1.le _ (List.getElem_mem kl)
          have hlk := LK5.out j hlt
          obtain ⟨x, hxe⟩ : ∃ x, L.getD j 0 = x := ⟨_, rfl⟩
          rw [hxe] at hcell hx hlk
          rw [wr16_nat hx] at hlk
          have PK := Lib.hid hlk
          have HCX := Lib.hid (fun (w' : World) (hb' : Below w.heap.size w w') => (hb'.cell (p := ad.add j) (by rw [add_block16]; exact hb)).trans hcell)
          have HX := Lib.hid hx
          have HK := Lib.hid hlt
          have hki : (j : Int) < (k : Int) := by omega
          clear hk hlt kl hx hcell hxe hlk
          obtain ⟨wo, hwo⟩ : ∃ wo, wo = wr := ⟨_, rfl⟩
          subst hwo
          go_wp2_with fail
          go_loopw [14, 15] (fun v9 v10 wi => ∃ q : Nat, q ≤ 4 ∧ v10 = .int .i64 (q : Int) ∧ v9 = .bool (hitTo (x : Int) at_ ln q) ∧ wi = wo) (fun _ v10 _ => 4 - (intOf v10).toNat)
          case atStart => exact ⟨0, Nat.zero_le _, rfl, rfl, rfl⟩
          case round =>
            obtain ⟨q, hj, rfl, rfl, rfl⟩ := hrel
            by_cases hj4 : q < 4
            · have HJ := Lib.hid hj4
              have hji : (q : Int) < 4 := by omega
              have HS := Lib.hid (show hitTo (x : Int) at_ ln (q + 1) = (hitTo (x : Int) at_ ln q || decide (((x : Int) + (q : Int) - at_) % 65536 < ln)) from rfl)
              generalize hitTo (x : Int) at_ ln q = hb at HS
              cases hb
              · obtain ⟨z, hz⟩ : ∃ z : Nat, ((x : Int) + (q : Int) - at_) % 65536 = (z : Int) := ⟨(((x : Int) + (q : Int) - at_) % 65536).toNat, by omega⟩
                obtain ⟨s, r, SW, hr⟩ := sumWrap HX.out (Nat.le_of_lt hj4) (by have := HU.out.1; omega : -2000000 ≤ at_) (by have := HU.out.1; omega)
                have SW := Lib.hid SW
                have MO := Lib.hid (fun w => mmod_any r z w (by rw [hr]; exact hz))
                rw [hz] at HS
                have hcell := HCX.out _ BB.out
                clear hz hr hj hj4
                by_cases hzm : (z : Int) < ln
                · have HS := Lib.hid (show hitTo (x : Int) at_ ln (q + 1) = true by rw [HS.out, decide_eq_true hzm]; rfl)
                  have cx := wrap_u16 HX.out
                  have ca := wrap_u16i HU.out.1.1 HU.out.1.2
                  have cn := wrap_u16i HU.out.2.1 HU.out.2.2
                  obtain ⟨s1, s2⟩ := SW.out
                  go_wp2_with fail
                  refine (MO.out _).mono ?_
                  rintro e w6 ⟨rfl, rfl⟩
                  clear s1 s2 cx ca
                  go_wp2_with fail
                  clear cn
                  exact ⟨⟨q + 1, HJ.out, rfl, by rw [HS.out], trivial⟩, by have := HJ.out; simp [intOf]; omega⟩
                · have HS := Lib.hid (show hitTo (x : Int) at_ ln (q + 1) = false by rw [HS.out, decide_eq_false hzm]; rfl)
                  have cx := wrap_u16 HX.out
                  have ca := wrap_u16i HU.out.1.1 HU.out.1.2
                  have cn := wrap_u16i HU.out.2.1 HU.out.2.2
                  obtain ⟨s1, s2⟩ := SW.out
                  go_wp2_with fail
                  refine (MO.out _).mono ?_
                  rintro e w6 ⟨rfl, rfl⟩
                  clear s1 s2 cx ca
                  go_wp2_with fail
                  clear cn
                  exact ⟨⟨q + 1, HJ.out, rfl, by rw [HS.out, decide_eq_false (by omega)], trivial⟩, by have := HJ.out; simp [intOf]; omega⟩
              · have HS := Lib.hid (show hitTo (x : Int) at_ ln (q + 1) = true by rw [HS.out]; rfl)
                clear hj hj4
                go_wp2_with fail
                exact ⟨⟨q + 1, HJ.out, rfl, by rw [HS.out], trivial⟩, by have := HJ.out; simp [intOf]; omega⟩
            · obtain rfl : q = 4 := by omega
              rw [hitTo_all]
              clear hj hj4
              have PE := Lib.hid (S.out.peek O5 p 3 true l5 h m' _ (x : Int) (H.out.2.2.step BB.out) IA.out.form (by omega) (by have := HX.out; omega) LL5.out)
              rw [wr16_nat HX.out] at PE
              rw [PK.out] at PE
              generalize peekE l5 (x : Int) = i at PE
              generalize hitB (x : Int) at_ ln = hb at PE
              obtain ⟨o, xx, y, nf, nn, a, len⟩ := i
              unfold icells at PE
              simp only at PE
              have cx := wrap_u16 HX.out
              have hcell := HCX.out _ BB.out
              go_wp2_with fail
              clear cx hcell
              refine PE.out.mono ?_
              rintro e w6 ⟨rfl, b6⟩
              have IA6 := Lib.hid (IA.out.step S.out b6)
              have BB6 := Lib.hid (BB.out.trans (b6.mono BB.out.size))
              clear b6 IA BB
              have X7 := Lib.hid (below_new' w6 (.cells #[.int .i64 o, .int .i64 xx, .int .i64 y, .int .i64 nf, .int .i64 nn, .int .i64 a, .int .i64 len] 38))
              have IA7 := Lib.hid (IA6.out.step S.out X7.out)
              have BB7 := Lib.hid (BB6.out.trans (X7.out.mono BB6.out.size))
              cases hb
              all_goals
                go_wp2_with fail
                exact ⟨⟨j + 1, HK.out, rfl, IA7.out, BB7.out⟩, by have := HK.out; simp [intOf]; omega⟩
        · obtain rfl : j = k := by omega
          clear hk hlt
          go_wp2_with fail
          go_ret
          exact ⟨rfl, BB.out⟩
end Go.Proofs.YtgilkbmipgejeaaDoor
