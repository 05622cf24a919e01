/- IcacheFlushes: the walk, over whatever cache keeps what IcSpec says. -/
import Derived.Test.YtgilkbmipgejeaaDoorKIcExactW
import Derived.Test.YtgilkbmipgejeaaDoorPk0a
import Derived.Test.YtgilkbmipgejeaaDoorPk1a
namespace Go.Proofs.YtgilkbmipgejeaaDoor
open Go.RowKit Num Dec
set_option linter.unusedVariables false
set_option linter.unusedSimpArgs false

/-- Each entry is what the bytes are decoded to. -/
def Coh (M : List Int) (lv : Int) (l : Ents) : Prop := ∀ y j, lookE l y = some j → j = decAt M (y : Int) lv
theorem Coh.nil {M : List Int} {lv : Int} : Coh M lv [] := fun y j h => by cases h
theorem Coh.snoc {M : List Int} {lv : Int} {l : Ents} (h : Coh M lv l) (y : Nat) : Coh M lv (l ++ [(y, decAt M (y : Int) lv)]) := fun z j hz => by
  rw [look_snoc] at hz
  cases hl : lookE l z with
  | some i =>
    rw [hl] at hz
    simp only [Option.some.injEq] at hz
    subst hz
    exact h z _ hl
  | none =>
    rw [hl] at hz
    by_cases e : y = z
    · subst e
      simp at hz
      exact hz.symm
    · simp [e] at hz
theorem decAt_mod (M : List Int) (a lv : Int) : decAt M ((wr16 a : Nat) : Int) lv = decAt M a lv := by
  have e : ∀ n, seg M ((wr16 a : Nat) : Int) n = seg M a n := fun n => by
    unfold seg wr16
    apply List.map_congr_left
    intro i _
    congr 2
    omega
  unfold decAt byAt
  rw [e]

set_option maxRecDepth 100000 in
set_option maxHeartbeats 8000000 in
theorem icacheFlushes_walk {F : IcForm} (S : IcSpec F Laid) (AW : ∀ w, Laid w → Calls Tryd.prog 8 #[] w fun e w' => e = .returned (.bool true) ∧ Below w.heap.size w w') (A : Option Addr) (n c : Nat) (R : List Int) (B : Option Addr) (m d : Nat) (L : List Nat) (at_ : Int) (C : Option Addr) (q f : Nat) (Z : List Int) (w : World) (hA : ArgB w A n c R) (hB : Arg16 w B m L) (wa : (Lit.int .u16 at_).wf = true) (hZ : ArgB w C q f Z) (hL : Laid w) :
    Calls Tryd.prog 7 #[.slice A n c, .slice B m d, .int .u16 at_, .slice C q f] w fun e w' => e = .returned (.bool true) ∧ Below w.heap.size w w' := by
  have H := Lib.hid (And.intro hA (And.intro hB hL))
  have n1 := Nat.le_trans hA.cap hA.max
  have AW := Lib.hid AW
  have S := Lib.hid S
  have HU := Lib.hid (bd_u16 wa)
  have HZ := Lib.hid hZ
  have q1 := Nat.le_trans hZ.cap hZ.max
  clear wa hZ
  clear hA hB hL
  go_enter Tryd.func7, Tryd.ntmps7
  go_wp2_with fail
  refine (AW.out _ H.out.2.2).mono ?_
  rintro e w1 ⟨rfl, b1⟩
  have B1 := Lib.hid b1
  clear b1
  go_wp2_with fail
  refine (few_any A n c none 0 0 [] _ n1 (Nat.zero_le _) rfl (fun h => absurd rfl h)).mono ?_
  rintro e w' ⟨f1, rfl, hf1, rfl⟩
  have Hf1 := Lib.hid hf1
  clear hf1 n1
  have stop_ : ∀ wi, Below w.heap.size w wi → Calls Tryd.prog 8 #[] wi fun e w' => e = .returned (.bool true) ∧ Below w.heap.size w w' := fun wi hb => (AW.out _ (H.out.2.2.step hb)).mono fun e w' h => ⟨h.1, hb.trans (h.2.mono hb.size)⟩
  have ST := Lib.hid stop_
  clear stop_
  cases f1
  · go_wp2_with fail
    refine (ST.out _ B1.out).mono ?_
    rintro e w3 ⟨rfl, b3⟩
    have B3 := Lib.hid b3
    clear b3
    go_wp2
    go_ret
    exact ⟨rfl, B3.out⟩
  by_cases hm : m ≤ 40
  case neg =>
    have hm2 : (40 : Int) < (m : Int) := by omega
    clear hm
    go_wp2_with fail
    refine (ST.out _ B1.out).mono ?_
    rintro e w3 ⟨rfl, b3⟩
    have B3 := Lib.hid b3
    clear b3
    go_wp2
    go_ret
    exact ⟨rfl, B3.out⟩
  have hm2 : ¬ (40 : Int) < (m : Int) := by omega
  by_cases hq : q ≤ 100
  case neg =>
    have hq2 : (100 : Int) < (q : Int) := by omega
    clear hq
    go_wp2_with fail
    refine (ST.out _ B1.out).mono ?_
    rintro e w3 ⟨rfl, b3⟩
    have B3 := Lib.hid b3
    clear b3
    go_wp2
    go_ret
    exact ⟨rfl, B3.out⟩
  have hq2 : ¬ (100 : Int) < (q : Int) := by omega
  have HQ := Lib.hid hq
  clear hq q1
  obtain ⟨n2, _, _⟩ := Hf1.out rfl
  have HM := Lib.hid hm
  clear Hf1 hm ST
  go_wp2_with fail
  refine (new_yes A n c R _ (by omega) H.out.1.len (H.out.1.rd.below B1.out) (H.out.2.2.step B1.out)).mono ?_
  rintro e w2 h
  obtain ⟨pm, rfl, hpm, mm, b2⟩ := h
  have MM := Lib.hid mm
  have HMB := Lib.hid (And.intro (initial_len R) (btm_initial H.out.1.bd))
  have B2 := Lib.hid (B1.out.trans (b2.mono B1.out.size))
  obtain ⟨M, hMe⟩ : ∃ M, initial R = M := ⟨_, rfl⟩
  rw [hMe] at MM HMB
  have HME := Lib.hid hMe
  clear hMe
  have HPM := Lib.hid (Nat.le_trans B1.out.size hpm)
  have N2 := Lib.hid n2
  clear mm b2 hpm B1 hm2 hq2
  go_wp2_with fail
  refine (S.out.new_ 3 true _ (H.out.2.2.step B2.out) (by decide)).mono ?_
  rintro e w3 ⟨p, O, rfl, hF, hO, b3⟩
  have IA := Lib.hid (IcAt.mk (base := w2.heap.size) hF hO (S.out.lt _ _ _ _ _ _ _ _ hF) b3.size)
  have MM := Lib.hid (And.intro MM.out.lt (MM.out.keep (b3.block pm MM.out.lt)))
  have B3 := Lib.hid (B2.out.trans (b3.mono B2.out.size))
  have BS := Lib.hid B2.out.size
  generalize w2.heap.size = base at IA MM BS
  clear hF hO b3 B2
  go_wp2_with fail
  go_loopw [12] (fun vi wr => ∃ (k : Nat) (O : Nat → Prop) (l : Ents) (h m' : Nat), k ≤ m ∧ vi = .int .i64 (k : Int) ∧ IcAt F base O p 3 true l h m' wr ∧ (h + m' = k ∧ l.length ≤ k) ∧ (∀ j, j < k → (lookE l (wr16 (L.getD j 0 : Nat))).isSome = true) ∧ MemAt pm M (.slice none 0 0) wr ∧ Below w.heap.size w wr) (fun vi _ => m - (intOf vi).toNat)
  case atStart => exact ⟨0, O, [], 0, 0, Nat.zero_le _, rfl, IA.out, ⟨rfl, Nat.le_refl _⟩, fun j hj => absurd hj (Nat.not_lt_zero _), MM.out.2, B3.out⟩
  case round =>
    obtain ⟨k, O, l, h, m', hk, rfl, ia, hc, hall, mm, bb⟩ := hrel
    have IA := Lib.hid ia
    have HC := Lib.hid hc
    have HALL := Lib.hid hall
    have MM := Lib.hid (And.intro MM.out.1 mm)
    have BB := Lib.hid bb
    clear ia hc hall mm bb B3
    by_cases hlt : k < m
    · have kl : k < L.length := by have := H.out.2.1.len; omega
      obtain ⟨ad, rfl, hb, hcell⟩ := H.out.2.1.rd.at_ kl
      have hx : L.getD k 0 ≤ 65535 := by
        rw [List.getD_eq_getElem?_getD, List.getElem?_eq_getElem kl]
        exact H.out.2.1.le _ (List.getElem_mem kl)
      obtain ⟨x, hxe⟩ : ∃ x, L.getD k 0 = x := ⟨_, rfl⟩
      rw [hxe] at hcell hx
      have HXE := Lib.hid hxe
      have HCX := Lib.hid (fun (w' : World) (hb' : Below w.heap.size w w') => (hb'.cell (p := ad.add k) (by rw [add_block16]; exact hb)).trans hcell)
      have HX := Lib.hid hx
      have HK := Lib.hid hlt
      have hki : (k : Int) < (m : Int) := by omega
      have hk4 : k ≤ 40 := by have := HM.out; omega
      clear hk hlt kl hx hcell hxe
      have cx := wrap_u16 HX.out
      have hcell := HCX.out wr BB.out
      go_wp2_with fail
      clear cx hcell
      refine (S.out.get (a := (x : Int)) (H.out.2.2.step BB.out) IA.out.form MM.out.2 HMB.out.1 HMB.out.2 (IA.out.away MM.out.1) (by omega) (by have := HX.out; omega) (by have := HC.out; omega) (by have := HC.out; omega) (by have := HC.out; omega)).mono ?_
      rintro e w4 ⟨i, l1, h1, m1, rfl, ht, hl1, hc1, hm1, hle, hor⟩
      obtain ⟨O1, ia, hg, hk, hb1⟩ := IA.out.to S.out ht
      have MM1 := Lib.hid (MM.out.2.keep (hk.block pm MM.out.2.lt (IA.out.away MM.out.1)))
      have IA1 := Lib.hid ia
      have HC1 := Lib.hid (show h1 + m1 = k + 1 ∧ l1.length ≤ k + 1 from ⟨by have := HC.out.1; omega, by have := HC.out.2; omega⟩)
      have BB1 := Lib.hid (BB.out.trans (hb1.mono BS.out))
      have HALL1 := Lib.hid (show ∀ j, j < k + 1 → (lookE l1 (wr16 (L.getD j 0 : Nat))).isSome = true from fun j hj => by
        by_cases e : j = k
        · subst e
          rw [HXE.out, hl1]
          rfl
        · have hj0 := HALL.out j (by omega)
          rcases hor with ⟨_, e1⟩ | ⟨_, _, e1⟩
          · rw [e1]; exact hj0
          · rw [e1]; exact look_mono hj0)
      clear ht ia hg hk hb1 hl1 hc1 hm1 hle IA HC BB hor HALL hk4
      go_wp2_with fail
      exact ⟨⟨k + 1, O1, l1, h1, m1, HK.out, rfl, IA1.out, HC1.out, HALL1.out, MM1.out, BB1.out⟩, by have := HK.out; simp [intOf]; omega⟩
    · obtain rfl : k = m := by omega
      clear hk hlt
      have ca := wrap_u16i HU.out.1 HU.out.2
      go_wp2_with fail
      clear ca
      refine (write_both pm M (.slice none 0 0) 0 w.heap.size [] at_ C q f Z _ HMB.out.1 MM.out.2 (World.ownsRow_nil _ _ _ _) BB.out.size (Nat.zero_le _) HZ.out.len (by have := HQ.out; omega) HZ.out.cap (HZ.out.rd.below BB.out) (fun ad e h0 c => by have := HZ.out.rd.block_lt' (by rintro rfl; have := HZ.out.len; simp at this; omega) e; have := HPM.out; omega)).mono ?_
      rintro e w4 ⟨rfl, v4, mm, _, ap, _⟩
      obtain ⟨M2, hM2⟩ : ∃ M2, put M at_ Z = M2 := ⟨_, rfl⟩
      rw [hM2] at mm
      have HM2 := Lib.hid hM2
      have M2B := Lib.hid (show M2.length = 65536 ∧ BtM M2 from ⟨by rw [← hM2, put_len]; exact HMB.out.1, by rw [← hM2]; exact BtM.put _ _ _ HMB.out.2 HZ.out.bd⟩)
      have MM4 := Lib.hid mm
      have IA4 := Lib.hid (show IcAt F base O p 3 true l h m' w4 from ⟨S.out.keep O _ p 3 true l h m' wr w4 IA.out.form (Kept.of_apart ap) (fun k hk c => by
        rcases c with c | c
        · have := IA.out.above k hk; have := MM.out.1; omega
        · cases c), IA.out.above, fun k hk => Nat.lt_of_lt_of_le (IA.out.lt k hk) ap.size, Nat.le_trans IA.out.base_le ap.size⟩)
      have BB4 := Lib.hid (BB.out.trans (ap.below BB.out.size HPM.out (fun k hk => by cases hk)))
      have LL := Lib.hid (show l.length ≤ 1000 by have := HC.out; have := HM.out; omega)
      have HH := Lib.hid (show h + m' = k from HC.out.1)
      have AW0 := Lib.hid (IA.out.away MM.out.1)
      clear mm ap hM2 HALL HC BB IA
      go_wp2_with fail
      refine (rnew_any A n c R _ H.out.1.len (by have := N2.out; omega) (H.out.1.rd.below BB4.out)).mono ?_
      rintro e w5 hh
      obtain ⟨N, hN⟩ : ∃ N, N = 65536 := ⟨_, rfl⟩
      obtain ⟨g, cw, rfl, _, glt, o5, b5⟩ := hh.bytes (n := N) (by rw [initial_len, hN]) (by omega)
      rw [HME.out] at o5
      have O5 := Lib.hid (And.intro glt (own_at o5))
      have NN := Lib.hid hN
      have IA5 := Lib.hid (IA4.out.step S.out b5)
      have BB5 := Lib.hid (BB4.out.trans (b5.mono BB4.out.size))
      have MM5 := Lib.hid (MM4.out.keep (b5.block pm MM4.out.lt))
      clear hh hN glt o5 b5 IA4 BB4 MM4
      have ca := wrap_u16i HU.out.1 HU.out.2
      go_wp2_with fail
      clear ca
      refine (rput_any ⟨g, 0, none⟩ N cw M at_ C q f Z _ NN.out (by rw [NN.out]; exact HMB.out.1) O5.out (by have := HU.out; omega) (by have := HU.out; omega) HZ.out.len (by have := HQ.out; omega) (HZ.out.rd.below BB5.out)).mono ?_
      rintro e w6 hh
      rw [HM2.out] at hh
      obtain ⟨g2, c2, rfl, gle, glt, o6, b6⟩ := hh.bytes (n := N) (by rw [NN.out]; exact M2B.out.1) (by have := NN.out; omega)
      have GO := Lib.hid (show ¬ O g2 from fun c => by have := IA5.out.lt _ c; omega)
      have O6 := Lib.hid o6
      have IA6 := Lib.hid (IA5.out.step S.out b6)
      have BB6 := Lib.hid (BB5.out.trans (b6.mono BB5.out.size))
      have MM6 := Lib.hid (MM5.out.keep (b6.block pm MM5.out.lt))
      generalize w5.heap.size = base5 at O6
      clear hh gle glt o6 b6 IA5 BB5 MM5 O5
      go_wp2_with fail
      refine (S.out.flush O p 3 true l h m' _ (H.out.2.2.step BB6.out) IA6.out.form LL.out).mono ?_
      rintro e w7 ⟨rfl, ht⟩
      obtain ⟨O7, ia, hg, hk, hb1⟩ := IA6.out.to S.out ht
      have IA7 := Lib.hid ia
      have BB7 := Lib.hid (BB6.out.trans (hb1.mono BS.out))
      have MM7 := Lib.hid (MM6.out.keep (hk.block pm MM6.out.lt AW0.out))
      have O7O := Lib.hid (own_kept O6.out hk (fun b hb => by injection hb with hb; subst hb; exact GO.out))
      have GO7 := Lib.hid (show ¬ O7 g2 from hg.away (O6.out.lt g2 rfl).2 GO.out)
      clear ht ia hg hk hb1 IA6 BB6 MM6 O6 GO AW0
      go_wp2_with fail
      refine (S.out.valid O7 p 3 true [] h m' _ (H.out.2.2.step BB7.out) IA7.out.form (Nat.zero_le _)).mono ?_
      rintro e w8 ⟨rfl, b8⟩
      have IA8 := Lib.hid (IA7.out.step S.out b8)
      have BB8 := Lib.hid (BB7.out.trans (b8.mono BB7.out.size))
      have MM8 := Lib.hid (MM7.out.keep (b8.block pm MM7.out.lt))
      have O8 := Lib.hid (own_kept O7O.out (Kept.of_below (O := fun _ => False) b8) (fun _ _ c => c))
      clear b8 IA7 BB7 MM7 O7O
      rw [show ((([] : Ents).length : Nat) : Int) = 0 from rfl]
      go_wp2_with fail
      go_loopw [14] (fun vi wr => ∃ (j : Nat) (O : Nat → Prop) (l : Ents) (h m' : Nat), j ≤ k ∧ vi = .int .i64 (j : Int) ∧ IcAt F base O p 3 true l h m' wr ∧ (h + m' = k + j ∧ l.length ≤ j) ∧ Coh M2 3 l ∧ MemAt pm M2 v4 wr ∧ wr.ownsRow base5 5 1 (.slice (some ⟨g2, 0, none⟩) N c2) N (M2.map (Value.int .u8)) ∧ ¬ O g2 ∧ Below w.heap.size w wr) (fun vi _ => k - (intOf vi).toNat)
      case atStart => exact ⟨0, O7, [], h, m', Nat.zero_le _, rfl, IA8.out, ⟨HH.out, Nat.le_refl _⟩, Coh.nil, MM8.out, O8.out, GO7.out, BB8.out⟩
      case round =>
        obtain ⟨j, O, l, h, m', hk, rfl, ia, hc, hco, mm, oo, hgo, bb⟩ := hrel
        have IA := Lib.hid ia
        have HC := Lib.hid hc
        have HCO := Lib.hid hco
        have MMR := Lib.hid mm
        have OO := Lib.hid oo
        have HGO := Lib.hid hgo
        have BB := Lib.hid bb
        clear ia hc hco mm oo hgo bb
        by_cases hlt : j < k
        · have kl : j < L.length := by have := H.out.2.1.len; omega
          obtain ⟨ad, rfl, hb, hcell⟩ := H.out.2.1.rd.at_ kl
          have hx : L.getD j 0 ≤ 65535 := by
            rw [List.getD_eq_getElem?_getD, List.getElem?_eq_getElem kl]
            exact H.out.2.1.le _ (List.getElem_mem kl)
          generalize L.getD j 0 = x at hcell hx
          have HX := Lib.hid hx
          have HK := Lib.hid hlt
          have hki : (j : Int) < (k : Int) := by omega
          have hk4 : k ≤ 40 := HM.out
          have HB := Lib.hid hb
          have HCE := Lib.hid hcell
          clear hk hlt kl hx hcell hb
          have cx := wrap_u16 HX.out
          go_upto_region 19 with fail
          refine wp_region_mix (C := fun w' => ∃ x : Calm w, w' = x.w) [([0, 1, 2, 3, 4, 5, 6, 8, 9, 10, 11, 12, 13], 7), ([], 14)] [15] (by kernel_rfl) (by kernel_rfl) (fun _ _ d _ _ h => by cases d <;> exact h) ⟨⟨wr.drew, BB.out.drew⟩, rfl⟩ ?_
          intro wd hwd
          have bd : Below wr.heap.size wr wd := by rw [hwd]; exact (Below.refl _ _).drew
          have IAD := Lib.hid (IA.out.step S.out bd)
          have MMD := Lib.hid (MMR.out.keep (bd.block pm MMR.out.lt))
          have OOD := Lib.hid (own_kept OO.out (Kept.of_below (O := fun _ => False) bd) (fun _ _ c => c))
          have BBD := Lib.hid (BB.out.trans (bd.mono BB.out.size))
          clear hwd bd IA MMR OO BB
          have kc : ∀ u : Calm w, u.w.cell? (ad.add j) = some (.int .u16 (x : Int)) := fun u => (u.below.cell (p := ad.add j) (by rw [add_block16]; exact HB.out)).trans HCE.out
          refine mix_run (by simp only [opsAt, List.getElem?_toArray, List.getElem?_cons_succ, List.getElem?_cons_zero]; rfl) (by rfl) ?_
          repeat (go_big_quiet_step (fail))
          refine wpQuiet_nil ?_
          refine mix_call (by rfl) ?_
          intro K hK
          go_wp2_with fail
          clear cx kc
          obtain ⟨⟨o, xx, y, nf, nn, a, len⟩, hI⟩ : ∃ I, decAt M2 (x : Int) 3 = I := ⟨_, rfl⟩
          have RD := Lib.hid (fun w9 (hr : (⟨g2, 0, none⟩ : Addr).block < w9.heap.size ∧ ∀ j (h : j < M2.length), w9.cell? ((⟨g2, 0, none⟩ : Addr).add j) = some (.int .u8 M2[j])) => hI ▸ rdecoded_any ⟨g2, 0, none⟩ N c2 M2 (x : Int) 3 w9 NN.out (by rw [NN.out]; exact M2B.out.1) M2B.out.2 hr (by omega) (by have := HX.out; omega))
          refine (S.out.get (a := (x : Int)) (H.out.2.2.step BBD.out) IAD.out.form MMD.out M2B.out.1 M2B.out.2 (IAD.out.away MM.out.1) (by omega) (by have := HX.out; omega) (by have := HC.out; omega) (by have := HC.out; omega) (by have := HC.out; omega)).mono ?_
          rintro e w4 ⟨i, l1, h1, m1, rfl, ht, hl1, hc1, hm1, hle, hor⟩
          obtain ⟨hi, hco⟩ : i = decAt M2 (x : Int) 3 ∧ Coh M2 3 l1 := by
            rcases hor with ⟨e1, e2⟩ | ⟨_, e1, e2⟩
            · exact ⟨by rw [HCO.out _ _ e1, decAt_mod], e2 ▸ HCO.out⟩
            · refine ⟨e1, ?_⟩
              rw [e2, e1, ← decAt_mod]
              exact HCO.out.snoc _
          rw [hI] at hi
          subst hi
          obtain ⟨O1, ia, hg, hk, hb1⟩ := IAD.out.to S.out ht
          have MM1 := Lib.hid (MMD.out.keep (hk.block pm MMD.out.lt (IAD.out.away MM.out.1)))
          have IA1 := Lib.hid ia
          have HC1 := Lib.hid (show h1 + m1 = k + (j + 1) ∧ l1.length ≤ j + 1 from ⟨by have := HC.out.1; omega, by have := HC.out.2; omega⟩)
          have BB1 := Lib.hid (BBD.out.trans (hb1.mono BS.out))
          have HCO1 := Lib.hid hco
          have OO1 := Lib.hid (own_kept OOD.out hk (fun b hb => by injection hb with hb; subst hb; exact HGO.out))
          have HGO1 := Lib.hid (show ¬ O1 g2 from hg.away (OOD.out.lt g2 rfl).2 HGO.out)
          clear ht ia hg hk hb1 hl1 hc1 hm1 hle hor hco IAD MMD BBD OOD HC HCO HGO hI hk4
          unfold icells
          simp only []
          refine hK _ _ ⟨⟨w4, BB1.out⟩, rfl⟩ ?_
          clear hK K
          refine mix_run (by simp only [opsAt, List.getElem?_toArray, List.getElem?_cons_succ, List.getElem?_cons_zero]; rfl) (by rfl) ?_
          refine wpQuiet_nil ?_
          refine mix_call (by rfl) ?_
          intro K hK
          go_wp2_with fail
          refine (RD.out _ ⟨(OO1.out.lt g2 rfl).2, own_at OO1.out⟩).mono ?_
          rintro e w9 ⟨rfl, b9⟩
          have IA9 := Lib.hid (IA1.out.step S.out b9)
          have MM9 := Lib.hid (MM1.out.keep (b9.block pm MM1.out.lt))
          have OO9 := Lib.hid (own_kept OO1.out (Kept.of_below (O := fun _ => False) b9) (fun _ _ c => c))
          have BB9 := Lib.hid (BB1.out.trans (b9.mono BB1.out.size))
          clear b9 IA1 MM1 OO1 BB1 RD
          unfold icells
          simp only []
          refine hK _ _ ⟨⟨w9, BB9.out⟩, rfl⟩ ?_
          clear hK K
          refine mix_last (by simp only [opsAt, List.getElem?_toArray, List.getElem?_cons_succ, List.getElem?_cons_zero]; rfl) ?_
          repeat (go_big_quiet_step (rfl))
          refine wpQuiet_nil ?_
          go_wp2_with fail
          exact ⟨⟨j + 1, O1, l1, h1, m1, HK.out, rfl, IA9.out, HC1.out, HCO1.out, MM9.out, OO9.out, HGO1.out, BB9.out⟩, by have := HK.out; simp [intOf]; omega⟩
        · obtain rfl : j = k := by omega
          clear hk hlt
          go_wp2_with fail
          go_ret
          exact ⟨rfl, BB.out⟩
end Go.Proofs.YtgilkbmipgejeaaDoor
