/- IcacheCoherent: the walk, over whatever cache keeps what IcSpec says. -/
import Derived.Test.YtgilkbmipgejeaaDoorKIcFlushesW
namespace Go.Proofs.YtgilkbmipgejeaaDoor
open Go.RowKit Num Dec
set_option linter.unusedVariables false
set_option linter.unusedSimpArgs false

theorem hit_mod (x a n : Int) : hitB x (a % 65536) n = hitB x a n := by
  unfold hitB
  have e : ∀ z : Int, (z - a % 65536) % 65536 = (z - a) % 65536 := fun z => by omega
  simp only [e]
theorem Coh.drop {M b : List Int} {lv a : Int} {l : Ents} (h : Coh M lv l) (hM : M.length = 65536) (hb : b.length ≤ 65536) : Coh (put M a b) lv (dropE l a b.length) := fun y j hj => by
  rw [look_drop] at hj
  cases hh : hitB (y : Int) a b.length
  · rw [hh] at hj
    rw [h y j (by simpa using hj), decAt_miss M b y a lv hM hb hh]
  · rw [hh] at hj
    simp at hj
theorem drop_mod (l : Ents) (a n : Int) : dropE l (a % 65536) n = dropE l a n := by unfold dropE; simp only [hit_mod]
theorem drop_zero (l : Ents) (a : Int) : dropE l a 0 = l := by
  unfold dropE
  rw [List.filter_eq_self]
  intro p _
  have : hitB (p.1 : Int) a 0 = false := by
    unfold hitB
    simp
    omega
  rw [this]
  rfl
/-- Invalidate of what a memory's log holds behind one write. -/
theorem IcSpec.inval {F : IcForm} {La : World → Prop} (S : IcSpec F La) {O : Nat → Prop} {p h m base : Nat} {lv : Int} {en : Bool} {l : Ents} {w : World} {v : Value} {a : Int} {q : Nat} (hl : La w) (hf : F O p lv en l h m w)
    (ho : w.ownsRow base 52 2 v (cnt q) (entry a q)) (hn : ∀ g, v.ownBlock = some g → ¬ O g) (hq : q ≤ 65536) (l1 : l.length ≤ 1000) :
    Calls Tryd.prog 20 #[.pointer (some ⟨p, 0, none⟩), v] w fun e w' => e = .returned (.tuple #[]) ∧ IcTo F O p lv en (dropE l a q) h m w w' := by
  by_cases h0 : q = 0
  · subst h0
    have h1 : ∃ A c, v = .slice A 0 c := by
      rcases ho.2 with ⟨rfl, _⟩ | ⟨g, cap, cur, rfl, _⟩
      · exact ⟨none, 0, rfl⟩
      · exact ⟨_, cap, rfl⟩
    obtain ⟨A, c, rfl⟩ := h1
    have := S.drop0 O p lv en l h m w A c hl hf l1
    rw [show ((0 : Nat) : Int) = 0 from rfl, drop_zero]
    exact this
  · have e1 : cnt q = 1 := by simp [cnt, h0]
    have e2 : entry a q = [.int .i64 (a % 65536), .int .i64 q] := by simp [entry, h0]
    rw [e1, e2] at ho
    obtain ⟨g, c, rfl, hg, hlt⟩ := ho.form (by decide)
    rw [← drop_mod]
    exact S.drop O p lv en l h m w ⟨g, 0, none⟩ c (a % 65536) q hl hf ((ho.cellAt 0 (by decide)).trans rfl) (by rw [add_pl]; exact (ho.cellAt 1 (by decide)).trans rfl) hlt (hn g rfl) (by omega) (by omega) (by omega) (by omega) l1 (own_cap ho)

/-- A world as W was below its end, in which the box of a step lies. -/
def CalmS (W : World) (g : Nat) (cs : Array Value) : Type := { w' : World // Below W.heap.size W w' ∧ Blk g 36 cs w' }
def CalmS.w {W : World} {g : Nat} {cs : Array Value} (x : CalmS W g cs) : World := x.1
theorem CalmS.cell {W : World} {g : Nat} {cs : Array Value} (x : CalmS W g cs) (j : Nat) : x.w.cell? ⟨g, j, none⟩ = cs[j]? := x.2.2.cell j

set_option maxRecDepth 100000 in
set_option maxHeartbeats 16000000 in
theorem icacheCoherent_walk {F : IcForm} (S : IcSpec F Laid) (AW : ∀ w, Laid w → Calls Tryd.prog 8 #[] w fun e w' => e = .returned (.bool true) ∧ Below w.heap.size w w') (A : Option Addr) (n c : Nat) (R : List Int) (lv : Int) (B : Option Addr) (m d : Nat) (L : List Stp16) (w : World) (hA : ArgB w A n c R) (wl : (Lit.int .i64 lv).wf = true) (hB : Sts16 w B m L) (hL : Laid w) :
    Calls Tryd.prog 4 #[.slice A n c, .int .i64 lv, .slice B m d] w fun e w' => e = .returned (.bool true) ∧ Below w.heap.size w w' := by
  have H := Lib.hid (And.intro hA (And.intro hB hL))
  have n1 := Nat.le_trans hA.cap hA.max
  have AW := Lib.hid AW
  have S := Lib.hid S
  have WL := Lib.hid wl
  clear hA hB hL wl
  go_enter Tryd.func4, Tryd.ntmps4
  go_wp2_with fail
  refine (AW.out _ H.out.2.2).mono ?_
  rintro e w1 ⟨rfl, b1⟩
  have B1 := Lib.hid b1
  clear b1
  go_wp2_with fail
  refine (few_any A n c none 0 0 [] _ n1 (Nat.zero_le _) rfl (fun h => absurd rfl h)).mono ?_
  rintro e w' ⟨f1, rfl, hf1, rfl⟩
  have Hf1 := Lib.hid hf1
  clear hf1 n1
  have stop_ : ∀ wi, Below w.heap.size w wi → Calls Tryd.prog 8 #[] wi fun e w' => e = .returned (.bool true) ∧ Below w.heap.size w w' := fun wi hb => (AW.out _ (H.out.2.2.step hb)).mono fun e w' h => ⟨h.1, hb.trans (h.2.mono hb.size)⟩
  have ST := Lib.hid stop_
  clear stop_
  cases f1
  · skip
    go_wp2_with fail
    refine (ST.out _ B1.out).mono ?_
    rintro e w3 ⟨rfl, b3⟩
    have B3 := Lib.hid b3
    clear b3
    go_wp2
    go_ret
    exact ⟨rfl, B3.out⟩
  go_wp2_with fail
  refine (few16_any B m d L _ (H.out.2.1.below B1.out)).mono ?_
  rintro e w' ⟨f2, rfl, hf2, rfl⟩
  have Hf2 := Lib.hid hf2
  clear hf2
  cases f2
  · skip
    go_wp2_with fail
    refine (ST.out _ B1.out).mono ?_
    rintro e w3 ⟨rfl, b3⟩
    have B3 := Lib.hid b3
    clear b3
    go_wp2
    go_ret
    exact ⟨rfl, B3.out⟩
  obtain ⟨n2, _, _⟩ := Hf1.out trivial
  obtain ⟨m2, sm⟩ := Hf2.out rfl
  have HM := Lib.hid (show m ≤ 40 by have := H.out.2.1.len; omega)
  have SM := Lib.hid sm
  have N2 := Lib.hid n2
  clear Hf1 Hf2 ST sm m2
  go_wp2_with fail
  refine (new_yes A n c R _ (by omega) H.out.1.len (H.out.1.rd.below B1.out) (H.out.2.2.step B1.out)).mono ?_
  rintro e w2 h
  obtain ⟨pm, rfl, hpm, mm, b2⟩ := h
  have MM := Lib.hid mm
  have HMB := Lib.hid (And.intro (initial_len R) (btm_initial H.out.1.bd))
  have B2 := Lib.hid (B1.out.trans (b2.mono B1.out.size))
  have HPM := Lib.hid (Nat.le_trans B1.out.size hpm)
  clear mm b2 hpm B1 n2
  go_wp2_with fail
  refine (S.out.new_ lv true _ (H.out.2.2.step B2.out) WL.out).mono ?_
  rintro e w3 ⟨p, O, rfl, hF, hO, b3⟩
  have IA := Lib.hid (IcAt.mk (base := w2.heap.size) hF hO (S.out.lt _ _ _ _ _ _ _ _ hF) b3.size)
  have MM := Lib.hid (And.intro MM.out.lt (MM.out.keep (b3.block pm MM.out.lt)))
  have B3 := Lib.hid (B2.out.trans (b3.mono B2.out.size))
  have BS := Lib.hid B2.out.size
  generalize w2.heap.size = base at IA MM BS
  clear hF hO b3 B2
  go_wp2_with fail
  refine (rnew_any A n c R _ H.out.1.len (by have := N2.out; omega) (H.out.1.rd.below B3.out)).mono ?_
  rintro e w5 hh
  obtain ⟨N, hN⟩ : ∃ N, N = 65536 := ⟨_, rfl⟩
  obtain ⟨g, cw, rfl, hgle, glt, o5, b5⟩ := hh.bytes (n := N) (by rw [initial_len, hN]) (by omega)
  have O5 := Lib.hid (own_mono o5 B3.out.size)
  have GO := Lib.hid (show ¬ O g from fun c => by have := IA.out.lt _ c; omega)
  have NN := Lib.hid hN
  have IA := Lib.hid (IA.out.step S.out b5)
  have B5 := Lib.hid (B3.out.trans (b5.mono B3.out.size))
  have MM := Lib.hid (And.intro MM.out.1 (MM.out.2.keep (b5.block pm MM.out.2.lt)))
  generalize initial R = M at MM HMB O5
  clear hh hN glt o5 b5 B3 hgle
  go_wp2_with fail
  go_loopw [10, 11] (fun v10 v11 wr => ∃ (j : Nat) (O : Nat → Prop) (l : Ents) (h m' : Nat) (M : List Int) (g cw : Nat), j ≤ m ∧ v11 = .int .i64 (j : Int) ∧ v10 = .slice (some ⟨g, 0, none⟩) N cw ∧ IcAt F base O p lv true l h m' wr ∧ (h + m' ≤ j ∧ l.length ≤ j) ∧ Coh M lv l ∧ (M.length = 65536 ∧ BtM M) ∧ MemAt pm M (.slice none 0 0) wr ∧ wr.ownsRow w.heap.size 5 1 (.slice (some ⟨g, 0, none⟩) N cw) N (M.map (Value.int .u8)) ∧ ¬ O g ∧ Below w.heap.size w wr) (fun _ v11 _ => m - (intOf v11).toNat)
  case atStart => exact ⟨0, O, [], 0, 0, M, g, cw, Nat.zero_le _, rfl, rfl, IA.out, ⟨Nat.le_refl _, Nat.le_refl _⟩, Coh.nil, HMB.out, MM.out.2, O5.out, GO.out, B5.out⟩
  case round =>
    have MPM := Lib.hid MM.out.1
    clear HMB MM O5 GO IA B5
    obtain ⟨j, O, l, h, m', M, g, cw, hk, rfl, rfl, ia, hc, hco, hmb, mm, oo, hgo, bb⟩ := hrel
    have IA := Lib.hid ia
    have HC := Lib.hid hc
    have HCO := Lib.hid hco
    have HMB := Lib.hid hmb
    have MM := Lib.hid mm
    have OO := Lib.hid oo
    have HGO := Lib.hid hgo
    have BB := Lib.hid bb
    clear ia hc hco hmb mm oo hgo bb
    by_cases hlt : j < m
    · have kl : j < L.length := by have := H.out.2.1.len; omega
      obtain ⟨b, o, rfl, hb, cc, ok⟩ := H.out.2.1.at_ j kl
      have sm := SM.out j kl
      have ok2 := ok.arg
      generalize L[j] = y at cc sm ok2
      obtain ⟨kd, ps, ln, sA, sn, sc, sb⟩ := y
      have OK := Lib.hid (And.intro sm ok2)
      have c0 := (BB.out.cell (p := ⟨b, o + j * 4 + 0, none⟩) hb).trans (cc 0 _ rfl)
      have c1 := (BB.out.cell (p := ⟨b, o + j * 4 + 1, none⟩) hb).trans (cc 1 _ rfl)
      have c2 := (BB.out.cell (p := ⟨b, o + j * 4 + 2, none⟩) hb).trans (cc 2 _ rfl)
      have c3 := (BB.out.cell (p := ⟨b, o + j * 4 + 3, none⟩) hb).trans (cc 3 _ rfl)
      rw [Nat.add_zero] at c0
      simp only at c0 c1 c2 c3
      have HK := Lib.hid hlt
      have hki : (j : Int) < (m : Int) := by omega
      clear hk hlt kl cc sm ok ok2
      have X5 := Lib.hid (below_new' wr (.cells #[.int .i64 kd, .int .i64 ps, .int .i64 ln, .slice sA sn sc] 36))
      have G5 := Lib.hid (Blk.new wr 36 #[.int .i64 kd, .int .i64 ps, .int .i64 ln, .slice sA sn sc])
      have NB := Lib.hid (show ¬ O wr.heap.size from fun c => Nat.lt_irrefl _ (IA.out.lt _ c))
      go_upto_region 12 with fail
      have NP := Lib.hid (show pm < wr.heap.size from MM.out.lt)
      have IA5 := Lib.hid (IA.out.step S.out X5.out)
      have MM5 := Lib.hid (MM.out.keep (X5.out.block pm MM.out.lt))
      have BB5 := Lib.hid (BB.out.trans (X5.out.mono BB.out.size))
      have OO5 := Lib.hid (own_kept OO.out (Kept.of_below (O := fun _ => False) X5.out) (fun _ _ c => c))
      obtain ⟨g5, hg5⟩ : ∃ g5, wr.heap.size = g5 := ⟨_, rfl⟩
      rw [hg5] at G5 NB NP ⊢
      generalize World.alloc _ _ = w5 at G5 IA5 MM5 BB5 OO5 ⊢
      clear hg5 X5 IA MM BB OO c0 c1 c2 c3
      by_cases hkd : kd = 1
      · subst hkd
        have c0 := (G5.out.cell 0).trans rfl
        have c1 := (G5.out.cell 1).trans rfl
        have c3 := (G5.out.cell 3).trans rfl
        have lg := G5.out.lt
        go_wp2_with fail
        clear c0 c1 c3 lg
        refine (write_both pm M (.slice none 0 0) 0 w.heap.size [] ps sA sn sc sb _ HMB.out.1 MM5.out (World.ownsRow_nil _ _ _ _) BB5.out.size (Nat.zero_le _) OK.out.2.len (by have := OK.out.1.1; simp only at this; omega) OK.out.2.cap (OK.out.2.rd.below BB5.out) (fun ad e h0 c => by have := OK.out.2.rd.block_lt' (by rintro rfl; have := OK.out.2.len; simp at this; omega) e; have := HPM.out; omega)).mono ?_
        rintro e w6 ⟨rfl, v6, mm, ow, ap, hor⟩
        rw [Nat.zero_add, List.nil_append] at ow
        have NL := Lib.hid (show ∀ g, v6.ownBlock = some g → ¬ O g from fun g hg c => by
          rcases hor with e | ⟨g', e, hle⟩
          · rw [e] at hg; cases hg
          · rw [hg] at e; injection e with e; have := IA5.out.lt _ c; omega)
        have OO6 := Lib.hid (own_apart OO5.out ap (own_tag OO5.out MM5.out (by decide)) (fun k hk => by cases hk))
        have G6 := Lib.hid (show Blk g5 36 #[.int .i64 1, .int .i64 ps, .int .i64 ln, .slice sA sn sc] w6 from (ap.block g5 G5.out.lt (fun e => by have := NP.out; omega) (fun e => by cases e)).trans G5.out)
        obtain ⟨M2, hM2⟩ : ∃ M2, put M ps sb = M2 := ⟨_, rfl⟩
        have HCO2 := Lib.hid (show Coh M2 lv (dropE l ps sn) from by
          have := HCO.out.drop (a := ps) (b := sb) HMB.out.1 (by have := OK.out.1.1; have := OK.out.2.len; simp only at *; omega)
          rw [OK.out.2.len] at this
          rw [← hM2]
          exact this)
        rw [hM2] at mm
        have HM2 := Lib.hid hM2
        have M2B := Lib.hid (show M2.length = 65536 ∧ BtM M2 from ⟨by rw [← hM2, put_len]; exact HMB.out.1, by rw [← hM2]; exact BtM.put _ _ _ HMB.out.2 OK.out.2.bd⟩)
        have MM6 := Lib.hid mm
        have OW6 := Lib.hid ow
        have IA6 := Lib.hid (show IcAt F base O p lv true l h m' w6 from ⟨S.out.keep O _ p lv true l h m' w5 w6 IA5.out.form (Kept.of_apart ap) (fun k hk c => by
          rcases c with c | c
          · have := IA5.out.above k hk; have := MPM.out; omega
          · cases c), IA5.out.above, fun k hk => Nat.lt_of_lt_of_le (IA5.out.lt k hk) ap.size, Nat.le_trans IA5.out.base_le ap.size⟩)
        have BB6 := Lib.hid (BB5.out.trans (ap.below BB5.out.size HPM.out (fun k hk => by cases hk)))
        clear mm ow ap hor hM2 IA5 MM5 BB5 OO5 G5 HCO
        have c1 := (G6.out.cell 1).trans rfl
        have c3 := (G6.out.cell 3).trans rfl
        have lg := G6.out.lt
        go_wp2_with fail
        clear c1 c3 lg
        refine (rput_any ⟨g, 0, none⟩ N cw M ps sA sn sc sb _ NN.out (by rw [NN.out]; exact HMB.out.1) ⟨(OO6.out.lt g rfl).2, own_at OO6.out⟩ (by have := OK.out.1.2.1; simp only at this; omega) (by have := OK.out.1.2.1; simp only at this; omega) OK.out.2.len (by have := OK.out.1.1; simp only at this; omega) (OK.out.2.rd.below BB6.out)).mono ?_
        rintro e w7 hh
        rw [HM2.out] at hh
        obtain ⟨g2, c2, rfl, gle, glt, o7, b7⟩ := hh.bytes (n := N) (by rw [NN.out]; exact M2B.out.1) (by have := NN.out; omega)
        have GO7 := Lib.hid (show ¬ O g2 from fun c => by have := IA6.out.lt _ c; omega)
        have OO7 := Lib.hid (own_mono o7 BB6.out.size)
        have IA7 := Lib.hid (IA6.out.step S.out b7)
        have BB7 := Lib.hid (BB6.out.trans (b7.mono BB6.out.size))
        have MM7 := Lib.hid (MM6.out.keep (b7.block pm MM6.out.lt))
        have OW7 := Lib.hid (own_kept OW6.out (Kept.of_below (O := fun _ => False) b7) (fun _ _ c => c))
        clear hh gle glt o7 b7 IA6 BB6 MM6 OO6 OW6 G6
        obtain ⟨Av, cv, rfl⟩ := own_form8 OW7.out
        go_wp2_with fail
        refine (dirty_any pm M2 Av (cnt sn) cv _ M2B.out.1 MM7.out).mono ?_
        rintro e w8 ⟨rfl, mm, ap⟩
        have MM8 := Lib.hid mm
        have IA8 := Lib.hid (show IcAt F base O p lv true l h m' w8 from ⟨S.out.keep O _ p lv true l h m' w7 w8 IA7.out.form (Kept.of_apart (ap none)) (fun k hk c => by
          rcases c with c | c
          · have := IA7.out.above k hk; have := MPM.out; omega
          · cases c), IA7.out.above, fun k hk => Nat.lt_of_lt_of_le (IA7.out.lt k hk) (ap none).size, Nat.le_trans IA7.out.base_le (ap none).size⟩)
        have BB8 := Lib.hid (BB7.out.trans ((ap none).below BB7.out.size HPM.out (fun k hk => by cases hk)))
        have OO8 := Lib.hid (own_apart OO7.out (ap none) (own_tag OO7.out MM7.out (by decide)) (fun k hk => by cases hk))
        have OW8 := Lib.hid (own_apart OW7.out (ap none) (own_tag OW7.out MM7.out (by decide)) (fun k hk => by cases hk))
        clear mm ap IA7 BB7 MM7 OO7 OW7
        go_wp2_with fail
        have hq6 : sn ≤ 65536 := Nat.le_trans OK.out.1.1 (by decide)
        have hl6 : l.length ≤ 1000 := Nat.le_trans HC.out.2 (Nat.le_trans (Nat.le_of_lt HK.out) (Nat.le_trans HM.out (by decide)))
        have IV := @IcSpec.inval F Laid S.out O p h m' w.heap.size lv true l w8 (.slice Av (cnt sn) cv) ps sn (H.out.2.2.step BB8.out) IA8.out.form OW8.out NL.out hq6 hl6
        clear hq6 hl6
        refine IV.mono ?_
        clear IV
        rintro e w9 ⟨rfl, ht⟩
        have LE9 := Lib.hid (show (dropE l ps sn).length ≤ j + 1 from by have h1 := List.length_filter_le (fun p : Nat × Ins => !hitB (p.1 : Int) ps sn) l; have := HC.out; unfold dropE; omega)
        have HC9 := Lib.hid (show h + m' ≤ j + 1 by have := HC.out.1; omega)
        generalize dropE l ps sn = l9 at ht LE9 HCO2
        obtain ⟨O9, ia, hg, hk, hb1⟩ := IA8.out.to S.out ht
        have IA9 := Lib.hid ia
        have BB9 := Lib.hid (BB8.out.trans (hb1.mono BS.out))
        have MM9 := Lib.hid (MM8.out.keep (hk.block pm MM8.out.lt (IA8.out.away MPM.out)))
        have OO9 := Lib.hid (own_kept OO8.out hk (fun b hb => by injection hb with hb; subst hb; exact GO7.out))
        have GO9 := Lib.hid (show ¬ O9 g2 from hg.away (OO8.out.lt g2 rfl).2 GO7.out)
        clear ht ia hg hk hb1 IA8 BB8 MM8 OO8 OW8 GO7 NL HGO HMB HC
        go_wp2_with fail
        go_loopw [13] (fun v13 wi => ∃ q : Nat, q ≤ m ∧ v13 = .int .i64 (q : Int) ∧ IcAt F base O9 p lv true l9 h m' wi ∧ MemAt pm M2 (.slice none 0 0) wi ∧ wi.ownsRow w.heap.size 5 1 (.slice (some ⟨g2, 0, none⟩) N c2) N (M2.map (Value.int .u8)) ∧ Below w.heap.size w wi) (fun v13 _ => m - (intOf v13).toNat)
        case atStart => exact ⟨0, Nat.zero_le _, rfl, IA9.out, MM9.out, OO9.out, BB9.out⟩
        case round =>
          obtain ⟨q, hk, rfl, ia, mm, oo, bb⟩ := hrel
          have IAi := Lib.hid ia
          have MMi := Lib.hid mm
          have OOi := Lib.hid oo
          have BBi := Lib.hid bb
          clear ia mm oo bb IA9 MM9 OO9 BB9
          by_cases hlt : q < m
          · have kl : q < L.length := by have := H.out.2.1.len; omega
            obtain ⟨b', o', hbe, hb2, cc, ok⟩ := H.out.2.1.at_ q kl
            injection hbe with hbe
            injection hbe with e1 e2 _
            subst e1 e2
            have sm := (SM.out q kl).2.1
            generalize L[q] = y at cc sm
            obtain ⟨kd', pq, ln', sA', sn', sc', sb'⟩ := y
            have PQ := Lib.hid sm
            have HQ := Lib.hid hlt
            have HCQ := Lib.hid (fun (w' : World) (hw : Below w.heap.size w w') => (hw.cell (p := ⟨b, o + q * 4 + 1, none⟩) hb2).trans (cc 1 _ rfl))
            have hqi : (q : Int) < (m : Int) := by omega
            clear hk hlt kl cc sm ok
            have c1 := HCQ.out _ BBi.out
            simp only at c1
            have PE := Lib.hid (S.out.peek O9 p lv true l9 h m' _ pq (H.out.2.2.step BBi.out) IAi.out.form PQ.out.1 PQ.out.2 (Nat.le_trans LE9.out (Nat.le_trans HK.out (Nat.le_trans HM.out (by decide)))))
            obtain ⟨I, hI⟩ : ∃ I, decAt M2 pq lv = I := ⟨_, rfl⟩
            have RD := Lib.hid (fun w9 (hr : (⟨g2, 0, none⟩ : Addr).block < w9.heap.size ∧ ∀ j (h : j < M2.length), w9.cell? ((⟨g2, 0, none⟩ : Addr).add j) = some (.int .u8 M2[j])) => hI ▸ rdecoded_any ⟨g2, 0, none⟩ N c2 M2 pq lv w9 NN.out (by rw [NN.out]; exact M2B.out.1) M2B.out.2 hr (by have := PQ.out.1; simp only at this; omega) (by have := PQ.out.2; simp only at this; omega))
            have PI := Lib.hid (show ∀ i, lookE l9 (wr16 pq) = some i → peekE l9 pq = I from fun i hi => by
              unfold peekE
              rw [hi, ← hI, ← decAt_mod]
              exact HCO2.out _ _ hi)
            clear hI
            go_wp2_with fail
            clear c1
            refine PE.out.mono ?_
            rintro e w6 ⟨rfl, b6⟩
            have IA6 := Lib.hid (IAi.out.step S.out b6)
            have MM6 := Lib.hid (MMi.out.keep (b6.block pm MMi.out.lt))
            have OO6 := Lib.hid (own_kept OOi.out (Kept.of_below (O := fun _ => False) b6) (fun _ _ c => c))
            have BB6 := Lib.hid (BBi.out.trans (b6.mono BBi.out.size))
            clear b6 IAi MMi OOi BBi PE
            obtain ⟨J, hJ⟩ : ∃ J, peekE l9 pq = J := ⟨_, rfl⟩
            rw [hJ] at PI ⊢
            clear hJ
            cases hlk : lookE l9 (wr16 pq)
            all_goals
              try (have hJ2 := PI.out _ hlk; subst hJ2)
              clear hlk PI
              obtain ⟨ox, xx, yx, nx, nnx, ax, lx⟩ := J
              unfold icells at RD ⊢
              simp only [Option.isSome_none, Option.isSome_some] at RD ⊢
              have X7 := Lib.hid (below_new' w6 (.cells #[.int .i64 ox, .int .i64 xx, .int .i64 yx, .int .i64 nx, .int .i64 nnx, .int .i64 ax, .int .i64 lx] 38))
              have G7 := Lib.hid (Blk.new w6 38 #[.int .i64 ox, .int .i64 xx, .int .i64 yx, .int .i64 nx, .int .i64 nnx, .int .i64 ax, .int .i64 lx])
              go_upto_region 22 with fail
              have IA7 := Lib.hid (IA6.out.step S.out X7.out)
              have MM7 := Lib.hid (MM6.out.keep (X7.out.block pm MM6.out.lt))
              have OO7 := Lib.hid (own_kept OO6.out (Kept.of_below (O := fun _ => False) X7.out) (fun _ _ c => c))
              have BB7 := Lib.hid (BB6.out.trans (X7.out.mono BB6.out.size))
              obtain ⟨g7, hg7⟩ : ∃ g7, w6.heap.size = g7 := ⟨_, rfl⟩
              rw [hg7] at G7 ⊢
              generalize World.alloc _ _ = w7 at G7 IA7 MM7 OO7 BB7 ⊢
              clear hg7 X7 IA6 MM6 OO6 BB6
              have c1 := Calm.cell (HCQ.out _ BB7.out) (Nat.lt_of_lt_of_le hb2 BB7.out.size)
              try simp only at c1
              have d0 := Calm.cell ((G7.out.cell 0).trans rfl) G7.out.lt
              have d1 := Calm.cell ((G7.out.cell 1).trans rfl) G7.out.lt
              have d2 := Calm.cell ((G7.out.cell 2).trans rfl) G7.out.lt
              have d3 := Calm.cell ((G7.out.cell 3).trans rfl) G7.out.lt
              have d4 := Calm.cell ((G7.out.cell 4).trans rfl) G7.out.lt
              have d5 := Calm.cell ((G7.out.cell 5).trans rfl) G7.out.lt
              have d6 := Calm.cell ((G7.out.cell 6).trans rfl) G7.out.lt
              have RC := Lib.hid (fun u : Calm w7 => RD.out u.w ⟨Nat.lt_of_lt_of_le (OO7.out.lt g2 rfl).2 u.below.size, own_at (own_kept OO7.out (Kept.of_below (O := fun _ => False) u.below) (fun _ _ c => c))⟩)
              refine calm_region (by kernel_rfl) (by kernel_rfl) ?_
              repeat (go_big_quiet_step ((go_at_call 16; exact calm_call (RC.out _))))
              refine wpQuiet_nil ?_
              intro _ hw'
              obtain ⟨u, rfl⟩ := hw'
              have IA8 := Lib.hid (IA7.out.step S.out u.below)
              have MM8 := Lib.hid (MM7.out.keep (u.below.block pm MM7.out.lt))
              have OO8 := Lib.hid (own_kept OO7.out (Kept.of_below (O := fun _ => False) u.below) (fun _ _ c => c))
              have BB8 := Lib.hid (BB7.out.trans (u.below.mono BB7.out.size))
              have hq4 : (q : Int) < 1000 := by have := HM.out; have := HQ.out; omega
              go_wp2_with fail
              exact ⟨⟨q + 1, HQ.out, rfl, IA8.out, MM8.out, OO8.out, BB8.out⟩, by have := HQ.out; simp [intOf]; omega⟩
          · obtain rfl : q = m := by omega
            have hj4 : (j : Int) < 1000 := by have := HM.out; have := HK.out; omega
            clear hk hlt
            go_wp2_with fail
            exact ⟨⟨j + 1, O9, l9, h, m', M2, g2, c2, HK.out, rfl, rfl, IAi.out, ⟨HC9.out, LE9.out⟩, HCO2.out, M2B.out, MMi.out, OOi.out, GO9.out, BBi.out⟩, by have := HK.out; simp [intOf]; omega⟩
      · have hkd2 : (kd == 1) = false := by simpa using hkd
        have c0 := (G5.out.cell 0).trans rfl
        have lg := G5.out.lt
        go_upto_region 16 with fail
        clear c0 lg hkd hkd2
        haveI : Nonempty (CalmS w g5 (#[.int .i64 kd, .int .i64 ps, .int .i64 ln, .slice sA sn sc])) := ⟨⟨w5, BB5.out, G5.out⟩⟩
        refine wp_region_mix (C := fun w' => ∃ x : CalmS w g5 (#[.int .i64 kd, .int .i64 ps, .int .i64 ln, .slice sA sn sc]), w' = x.w) [([0, 1, 2, 3, 5, 6, 7, 8], 4), ([], 9)] [10] (by kernel_rfl) (by kernel_rfl) (fun _ _ d _ _ h => by cases d <;> exact h) ⟨⟨w5.drew, BB5.out.drew, G5.out.drew⟩, rfl⟩ ?_
        intro wd hwd
        have bd : Below w5.heap.size w5 wd := by rw [hwd]; exact (Below.refl _ _).drew
        have IAD := Lib.hid (IA5.out.step S.out bd)
        have MMD := Lib.hid (MM5.out.keep (bd.block pm MM5.out.lt))
        have OOD := Lib.hid (own_kept OO5.out (Kept.of_below (O := fun _ => False) bd) (fun _ _ c => c))
        have BBD := Lib.hid (BB5.out.trans (bd.mono BB5.out.size))
        have GD := Lib.hid (G5.out.step bd)
        clear hwd bd IA5 MM5 OO5 BB5 G5
        have kc : ∀ u : CalmS w g5 (#[.int .i64 kd, .int .i64 ps, .int .i64 ln, .slice sA sn sc]), u.w.cell? ⟨g5, 1, none⟩ = some (.int .i64 ps) := fun u => (u.cell 1).trans rfl
        refine mix_run (by simp only [opsAt, List.getElem?_toArray, List.getElem?_cons_succ, List.getElem?_cons_zero]; rfl) (by rfl) ?_
        repeat (go_big_quiet_step (fail))
        refine wpQuiet_nil ?_
        refine mix_call (by rfl) ?_
        intro K hK
        go_wp2_with fail
        clear kc
        obtain ⟨⟨ox, xx, yx, nx, nnx, ax, lx⟩, hI⟩ : ∃ I, decAt M ps lv = I := ⟨_, rfl⟩
        have RD := Lib.hid (fun w9 (hr : (⟨g, 0, none⟩ : Addr).block < w9.heap.size ∧ ∀ j (h : j < M.length), w9.cell? ((⟨g, 0, none⟩ : Addr).add j) = some (.int .u8 M[j])) => hI ▸ rdecoded_any ⟨g, 0, none⟩ N cw M ps lv w9 NN.out (by rw [NN.out]; exact HMB.out.1) HMB.out.2 hr (by have := OK.out.1.2.1; simp only at this; omega) (by have := OK.out.1.2.1; simp only at this; omega))
        refine (S.out.get (a := ps) (H.out.2.2.step BBD.out) IAD.out.form MMD.out HMB.out.1 HMB.out.2 (IAD.out.away MPM.out) OK.out.1.2.1.1 OK.out.1.2.1.2 (by have := HC.out; have := HM.out; have := HK.out; omega) (by have := HC.out; have := HM.out; have := HK.out; omega) (by have := HC.out; have := HM.out; have := HK.out; omega)).mono ?_
        rintro e w9 ⟨i, l9, h1, m1, rfl, ht, hl1, hc1, hm1, hle, hor⟩
        obtain ⟨hi, hco⟩ : i = decAt M ps lv ∧ Coh M lv l9 := by
          rcases hor with ⟨e1, e2⟩ | ⟨_, e1, e2⟩
          · exact ⟨by rw [HCO.out _ _ e1, decAt_mod], e2 ▸ HCO.out⟩
          · refine ⟨e1, ?_⟩
            rw [e2, e1, ← decAt_mod]
            exact HCO.out.snoc _
        rw [hI] at hi
        subst hi
        obtain ⟨O9, ia, hg, hk, hb1⟩ := IAD.out.to S.out ht
        have MM1 := Lib.hid (MMD.out.keep (hk.block pm MMD.out.lt (IAD.out.away MPM.out)))
        have IA1 := Lib.hid ia
        have HC9 := Lib.hid (show h1 + m1 ≤ j + 1 from by have := HC.out.1; omega)
        have LE9 := Lib.hid (show l9.length ≤ j + 1 from by have := HC.out.2; omega)
        have BB1 := Lib.hid (BBD.out.trans (hb1.mono BS.out))
        have HCO2 := Lib.hid hco
        have OO1 := Lib.hid (own_kept OOD.out hk (fun b hb => by injection hb with hb; subst hb; exact HGO.out))
        have GO9 := Lib.hid (show ¬ O9 g from hg.away (OOD.out.lt g rfl).2 HGO.out)
        have G1 := Lib.hid (show Blk g5 36 (#[.int .i64 kd, .int .i64 ps, .int .i64 ln, .slice sA sn sc]) w9 from (hk.block g5 GD.out.lt NB.out).trans GD.out)
        clear ht ia hg hk hb1 hl1 hc1 hm1 hle hor hco IAD MMD BBD OOD HC HCO HGO hI GD
        unfold icells
        simp only []
        refine hK _ _ ⟨⟨w9, BB1.out, G1.out⟩, rfl⟩ ?_
        clear hK K
        refine mix_run (by simp only [opsAt, List.getElem?_toArray, List.getElem?_cons_succ, List.getElem?_cons_zero]; rfl) (by rfl) ?_
        refine wpQuiet_nil ?_
        refine mix_call (by rfl) ?_
        intro K hK
        go_wp2_with fail
        refine (RD.out _ ⟨(OO1.out.lt g rfl).2, own_at OO1.out⟩).mono ?_
        rintro e w10 ⟨rfl, b9⟩
        have IA9 := Lib.hid (IA1.out.step S.out b9)
        have MM9 := Lib.hid (MM1.out.keep (b9.block pm MM1.out.lt))
        have OO9 := Lib.hid (own_kept OO1.out (Kept.of_below (O := fun _ => False) b9) (fun _ _ c => c))
        have BB9 := Lib.hid (BB1.out.trans (b9.mono BB1.out.size))
        have G9 := Lib.hid (G1.out.step b9)
        clear b9 IA1 MM1 OO1 BB1 RD
        unfold icells
        simp only []
        refine hK _ _ ⟨⟨w10, BB9.out, G9.out⟩, rfl⟩ ?_
        clear hK K
        refine mix_last (by simp only [opsAt, List.getElem?_toArray, List.getElem?_cons_succ, List.getElem?_cons_zero]; rfl) ?_
        repeat (go_big_quiet_step (rfl))
        refine wpQuiet_nil ?_
        go_wp2_with fail
        go_loopw [13] (fun v13 wi => ∃ q : Nat, q ≤ m ∧ v13 = .int .i64 (q : Int) ∧ IcAt F base O9 p lv true l9 h1 m1 wi ∧ MemAt pm M (.slice none 0 0) wi ∧ wi.ownsRow w.heap.size 5 1 (.slice (some ⟨g, 0, none⟩) N cw) N (M.map (Value.int .u8)) ∧ Below w.heap.size w wi) (fun v13 _ => m - (intOf v13).toNat)
        case atStart => exact ⟨0, Nat.zero_le _, rfl, IA9.out, MM9.out, OO9.out, BB9.out⟩
        case round =>
          obtain ⟨q, hk, rfl, ia, mm, oo, bb⟩ := hrel
          have IAi := Lib.hid ia
          have MMi := Lib.hid mm
          have OOi := Lib.hid oo
          have BBi := Lib.hid bb
          clear ia mm oo bb IA9 MM9 OO9 BB9
          by_cases hlt : q < m
          · have kl : q < L.length := by have := H.out.2.1.len; omega
            obtain ⟨b', o', hbe, hb2, cc, ok⟩ := H.out.2.1.at_ q kl
            injection hbe with hbe
            injection hbe with e1 e2 _
            subst e1 e2
            have sm := (SM.out q kl).2.1
            generalize L[q] = y at cc sm
            obtain ⟨kd', pq, ln', sA', sn', sc', sb'⟩ := y
            have PQ := Lib.hid sm
            have HQ := Lib.hid hlt
            have HCQ := Lib.hid (fun (w' : World) (hw : Below w.heap.size w w') => (hw.cell (p := ⟨b, o + q * 4 + 1, none⟩) hb2).trans (cc 1 _ rfl))
            have hqi : (q : Int) < (m : Int) := by omega
            clear hk hlt kl cc sm ok
            have c1 := HCQ.out _ BBi.out
            simp only at c1
            have PE := Lib.hid (S.out.peek O9 p lv true l9 h1 m1 _ pq (H.out.2.2.step BBi.out) IAi.out.form PQ.out.1 PQ.out.2 (Nat.le_trans LE9.out (Nat.le_trans HK.out (Nat.le_trans HM.out (by decide)))))
            obtain ⟨I, hI⟩ : ∃ I, decAt M pq lv = I := ⟨_, rfl⟩
            have RD := Lib.hid (fun w9 (hr : (⟨g, 0, none⟩ : Addr).block < w9.heap.size ∧ ∀ j (h : j < M.length), w9.cell? ((⟨g, 0, none⟩ : Addr).add j) = some (.int .u8 M[j])) => hI ▸ rdecoded_any ⟨g, 0, none⟩ N cw M pq lv w9 NN.out (by rw [NN.out]; exact HMB.out.1) HMB.out.2 hr (by have := PQ.out.1; simp only at this; omega) (by have := PQ.out.2; simp only at this; omega))
            have PI := Lib.hid (show ∀ i, lookE l9 (wr16 pq) = some i → peekE l9 pq = I from fun i hi => by
              unfold peekE
              rw [hi, ← hI, ← decAt_mod]
              exact HCO2.out _ _ hi)
            clear hI
            go_wp2_with fail
            clear c1
            refine PE.out.mono ?_
            rintro e w6 ⟨rfl, b6⟩
            have IA6 := Lib.hid (IAi.out.step S.out b6)
            have MM6 := Lib.hid (MMi.out.keep (b6.block pm MMi.out.lt))
            have OO6 := Lib.hid (own_kept OOi.out (Kept.of_below (O := fun _ => False) b6) (fun _ _ c => c))
            have BB6 := Lib.hid (BBi.out.trans (b6.mono BBi.out.size))
            clear b6 IAi MMi OOi BBi PE
            obtain ⟨J, hJ⟩ : ∃ J, peekE l9 pq = J := ⟨_, rfl⟩
            rw [hJ] at PI ⊢
            clear hJ
            cases hlk : lookE l9 (wr16 pq)
            all_goals
              try (have hJ2 := PI.out _ hlk; subst hJ2)
              clear hlk PI
              obtain ⟨ox, xx, yx, nx, nnx, ax, lx⟩ := J
              unfold icells at RD ⊢
              simp only [Option.isSome_none, Option.isSome_some] at RD ⊢
              have X7 := Lib.hid (below_new' w6 (.cells #[.int .i64 ox, .int .i64 xx, .int .i64 yx, .int .i64 nx, .int .i64 nnx, .int .i64 ax, .int .i64 lx] 38))
              have G7 := Lib.hid (Blk.new w6 38 #[.int .i64 ox, .int .i64 xx, .int .i64 yx, .int .i64 nx, .int .i64 nnx, .int .i64 ax, .int .i64 lx])
              go_upto_region 22 with fail
              have IA7 := Lib.hid (IA6.out.step S.out X7.out)
              have MM7 := Lib.hid (MM6.out.keep (X7.out.block pm MM6.out.lt))
              have OO7 := Lib.hid (own_kept OO6.out (Kept.of_below (O := fun _ => False) X7.out) (fun _ _ c => c))
              have BB7 := Lib.hid (BB6.out.trans (X7.out.mono BB6.out.size))
              obtain ⟨g7, hg7⟩ : ∃ g7, w6.heap.size = g7 := ⟨_, rfl⟩
              rw [hg7] at G7 ⊢
              generalize World.alloc _ _ = w7 at G7 IA7 MM7 OO7 BB7 ⊢
              clear hg7 X7 IA6 MM6 OO6 BB6
              have c1 := Calm.cell (HCQ.out _ BB7.out) (Nat.lt_of_lt_of_le hb2 BB7.out.size)
              try simp only at c1
              have d0 := Calm.cell ((G7.out.cell 0).trans rfl) G7.out.lt
              have d1 := Calm.cell ((G7.out.cell 1).trans rfl) G7.out.lt
              have d2 := Calm.cell ((G7.out.cell 2).trans rfl) G7.out.lt
              have d3 := Calm.cell ((G7.out.cell 3).trans rfl) G7.out.lt
              have d4 := Calm.cell ((G7.out.cell 4).trans rfl) G7.out.lt
              have d5 := Calm.cell ((G7.out.cell 5).trans rfl) G7.out.lt
              have d6 := Calm.cell ((G7.out.cell 6).trans rfl) G7.out.lt
              have RC := Lib.hid (fun u : Calm w7 => RD.out u.w ⟨Nat.lt_of_lt_of_le (OO7.out.lt g rfl).2 u.below.size, own_at (own_kept OO7.out (Kept.of_below (O := fun _ => False) u.below) (fun _ _ c => c))⟩)
              refine calm_region (by kernel_rfl) (by kernel_rfl) ?_
              repeat (go_big_quiet_step ((go_at_call 16; exact calm_call (RC.out _))))
              refine wpQuiet_nil ?_
              intro _ hw'
              obtain ⟨u, rfl⟩ := hw'
              have IA8 := Lib.hid (IA7.out.step S.out u.below)
              have MM8 := Lib.hid (MM7.out.keep (u.below.block pm MM7.out.lt))
              have OO8 := Lib.hid (own_kept OO7.out (Kept.of_below (O := fun _ => False) u.below) (fun _ _ c => c))
              have BB8 := Lib.hid (BB7.out.trans (u.below.mono BB7.out.size))
              have hq4 : (q : Int) < 1000 := by have := HM.out; have := HQ.out; omega
              go_wp2_with fail
              exact ⟨⟨q + 1, HQ.out, rfl, IA8.out, MM8.out, OO8.out, BB8.out⟩, by have := HQ.out; simp [intOf]; omega⟩
          · obtain rfl : q = m := by omega
            have hj4 : (j : Int) < 1000 := by have := HM.out; have := HK.out; omega
            clear hk hlt
            go_wp2_with fail
            exact ⟨⟨j + 1, O9, l9, h1, m1, M, g, cw, HK.out, rfl, rfl, IAi.out, ⟨HC9.out, LE9.out⟩, HCO2.out, HMB.out, MMi.out, OOi.out, GO9.out, BBi.out⟩, by have := HK.out; simp [intOf]; omega⟩
    · obtain rfl : j = m := by omega
      clear hk hlt
      go_wp2_with fail
      go_ret
      exact ⟨rfl, BB.out⟩
end Go.Proofs.YtgilkbmipgejeaaDoor
