/- IcacheMatchesReference: the walk. -/
import Derived.Test.YtgilkbmipgejeaaDoorPk8a
import Derived.Test.YtgilkbmipgejeaaDoorPk5a
namespace Go.Proofs.YtgilkbmipgejeaaDoor
open Go.RowKit Num Dec
set_option linter.unusedVariables false
set_option linter.unusedSimpArgs false

theorem drop_of_mod {ps : Int} {ka : Nat} (h : ps % 65536 = (ka : Int)) (l : Ents) (n : Int) : dropE l (ka : Int) n = dropE l ps n := by rw [← h, drop_mod]
/-- A world as W was below its end, in which two variables lie. -/
def CalmT (W : World) (g : Nat) (cs : Array Value) (q : Nat) (ds : Array Value) : Type := { w' : World // Below W.heap.size W w' ∧ Blk g 36 cs w' ∧ Blk q 38 ds w' }
def CalmT.w {W : World} {g q : Nat} {cs ds : Array Value} (x : CalmT W g cs q ds) : World := x.1

set_option maxRecDepth 100000 in
set_option maxHeartbeats 32000000 in
theorem icacheMatchesReference_walk (A : Option Addr) (n c : Nat) (R : List Int) (lv : Int) (en : Bool) (B : Option Addr) (m d : Nat) (L : List Stp16) (pb : Int) (w : World) (hA : ArgB w A n c R) (wl : (Lit.int .i64 lv).wf = true) (hB : Sts16 w B m L) (wp : (Lit.int .i64 pb).wf = true) (hL : Laid w) :
    Calls Tryd.prog 3 #[.slice A n c, .int .i64 lv, .bool en, .slice B m d, .int .i64 pb] w fun e w' => e = .returned (.bool true) ∧ Below w.heap.size w w' := by
  obtain ⟨i0, hinfo, hz0, hz1, hz2⟩ := info_parts infoEnt
  have HI := Lib.hid (And.intro hinfo (And.intro hz0 (And.intro hz1 hz2)))
  have H := Lib.hid (And.intro hA (And.intro hB hL))
  have n1 := Nat.le_trans hA.cap hA.max
  have AW := Lib.hid awake16
  have WL := Lib.hid wl
  clear hA hB hL wl hinfo hz0 hz1 hz2
  go_enter Tryd.func3, Tryd.ntmps3
  go_wp2_with fail
  refine (AW.out _ H.out.2.2).mono ?_
  rintro e w1 ⟨rfl, b1⟩
  have B1 := Lib.hid b1
  clear b1
  go_wp2_with fail
  refine (few_any A n c none 0 0 [] _ n1 (Nat.zero_le _) rfl (fun h => absurd rfl h)).mono ?_
  rintro e w' ⟨f1, rfl, hf1, rfl⟩
  have Hf1 := Lib.hid hf1
  clear hf1 n1
  have stop_ : ∀ wi, Below w.heap.size w wi → Calls Tryd.prog 8 #[] wi fun e w' => e = .returned (.bool true) ∧ Below w.heap.size w w' := fun wi hb => (AW.out _ (H.out.2.2.step hb)).mono fun e w' h => ⟨h.1, hb.trans (h.2.mono hb.size)⟩
  have ST := Lib.hid stop_
  clear stop_
  cases f1
  · skip
    go_wp2_with fail
    refine (ST.out _ B1.out).mono ?_
    rintro e w3 ⟨rfl, b3⟩
    have B3 := Lib.hid b3
    clear b3
    go_wp2
    go_ret
    exact ⟨rfl, B3.out⟩
  go_wp2_with fail
  refine (few16_any B m d L _ (H.out.2.1.below B1.out)).mono ?_
  rintro e w' ⟨f2, rfl, hf2, rfl⟩
  have Hf2 := Lib.hid hf2
  clear hf2
  cases f2
  · skip
    go_wp2_with fail
    refine (ST.out _ B1.out).mono ?_
    rintro e w3 ⟨rfl, b3⟩
    have B3 := Lib.hid b3
    clear b3
    go_wp2
    go_ret
    exact ⟨rfl, B3.out⟩
  obtain ⟨n2, _, _⟩ := Hf1.out trivial
  obtain ⟨m2, sm⟩ := Hf2.out rfl
  have HM := Lib.hid (show m ≤ 40 by have := H.out.2.1.len; omega)
  have SM := Lib.hid sm
  have N2 := Lib.hid n2
  clear Hf1 Hf2 sm m2
  by_cases hp1 : pb < -100000
  · skip
    go_wp2_with fail
    refine (ST.out _ B1.out).mono ?_
    rintro e w3 ⟨rfl, b3⟩
    have B3 := Lib.hid b3
    clear b3
    go_wp2
    go_ret
    exact ⟨rfl, B3.out⟩
  by_cases hp2 : 100000 < pb
  · skip
    go_wp2_with fail
    refine (ST.out _ B1.out).mono ?_
    rintro e w3 ⟨rfl, b3⟩
    have B3 := Lib.hid b3
    clear b3
    go_wp2
    go_ret
    exact ⟨rfl, B3.out⟩
  have HPB := Lib.hid (And.intro (show -100000 ≤ pb by omega) (show pb ≤ 100000 by omega))
  clear ST
  go_wp2_with fail
  clear hp1 hp2
  refine (new_yes A n c R _ (by omega) H.out.1.len (H.out.1.rd.below B1.out) (H.out.2.2.step B1.out)).mono ?_
  rintro e w2 h
  obtain ⟨pm, rfl, hpm, mm, b2⟩ := h
  have MM := Lib.hid mm
  have HMB := Lib.hid (And.intro (initial_len R) (btm_initial H.out.1.bd))
  have B2 := Lib.hid (B1.out.trans (b2.mono B1.out.size))
  have HPM := Lib.hid (Nat.le_trans B1.out.size hpm)
  clear mm b2 hpm B1 n2
  go_wp2_with fail
  refine (icSpec.new_ lv en _ (H.out.2.2.step B2.out) WL.out).mono ?_
  rintro e w3 ⟨p, O, rfl, hF, hO, b3⟩
  have FO := Lib.hid (And.intro hF (And.intro hO b3.size))
  have ML := Lib.hid MM.out.lt
  have MM := Lib.hid (MM.out.keep (b3.block pm MM.out.lt))
  have B3 := Lib.hid (B2.out.trans (b3.mono B2.out.size))
  have BS := Lib.hid B2.out.size
  obtain ⟨base, hbase⟩ : ∃ base, w2.heap.size = base := ⟨_, rfl⟩
  rw [hbase] at FO ML BS
  clear hF hO b3 B2 hbase
  go_wp2_with fail
  refine (rnew_any A n c R _ H.out.1.len (by have := N2.out; omega) (H.out.1.rd.below B3.out)).mono ?_
  rintro e w5 hh
  obtain ⟨N, hN⟩ : ∃ N, N = 65536 := ⟨_, rfl⟩
  obtain ⟨g, cw, rfl, hgle, glt, o5, b5⟩ := hh.bytes (n := N) (by rw [initial_len, hN]) (by omega)
  have NN := Lib.hid hN
  have A5 := Lib.hid (show Mt w base pm p lv en N O [] [] 0 0 (initial R) (initial R) (.slice none 0 0) g cw (.slice none 0 0) [] w5 from
    ⟨MM.out.keep (b5.block pm MM.out.lt), icSpec.step FO.out.1 b5, B3.out.trans (b5.mono B3.out.size), BS.out, Nat.le_trans FO.out.2.2 b5.size, FO.out.2.1, HPM.out, ML.out, own_mono o5 B3.out.size, fun c => by have := icSpec.lt _ _ _ _ _ _ _ _ FO.out.1 g c; omega, World.ownsRow_nil _ _ _ _, fun b e => (by cases e), fun v hv => (by cases hv)⟩)
  generalize initial R = M at HMB A5
  clear hh hN glt o5 b5 B3 hgle FO ML MM BS HPM
  go_wp2_with fail
  go_loopw [14, 15, 16, 17, 18] (fun v14 v15 v16 v17 v18 wr => ∃ (j : Nat) (O : Nat → Prop) (l : Ents) (h m' : Nat) (M : List Int) (g cw : Nat), j ≤ m ∧ v18 = .int .i64 (j : Int) ∧ v14 = .slice (some ⟨g, 0, none⟩) N cw ∧ v16 = .int .i64 (h : Int) ∧ v17 = .int .i64 (m' : Int) ∧ Mt w base pm p lv en N O l l h m' M M (.slice none 0 0) g cw v15 [] wr ∧ (h + m' ≤ j ∧ l.length ≤ j) ∧ (∀ e ∈ l, e.1 ≤ 65535) ∧ (M.length = 65536 ∧ BtM M)) (fun _ _ _ _ v18 _ => m - (intOf v18).toNat)
  case atStart => exact ⟨0, O, [], 0, 0, M, g, cw, Nat.zero_le _, rfl, rfl, rfl, rfl, A5.out, ⟨Nat.le_refl _, Nat.le_refl _⟩, fun e he => (by cases he), HMB.out⟩
  case round =>
    clear HMB A5
    obtain ⟨j, O, l, h, m', M, g, cw, hk, rfl, rfl, rfl, rfl, a0, hc, ha, hmb⟩ := hrel
    obtain ⟨Ae, ce, rfl⟩ := own_form8 a0.es
    have A0 := Lib.hid a0
    have HC := Lib.hid hc
    have HA := Lib.hid ha
    have HMB := Lib.hid hmb
    clear a0 hc ha hmb
    have e40 : (m : Int) ≤ 40 := by have := HM.out; omega
    by_cases hlt : j < m
    · have kl : j < L.length := by have := H.out.2.1.len; omega
      obtain ⟨b, o, rfl, hb, cc, ok⟩ := H.out.2.1.at_ j kl
      have sm := SM.out j kl
      have ok2 := ok.arg
      generalize L[j] = y at cc sm ok2
      obtain ⟨kd, ps, ln, sA, sn, sc, sb⟩ := y
      have OK := Lib.hid (And.intro sm ok2)
      have c0 := (A0.out.low.cell (p := ⟨b, o + j * 4 + 0, none⟩) hb).trans (cc 0 _ rfl)
      have c1 := (A0.out.low.cell (p := ⟨b, o + j * 4 + 1, none⟩) hb).trans (cc 1 _ rfl)
      have c2 := (A0.out.low.cell (p := ⟨b, o + j * 4 + 2, none⟩) hb).trans (cc 2 _ rfl)
      have c3 := (A0.out.low.cell (p := ⟨b, o + j * 4 + 3, none⟩) hb).trans (cc 3 _ rfl)
      rw [Nat.add_zero] at c0
      simp only at c0 c1 c2 c3
      have HK := Lib.hid hlt
      have LB := Lib.hid (show l.length ≤ 40 ∧ h ≤ 40 ∧ m' ≤ 40 by have := HC.out; have := HM.out; omega)
      have hki : (j : Int) < (m : Int) := by omega
      have PS := Lib.hid (show (-100000 ≤ ps ∧ ps ≤ 100000) ∧ 0 ≤ ln ∧ ln ≤ 65536 ∧ sn ≤ 100 from ⟨sm.2.1, sm.2.2.1, sm.2.2.2, sm.1⟩)
      clear hk hlt kl cc sm ok ok2
      have A1 := Lib.hid (A0.out.new 36 #[.int .i64 kd, .int .i64 ps, .int .i64 ln, .slice sA sn sc] (by decide))
      go_upto_region 15 with fail
      obtain ⟨g5, hg5⟩ : ∃ g5, wr.heap.size = g5 := ⟨_, rfl⟩
      rw [hg5] at A1 ⊢
      generalize World.alloc _ _ = w5 at A1 ⊢
      clear hg5 A0 c0 c1 c2 c3
      have V := (A1.out.vars _ (List.mem_cons_self ..)).1
      have c0 := (V.cell 0).trans rfl
      simp only at c0
      by_cases k0 : kd = 0
      · subst k0
        have c1 := (V.cell 1).trans rfl
        simp only at c1
        have lg := V.lt
        clear V
        have h40 : (h : Int) ≤ 40 := by have := LB.out; omega
        have m40 : (m' : Int) ≤ 40 := by have := LB.out; omega
        go_wp2_with fail
        clear c0 c1 lg
        cases hlk : lookE l (wr16 ps) with
        | some i =>
          refine (icSpec.hit O p lv en l h m' pm M (.slice none 0 0) _ ps i (H.out.2.2.step A1.out.low) A1.out.c A1.out.mm HMB.out.1 HMB.out.2 A1.out.npm PS.out.1.1 PS.out.1.2 (by have := LB.out; omega) (by have := LB.out; omega) (by have := LB.out; omega) hlk).mono ?_
          rintro e w6 ⟨rfl, ht⟩
          obtain ⟨O9, a9⟩ := A1.out.toC ht
          have LK := Lib.hid hlk
          clear hlk ht A1
          obtain ⟨io, ix, iy, i_n, inn, ia, il⟩ := i
          unfold icells
          simp only []
          have A2 := Lib.hid (a9.new 38 #[.int .i64 io, .int .i64 ix, .int .i64 iy, .int .i64 i_n, .int .i64 inn, .int .i64 ia, .int .i64 il] (by decide))
          clear a9
          go_upto_region 20 with fail
          obtain ⟨g6, hg6⟩ : ∃ g6, w6.heap.size = g6 := ⟨_, rfl⟩
          rw [hg6] at A2 ⊢
          generalize World.alloc _ _ = u6 at A2 ⊢
          clear hg6
          have VI := Lib.hid (show (g6, 38, (#[.int .i64 io, .int .i64 ix, .int .i64 iy, .int .i64 i_n, .int .i64 inn, .int .i64 ia, .int .i64 il] : Array Value)) ∈ [(g6, 38, (#[.int .i64 io, .int .i64 ix, .int .i64 iy, .int .i64 i_n, .int .i64 inn, .int .i64 ia, .int .i64 il] : Array Value)), (g5, 36, (#[.int .i64 0, .int .i64 ps, .int .i64 ln, .slice sA sn sc] : Array Value))] from List.mem_cons_self ..)
          have VM := Lib.hid (show (g5, 36, (#[.int .i64 0, .int .i64 ps, .int .i64 ln, .slice sA sn sc] : Array Value)) ∈ [(g6, 38, (#[.int .i64 io, .int .i64 ix, .int .i64 iy, .int .i64 i_n, .int .i64 inn, .int .i64 ia, .int .i64 il] : Array Value)), (g5, 36, (#[.int .i64 0, .int .i64 ps, .int .i64 ln, .slice sA sn sc] : Array Value))] from List.mem_cons_of_mem _ (List.mem_cons_self ..))
          have V := (A2.out.vars _ VM.out).1
          have c1 := (V.cell 1).trans rfl
          simp only at c1
          have lg := V.lt
          clear V
          go_wp2_with fail
          clear c1 lg
          refine (rfind_any Ae l.length ce l ps (wr16 ps) _ (own_ent A2.out.es rfl) rfl (by have := LB.out; omega) (wr16_eq ps)).mono ?_
          rintro e w7 ⟨rfl, b7⟩
          have A3 := Lib.hid (A2.out.step b7)
          clear b7 A2
          obtain ⟨k, hk, ek, ik⟩ : ∃ (k : Nat) (h : k < l.length), findE l (wr16 ps) = k ∧ l[k].2 = ⟨io, ix, iy, i_n, inn, ia, il⟩ := by
            rcases find_look l (wr16 ps) with ⟨_, e⟩ | ⟨k, hk, e1, e2⟩
            · rw [LK.out] at e; cases e
            · rw [LK.out] at e2
              injection e2 with e2
              exact ⟨k, hk, e1, e2.symm⟩
          rw [ek]
          obtain ⟨be, hbe, hbl, hce⟩ := ent_ins (own_ent A3.out.es rfl) hk
          rw [ik] at hce
          have HCE := Lib.hid hce
          have KI := Lib.hid (And.intro hk hbl)
          subst hbe
          clear ek ik hce hbl
          have kk0 : (k : Int) ≥ 0 := by omega
          have kk1 : (k : Int) < (l.length : Int) := by omega
          clear hk
          go_upto_region 23 with fail
          refine calm_region (by kernel_rfl) (by kernel_rfl) ?_
          refine quiet_load_all aggInstr (fun w9 hw9 => by obtain ⟨u, rfl⟩ := hw9; exact (A3.out.vars _ VI.out).1.step u.below) rfl ?_ (.tmp 20) ?_ ?_ ?_
          · rfl
          · rfl
          · rfl
          simp only [Act.put, List.setIfInBounds_toArray, List.set_cons_zero, List.set_cons_succ]
          iterate 4 (go_big_quiet_step (rfl))
          refine quiet_load_cells _ #[.int .i64 io, .int .i64 ix, .int .i64 iy, .int .i64 i_n, .int .i64 inn, .int .i64 ia, .int .i64 il] aggInstr rfl ⟨be, k * 8 + 1, none⟩ (fun w9 hw9 jj v hv => by
            obtain ⟨u, rfl⟩ := hw9
            exact (u.below.cell (p := (⟨be, k * 8 + 1, none⟩ : Addr).add jj) (by rw [add_block]; exact KI.out.2)).trans (HCE.out jj v hv)) ?_ (.tmp 110) ?_ ?_ ?_
          · rfl
          · rfl
          · rfl
          simp only [Act.put, List.setIfInBounds_toArray, List.set_cons_zero, List.set_cons_succ]
          repeat (go_big_quiet_step (fail))
          refine wpQuiet_nil ?_
          intro _ hw'
          obtain ⟨u, rfl⟩ := hw'
          have A4 := Lib.hid (A3.out.step u.below).none_
          go_wp2_with fail
          exact ⟨⟨j + 1, O9, l, h + 1, m', M, g, cw, HK.out, rfl, rfl, rfl, rfl, A4.out, ⟨by have := HC.out; omega, by have := HC.out; omega⟩, HA.out, HMB.out⟩, by have := HK.out; simp [intOf]; omega⟩
        | none =>
          refine (icSpec.miss O p lv en l h m' pm M (.slice none 0 0) _ ps (H.out.2.2.step A1.out.low) A1.out.c A1.out.mm HMB.out.1 HMB.out.2 A1.out.npm PS.out.1.1 PS.out.1.2 (by have := LB.out; omega) (by have := LB.out; omega) (by have := LB.out; omega) hlk).mono ?_
          rintro e w6 ⟨rfl, ht⟩
          obtain ⟨⟨io, ix, iy, i_n, inn, ia, il⟩, hI⟩ : ∃ I, decAt M ps lv = I := ⟨_, rfl⟩
          rw [hI] at ht ⊢
          have RD := Lib.hid (fun w9 (hr : (⟨g, 0, none⟩ : Addr).block < w9.heap.size ∧ ∀ j (h : j < M.length), w9.cell? ((⟨g, 0, none⟩ : Addr).add j) = some (.int .u8 M[j])) => hI ▸ rdecoded_any ⟨g, 0, none⟩ N cw M ps lv w9 NN.out (by rw [NN.out]; exact HMB.out.1) HMB.out.2 hr (by have := PS.out.1; omega) (by have := PS.out.1; omega))
          obtain ⟨O9, a9⟩ := A1.out.toC ht
          have LK := Lib.hid hlk
          clear hlk ht A1 hI
          unfold icells at RD ⊢
          simp only [] at RD ⊢
          have A2 := Lib.hid (a9.new 38 #[.int .i64 io, .int .i64 ix, .int .i64 iy, .int .i64 i_n, .int .i64 inn, .int .i64 ia, .int .i64 il] (by decide))
          clear a9
          go_upto_region 20 with fail
          obtain ⟨g6, hg6⟩ : ∃ g6, w6.heap.size = g6 := ⟨_, rfl⟩
          rw [hg6] at A2 ⊢
          generalize World.alloc _ _ = u6 at A2 ⊢
          clear hg6
          have VM0 := Lib.hid (show (g5, 36, (#[.int .i64 0, .int .i64 ps, .int .i64 ln, .slice sA sn sc] : Array Value)) ∈ [(g6, 38, (#[.int .i64 io, .int .i64 ix, .int .i64 iy, .int .i64 i_n, .int .i64 inn, .int .i64 ia, .int .i64 il] : Array Value)), (g5, 36, (#[.int .i64 0, .int .i64 ps, .int .i64 ln, .slice sA sn sc] : Array Value))] from List.mem_cons_of_mem _ (List.mem_cons_self ..))
          have V := (A2.out.vars _ VM0.out).1
          have c1 := (V.cell 1).trans rfl
          simp only at c1
          have lg := V.lt
          clear V
          go_wp2_with fail
          clear c1 lg
          refine (rfind_any Ae l.length ce l ps (wr16 ps) _ (own_ent A2.out.es rfl) rfl (by have := LB.out; omega) (wr16_eq ps)).mono ?_
          rintro e w7 ⟨rfl, b7⟩
          have A3 := Lib.hid (A2.out.step b7)
          clear b7 A2
          rw [show findE l (wr16 ps) = -1 by
            rcases find_look l (wr16 ps) with ⟨e, _⟩ | ⟨k, hk, e1, e2⟩
            · exact e
            · rw [LK.out] at e2; cases e2]
          have V := (A3.out.vars _ VM0.out).1
          have c1 := (V.cell 1).trans rfl
          simp only at c1
          have lg := V.lt
          clear V
          go_wp2_with fail
          clear c1 lg
          refine (RD.out _ ⟨(A3.out.bs.lt g rfl).2, own_at A3.out.bs⟩).mono ?_
          rintro e w8 ⟨rfl, b8⟩
          have A4 := Lib.hid ((A3.out.step b8).new 38 #[.int .i64 io, .int .i64 ix, .int .i64 iy, .int .i64 i_n, .int .i64 inn, .int .i64 ia, .int .i64 il] (by decide))
          clear b8 A3 RD
          go_upto_region 27 with fail
          obtain ⟨g7, hg7⟩ : ∃ g7, w8.heap.size = g7 := ⟨_, rfl⟩
          rw [hg7] at A4 ⊢
          generalize World.alloc _ _ = u8 at A4 ⊢
          clear hg7
          have VJ := Lib.hid (show (g7, 38, (#[.int .i64 io, .int .i64 ix, .int .i64 iy, .int .i64 i_n, .int .i64 inn, .int .i64 ia, .int .i64 il] : Array Value)) ∈ [(g7, 38, (#[.int .i64 io, .int .i64 ix, .int .i64 iy, .int .i64 i_n, .int .i64 inn, .int .i64 ia, .int .i64 il] : Array Value)), (g6, 38, (#[.int .i64 io, .int .i64 ix, .int .i64 iy, .int .i64 i_n, .int .i64 inn, .int .i64 ia, .int .i64 il] : Array Value)), (g5, 36, (#[.int .i64 0, .int .i64 ps, .int .i64 ln, .slice sA sn sc] : Array Value))] from List.mem_cons_self ..)
          have VI := Lib.hid (show (g6, 38, (#[.int .i64 io, .int .i64 ix, .int .i64 iy, .int .i64 i_n, .int .i64 inn, .int .i64 ia, .int .i64 il] : Array Value)) ∈ [(g7, 38, (#[.int .i64 io, .int .i64 ix, .int .i64 iy, .int .i64 i_n, .int .i64 inn, .int .i64 ia, .int .i64 il] : Array Value)), (g6, 38, (#[.int .i64 io, .int .i64 ix, .int .i64 iy, .int .i64 i_n, .int .i64 inn, .int .i64 ia, .int .i64 il] : Array Value)), (g5, 36, (#[.int .i64 0, .int .i64 ps, .int .i64 ln, .slice sA sn sc] : Array Value))] from List.mem_cons_of_mem _ (List.mem_cons_self ..))
          have VM := Lib.hid (show (g5, 36, (#[.int .i64 0, .int .i64 ps, .int .i64 ln, .slice sA sn sc] : Array Value)) ∈ [(g7, 38, (#[.int .i64 io, .int .i64 ix, .int .i64 iy, .int .i64 i_n, .int .i64 inn, .int .i64 ia, .int .i64 il] : Array Value)), (g6, 38, (#[.int .i64 io, .int .i64 ix, .int .i64 iy, .int .i64 i_n, .int .i64 inn, .int .i64 ia, .int .i64 il] : Array Value)), (g5, 36, (#[.int .i64 0, .int .i64 ps, .int .i64 ln, .slice sA sn sc] : Array Value))] from List.mem_cons_of_mem _ (List.mem_cons_of_mem _ (List.mem_cons_self ..)))
          have Vi := (A4.out.vars _ VI.out).1
          have d0 := Calm.cell ((Vi.cell 0).trans rfl) Vi.lt
          have d1 := Calm.cell ((Vi.cell 1).trans rfl) Vi.lt
          have d2 := Calm.cell ((Vi.cell 2).trans rfl) Vi.lt
          have d3 := Calm.cell ((Vi.cell 3).trans rfl) Vi.lt
          have d4 := Calm.cell ((Vi.cell 4).trans rfl) Vi.lt
          have d5 := Calm.cell ((Vi.cell 5).trans rfl) Vi.lt
          have d6 := Calm.cell ((Vi.cell 6).trans rfl) Vi.lt
          clear Vi
          have Vj := (A4.out.vars _ VJ.out).1
          have f0 := Calm.cell ((Vj.cell 0).trans rfl) Vj.lt
          have f1 := Calm.cell ((Vj.cell 1).trans rfl) Vj.lt
          have f2 := Calm.cell ((Vj.cell 2).trans rfl) Vj.lt
          have f3 := Calm.cell ((Vj.cell 3).trans rfl) Vj.lt
          have f4 := Calm.cell ((Vj.cell 4).trans rfl) Vj.lt
          have f5 := Calm.cell ((Vj.cell 5).trans rfl) Vj.lt
          have f6 := Calm.cell ((Vj.cell 6).trans rfl) Vj.lt
          clear Vj
          refine calm_plain ?_
          repeat (go_big_quiet_step (fail))
          refine wpQuiet_nil ?_
          intro _ hw'
          obtain ⟨u, rfl⟩ := hw'
          have A5 := Lib.hid (A4.out.step u.below)
          clear d0 d1 d2 d3 d4 d5 d6 f0 f1 f2 f3 f4 f5 f6 A4 VM0
          cases en
          · simp only [Bool.false_eq_true, if_false] at A5
            have A8 := Lib.hid A5.out.none_
            have LE := Lib.hid (show l.length ≤ j + 1 from by have := HC.out; omega)
            clear A5
            go_wp2_with fail
            refine (icSpec.valid O9 p lv false l h (m' + 1) _ (H.out.2.2.step A8.out.low) A8.out.c (by have := LE.out; have := HK.out; have := HM.out; omega)).mono ?_
            rintro e w98 ⟨rfl, b98⟩
            have A98 := Lib.hid (A8.out.step b98)
            clear b98 A8
            go_wp2_with fail
            exact ⟨⟨j + 1, O9, l, h, (m' + 1), M, g, cw, HK.out, rfl, rfl, rfl, rfl, A98.out, ⟨by have := HC.out; omega, LE.out⟩, HA.out, HMB.out⟩, by have := HK.out; simp [intOf]; omega⟩
          · simp only [if_true] at A5
            have LE := Lib.hid (show (l ++ [(wr16 ps, (⟨io, ix, iy, i_n, inn, ia, il⟩ : Ins))]).length ≤ j + 1 from by have := HC.out; simp; omega)
            have LA := Lib.hid (show ∀ e ∈ l ++ [(wr16 ps, (⟨io, ix, iy, i_n, inn, ia, il⟩ : Ins))], e.1 ≤ 65535 from fun e he => by
              rcases List.mem_append.1 he with he | he
              · exact HA.out e he
              · rw [List.mem_singleton.1 he]; have := wr16_lt ps; simp only; omega)
            have KA := Lib.hid (wr16_eq ps)
            obtain ⟨ka, hka⟩ : ∃ ka, wr16 ps = ka := ⟨_, rfl⟩
            rw [hka] at A5 LE LA KA
            clear hka LK
            go_upto_region 30 with fail
            haveI : Nonempty (CalmT w g5 #[.int .i64 0, .int .i64 ps, .int .i64 ln, .slice sA sn sc] g7 #[.int .i64 io, .int .i64 ix, .int .i64 iy, .int .i64 i_n, .int .i64 inn, .int .i64 ia, .int .i64 il]) := ⟨⟨_, A5.out.low, (A5.out.vars _ VM.out).1, (A5.out.vars _ VJ.out).1⟩⟩
            refine wp_region_mix (C := fun w' => ∃ x : CalmT w g5 #[.int .i64 0, .int .i64 ps, .int .i64 ln, .slice sA sn sc] g7 #[.int .i64 io, .int .i64 ix, .int .i64 iy, .int .i64 i_n, .int .i64 inn, .int .i64 ia, .int .i64 il], w' = x.w) [([0, 1, 2, 4], 3), ([5], 6), ([], 7)] [8] (by kernel_rfl) (by kernel_rfl) (fun _ _ d _ _ h => by cases d <;> exact h) ⟨⟨_, A5.out.low.drew, (A5.out.vars _ VM.out).1.drew, (A5.out.vars _ VJ.out).1.drew⟩, rfl⟩ ?_
            intro wd hwd
            have A6 := Lib.hid (A5.out.step (show Below _ _ wd by rw [hwd]; exact (Below.refl _ _).drew))
            clear hwd A5
            have kc1 : ∀ u : CalmT w g5 #[.int .i64 0, .int .i64 ps, .int .i64 ln, .slice sA sn sc] g7 #[.int .i64 io, .int .i64 ix, .int .i64 iy, .int .i64 i_n, .int .i64 inn, .int .i64 ia, .int .i64 il], u.w.cell? ⟨g5, 1, none⟩ = some (.int .i64 ps) := fun u => (u.2.2.1.cell 1).trans rfl
            have kd0 : ∀ u : CalmT w g5 #[.int .i64 0, .int .i64 ps, .int .i64 ln, .slice sA sn sc] g7 #[.int .i64 io, .int .i64 ix, .int .i64 iy, .int .i64 i_n, .int .i64 inn, .int .i64 ia, .int .i64 il], u.w.cell? ⟨g7, 0, none⟩ = some (.int .i64 io) := fun u => (u.2.2.2.cell 0).trans rfl
            have kd1 : ∀ u : CalmT w g5 #[.int .i64 0, .int .i64 ps, .int .i64 ln, .slice sA sn sc] g7 #[.int .i64 io, .int .i64 ix, .int .i64 iy, .int .i64 i_n, .int .i64 inn, .int .i64 ia, .int .i64 il], u.w.cell? ⟨g7, 1, none⟩ = some (.int .i64 ix) := fun u => (u.2.2.2.cell 1).trans rfl
            have kd2 : ∀ u : CalmT w g5 #[.int .i64 0, .int .i64 ps, .int .i64 ln, .slice sA sn sc] g7 #[.int .i64 io, .int .i64 ix, .int .i64 iy, .int .i64 i_n, .int .i64 inn, .int .i64 ia, .int .i64 il], u.w.cell? ⟨g7, 2, none⟩ = some (.int .i64 iy) := fun u => (u.2.2.2.cell 2).trans rfl
            have kd3 : ∀ u : CalmT w g5 #[.int .i64 0, .int .i64 ps, .int .i64 ln, .slice sA sn sc] g7 #[.int .i64 io, .int .i64 ix, .int .i64 iy, .int .i64 i_n, .int .i64 inn, .int .i64 ia, .int .i64 il], u.w.cell? ⟨g7, 3, none⟩ = some (.int .i64 i_n) := fun u => (u.2.2.2.cell 3).trans rfl
            have kd4 : ∀ u : CalmT w g5 #[.int .i64 0, .int .i64 ps, .int .i64 ln, .slice sA sn sc] g7 #[.int .i64 io, .int .i64 ix, .int .i64 iy, .int .i64 i_n, .int .i64 inn, .int .i64 ia, .int .i64 il], u.w.cell? ⟨g7, 4, none⟩ = some (.int .i64 inn) := fun u => (u.2.2.2.cell 4).trans rfl
            have kd5 : ∀ u : CalmT w g5 #[.int .i64 0, .int .i64 ps, .int .i64 ln, .slice sA sn sc] g7 #[.int .i64 io, .int .i64 ix, .int .i64 iy, .int .i64 i_n, .int .i64 inn, .int .i64 ia, .int .i64 il], u.w.cell? ⟨g7, 5, none⟩ = some (.int .i64 ia) := fun u => (u.2.2.2.cell 5).trans rfl
            have kd6 : ∀ u : CalmT w g5 #[.int .i64 0, .int .i64 ps, .int .i64 ln, .slice sA sn sc] g7 #[.int .i64 io, .int .i64 ix, .int .i64 iy, .int .i64 i_n, .int .i64 inn, .int .i64 ia, .int .i64 il], u.w.cell? ⟨g7, 6, none⟩ = some (.int .i64 il) := fun u => (u.2.2.2.cell 6).trans rfl
            refine mix_run (by simp only [opsAt, List.getElem?_toArray, List.getElem?_cons_succ, List.getElem?_cons_zero]; rfl) (by simp only [List.getElem?_toArray, List.getElem?_cons_succ, List.getElem?_cons_zero]; rfl) ?_
            repeat (go_big_quiet_step (fail))
            refine wpQuiet_nil ?_
            refine mix_call (by rfl) ?_
            intro K hK
            go_wp2_with fail
            refine (mmod_any ps ka _ KA.out).mono ?_
            rintro e wd ⟨rfl, rfl⟩
            simp only []
            refine hK _ _ ⟨⟨_, A6.out.low, (A6.out.vars _ VM.out).1, (A6.out.vars _ VJ.out).1⟩, rfl⟩ ?_
            clear hK K kc1 kd0 kd1 kd2 kd3 kd4 kd5 kd6
            refine mix_run (by simp only [opsAt, List.getElem?_toArray, List.getElem?_cons_succ, List.getElem?_cons_zero]; rfl) (by simp only [List.getElem?_toArray, List.getElem?_cons_succ, List.getElem?_cons_zero]; rfl) ?_
            repeat (go_big_quiet_step (fail))
            refine wpQuiet_nil ?_
            refine mix_call (by rfl) ?_
            intro K hK
            go_wp2_with fail
            have A7 := Lib.hid (A6.out.step (below_new' wd (.cells #[.int .i64 (ka : Int), .int .i64 io, .int .i64 ix, .int .i64 iy, .int .i64 i_n, .int .i64 inn, .int .i64 ia, .int .i64 il] 42)))
            refine hK _ _ ⟨⟨_, A7.out.low, (A7.out.vars _ VM.out).1, (A7.out.vars _ VJ.out).1⟩, rfl⟩ ?_
            clear hK K
            refine mix_run (by simp only [opsAt, List.getElem?_toArray, List.getElem?_cons_succ, List.getElem?_cons_zero]; rfl) (by simp only [List.getElem?_toArray, List.getElem?_cons_succ, List.getElem?_cons_zero]; rfl) ?_
            refine wpQuiet_nil ?_
            refine mix_call (by rfl) ?_
            intro K hK
            refine wp_append_lies _ (.tmp 124) (.tmp 130) 34 (by rfl) w.heap.size 42 i0 _ 8 64 Tryd.underlying34 HI.out.1 HI.out.2.1 HI.out.2.2.1 HI.out.2.2.2 rfl (by decide) _ l.length (eflat l) (by rfl) A7.out.es ⟨wd.heap.size, 0, none⟩ 1 1 (ecells (ka, ⟨io, ix, iy, i_n, inn, ia, il⟩)) (by rfl) (by rfl) (cells_new8 wd (ecells (ka, ⟨io, ix, iy, i_n, inn, ia, il⟩)) _) (by simp [ecells, Value.oneCell']) (by omega) (by unfold maxLen; have := LB.out; omega) (by have := LB.out; omega) A7.out.low.size _ rfl ?_
            intro gg cap w9 o9 hg9 hat9 hlt9
            have el : (l ++ [(ka, (⟨io, ix, iy, i_n, inn, ia, il⟩ : Ins))]).length = l.length + 1 := by simp
            rw [← eflat_snoc, ← el] at o9
            rw [← el]
            have A8' := A7.out.app o9 hg9 (hat9.imp id (fun q => q))
            have A8 := Lib.hid A8'
            clear A8' A7 A6 o9 hg9 hat9 hlt9
            show K (Act.put _ (some 131) _) w9
            simp only [Act.put, List.setIfInBounds_toArray, List.set_cons_zero, List.set_cons_succ]
            refine hK _ _ ⟨⟨w9, A8.out.low, (A8.out.vars _ VM.out).1, (A8.out.vars _ VJ.out).1⟩, rfl⟩ ?_
            clear hK K
            refine mix_last (by simp only [opsAt, List.getElem?_toArray, List.getElem?_cons_succ, List.getElem?_cons_zero]; rfl) ?_
            repeat (go_big_quiet_step (fail))
            refine wpQuiet_nil ?_
            have A9 := Lib.hid A8.out.none_
            clear A8 el
            generalize l ++ [(ka, (⟨io, ix, iy, i_n, inn, ia, il⟩ : Ins))] = l9 at A9 LE LA ⊢
            go_wp2_with fail
            refine (icSpec.valid O9 p lv true l9 h (m' + 1) _ (H.out.2.2.step A9.out.low) A9.out.c (by have := LE.out; have := HK.out; have := HM.out; omega)).mono ?_
            rintro e w98 ⟨rfl, b98⟩
            have A98 := Lib.hid (A9.out.step b98)
            clear b98 A9
            go_wp2_with fail
            exact ⟨⟨j + 1, O9, l9, h, (m' + 1), M, g, cw, HK.out, rfl, rfl, rfl, rfl, A98.out, ⟨by have := HC.out; omega, LE.out⟩, LA.out, HMB.out⟩, by have := HK.out; simp [intOf]; omega⟩
      by_cases k1 : kd = 1
      · subst k1
        obtain ⟨ka, hka⟩ : ∃ ka : Nat, ps % 65536 = (ka : Int) := ⟨(ps % 65536).toNat, by omega⟩
        have KL := Lib.hid (show ka ≤ 65535 by omega)
        have KA := Lib.hid hka
        have VM := Lib.hid (show (g5, 36, (#[.int .i64 1, .int .i64 ps, .int .i64 ln, .slice sA sn sc] : Array Value)) ∈ [(g5, 36, (#[.int .i64 1, .int .i64 ps, .int .i64 ln, .slice sA sn sc] : Array Value))] from List.mem_cons_self ..)
        have c1 := (V.cell 1).trans rfl
        have c3 := (V.cell 3).trans rfl
        have lg := V.lt
        clear V hka k0
        go_wp2_with fail
        clear c0 c1 c3 lg
        refine (write_both pm M (.slice none 0 0) 0 w.heap.size [] ps sA sn sc sb _ HMB.out.1 A1.out.mm (World.ownsRow_nil _ _ _ _) A1.out.low.size (Nat.zero_le _) OK.out.2.len (by have := PS.out.2.2.2; omega) OK.out.2.cap (OK.out.2.rd.below A1.out.low) (fun ad e h0 c => by have := OK.out.2.rd.block_lt' (by rintro rfl; have := OK.out.2.len; simp at this; omega) e; have := A1.out.mb; omega)).mono ?_
        rintro e w6 ⟨rfl, v6, mm, ow, ap, hor⟩
        rw [Nat.zero_add, List.nil_append] at ow
        have NL := Lib.hid (show ∀ g, v6.ownBlock = some g → ¬ O g from fun g hg c => by
          rcases hor with e | ⟨g', e, hle⟩
          · rw [e] at hg; cases hg
          · rw [hg] at e; injection e with e; have := A1.out.lt _ c; omega)
        have A2 := Lib.hid (A1.out.mem ap mm)
        have OW6 := Lib.hid ow
        have M2B := Lib.hid (show (put M ps sb).length = 65536 ∧ BtM (put M ps sb) from ⟨by rw [put_len]; exact HMB.out.1, BtM.put _ _ _ HMB.out.2 OK.out.2.bd⟩)
        clear mm ow ap hor A1
        have V2 := (A2.out.vars _ VM.out).1
        have c1 := (V2.cell 1).trans rfl
        have c3 := (V2.cell 3).trans rfl
        have lg := V2.lt
        simp only at c1 c3 lg
        clear V2
        go_wp2_with fail
        clear c1 c3 lg
        refine (rput_any ⟨g, 0, none⟩ N cw M ps sA sn sc sb _ NN.out (by rw [NN.out]; exact HMB.out.1) ⟨(A2.out.bs.lt g rfl).2, own_at A2.out.bs⟩ (by have := PS.out.1.1; omega) (by have := PS.out.1.2; omega) OK.out.2.len (by have := PS.out.2.2.2; omega) (OK.out.2.rd.below A2.out.low)).mono ?_
        rintro e w7 hh
        obtain ⟨M2, hM2⟩ : ∃ M2, put M ps sb = M2 := ⟨_, rfl⟩
        rw [hM2] at A2 M2B hh
        obtain ⟨g2, c2, rfl, gle, glt, o7, b7⟩ := hh.bytes (n := N) (by rw [NN.out]; exact M2B.out.1) (by have := NN.out; omega)
        have A3 := Lib.hid (A2.out.put b7 o7)
        have OW7 := Lib.hid (own_kept OW6.out (Kept.of_below (O := fun _ => False) b7) (fun _ _ c => c))
        clear hh gle glt o7 b7 A2 OW6 hM2
        obtain ⟨Av, cv, rfl⟩ := own_form8 OW7.out
        go_wp2_with fail
        refine (dirty_any pm M2 Av (cnt sn) cv _ M2B.out.1 A3.out.mm).mono ?_
        rintro e w8 ⟨rfl, mm, ap⟩
        have A4 := Lib.hid (A3.out.mem (ap none) mm)
        have OW8 := Lib.hid (own_apart OW7.out (ap none) (own_tag OW7.out A3.out.mm (by decide)) (fun k hk => by cases hk))
        clear mm ap A3 OW7
        go_wp2_with fail
        have hq6 : sn ≤ 65536 := Nat.le_trans PS.out.2.2.2 (by decide)
        have hl6 : l.length ≤ 1000 := Nat.le_trans LB.out.1 (by decide)
        have IV := @IcSpec.inval IcF Laid icSpec O p h m' w.heap.size lv en l w8 (.slice Av (cnt sn) cv) ps sn (H.out.2.2.step A4.out.low) A4.out.c OW8.out NL.out hq6 hl6
        clear hq6 hl6
        refine IV.mono ?_
        clear IV
        rintro e w9 ⟨rfl, ht⟩
        obtain ⟨O9, a9⟩ := A4.out.toC ht
        have A5 := Lib.hid a9
        have LE := Lib.hid (show (dropE l ps sn).length ≤ j + 1 from by have h1 := drop_len l ps sn; have := HC.out; omega)
        have LA := Lib.hid (show ∀ e ∈ dropE l ps sn, e.1 ≤ 65535 from fun e he => HA.out e (drop_mem' he))
        clear ht a9 A4 OW8 NL
        go_upto_region 35 with fail
        haveI : Nonempty (CalmS w g5 (#[.int .i64 1, .int .i64 ps, .int .i64 ln, .slice sA sn sc] : Array Value)) := ⟨⟨_, A5.out.low, (A5.out.vars _ VM.out).1⟩⟩
        refine wp_region_mix (C := fun w' => ∃ x : CalmS w g5 (#[.int .i64 1, .int .i64 ps, .int .i64 ln, .slice sA sn sc] : Array Value), w' = x.w) [([0, 1, 2, 4, 5, 6], 3), ([], 7)] [8] (by kernel_rfl) (by kernel_rfl) (fun _ _ d _ _ h => by cases d <;> exact h) ⟨⟨_, A5.out.low.drew, (A5.out.vars _ VM.out).1.drew⟩, rfl⟩ ?_
        intro wd hwd
        have A6 := Lib.hid (A5.out.step (show Below _ _ wd by rw [hwd]; exact (Below.refl _ _).drew))
        clear hwd A5
        have kc1 : ∀ u : CalmS w g5 (#[.int .i64 1, .int .i64 ps, .int .i64 ln, .slice sA sn sc] : Array Value), u.w.cell? ⟨g5, 1, none⟩ = some (.int .i64 ps) := fun u => (u.cell 1).trans rfl
        have kc3 : ∀ u : CalmS w g5 (#[.int .i64 1, .int .i64 ps, .int .i64 ln, .slice sA sn sc] : Array Value), u.w.cell? ⟨g5, 3, none⟩ = some (.slice sA sn sc) := fun u => (u.cell 3).trans rfl
        refine mix_run (by simp only [opsAt, List.getElem?_toArray, List.getElem?_cons_succ, List.getElem?_cons_zero]; rfl) (by simp only [List.getElem?_toArray, List.getElem?_cons_succ, List.getElem?_cons_zero]; rfl) ?_
        repeat (go_big_quiet_step (fail))
        refine wpQuiet_nil ?_
        refine mix_call (by rfl) ?_
        intro K hK
        go_wp2_with fail
        refine (mmod_any ps ka _ KA.out).mono ?_
        rintro e wd ⟨rfl, rfl⟩
        simp only []
        refine hK _ _ ⟨⟨_, A6.out.low, (A6.out.vars _ VM.out).1⟩, rfl⟩ ?_
        clear hK K
        refine mix_run (by simp only [opsAt, List.getElem?_toArray, List.getElem?_cons_succ, List.getElem?_cons_zero]; rfl) (by simp only [List.getElem?_toArray, List.getElem?_cons_succ, List.getElem?_cons_zero]; rfl) ?_
        refine wpQuiet_nil ?_
        refine mix_call (by rfl) ?_
        intro K hK
        go_wp2_with fail
        refine (rdrop_any Ae l.length ce l (ka : Int) (sn : Int) _ (own_ent A6.out.es rfl) rfl (by have := LB.out; omega) HA.out (by omega) (by have := KL.out; omega)).mono ?_
        rintro e w8 ⟨Af, cf, rfl, o8, b8⟩
        rw [drop_of_mod KA.out] at o8 ⊢
        have A7 := Lib.hid (A6.out.ents (r' := dropE l ps sn) b8 o8)
        clear o8 b8 A6
        simp only []
        refine hK _ _ ⟨⟨_, A7.out.low, (A7.out.vars _ VM.out).1⟩, rfl⟩ ?_
        clear hK K
        refine mix_last (by simp only [opsAt, List.getElem?_toArray, List.getElem?_cons_succ, List.getElem?_cons_zero]; rfl) ?_
        repeat (go_big_quiet_step (fail))
        refine wpQuiet_nil ?_
        clear kc1 kc3
        have A8 := Lib.hid A7.out.none_
        clear A7
        generalize dropE l ps sn = l9 at A8 LE LA ⊢
        go_wp2_with fail
        refine (icSpec.valid O9 p lv en l9 h m' _ (H.out.2.2.step A8.out.low) A8.out.c (by have := LE.out; have := HK.out; have := HM.out; omega)).mono ?_
        rintro e w98 ⟨rfl, b98⟩
        have A98 := Lib.hid (A8.out.step b98)
        clear b98 A8
        go_wp2_with fail
        exact ⟨⟨j + 1, O9, l9, h, m', M2, g2, c2, HK.out, rfl, rfl, rfl, rfl, A98.out, ⟨by have := HC.out; omega, LE.out⟩, LA.out, M2B.out⟩, by have := HK.out; simp [intOf]; omega⟩
      by_cases k2 : kd = 2
      · subst k2
        clear k0 k1 V
        go_wp2_with fail
        clear c0
        refine (icSpec.flush O p lv en l h m' _ (H.out.2.2.step A1.out.low) A1.out.c (by have := LB.out; omega)).mono ?_
        rintro e w6 ⟨rfl, ht⟩
        obtain ⟨O9, a9⟩ := A1.out.toC ht
        have A9 := Lib.hid (a9.nil).none_
        have LE := Lib.hid (show ([] : Ents).length ≤ j + 1 from Nat.zero_le _)
        clear ht a9 A1
        go_wp2_with fail
        refine (icSpec.valid O9 p lv en [] h m' _ (H.out.2.2.step A9.out.low) A9.out.c (by have := LE.out; have := HK.out; have := HM.out; omega)).mono ?_
        rintro e w98 ⟨rfl, b98⟩
        have A98 := Lib.hid (A9.out.step b98)
        clear b98 A9
        go_wp2_with fail
        exact ⟨⟨j + 1, O9, [], h, m', M, g, cw, HK.out, rfl, rfl, rfl, rfl, A98.out, ⟨by have := HC.out; omega, LE.out⟩, fun e he => (by cases he), HMB.out⟩, by have := HK.out; simp [intOf]; omega⟩
      · have k0' : (kd == 0) = false := by simpa using k0
        have k1' : (kd == 1) = false := by simpa using k1
        have k2' : (kd == 2) = false := by simpa using k2
        obtain ⟨ka, hka⟩ : ∃ ka : Nat, ps % 65536 = (ka : Int) := ⟨(ps % 65536).toNat, by omega⟩
        have KL := Lib.hid (show ka ≤ 65535 by omega)
        have KA := Lib.hid hka
        have VM := Lib.hid (show (g5, 36, (#[.int .i64 kd, .int .i64 ps, .int .i64 ln, .slice sA sn sc] : Array Value)) ∈ [(g5, 36, (#[.int .i64 kd, .int .i64 ps, .int .i64 ln, .slice sA sn sc] : Array Value))] from List.mem_cons_self ..)
        clear V hka
        go_upto_region 16 with fail
        clear c0 k0 k1 k2 k0' k1' k2'
        haveI : Nonempty (CalmS w g5 (#[.int .i64 kd, .int .i64 ps, .int .i64 ln, .slice sA sn sc] : Array Value)) := ⟨⟨_, A1.out.low, (A1.out.vars _ VM.out).1⟩⟩
        refine wp_region_mix (C := fun w' => ∃ x : CalmS w g5 (#[.int .i64 kd, .int .i64 ps, .int .i64 ln, .slice sA sn sc] : Array Value), w' = x.w) [([0, 1, 2, 4, 5], 3), ([6], 7), ([], 8)] [] (by kernel_rfl) (by kernel_rfl) (fun _ _ d _ _ h => by cases d <;> exact h) ⟨⟨_, A1.out.low.drew, (A1.out.vars _ VM.out).1.drew⟩, rfl⟩ ?_
        intro wd hwd
        have A2 := Lib.hid (A1.out.step (show Below _ _ wd by rw [hwd]; exact (Below.refl _ _).drew))
        clear hwd A1
        have kc1 : ∀ u : CalmS w g5 (#[.int .i64 kd, .int .i64 ps, .int .i64 ln, .slice sA sn sc] : Array Value), u.w.cell? ⟨g5, 1, none⟩ = some (.int .i64 ps) := fun u => (u.cell 1).trans rfl
        have kc2 : ∀ u : CalmS w g5 (#[.int .i64 kd, .int .i64 ps, .int .i64 ln, .slice sA sn sc] : Array Value), u.w.cell? ⟨g5, 2, none⟩ = some (.int .i64 ln) := fun u => (u.cell 2).trans rfl
        refine mix_run (by simp only [opsAt, List.getElem?_toArray, List.getElem?_cons_succ, List.getElem?_cons_zero]; rfl) (by simp only [List.getElem?_toArray, List.getElem?_cons_succ, List.getElem?_cons_zero]; rfl) ?_
        repeat (go_big_quiet_step (fail))
        refine wpQuiet_nil ?_
        refine mix_call (by rfl) ?_
        intro K hK
        go_wp2_with fail
        refine (mmod_any ps ka _ KA.out).mono ?_
        rintro e wd ⟨rfl, rfl⟩
        simp only []
        refine hK _ _ ⟨⟨_, A2.out.low, (A2.out.vars _ VM.out).1⟩, rfl⟩ ?_
        clear hK K
        refine mix_run (by simp only [opsAt, List.getElem?_toArray, List.getElem?_cons_succ, List.getElem?_cons_zero]; rfl) (by simp only [List.getElem?_toArray, List.getElem?_cons_succ, List.getElem?_cons_zero]; rfl) ?_
        repeat (go_big_quiet_step (fail))
        refine wpQuiet_nil ?_
        refine mix_call (by rfl) ?_
        intro K hK
        go_wp2_with fail
        have X3 := Lib.hid (Blk.new wd 52 #[.int .i64 (ka : Int), .int .i64 ln])
        have A3 := Lib.hid (A2.out.step (below_new' wd (.cells #[.int .i64 (ka : Int), .int .i64 ln] 52)))
        have NO := Lib.hid (show ¬ O wd.heap.size from fun c => Nat.lt_irrefl _ (A2.out.lt _ c))
        refine hK _ _ ⟨⟨_, A3.out.low, (A3.out.vars _ VM.out).1⟩, rfl⟩ ?_
        clear hK K
        refine mix_run (by simp only [opsAt, List.getElem?_toArray, List.getElem?_cons_succ, List.getElem?_cons_zero]; rfl) (by simp only [List.getElem?_toArray, List.getElem?_cons_succ, List.getElem?_cons_zero]; rfl) ?_
        refine wpQuiet_nil ?_
        refine mix_call (by rfl) ?_
        intro K hK
        go_wp2_with fail
        refine (icSpec.drop O p lv en l h m' _ ⟨wd.heap.size, 0, none⟩ 1 (ka : Int) ln (H.out.2.2.step A3.out.low) A3.out.c ((X3.out.cell 0).trans rfl) ((X3.out.cell 1).trans rfl) X3.out.lt NO.out (by omega) (by have := KL.out; omega) PS.out.2.1 PS.out.2.2.1 (by have := LB.out; omega) (by decide)).mono ?_
        rintro e w6 ⟨rfl, ht⟩
        obtain ⟨O9, a9⟩ := A3.out.toC ht
        have A4 := Lib.hid a9
        have LE := Lib.hid (show (dropE l ka ln).length ≤ j + 1 from by have h1 := drop_len l ka ln; have := HC.out; omega)
        have LA := Lib.hid (show ∀ e ∈ dropE l ka ln, e.1 ≤ 65535 from fun e he => HA.out e (drop_mem' he))
        clear ht a9 A2 A3 X3 NO kc1 kc2
        simp only []
        refine hK _ _ ⟨⟨_, A4.out.low, (A4.out.vars _ VM.out).1⟩, rfl⟩ ?_
        clear hK K
        refine mix_last (by simp only [opsAt, List.getElem?_toArray, List.getElem?_cons_succ, List.getElem?_cons_zero]; rfl) ?_
        refine wpQuiet_nil ?_
        go_upto_region 17 with fail
        haveI : Nonempty (CalmS w g5 (#[.int .i64 kd, .int .i64 ps, .int .i64 ln, .slice sA sn sc] : Array Value)) := ⟨⟨_, A4.out.low, (A4.out.vars _ VM.out).1⟩⟩
        refine wp_region_mix (C := fun w' => ∃ x : CalmS w g5 (#[.int .i64 kd, .int .i64 ps, .int .i64 ln, .slice sA sn sc] : Array Value), w' = x.w) [([0, 1, 2, 4, 5], 3), ([], 6)] [7] (by kernel_rfl) (by kernel_rfl) (fun _ _ d _ _ h => by cases d <;> exact h) ⟨⟨_, A4.out.low.drew, (A4.out.vars _ VM.out).1.drew⟩, rfl⟩ ?_
        intro wd hwd
        have A5 := Lib.hid (A4.out.step (show Below _ _ wd by rw [hwd]; exact (Below.refl _ _).drew))
        clear hwd A4
        have kc1 : ∀ u : CalmS w g5 (#[.int .i64 kd, .int .i64 ps, .int .i64 ln, .slice sA sn sc] : Array Value), u.w.cell? ⟨g5, 1, none⟩ = some (.int .i64 ps) := fun u => (u.cell 1).trans rfl
        have kc2 : ∀ u : CalmS w g5 (#[.int .i64 kd, .int .i64 ps, .int .i64 ln, .slice sA sn sc] : Array Value), u.w.cell? ⟨g5, 2, none⟩ = some (.int .i64 ln) := fun u => (u.cell 2).trans rfl
        refine mix_run (by simp only [opsAt, List.getElem?_toArray, List.getElem?_cons_succ, List.getElem?_cons_zero]; rfl) (by simp only [List.getElem?_toArray, List.getElem?_cons_succ, List.getElem?_cons_zero]; rfl) ?_
        repeat (go_big_quiet_step (fail))
        refine wpQuiet_nil ?_
        refine mix_call (by rfl) ?_
        intro K hK
        go_wp2_with fail
        refine (mmod_any ps ka _ KA.out).mono ?_
        rintro e wd ⟨rfl, rfl⟩
        simp only []
        refine hK _ _ ⟨⟨_, A5.out.low, (A5.out.vars _ VM.out).1⟩, rfl⟩ ?_
        clear hK K
        refine mix_run (by simp only [opsAt, List.getElem?_toArray, List.getElem?_cons_succ, List.getElem?_cons_zero]; rfl) (by simp only [List.getElem?_toArray, List.getElem?_cons_succ, List.getElem?_cons_zero]; rfl) ?_
        refine wpQuiet_nil ?_
        refine mix_call (by rfl) ?_
        intro K hK
        go_wp2_with fail
        refine (rdrop_any Ae l.length ce l (ka : Int) ln _ (own_ent A5.out.es rfl) rfl (by have := LB.out; omega) HA.out (by omega) (by have := KL.out; omega)).mono ?_
        rintro e w8 ⟨Af, cf, rfl, o8, b8⟩
        have A6 := Lib.hid (A5.out.ents (r' := dropE l ka ln) b8 o8)
        clear o8 b8 A5
        simp only []
        refine hK _ _ ⟨⟨_, A6.out.low, (A6.out.vars _ VM.out).1⟩, rfl⟩ ?_
        clear hK K
        refine mix_last (by simp only [opsAt, List.getElem?_toArray, List.getElem?_cons_succ, List.getElem?_cons_zero]; rfl) ?_
        repeat (go_big_quiet_step (fail))
        refine wpQuiet_nil ?_
        clear kc1 kc2
        have A7 := Lib.hid A6.out.none_
        clear A6
        generalize dropE l ka ln = l9 at A7 LE LA
        go_wp2_with fail
        refine (icSpec.valid O9 p lv en l9 h m' _ (H.out.2.2.step A7.out.low) A7.out.c (by have := LE.out; have := HK.out; have := HM.out; omega)).mono ?_
        rintro e w98 ⟨rfl, b98⟩
        have A98 := Lib.hid (A7.out.step b98)
        clear b98 A7
        go_wp2_with fail
        exact ⟨⟨j + 1, O9, l9, h, m', M, g, cw, HK.out, rfl, rfl, rfl, rfl, A98.out, ⟨by have := HC.out; omega, LE.out⟩, LA.out, HMB.out⟩, by have := HK.out; simp [intOf]; omega⟩
    · obtain rfl : j = m := by omega
      clear hk hlt
      have LB := Lib.hid (show l.length ≤ 40 ∧ h ≤ 40 ∧ m' ≤ 40 by have := HC.out; have := HM.out; omega)
      have PK := icSpec.peek O p lv en l h m' _ pb (H.out.2.2.step A0.out.low) A0.out.c HPB.out.1 HPB.out.2 (by have := LB.out; omega)
      cases hlk : lookE l (wr16 pb) with
      | none =>
        unfold peekE at PK
        rw [hlk] at PK
        simp only [Option.getD_none, Option.isSome_none] at PK
        unfold icells at PK
        simp only [] at PK
        have PK := Lib.hid PK
        have LK := Lib.hid hlk
        clear hlk
        go_wp2_with fail
        refine PK.out.mono ?_
        rintro e w6 ⟨rfl, b6⟩
        have A2 := Lib.hid ((A0.out.step b6).new 38 #[.int .i64 0, .int .i64 0, .int .i64 0, .int .i64 0, .int .i64 0, .int .i64 0, .int .i64 0] (by decide))
        clear b6 A0 PK
        go_upto_region 42 with fail
        obtain ⟨g6, hg6⟩ : ∃ g6, w6.heap.size = g6 := ⟨_, rfl⟩
        rw [hg6] at A2 ⊢
        generalize World.alloc _ _ = u6 at A2 ⊢
        clear hg6
        have VI := Lib.hid (show (g6, 38, (#[.int .i64 0, .int .i64 0, .int .i64 0, .int .i64 0, .int .i64 0, .int .i64 0, .int .i64 0] : Array Value)) ∈ [(g6, 38, (#[.int .i64 0, .int .i64 0, .int .i64 0, .int .i64 0, .int .i64 0, .int .i64 0, .int .i64 0] : Array Value))] from List.mem_cons_self ..)
        go_wp2_with fail
        refine (rfind_any Ae l.length ce l pb (wr16 pb) _ (own_ent A2.out.es rfl) rfl (by have := LB.out; omega) (wr16_eq pb)).mono ?_
        rintro e w7 ⟨rfl, b7⟩
        have A3 := Lib.hid (A2.out.step b7)
        clear b7 A2
        rw [show findE l (wr16 pb) = -1 by
          rcases find_look l (wr16 pb) with ⟨e, _⟩ | ⟨k, hk, e1, e2⟩
          · exact e
          · rw [LK.out] at e2; cases e2]
        have Vi := (A3.out.vars _ VI.out).1
        have d0 := Calm.cell ((Vi.cell 0).trans rfl) Vi.lt
        have d1 := Calm.cell ((Vi.cell 1).trans rfl) Vi.lt
        have d2 := Calm.cell ((Vi.cell 2).trans rfl) Vi.lt
        have d3 := Calm.cell ((Vi.cell 3).trans rfl) Vi.lt
        have d4 := Calm.cell ((Vi.cell 4).trans rfl) Vi.lt
        have d5 := Calm.cell ((Vi.cell 5).trans rfl) Vi.lt
        have d6 := Calm.cell ((Vi.cell 6).trans rfl) Vi.lt
        clear Vi
        go_upto_region 43 with fail
        refine calm_region (by kernel_rfl) (by kernel_rfl) ?_
        repeat (go_big_quiet_step (fail))
        refine wpQuiet_nil ?_
        intro _ hw'
        obtain ⟨u, rfl⟩ := hw'
        have A4 := Lib.hid (A3.out.step u.below).none_
        clear A3 d0 d1 d2 d3 d4 d5 d6
        go_upto_region 45 with fail
        generalize u.w = uu at A4 ⊢
        have VC := Lib.hid (fun x : Calm uu => icSpec.valid O p lv en l h m' x.w (H.out.2.2.step (A4.out.step x.below).low) (A4.out.step x.below).c (by have := LB.out; omega))
        have HH := Lib.hid (fun x : Calm uu => icSpec.hits O p lv en l h m' x.w (H.out.2.2.step (A4.out.step x.below).low) (A4.out.step x.below).c)
        have MC := Lib.hid (fun x : Calm uu => icSpec.misses O p lv en l h m' x.w (H.out.2.2.step (A4.out.step x.below).low) (A4.out.step x.below).c)
        refine calm_plain ?_
        repeat (go_big_quiet_step (first
          | (go_at_call 24; exact calm_call (VC.out _))
          | (go_at_call 26; exact calm_call (HH.out _))
          | (go_at_call 27; exact calm_call (MC.out _))))
        refine wpQuiet_nil ?_
        intro _ hw'
        obtain ⟨x, rfl⟩ := hw'
        have BE := Lib.hid (A4.out.step x.below).low
        go_wp2_with fail
        go_ret
        exact ⟨rfl, BE.out⟩
      | some i =>
        unfold peekE at PK
        rw [hlk] at PK
        simp only [Option.getD_some, Option.isSome_some] at PK
        obtain ⟨io, ix, iy, i_n, inn, ia, il⟩ := i
        unfold icells at PK
        simp only [] at PK
        have PK := Lib.hid PK
        have LK := Lib.hid hlk
        clear hlk
        go_wp2_with fail
        refine PK.out.mono ?_
        rintro e w6 ⟨rfl, b6⟩
        have A2 := Lib.hid ((A0.out.step b6).new 38 #[.int .i64 io, .int .i64 ix, .int .i64 iy, .int .i64 i_n, .int .i64 inn, .int .i64 ia, .int .i64 il] (by decide))
        clear b6 A0 PK
        go_upto_region 42 with fail
        obtain ⟨g6, hg6⟩ : ∃ g6, w6.heap.size = g6 := ⟨_, rfl⟩
        rw [hg6] at A2 ⊢
        generalize World.alloc _ _ = u6 at A2 ⊢
        clear hg6
        have VI := Lib.hid (show (g6, 38, (#[.int .i64 io, .int .i64 ix, .int .i64 iy, .int .i64 i_n, .int .i64 inn, .int .i64 ia, .int .i64 il] : Array Value)) ∈ [(g6, 38, (#[.int .i64 io, .int .i64 ix, .int .i64 iy, .int .i64 i_n, .int .i64 inn, .int .i64 ia, .int .i64 il] : Array Value))] from List.mem_cons_self ..)
        go_wp2_with fail
        refine (rfind_any Ae l.length ce l pb (wr16 pb) _ (own_ent A2.out.es rfl) rfl (by have := LB.out; omega) (wr16_eq pb)).mono ?_
        rintro e w7 ⟨rfl, b7⟩
        have A3 := Lib.hid (A2.out.step b7)
        clear b7 A2
        obtain ⟨k, hk, ek, ik⟩ : ∃ (k : Nat) (h : k < l.length), findE l (wr16 pb) = k ∧ l[k].2 = ⟨io, ix, iy, i_n, inn, ia, il⟩ := by
          rcases find_look l (wr16 pb) with ⟨_, e⟩ | ⟨k, hk, e1, e2⟩
          · rw [LK.out] at e; cases e
          · rw [LK.out] at e2
            injection e2 with e2
            exact ⟨k, hk, e1, e2.symm⟩
        rw [ek]
        obtain ⟨be, hbe, hbl, hce⟩ := ent_ins (own_ent A3.out.es rfl) hk
        rw [ik] at hce
        have HCE := Lib.hid hce
        have KI := Lib.hid (And.intro hk hbl)
        subst hbe
        clear ek ik hce hbl
        have kk0 : (k : Int) ≥ 0 := by omega
        have kk1 : (k : Int) < (l.length : Int) := by omega
        clear hk
        have Vi := (A3.out.vars _ VI.out).1
        have d0 := Calm.cell ((Vi.cell 0).trans rfl) Vi.lt
        have d1 := Calm.cell ((Vi.cell 1).trans rfl) Vi.lt
        have d2 := Calm.cell ((Vi.cell 2).trans rfl) Vi.lt
        have d3 := Calm.cell ((Vi.cell 3).trans rfl) Vi.lt
        have d4 := Calm.cell ((Vi.cell 4).trans rfl) Vi.lt
        have d5 := Calm.cell ((Vi.cell 5).trans rfl) Vi.lt
        have d6 := Calm.cell ((Vi.cell 6).trans rfl) Vi.lt
        clear Vi
        go_upto_region 43 with fail
        refine calm_region (by kernel_rfl) (by kernel_rfl) ?_
        iterate 12 (go_big_quiet_step (rfl))
        refine quiet_load_cells _ #[.int .i64 io, .int .i64 ix, .int .i64 iy, .int .i64 i_n, .int .i64 inn, .int .i64 ia, .int .i64 il] aggInstr rfl ⟨be, k * 8 + 1, none⟩ (fun w9 hw9 jj v hv => by
          obtain ⟨u, rfl⟩ := hw9
          exact (u.below.cell (p := (⟨be, k * 8 + 1, none⟩ : Addr).add jj) (by rw [add_block]; exact KI.out.2)).trans (HCE.out jj v hv)) ?_ (.tmp 187) ?_ ?_ ?_
        · rfl
        · rfl
        · rfl
        simp only [Act.put, List.setIfInBounds_toArray, List.set_cons_zero, List.set_cons_succ]
        repeat (go_big_quiet_step (fail))
        refine wpQuiet_nil ?_
        intro _ hw'
        obtain ⟨u, rfl⟩ := hw'
        have A4 := Lib.hid (A3.out.step u.below).none_
        clear A3 d0 d1 d2 d3 d4 d5 d6
        go_upto_region 45 with fail
        generalize u.w = uu at A4 ⊢
        have VC := Lib.hid (fun x : Calm uu => icSpec.valid O p lv en l h m' x.w (H.out.2.2.step (A4.out.step x.below).low) (A4.out.step x.below).c (by have := LB.out; omega))
        have HH := Lib.hid (fun x : Calm uu => icSpec.hits O p lv en l h m' x.w (H.out.2.2.step (A4.out.step x.below).low) (A4.out.step x.below).c)
        have MC := Lib.hid (fun x : Calm uu => icSpec.misses O p lv en l h m' x.w (H.out.2.2.step (A4.out.step x.below).low) (A4.out.step x.below).c)
        refine calm_plain ?_
        repeat (go_big_quiet_step (first
          | (go_at_call 24; exact calm_call (VC.out _))
          | (go_at_call 26; exact calm_call (HH.out _))
          | (go_at_call 27; exact calm_call (MC.out _))))
        refine wpQuiet_nil ?_
        intro _ hw'
        obtain ⟨x, rfl⟩ := hw'
        have BE := Lib.hid (A4.out.step x.below).low
        go_wp2_with fail
        go_ret
        exact ⟨rfl, BE.out⟩
end Go.Proofs.YtgilkbmipgejeaaDoor
