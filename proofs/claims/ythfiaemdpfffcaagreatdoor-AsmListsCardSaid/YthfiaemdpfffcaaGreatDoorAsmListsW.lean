/- AsmLists: the walk. -/
import Derived.Test.YthfiaemdpfffcaaGreatDoorAsmRefList
import Derived.Test.YthfiaemdpfffcaaGreatDoorAsmAwake
import Derived.Test.YthfiaemdpfffcaaGreatDoorBytOpen
import Derived.Lib.Hide
namespace Go.Proofs.YthfiaemdpfffcaaGreatDoor
open Go.RowKit Num Dec
set_option linter.unusedVariables false
set_option linter.unusedSimpArgs false

/-- Does a line begin with the word for data? -/
def isD (t : List UInt8) : Prop := t.take 5 = [100, 97, 116, 97, 32]
theorem data_isD (L : List Int) : isD (dataL L) := by
  unfold isD dataL
  simp
theorem text_notD {l : Int} {i : Ins} (h : Lg l i) : ¬ isD (txtL i) := by
  intro c
  have e := h.data ((txtL i).drop 5)
  apply e
  have : txtL i = (txtL i).take 5 ++ (txtL i).drop 5 := (List.take_append_drop 5 _).symm
  rw [c] at this
  exact this
theorem line_kind {l : Int} : ∀ (f : Nat) {L : List Int}, Bt L → L.length ≤ f → ∀ t ∈ linesA l L, (∃ i, Lg l i ∧ txtL i = t) ∨ isD t
  | 0, L, hb, hf, t, ht => by rw [lines_nil l (by omega)] at ht; simp at ht
  | f + 1, L, hb, hf, t, ht => by
    by_cases h0 : L.length = 0
    · rw [lines_nil l h0] at ht
      simp at ht
    · rw [lines_cons hb (by omega)] at ht
      have hn := line_n (l := l) hb (by omega)
      rcases List.mem_cons.1 ht with rfl | ht
      · unfold lineL
        by_cases hI : isI l L
        · rw [if_pos hI]
          exact .inl ⟨_, hI.lg hb, rfl⟩
        · rw [if_neg hI]
          exact .inr (data_isD L)
      · exact line_kind f (hb.drop _) (by rw [List.length_drop]; omega) t ht
theorem code_firstL {l : Int} {b0 b1 b2 b3 : Nat} (h0 : b0 < 256) (h1 : b1 < 256) (h2 : b2 < 256) (h3 : b3 < 256) {i : Ins} (hi : dec b0 b1 b2 b3 l = i) (hg : Lg l i) : codeL i = [(b0 : Int), b1, b2, b3].take i.len.toNat := by
  have hk : ok b0 b1 l = true := by
    cases hk : ok b0 b1 l
    · rw [decNo hk] at hi
      have := hg.rg.1.1
      rw [← hi] at this
      exact absurd this (by simp)
    · rfl
  have he := enc_dec (b2 := b2) (b3 := b3) h0 h1 hk
  rw [hi] at he
  have hb := hg.back
  unfold codeL
  rw [he, show (b0 * 256 + b1) / 256 = b0 by omega, show (b0 * 256 + b1) % 256 = b1 by omega]
  rcases hb.2.2.2.2.2.1 with e | e
  · rw [e]
    rfl
  · have h48 := hb.2.2.2.2.1.2 e
    have ha : i.addr = (b2 : Int) * 256 + b3 := by
      rcases dec_tail b0 b1 b2 b3 b2 b3 l h0 h1 with ⟨_, _, t, _⟩ | ⟨t, _⟩
      · rw [hi] at t
        exact t
      · rw [hi] at t
        exact absurd h48 t
    rw [ha, show ((b2 : Int) * 256 + b3) / 256 = b2 by omega, show ((b2 : Int) * 256 + b3) % 256 = b3 by omega]
/-- The bytes of the first line's instruction are the first bytes. -/
theorem code_take {l : Int} {L : List Int} (hb : Bt L) (hI : isI l L) : codeL (insA l L) = L.take (lineN l L) := by
  have hg := hI.lg hb
  have e0 : codeL (insA l L) = [((atb L 0 : Nat) : Int), (atb L 1 : Nat), (atb L 2 : Nat), (atb L 3 : Nat)].take (insA l L).len.toNat := code_firstL (hb.at_ 0).2 (hb.at_ 1).2 (hb.at_ 2).2 (hb.at_ 3).2 rfl hg
  rw [e0]
  unfold lineN
  rw [if_pos hI]
  have hl := hI.2
  have h24 := hg.back.2.2.2.2.2.1
  rw [(hb.at_ 0).1, (hb.at_ 1).1, (hb.at_ 2).1, (hb.at_ 3).1]
  rcases h24 with e | e
  · rw [e] at hl ⊢
    rcases L with _ | ⟨a, _ | ⟨b, t⟩⟩
    · simp at hl
    · simp at hl
    · rfl
  · rw [e] at hl ⊢
    rcases L with _ | ⟨a, _ | ⟨b, _ | ⟨c, _ | ⟨d, t⟩⟩⟩⟩
    · simp at hl
    · simp at hl
    · simp at hl
    · simp at hl
    · rfl
/-- Lines without data are assembled to the bytes again. -/
theorem lines_codes {l : Int} : ∀ (f : Nat) {L : List Int} {I : List Ins}, Bt L → L.length ≤ f → (∀ i ∈ I, Lg l i) → linesA l L = I.map txtL → codes I = L
  | 0, L, I, hb, hf, hg, h => by
    rw [lines_nil l (by omega)] at h
    have hI : I = [] := by cases I with | nil => rfl | cons a t => simp at h
    rw [hI]
    exact (List.eq_nil_of_length_eq_zero (by omega)).symm
  | f + 1, L, I, hb, hf, hg, h => by
    by_cases h0 : L.length = 0
    · rw [lines_nil l h0] at h
      have hI : I = [] := by cases I with | nil => rfl | cons a t => simp at h
      rw [hI]
      exact (List.eq_nil_of_length_eq_zero h0).symm
    · rw [lines_cons hb (by omega)] at h
      have hn := line_n (l := l) hb (by omega)
      cases I with
      | nil => simp at h
      | cons i I =>
        rw [List.map_cons] at h
        injection h with h1 h2
        have hi := hg i (by simp)
        have hI : isI l L := by
          by_cases hI : isI l L
          · exact hI
          · unfold lineL at h1
            rw [if_neg hI] at h1
            exact absurd (h1 ▸ data_isD L) (text_notD hi)
        have he : i = insA l L := by
          unfold lineL at h1
          rw [if_pos hI] at h1
          exact (txt_inj (hI.lg hb) hi h1).symm
        have ih := lines_codes f (hb.drop (lineN l L)) (by rw [List.length_drop]; omega) (fun j hj => hg j (List.mem_cons_of_mem _ hj)) h2
        have e : codes (i :: I) = codeL i ++ codes I := by simp [codes]
        rw [e, ih, he, code_take hb hI, List.take_append_drop]
theorem bytesOf_same {M N : List ByteArray} (h : bytesOf M = bytesOf N) : sameB M N = true := by
  have e : ∀ M : List ByteArray, M.map (·.toList) = bytesOf M := fun M => by
    unfold bytesOf
    exact List.map_congr_left (fun s _ => by rw [ByteArray.toList_eq])
  unfold sameB
  rw [e, e, h]
  simp
theorem bytesOf_len {M : List ByteArray} {T : List (List UInt8)} (h : bytesOf M = T) : M.length = T.length := by
  have := congrArg List.length h
  simpa [bytesOf] using this
theorem line_size {l : Int} : ∀ (f : Nat) {L : List Int}, Bt L → L.length ≤ f → ∀ t ∈ linesA l L, t.length ≤ 100
  | 0, L, hb, hf, t, ht => by rw [lines_nil l (by omega)] at ht; simp at ht
  | f + 1, L, hb, hf, t, ht => by
    by_cases h0 : L.length = 0
    · rw [lines_nil l h0] at ht
      simp at ht
    · rw [lines_cons hb (by omega)] at ht
      have hn := line_n (l := l) hb (by omega)
      rcases List.mem_cons.1 ht with rfl | ht
      · unfold lineL
        by_cases hI : isI l L
        · rw [if_pos hI]
          have := txt_sizeL (hI.lg hb)
          simpa [txtS, ByteArray.size] using this
        · rw [if_neg hI]
          unfold dataL
          split <;> simp [hexL_len]
      · exact line_size f (hb.drop _) (by rw [List.length_drop]; omega) t ht
/-- What the law asks of a line. -/
theorem five_no {s : ByteArray} (h : ¬ isD s.data.toList) : ((s.extract 0 5).toList == [100, 97, 116, 97, 32]) = false := by
  apply beq_false_of_ne
  intro e
  apply h
  unfold isD
  rw [ByteArray.toList_eq, ByteArray.data_extract, Array.toList_extract] at e
  simpa using e
theorem five_yes {s : ByteArray} (h : isD s.data.toList) : ((s.extract 0 5).toList == [100, 97, 116, 97, 32]) = true ∧ 5 ≤ s.size := by
  refine ⟨?_, ?_⟩
  · unfold isD at h
    rw [beq_iff_eq, ByteArray.toList_eq, ByteArray.data_extract, Array.toList_extract]
    simpa using h
  · unfold isD at h
    have := congrArg List.length h
    simp at this
    have e : s.data.toList.length = s.size := by simp
    simp at e
    omega

set_option maxRecDepth 100000 in
set_option maxHeartbeats 16000000 in
theorem asmLists_walk (A : Option Addr) (n c : Nat) (L : List Int) (l : Int) (W : World) (w0 : ArgB W A n c L) (wl : (Lit.int .u8 l).wf = true) (hL : AL W) :
    Calls Tryz.prog 3 #[.slice A n c, .int .u8 l] W fun e w' => e = .returned (.bool true) ∧ Below W.heap.size W w' := by
  obtain ⟨u0, u1⟩ := bd_u8 wl
  obtain ⟨k, hk⟩ : ∃ k, 1 + l % 3 = k := ⟨_, rfl⟩
  have wk : (Lit.int .i64 k).wf = true := by simp [Lit.wf, IntKind.min, IntKind.max, IntKind.signed, IntKind.bits]; omega
  have HL := Lib.hid hL
  have HB := Lib.hid w0
  have AW := Lib.hid (fun w h => awake_any w h)
  have hcap := w0.cap
  clear hL wl
  by_cases hs : n ≤ 1000
  · have hi : ¬ (1000 : Int) < (n : Int) := by omega
    have LA := Lib.hid (fun w h (hr : Rd w A L) => list_any A n c L k wk w h hr HB.out.bd HB.out.len hs HB.out.cap)
    have RA := Lib.hid (fun w (hr : Rd w A L) => rlist_any A n c L k w hr HB.out.bd HB.out.len hs)
    have AA := Lib.hid (fun (A : Option Addr) (n c : Nat) (L : List ByteArray) w h => assemble_any A n c L k wk w h)
    have LM := Lib.hid (lines_len L.length k L HB.out.bd (Nat.le_refl _))
    have LK := Lib.hid (fun t ht => line_kind (l := k) L.length HB.out.bd (Nat.le_refl _) t ht)
    have LC := Lib.hid (fun (I : List Ins) hg h => lines_codes (l := k) L.length (I := I) HB.out.bd (Nat.le_refl _) hg h)
    have NS := Lib.hid hs
    clear wk w0
    go_enter Tryz.func3, Tryz.ntmps3
    go_wp2_with fail
    refine (AW.out _ HL.out).mono ?_
    rintro e w2 ⟨rfl, b2⟩
    have B2 := Lib.hid b2
    clear b2
    go_wp2_with fail
    try rw [hk]
    refine (LA.out _ (HL.out.step B2.out) (HB.out.rd.below B2.out)).mono ?_
    rintro e w3 ⟨M, hM, A3, c3, rfl, ho, b3⟩
    have R3 := Lib.hid (Row.of_own ho)
    have B3 := Lib.hid (B2.out.trans (b3.mono B2.out.size))
    have ML := Lib.hid (bytesOf_len hM)
    have HM := Lib.hid hM
    clear ho b3 hM
    obtain ⟨m, hm⟩ : ∃ m, M.length = m := ⟨_, rfl⟩
    rw [hm] at ML ⊢
    have MM := Lib.hid hm
    have m1 : m ≤ 1000 := by have := ML.out; have := LM.out; have := HB.out.len; omega
    clear hm
    go_wp2_with fail
    try rw [hk]
    refine (RA.out _ (HB.out.rd.below B3.out)).mono ?_
    rintro e w4 ⟨N, hN, A4, c4, rfl, ho, b4⟩
    have R4 := Lib.hid (Row.of_own ho)
    have R34 := Lib.hid (R3.out.below b4)
    have B4 := Lib.hid (B3.out.trans (b4.mono B3.out.size))
    have TX := Lib.hid (fun (d : Nat) => texts_any A3 A4 m d N.length c4 M N w4 R34.out R4.out MM.out rfl (by omega) (by have := bytesOf_len hN; have := ML.out; omega))
    rw [bytesOf_same (HM.out.trans hN.symm)] at TX
    clear ho b4 hN
    go_wp2_with fail
    refine (TX.out _).mono ?_
    rintro e w5 ⟨rfl, b5⟩
    have R5 := Lib.hid (R34.out.below b5)
    have B5 := Lib.hid (B4.out.trans (b5.mono B4.out.size))
    clear b5 TX R4 R34 R3
    have SZ := Lib.hid (show ∀ s ∈ M, s.size ≤ 1000000 from fun s hs => by
      have hx : s.data.toList ∈ linesA k L := by rw [← HM.out]; exact List.mem_map.2 ⟨s, hs, rfl⟩
      have h2 := line_size (l := k) L.length HB.out.bd (Nat.le_refl _) _ hx
      have e : s.data.toList.length = s.size := by simp
      omega)
    go_wp2_with fail
    try rw [hk]
    refine (AA.out A3 m c3 M _ (HL.out.step B5.out) R5.out MM.out (by omega) SZ.out).mono ?_
    rintro e w6 (⟨I, hI, A6, c6, rfl, ho, b6⟩ | ⟨I, j, hI, ⟨hj, hx⟩, rfl, b6⟩)
    · have R6 := Lib.hid (R5.out.below b6)
      have B6 := Lib.hid (B5.out.trans (b6.mono B5.out.size))
      have C6 := Lib.hid (Rd.of_row (Row.of_own ho))
      have CO := Lib.hid (show codes I = L from LC.out I hI.2.2.1 (by rw [← HM.out, ← hI.2.2.2, List.take_of_length_le (Nat.le_refl _)]))
      have ND := Lib.hid (show ∀ j (h : j < M.length), ¬ isD M[j].data.toList from fun j h => by
        obtain ⟨i, hi, ht⟩ := text_at hI.2.2.2 h h
        rw [← ht]
        exact text_notD (hI.2.2.1 i hi))
      rw [CO.out] at C6
      obtain ⟨q, hq⟩ : ∃ q, (codes I).length = q := ⟨_, rfl⟩
      have QN := Lib.hid (show q = n by rw [← hq, CO.out]; exact HB.out.len)
      rw [hq]
      obtain rfl := QN.out
      clear hq ho b6 hI
      go_wp2_with fail
      go_loopw [10] (fun v10 wr => ∃ j : Nat, j ≤ m ∧ v10 = .int .i64 (j : Int) ∧ Below w6.heap.size w6 wr) (fun v10 _ => m - (intOf v10).toNat)
      case atStart => exact ⟨0, Nat.zero_le _, rfl, Below.refl _ _⟩
      case round =>
        obtain ⟨j, hj, rfl, hb⟩ := hrel
        have BR := Lib.hid hb
        clear hb
        by_cases hlt : j < m
        · have jl : j < M.length := by rw [MM.out]; exact hlt
          obtain ⟨pb, po, rfl, hpb, hc⟩ := (R6.out.below BR.out).at_ jl
          have F := Lib.hid (five_no (ND.out j jl))
          have sz := SZ.out M[j] (List.getElem_mem jl)
          generalize M[j]'jl = s at hc F sz
          have HJ := Lib.hid hlt
          have hjm : (j : Int) < (m : Int) := by omega
          by_cases h5 : 5 ≤ s.size
          · have h5i : (5 : Int) ≤ (s.size : Int) := by omega
            have f := F.out
            go_wp2_with fail
            exact ⟨⟨j + 1, HJ.out, rfl, BR.out⟩, by have := HJ.out; simp [intOf]; omega⟩
          · have h5i : ¬ (5 : Int) ≤ (s.size : Int) := by omega
            go_wp2_with fail
            exact ⟨⟨j + 1, HJ.out, rfl, BR.out⟩, by have := HJ.out; simp [intOf]; omega⟩
        · have hjm : ¬ (j : Int) < (m : Int) := by omega
          have BW := Lib.hid (B6.out.trans (BR.out.mono B6.out.size))
          go_wp2_with fail
          refine (same_eq A6 A c6 c q L wr HB.out.len (by have := NS.out; omega) (C6.out.below BR.out) (HB.out.rd.below BW.out)).mono ?_
          rintro e w8 ⟨rfl, b8⟩
          have B8 := Lib.hid (BW.out.trans (b8.mono BW.out.size))
          clear b8
          go_wp2_with fail
          go_ret
          exact ⟨rfl, B8.out⟩
    · have R6 := Lib.hid (R5.out.below b6)
      have B6 := Lib.hid (B5.out.trans (b6.mono B5.out.size))
      have ND := Lib.hid (show ∀ i (h : i < M.length), i < j → ¬ isD M[i].data.toList from fun i h hij => by
        obtain ⟨x, hx, ht⟩ := text_at hI.2.2.2 hij h
        rw [← ht]
        exact text_notD (hI.2.2.1 x hx))
      have YD := Lib.hid (show isD M[j].data.toList from by
        rcases LK.out M[j].data.toList (by rw [← HM.out]; exact List.mem_map.2 ⟨M[j], List.getElem_mem hj, rfl⟩) with ⟨i, hi, ht⟩ | h
        · exact absurd ht (hx i hi)
        · exact h)
      have JM := Lib.hid (show j < m by rw [← MM.out]; exact hj)
      clear b6 hI hx
      go_wp2_with fail
      go_loopw [10] (fun v10 wr => ∃ i : Nat, i ≤ j ∧ v10 = .int .i64 (i : Int) ∧ Below w6.heap.size w6 wr) (fun v10 _ => j + 1 - (intOf v10).toNat)
      case atStart => exact ⟨0, Nat.zero_le _, rfl, Below.refl _ _⟩
      case round =>
        obtain ⟨i, hij, rfl, hb⟩ := hrel
        have BR := Lib.hid hb
        clear hb
        have il : i < M.length := Nat.lt_of_le_of_lt hij hj
        have hjm : (i : Int) < (m : Int) := by have := JM.out; omega
        by_cases hlt : i < j
        · obtain ⟨pb, po, rfl, hpb, hc⟩ := (R6.out.below BR.out).at_ il
          have F := Lib.hid (five_no (ND.out i il hlt))
          have sz := SZ.out M[i] (List.getElem_mem il)
          generalize M[i]'il = s at hc F sz
          have HJ := Lib.hid hlt
          clear hij
          by_cases h5 : 5 ≤ s.size
          · have h5i : (5 : Int) ≤ (s.size : Int) := by omega
            have f := F.out
            go_wp2_with fail
            exact ⟨⟨i + 1, HJ.out, rfl, BR.out⟩, by have := HJ.out; simp [intOf]; omega⟩
          · have h5i : ¬ (5 : Int) ≤ (s.size : Int) := by omega
            go_wp2_with fail
            exact ⟨⟨i + 1, HJ.out, rfl, BR.out⟩, by have := HJ.out; simp [intOf]; omega⟩
        · obtain rfl : i = j := by omega
          obtain ⟨pb, po, rfl, hpb, hc⟩ := (R6.out.below BR.out).at_ il
          have F := Lib.hid (five_yes YD.out)
          have sz := SZ.out M[i] (List.getElem_mem il)
          generalize M[i]'il = s at hc F sz
          have h5i : (5 : Int) ≤ (s.size : Int) := by have := F.out.2; omega
          have h5 := F.out.2
          have f := F.out.1
          clear hij hlt YD ND
          go_wp2_with fail
          go_ret
          exact ⟨by simp, B6.out.trans (BR.out.mono B6.out.size)⟩
  · have hi : (1000 : Int) < (n : Int) := by omega
    go_enter Tryz.func3, Tryz.ntmps3
    go_wp2_with fail
    refine (AW.out _ HL.out).mono ?_
    rintro e w2 ⟨rfl, b2⟩
    have B2 := Lib.hid b2
    clear b2
    go_wp2_with fail
    refine (AW.out _ (HL.out.step B2.out)).mono ?_
    rintro e w3 ⟨rfl, b3⟩
    have B3 := Lib.hid (B2.out.trans (b3.mono B2.out.size))
    go_wp2_with fail
    go_ret
    exact ⟨rfl, B3.out⟩
end Go.Proofs.YthfiaemdpfffcaaGreatDoor
