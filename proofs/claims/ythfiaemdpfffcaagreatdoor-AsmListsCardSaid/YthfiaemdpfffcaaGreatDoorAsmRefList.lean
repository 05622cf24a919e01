/- The reference's List. -/
import Derived.Test.YthfiaemdpfffcaaGreatDoorAsmTexts
import Derived.Test.YthfiaemdpfffcaaGreatDoorAsmFst
import Derived.Test.YthfiaemdpfffcaaGreatDoorDecRef6
import Derived.Test.YthfiaemdpfffcaaGreatDoorAsmSplit
import Derived.Test.YthfiaemdpfffcaaGreatDoorLate
namespace Go.Proofs.YthfiaemdpfffcaaGreatDoor
open Go.RowKit Num Dec
set_option linter.unusedVariables false
set_option linter.unusedSimpArgs false

theorem zeroInstr : ZeroT Tryz.prog 33 zeroI := by unfold ZeroT zeroI; kernel_rfl
/-- append of one string. -/
theorem wp_append_str {w : World} {o : Oper} {a : Act} {K : Act → World → Prop} {Q : Exit → Act → World → Prop} (s x : Operand)
    (ho : o.op = .call { callee := .builtin .append, args := #[s, x], argTypes := #[24, 24] }) (base : Nat) (v : Value) (n : Nat) (L0 : List ByteArray) (hs : a.eval s = v) (hown : w.ownsRow base 9 1 v n (L0.map Value.string))
    (g : Nat) (S : ByteArray) (hx : a.eval x = .slice (some ⟨g, 0, none⟩) 1 1) (hc : w.cell? ⟨g, 0, none⟩ = some (.string S)) (hn : n ≤ 1000000) (hbase : base ≤ w.heap.size) (t : Nat) (hdst : o.dst = some t)
    (h : ∀ v' w', w'.ownsRow base 9 1 v' (n + 1) ((L0 ++ [S]).map Value.string) → w.grownBy w' v.ownBlock → K ⟨a.tmps.setIfInBounds t v', a.defers⟩ w') : o.wp Tryz.prog a w K Q := by
  obtain ⟨i0, hi, hz0, hz1, hz2⟩ := info_parts infoStr
  obtain ⟨v', w', hrun, h2, h3, _, _⟩ := run_append_own_at (P := Tryz.prog) w base 24 o.type 9 i0 (.string ⟨#[]⟩) 1 16 Tryz.underlying24 hi hz0 hz1 hz2 rfl (by omega) v n _ hown ⟨g, 0, none⟩ 1 1 [.string S] rfl
    (fun j u hj => by
      match j, hj with
      | 0, hj => simp at hj; subst hj; simpa [Addr.add] using hc
      | (j + 1), hj => simp at hj) (fun u hu => by rw [List.mem_singleton.1 hu]; rfl) (by unfold maxLen; omega) (by omega) hbase
  have hk := h v' w' (by rw [List.map_append]; exact h2) h3
  replace hk : K (a.put o.dst v') w' := by rw [hdst]; exact hk
  unfold Oper.wp execOp
  simp only [ho, resolve, invoke, builtin, Sem.run_bind, Sem.run_pure, Result.andThen_ok, List.map_toArray, List.map_cons, List.map_nil, hs, hx, hrun]
  exact hk
theorem dec_len (b0 b1 b2 b3 : Nat) (l : Int) (h0 : b0 < 256) (h1 : b1 < 256) {i : Ins} (hi : dec b0 b1 b2 b3 l = i) : i.len = 2 ∨ i.len = 4 := by
  subst hi
  rcases dec_cases b0 b1 b2 b3 l h0 h1 with ⟨_, e, _⟩ | ⟨_, r, _, _, _, _, e⟩
  · rw [e]; exact .inl rfl
  · rw [e]; simp only; split <;> simp
theorem txt_sizeL {l : Int} {i : Ins} (h : Lg l i) : (txtS i).size ≤ 100 := by
  rw [← pre_all]
  exact pre_size i _ (by have := h.rg.1; omega)
theorem kwraps {k : Nat} {m : Int} (h : k ≤ 1000) (h0 : 0 ≤ m) (h4 : m ≤ 1000000) : IntKind.i64.wrap ((k : Int) + m) = (k : Int) + m ∧ wrap64 ((k : Int) + m) = (k : Int) + m := ⟨by rw [IntKind.wrap_i64]; omega, by unfold wrap64; omega⟩
theorem cwraps {c0 c1 : Nat} (h0 : c0 < 256) (h1 : c1 < 256) : IntKind.i64.wrap ((c0 : Int) * 256) = (c0 : Int) * 256 ∧ wrap64 ((c0 : Int) * 256) = (c0 : Int) * 256 ∧ IntKind.i64.wrap ((c0 : Int) * 256 + (c1 : Int)) = (c0 : Int) * 256 + (c1 : Int) ∧ wrap64 ((c0 : Int) * 256 + (c1 : Int)) = (c0 : Int) * 256 + (c1 : Int) :=
  ⟨by rw [IntKind.wrap_i64]; omega, by unfold wrap64; omega, by rw [IntKind.wrap_i64]; omega, by unfold wrap64; omega⟩
theorem bwrap {c : Nat} (h : c < 256) : IntKind.i64.wrap (c : Int) = (c : Int) ∧ wrap64 (c : Int) = (c : Int) := ⟨by rw [IntKind.wrap_i64]; omega, by unfold wrap64; omega⟩
theorem int_le4 {m : Nat} (h : m ≤ 4) : (m : Int) ≤ 1000000 := by omega
theorem data_two (b : Nat) : (⟨#[100, 97, 116, 97, 32]⟩ : ByteArray) ++ hexS b 2 = ⟨([100, 97, 116, 97, 32] ++ hexL b 2).toArray⟩ := by
  apply ByteArray.ext
  simp [ByteArray.data_append, hexS]
theorem data_four (b : Nat) : (⟨#[100, 97, 116, 97, 32]⟩ : ByteArray) ++ hexS b 4 = ⟨([100, 97, 116, 97, 32] ++ hexL b 4).toArray⟩ := by
  apply ByteArray.ext
  simp [ByteArray.data_append, hexS]
/-- A line more. -/
theorem lines_more1 {l : Int} {L : List Int} {k : Nat} {M : List ByteArray} (hb : Bt L) (hk : k < L.length) (hE : bytesOf M ++ linesA l (L.drop k) = linesA l L) {S : ByteArray} (hS : S.data.toList = lineL l (L.drop k)) {m : Nat} (hm : lineN l (L.drop k) = m) : bytesOf (M ++ [S]) ++ linesA l (L.drop (k + m)) = linesA l L := by
  rw [← hE, lines_cons (hb.drop k) (by rw [List.length_drop]; omega), List.drop_drop, hm, ← hS]
  simp [bytesOf]

set_option maxRecDepth 100000 in
set_option maxHeartbeats 16000000 in
theorem rlist_any (A : Option Addr) (n c : Nat) (L : List Int) (l : Int) (w : World) (H : Rd w A L) (hb : Bt L) (hn : L.length = n) (n1 : n ≤ 1000) :
    Calls Tryz.prog 7 #[.slice A n c, .int .i64 l] w fun e w' => ∃ M, bytesOf M = linesA l L ∧ GotStr M w e w' := by
  have HH := Lib.hid (And.intro H (And.intro hb (And.intro hn n1)))
  clear H hb hn
  go_enter Tryz.func7, Tryz.ntmps7
  go_wp2_with fail
  go_loopw [5, 6] (fun v5 v6 wr => ∃ (k : Nat) (M : List ByteArray), k ≤ n ∧ v6 = .int .i64 (k : Int) ∧ wr.ownsRow w.heap.size 9 1 v5 M.length (M.map Value.string) ∧ M.length ≤ k ∧ bytesOf M ++ linesA l (L.drop k) = linesA l L ∧ Below w.heap.size w wr) (fun _ v6 _ => n - (intOf v6).toNat)
  case atStart => exact ⟨0, [], Nat.zero_le _, rfl, World.ownsRow_nil _ _ _ _, Nat.zero_le _, rfl, Below.refl _ _⟩
  case round =>
    obtain ⟨k, M, hk, rfl, ho, hM, hE, hB⟩ := hrel
    have HO := Lib.hid ho
    have HE := Lib.hid hE
    have HB := Lib.hid hB
    have HM := Lib.hid (And.intro hM hk)
    clear ho hE hB hM
    by_cases hlt : k < n
    · have kl : k < L.length := by have := HH.out.2.2.1; omega
      have hbd := HH.out.2.1.drop k
      have hdl : (L.drop k).length = n - k := by have := HH.out.2.2.1; rw [List.length_drop]; omega
      obtain ⟨ad, rfl, had, hc0⟩ := HH.out.1.at_ kl
      have e0 : L[k] = ((atb (L.drop k) 0 : Nat) : Int) := by rw [(hbd.at_ 0).1, List.getD_eq_getElem?_getD, List.getElem?_drop, Nat.add_zero, List.getElem?_eq_getElem kl]; rfl
      rw [e0] at hc0
      have ATJ := Lib.hid (fun (j : Nat) (hj : j ≤ 3) (u : Calm wr) => by
        have h := at_any (some ad) n c (k + j) L u.w (HH.out.1.below (HB.out.trans (u.below.mono HB.out.size))) HH.out.2.2.1 (by omega) (by omega)
        rw [show atL L (k + j) = ((atb (L.drop k) j : Nat) : Int) by rw [(hbd.at_ j).1]; unfold atL; rw [List.getD_eq_getElem?_getD, List.getD_eq_getElem?_getD, List.getElem?_drop], show ((k + j : Nat) : Int) = (k : Int) + (j : Int) by omega] at h
        exact h)
      have AT1 := Lib.hid (fun u => ATJ.out 1 (by decide) u)
      have AT2 := Lib.hid (fun u => ATJ.out 2 (by decide) u)
      have AT3 := Lib.hid (fun u => ATJ.out 3 (by decide) u)
      have RD := Lib.hid (fun w => rdecode_any (atb (L.drop k) 0) (atb (L.drop k) 1) (atb (L.drop k) 2) (atb (L.drop k) 3) l w (hbd.at_ 0).2 (hbd.at_ 1).2 (hbd.at_ 2).2 (hbd.at_ 3).2)
      have IE := Lib.hid (show dec (atb (L.drop k) 0) (atb (L.drop k) 1) (atb (L.drop k) 2) (atb (L.drop k) 3) l = insA l (L.drop k) from rfl)
      have zr := dec_range _ _ _ _ l (hbd.at_ 0).2 (hbd.at_ 1).2 (hbd.at_ 2).2 (hbd.at_ 3).2 IE.out
      have lr := dec_len _ _ _ _ l (hbd.at_ 0).2 (hbd.at_ 1).2 IE.out
      rw [IE.out] at RD
      have LN := Lib.hid (show lineN l (L.drop k) = if isI l (L.drop k) then (insA l (L.drop k)).len.toNat else min 2 (n - k) by unfold lineN; rw [hdl])
      have LL := Lib.hid (show lineL l (L.drop k) = if isI l (L.drop k) then txtL (insA l (L.drop k)) else [100, 97, 116, 97, 32] ++ (if n - k = 1 then hexL (atb (L.drop k) 0) 2 else hexL (atb (L.drop k) 0 * 256 + atb (L.drop k) 1) 4) by unfold lineL dataL; rw [hdl])
      have II := Lib.hid (show isI l (L.drop k) ↔ (insA l (L.drop k)).op ≠ 0 ∧ (insA l (L.drop k)).len ≤ ((n - k : Nat) : Int) by unfold isI; rw [hdl])
      have IL := Lib.hid (fun h : isI l (L.drop k) => h.lg hbd)
      have MR := Lib.hid (fun (S : ByteArray) (hS : S.data.toList = lineL l (L.drop k)) (m : Nat) (hm : lineN l (L.drop k) = m) => lines_more1 HH.out.2.1 kl HE.out hS hm)
      have HC1 := Lib.hid (show k + 1 < n → ∀ w', Below w.heap.size w w' → w'.cell? (ad.add (k + 1)) = some (.int .u8 ((atb (L.drop k) 1 : Nat) : Int)) from fun h w' hw => by
        obtain ⟨ad', e, had', hc⟩ := HH.out.1.at_ (k := k + 1) (by have := HH.out.2.2.1; omega)
        injection e with e
        subst e
        refine (hw.cell (p := ad.add (k + 1)) (by rw [add_block]; exact had)).trans (hc.trans ?_)
        rw [(hbd.at_ 1).1, List.getD_eq_getElem?_getD, List.getElem?_drop, List.getElem?_eq_getElem (by have := HH.out.2.2.1; omega)]
        rfl)
      have HC0 := Lib.hid (fun (w' : World) (hw : Below w.heap.size w w') => (hw.cell (p := ad.add k) (by rw [add_block]; exact had)).trans hc0)
      have b0 := (hbd.at_ 0).2
      have b1 := (hbd.at_ 1).2
      clear hbd hdl hc0 e0 IE ATJ
      generalize insA l (L.drop k) = I at *
      generalize atb (L.drop k) 0 = c0 at *
      generalize atb (L.drop k) 1 = c1 at *
      generalize atb (L.drop k) 2 = c2 at *
      generalize atb (L.drop k) 3 = c3 at *
      have KL := Lib.hid (And.intro hlt kl)
      have KL1000 := Lib.hid (show k ≤ 1000 from Nat.le_trans (Nat.le_of_lt hlt) HH.out.2.2.2)
      have LR := Lib.hid (show I.len = 2 ∨ I.len = 4 from lr)
      have hki : (k : Int) < (n : Int) := by omega
      have k0 : 0 ≤ (k : Int) := by omega
      have kt : (k : Int).toNat = k := rfl
      have KR := Lib.hid (fun (w' : World) (hw : ∃ u : Calm wr, w' = u.w) => show w'.cell? (ad.add k) = some (.int .u8 (c0 : Int)) from by obtain ⟨u, rfl⟩ := hw; exact HC0.out _ (HB.out.trans (u.below.mono HB.out.size)))
      have kc : ∀ u : Calm wr, u.w.cell? (ad.add k) = some (.int .u8 (c0 : Int)) := fun u => KR.out _ ⟨u, rfl⟩
      clear kl hlt hk
      have k1000 : k ≤ 1000 := KL1000.out
      obtain ⟨wj1, vj1⟩ := kwraps (m := 1) k1000 (by decide) (by decide)
      obtain ⟨wj2, vj2⟩ := kwraps (m := 2) k1000 (by decide) (by decide)
      obtain ⟨wj3, vj3⟩ := kwraps (m := 3) k1000 (by decide) (by decide)
      clear k1000
      go_upto_region 4 with fail
      refine wp_region_late (C := fun w' => ∃ u : Calm wr, w' = u.w) 19 [([0, 1, 2, 3, 4, 5, 6, 8, 9, 10, 12, 13, 14, 16], 7, true), ([], 11, true), ([], 15, true), ([], 17, true), ([], 18, false)] [] [] (by kernel_rfl) (by kernel_rfl) ?_ ?_ ⟨⟨wr.drew, (Below.refl _ _).drew⟩, rfl⟩ ?_
      · exact fun _ _ d _ _ h => by cases d <;> exact h
      · rintro _ w' ⟨u, rfl⟩ hg
        exact ⟨⟨w', u.below.trans (hg.mono u.below.size)⟩, rfl⟩
      intro wd hwd
      have bd := Lib.hid (show Below wr.heap.size wr wd by rw [hwd]; exact (Below.refl _ _).drew)
      clear hwd
      refine late_calm (by simp only [opsAt, List.getElem?_toArray, List.getElem?_cons_succ, List.getElem?_cons_zero]; rfl) (by simp only [List.getElem?_toArray, List.getElem?_cons_succ, List.getElem?_cons_zero]; rfl) ?_
      repeat (go_big_quiet_step (rfl))
      refine wpQuiet_nil ?_
      refine calm_next (v := .int .u8 (c1 : Int)) (calm_fn (g := 16) (caps := #[]) (args := #[.slice (some ad) n c, .int .i64 ((k : Int) + 1)]) (.func 16) #[.tmp 16, .tmp 18] #[22, 3] rfl rfl (enters_of Tryz.func16 (by kernel_rfl) rfl) (fun w' hw => by obtain ⟨u, rfl⟩ := hw; exact (AT1.out u).mono fun e w'' h => ⟨h.1, by rw [← h.2]; exact Gr.refl _⟩) rfl (by simp [Act.eval])) ?_
      simp only [Act.put, List.setIfInBounds_toArray, List.set_cons_zero, List.set_cons_succ]
      refine late_calm (by simp only [opsAt, List.getElem?_toArray, List.getElem?_cons_succ, List.getElem?_cons_zero]; rfl) (by simp only [List.getElem?_toArray, List.getElem?_cons_succ, List.getElem?_cons_zero]; rfl) ?_
      repeat (go_big_quiet_step (rfl))
      refine wpQuiet_nil ?_
      refine calm_next (v := .int .u8 (c2 : Int)) (calm_fn (g := 16) (caps := #[]) (args := #[.slice (some ad) n c, .int .i64 ((k : Int) + 2)]) (.func 16) #[.tmp 20, .tmp 22] #[22, 3] rfl rfl (enters_of Tryz.func16 (by kernel_rfl) rfl) (fun w' hw => by obtain ⟨u, rfl⟩ := hw; exact (AT2.out u).mono fun e w'' h => ⟨h.1, by rw [← h.2]; exact Gr.refl _⟩) rfl (by simp [Act.eval])) ?_
      simp only [Act.put, List.setIfInBounds_toArray, List.set_cons_zero, List.set_cons_succ]
      refine late_calm (by simp only [opsAt, List.getElem?_toArray, List.getElem?_cons_succ, List.getElem?_cons_zero]; rfl) (by simp only [List.getElem?_toArray, List.getElem?_cons_succ, List.getElem?_cons_zero]; rfl) ?_
      repeat (go_big_quiet_step (rfl))
      refine wpQuiet_nil ?_
      refine calm_next (v := .int .u8 (c3 : Int)) (calm_fn (g := 16) (caps := #[]) (args := #[.slice (some ad) n c, .int .i64 ((k : Int) + 3)]) (.func 16) #[.tmp 24, .tmp 26] #[22, 3] rfl rfl (enters_of Tryz.func16 (by kernel_rfl) rfl) (fun w' hw => by obtain ⟨u, rfl⟩ := hw; exact (AT3.out u).mono fun e w'' h => ⟨h.1, by rw [← h.2]; exact Gr.refl _⟩) rfl (by simp [Act.eval])) ?_
      simp only [Act.put, List.setIfInBounds_toArray, List.set_cons_zero, List.set_cons_succ]
      refine late_calm (by simp only [opsAt, List.getElem?_toArray, List.getElem?_cons_succ, List.getElem?_cons_zero]; rfl) (by simp only [List.getElem?_toArray, List.getElem?_cons_succ, List.getElem?_cons_zero]; rfl) ?_
      repeat (go_big_quiet_step (rfl))
      refine wpQuiet_nil ?_
      refine calm_next (v := .agg (icells I)) (calm_fn (g := 15) (caps := #[]) (args := #[.int .u8 (c0 : Int), .int .u8 (c1 : Int), .int .u8 (c2 : Int), .int .u8 (c3 : Int), .int .i64 l]) (.func 15) #[.tmp 15, .tmp 19, .tmp 23, .tmp 27, .tmp 28] #[5, 5, 5, 5, 3] rfl rfl (enters_of Tryz.func15 (by kernel_rfl) rfl) (fun w' hw => RD.out w') rfl (by simp [Act.eval])) ?_
      simp only [Act.put, List.setIfInBounds_toArray, List.set_cons_zero, List.set_cons_succ]
      refine late_real (by simp only [opsAt, List.getElem?_toArray, List.getElem?_cons_succ, List.getElem?_cons_zero]; rfl) (by simp only [List.getElem?_toArray, List.getElem?_cons_succ, List.getElem?_cons_zero]; rfl) ?_
      repeat (go_big_quiet_step (rfl))
      refine wpQuiet_nil ?_
      refine real_next rfl ?_
      intro w5 g5 C5 K hK
      obtain ⟨u5, rfl⟩ := C5
      refine wp_alloc zeroInstr rfl ?_
      refine hK _ _ ⟨⟨u5.w.alloc (.cells zeroI 33), u5.below.alloc u5.below.size _⟩, rfl⟩ ?_
      clear hK K g5
      simp only [Act.put, List.setIfInBounds_toArray, List.set_cons_zero, List.set_cons_succ]
      have G5 := Lib.hid (Blk.new u5.w 33 zeroI)
      have B5 := Lib.hid (HB.out.trans ((u5.below.alloc u5.below.size (.cells zeroI 33)).mono HB.out.size))
      obtain ⟨g, hg⟩ : ∃ g, u5.w.heap.size = g := ⟨_, rfl⟩
      have GE := Lib.hid (show wr.heap.size ≤ g by rw [← hg]; exact u5.below.size)
      generalize u5.w.alloc (.cells zeroI 33) = w6 at *
      rw [hg] at G5 ⊢
      clear hg u5
      refine late_last (by simp only [opsAt, List.getElem?_toArray, List.getElem?_cons_succ, List.getElem?_cons_zero]; rfl) (by simp only [List.getElem?_toArray, List.getElem?_cons_succ, List.getElem?_cons_zero]; rfl) ?_
      repeat (go_big_quiet_step (rfl))
      refine wpQuiet_nil ?_
      refine last_next rfl ?_
      intro w7 g7 C7 K hK
      obtain ⟨u7, rfl⟩ := C7
      refine wp_store_all (ds := icells I) aggInstr (G5.out.step g7) rfl rfl (by unfold Ones icells; kernel_rfl) (.tmp 7) (.tmp 29) rfl (by simp [Act.eval, Act.put]) (by simp [Act.eval, Act.put]) ?_
      refine hK _ _ ?_
      clear hK K
      simp only [Act.put, List.setIfInBounds_toArray, List.set_cons_zero, List.set_cons_succ]
      simp only [opsAt, List.getElem?_toArray, List.getElem?_cons_succ, List.getElem?_cons_zero]
      refine wpQuiet_nil ?_
      intro w8 g8
      have GI := Lib.hid (((G5.out.step g7).store (icells I)).step g8)
      have B8 := Lib.hid ((belowRow' u7.below GE.out (icells I)).trans (g8.mono (by have := u7.below.size; simp [World.setRow]; omega)))
      clear G5 B5 g7 g8 u7 kc KR AT1 AT2 AT3 RD bd wj1 wj2 wj3 vj1 vj2 vj3
      have B9 := Lib.hid (HB.out.trans (B8.out.mono HB.out.size))
      have O9 := Lib.hid (own_apart (p := wr.heap.size) (g := none) HO.out (Apart.of_below B8.out) (fun h => by have := (HO.out.lt _ h).2; omega) (fun k hk => by cases hk))
      have KM := Lib.hid (show M.length ≤ 1000 by have := HM.out; have := HH.out.2.2.2; omega)
      clear B8 HO
      obtain ⟨o, x, y, nf, nn, a, len⟩ := I
      unfold icells at GI ⊢
      simp only at GI II IL LL LN zr ⊢
      have l8 := GI.out.lt
      have f0 : w8.cell? ⟨g, 0, none⟩ = some (.int .i64 o) := (GI.out.cell 0).trans rfl
      have f6 : w8.cell? ⟨g, 6, none⟩ = some (.int .i64 len) := (GI.out.cell 6).trans rfl
      have zo := zr.1.1
      clear zr
      obtain ⟨i0, hi, hz0, hz1, hz2⟩ := info_parts infoStr
      by_cases hI : isI l (L.drop k)
      · have LG := IL.out hI
        have i1 := (II.out.1 hI).1
        have i2 := (II.out.1 hI).2
        have l24 := LG.back.2.2.2.2.2.1
        simp only at l24
        have RT := Lib.hid (fun w => rtext_any LG w)
        have SZ := txt_sizeL LG
        have SL := Lib.hid (show (txtS ⟨o, x, y, nf, nn, a, len⟩).data.toList = lineL l (L.drop k) by rw [LL.out, if_pos hI]; rfl)
        obtain ⟨m, hm⟩ : ∃ m, len.toNat = m := ⟨_, rfl⟩
        have LM := Lib.hid (show lineN l (L.drop k) = m by rw [LN.out, if_pos hI]; exact hm)
        generalize txtS ⟨o, x, y, nf, nn, a, len⟩ = S at RT SZ SL
        unfold icells at RT
        simp only at RT
        obtain rfl : (m : Int) = len := by omega
        have o0 : 0 < o := by omega
        have s1 : (k : Int) + (m : Int) ≤ n := by omega
        have m4 : m ≤ 4 := by omega
        clear hI LG LL LN II IL HC0 HC1 i1 i2 l24 hm
        obtain ⟨wm, vm⟩ := kwraps (m := (m : Int)) KL1000.out (Int.natCast_nonneg m) (int_le4 m4)
        have x0 : w8.cell? ⟨g, 0, none⟩ = some (.int .i64 o) := (GI.out.cell 0).trans rfl
        have x1 : w8.cell? ⟨g, 1, none⟩ = some (.int .i64 x) := (GI.out.cell 1).trans rfl
        have x2 : w8.cell? ⟨g, 2, none⟩ = some (.int .i64 y) := (GI.out.cell 2).trans rfl
        have x3 : w8.cell? ⟨g, 3, none⟩ = some (.int .i64 nf) := (GI.out.cell 3).trans rfl
        have x4 : w8.cell? ⟨g, 4, none⟩ = some (.int .i64 nn) := (GI.out.cell 4).trans rfl
        have x5 : w8.cell? ⟨g, 5, none⟩ = some (.int .i64 a) := (GI.out.cell 5).trans rfl
        have x6 : w8.cell? ⟨g, 6, none⟩ = some (.int .i64 (m : Int)) := (GI.out.cell 6).trans rfl
        clear f0 f6
        go_wp2_with fail
        refine (RT.out _).mono ?_
        clear x0 x1 x2 x3 x4 x5 x6 l8
        rintro e w9 ⟨rfl, b9⟩
        have GI := Lib.hid (GI.out.step b9)
        have O9 := Lib.hid (own_apart (p := w8.heap.size) (g := none) O9.out (Apart.of_below b9) (fun h => by have := (O9.out.lt _ h).2; omega) (fun k hk => by cases hk))
        have B9 := Lib.hid (B9.out.trans (b9.mono B9.out.size))
        clear b9
        simp only []
        go_at_K
        go_step
        iterate 3 go_step
        refine wpList_append_own _ rfl (.tmp 42) (.tmp 45) 24 rfl w.heap.size 9 i0 (.string ⟨#[]⟩) 1 16 Tryz.underlying24 hi hz0 hz1 hz2 rfl (by decide) _ _ _ rfl (O9.out.alloc _) ⟨_, 0, none⟩ 1 1 [.string S] rfl rfl (cell_one_str _ _ _) (by simp [Value.oneCell']) (by have := KM.out; unfold maxLen; omega) (by have := KM.out; omega) (by have := B9.out.size; simp; omega) ?_
        intro v' w10 hown' hgrow _
        have OX := Lib.hid hown'
        have BX := Lib.hid ((B9.out.alloc B9.out.size (.cells #[.string S] 9)).grown hgrow (by have := B9.out.size; simp; omega) (fun j hj => (O9.out.lt j hj).1))
        have GX := Lib.hid (show Blk g 33 #[.int .i64 o, .int .i64 x, .int .i64 y, .int .i64 nf, .int .i64 nn, .int .i64 a, .int .i64 (m : Int)] w10 from (hgrow.block g (by have := GI.out.lt; simp; omega) (fun e => own_tag O9.out GI.out (by decide) e.symm)).trans (GI.out.alloc (.cells #[.string S] 9)))
        clear hown' hgrow
        simp only [Act.put, List.setIfInBounds_toArray, List.set_cons_zero, List.set_cons_succ]
        iterate 4 go_step
        go_upto_region 7 with fail
        have f6 : w10.cell? ⟨g, 6, none⟩ = some (.int .i64 (m : Int)) := (GX.out.cell 6).trans rfl
        go_wp2_with fail
        try clear wm vm
        refine ⟨⟨k + m, M ++ [S], by omega, by simp only [Value.int.injEq, true_and]; omega, by simpa using OX.out, by have := HM.out; simp; omega, MR.out S SL.out m LM.out, BX.out⟩, by have := KL.out.1; simp [intOf]; omega⟩
      · have NI := Lib.hid (show ¬ (o ≠ 0 ∧ len ≤ ((n - k : Nat) : Int)) from fun c => hI (II.out.2 c))
        by_cases i1 : o = 0
        · subst i1
          by_cases h1 : n - k = 1
          · have SL := Lib.hid (show ((⟨#[100, 97, 116, 97, 32]⟩ : ByteArray) ++ hexS c0 2).data.toList = lineL l (L.drop k) by rw [LL.out, if_neg hI, if_pos h1, data_two])
            have LM := Lib.hid (show lineN l (L.drop k) = 1 by rw [LN.out, if_neg hI, h1]; rfl)
            have HX := Lib.hid (fun w => rhex_yes c0 2 w (by omega) (by decide) (by decide))
            have hx2 : (hexS c0 2).size = 2 := hexS_size _ _
            generalize hexS c0 2 = X at HX SL hx2
            have kn : (k : Int) + 1 = (n : Int) := by omega
            have kc := HC0.out w8 B9.out
            clear hI LL LN II IL HC0 HC1
            go_upto_region 9 with fail
            go_wp2_with fail
            refine (HX.out _).mono ?_
            clear kc f0 f6 l8
            rintro e w9 ⟨rfl, b9⟩
            have GI := Lib.hid (GI.out.step b9)
            have O9 := Lib.hid (own_apart (p := w8.heap.size) (g := none) O9.out (Apart.of_below b9) (fun h => by have := (O9.out.lt _ h).2; omega) (fun k hk => by cases hk))
            have B9 := Lib.hid (B9.out.trans (b9.mono B9.out.size))
            clear b9
            obtain ⟨S, hS⟩ : ∃ S, (⟨#[100, 97, 116, 97, 32]⟩ : ByteArray) ++ X = S := ⟨_, rfl⟩
            rw [hS] at SL
            simp only []
            go_at_K
            go_step
            iterate 6 go_step
            refine wpList_append_own _ rfl (.tmp 56) (.tmp 64) 24 rfl w.heap.size 9 i0 (.string ⟨#[]⟩) 1 16 Tryz.underlying24 hi hz0 hz1 hz2 rfl (by decide) _ _ _ rfl (O9.out.alloc _) ⟨_, 0, none⟩ 1 1 [.string S] rfl rfl (cell_one_str _ _ _) (by simp [Value.oneCell']) (by have := KM.out; unfold maxLen; omega) (by have := KM.out; omega) (by have := B9.out.size; simp; omega) ?_
            intro v' w10 hown' hgrow _
            have OX := Lib.hid hown'
            have BX := Lib.hid ((B9.out.alloc B9.out.size (.cells #[.string S] 9)).grown hgrow (by have := B9.out.size; simp; omega) (fun j hj => (O9.out.lt j hj).1))
            have GX := Lib.hid (show Blk g 33 #[.int .i64 0, .int .i64 x, .int .i64 y, .int .i64 nf, .int .i64 nn, .int .i64 a, .int .i64 len] w10 from (hgrow.block g (by have := GI.out.lt; simp; omega) (fun e => own_tag O9.out GI.out (by decide) e.symm)).trans (GI.out.alloc (.cells #[.string S] 9)))
            clear hown' hgrow
            simp only [Act.put, List.setIfInBounds_toArray, List.set_cons_zero, List.set_cons_succ]
            iterate 4 go_step
            clear hS
            go_upto_region 10 with fail
            go_wp2_with fail
            try clear wm vm
            refine ⟨⟨k + 1, M ++ [S], by omega, by simp only [Value.int.injEq, true_and]; omega, by simpa using OX.out, by have := HM.out; simp; omega, MR.out S SL.out 1 LM.out, BX.out⟩, by have := KL.out.1; simp [intOf]; omega⟩
          · have SL := Lib.hid (show ((⟨#[100, 97, 116, 97, 32]⟩ : ByteArray) ++ hexS (c0 * 256 + c1) 4).data.toList = lineL l (L.drop k) by rw [LL.out, if_neg hI, if_neg h1, data_four])
            have n2 : 2 ≤ n - k := by have := KL.out.1; omega
            have LM := Lib.hid (show lineN l (L.drop k) = 2 by rw [LN.out, if_neg hI]; exact Nat.min_eq_left n2)
            have HX := Lib.hid (fun w => by
              have h := rhex_yes (c0 * 256 + c1) 4 w (by omega) (by decide) (by decide)
              rw [show ((c0 * 256 + c1 : Nat) : Int) = (c0 : Int) * 256 + (c1 : Int) by omega] at h
              exact h)
            have hx2 : (hexS (c0 * 256 + c1) 4).size = 4 := hexS_size _ _
            generalize hexS (c0 * 256 + c1) 4 = X at HX SL hx2
            have kn : ((k : Int) + 1 == (n : Int)) = false := by apply beq_false_of_ne; omega
            have kc : ∀ u : Calm w, u.w.cell? (ad.add k) = some (.int .u8 (c0 : Int)) := fun u => HC0.out _ u.below
            have e1 : ad.add (k + 1) = ⟨ad.block, ad.off + (k + 1), none⟩ := by unfold Addr.add; rw [if_neg (Nat.succ_ne_zero k)]
            have kc1 : ∀ u : Calm w, u.w.cell? ⟨ad.block, ad.off + (k + 1), none⟩ = some (.int .u8 (c1 : Int)) := fun u => by
              have h := HC1.out (by omega) _ u.below
              rw [e1] at h
              exact h
            have k1n : (k : Int) + 1 < (n : Int) := by omega
            have k10 : 0 ≤ (k : Int) + 1 := by omega
            have k1t : ((k : Int) + 1).toNat = k + 1 := by omega
            have k2n := Lib.hid (show k + 2 ≤ n by omega)
            clear hI LL LN II IL HC0 HC1 e1
            obtain ⟨wx, vx, wy, vy⟩ := cwraps b0 b1
            obtain ⟨wb0, vb0⟩ := bwrap b0
            obtain ⟨wb1, vb1⟩ := bwrap b1
            clear zo  b0 b1 h1 n2 NI
            obtain ⟨wj, vj⟩ := kwraps (m := 1) KL1000.out (by decide) (by decide)
            go_upto_region 11 with fail
            refine wp_region_mix (C := fun w' => ∃ u : Calm w, w' = u.w) [([0, 1, 2, 3, 4, 5, 6, 7, 8, 9, 10, 11, 12, 13], 14), ([15], 16), ([], 17)] [18] (by kernel_rfl) (by kernel_rfl) (fun _ _ d _ _ h => by cases d <;> exact h) ⟨⟨w8.drew, B9.out.drew⟩, rfl⟩ ?_
            intro wd hwd
            have bd : Below w8.heap.size w8 wd := by rw [hwd]; exact (Below.refl _ _).drew
            have GI := Lib.hid (GI.out.step bd)
            have O9 := Lib.hid (own_apart (p := w8.heap.size) (g := none) O9.out (Apart.of_below bd) (fun h => Nat.lt_irrefl _ (O9.out.lt _ h).2) (fun k hk => by cases hk))
            have B9 := Lib.hid (B9.out.trans (bd.mono B9.out.size))
            clear bd hwd f0 f6 l8
            refine mix_run (by simp only [opsAt, List.getElem?_toArray, List.getElem?_cons_succ, List.getElem?_cons_zero]; rfl) (by simp only [List.getElem?_toArray, List.getElem?_cons_succ, List.getElem?_cons_zero]; rfl) ?_
            repeat (go_big_quiet_step (rfl))
            refine wpQuiet_nil ?_
            refine mix_call (by rfl) ?_
            intro K hK
            go_wp2_with fail
            refine (HX.out _).mono ?_
            clear kc kc1 wx vx wy vy wj vj wb0 vb0 wb1 vb1
            rintro e w9 ⟨rfl, b9⟩
            have GI := Lib.hid (GI.out.step b9)
            have O9 := Lib.hid (own_apart (p := wd.heap.size) (g := none) O9.out (Apart.of_below b9) (fun h => Nat.lt_irrefl _ (O9.out.lt _ h).2) (fun k hk => by cases hk))
            have B9 := Lib.hid (B9.out.trans (b9.mono B9.out.size))
            clear b9
            simp only []
            refine hK _ _ ⟨⟨w9, B9.out⟩, rfl⟩ ?_
            clear hK K
            obtain ⟨S, hS⟩ : ∃ S, (⟨#[100, 97, 116, 97, 32]⟩ : ByteArray) ++ X = S := ⟨_, rfl⟩
            rw [hS] at SL
            refine mix_run (by simp only [opsAt, List.getElem?_toArray, List.getElem?_cons_succ, List.getElem?_cons_zero]; rfl) (by simp only [List.getElem?_toArray, List.getElem?_cons_succ, List.getElem?_cons_zero]; rfl) ?_
            repeat (go_big_quiet_step (rfl))
            refine wpQuiet_nil ?_
            refine mix_call (by rfl) ?_
            intro K hK
            go_wp2_with fail
            try rw [hS]
            have B10 := Lib.hid (B9.out.alloc B9.out.size (.cells #[.string S] 9))
            refine hK _ _ ⟨⟨_, B10.out⟩, rfl⟩ ?_
            clear hK K
            refine mix_run (by simp only [opsAt, List.getElem?_toArray, List.getElem?_cons_succ, List.getElem?_cons_zero]; rfl) (by simp only [List.getElem?_toArray, List.getElem?_cons_succ, List.getElem?_cons_zero]; rfl) ?_
            refine wpQuiet_nil ?_
            refine mix_call (by rfl) ?_
            intro K hK
            refine wp_append_str (.tmp 68) (.tmp 84) rfl w.heap.size _ M.length M (by rfl) (O9.out.alloc _) w9.heap.size S (by rfl) ((Blk.new w9 9 #[.string S]).cell 0) (Nat.le_trans KM.out (by decide)) B10.out.size 85 (by rfl) ?_
            intro v' w10 hown' hgrow
            have OX := Lib.hid hown'
            have BX := Lib.hid (B10.out.grown hgrow B10.out.size (fun j hj => (O9.out.lt j hj).1))
            have GX := Lib.hid (show Blk g 33 #[.int .i64 0, .int .i64 x, .int .i64 y, .int .i64 nf, .int .i64 nn, .int .i64 a, .int .i64 len] w10 from (hgrow.block g (by have := GI.out.lt; simp; omega) (fun e => own_tag O9.out GI.out (by decide) e.symm)).trans (GI.out.alloc (.cells #[.string S] 9)))
            clear hown' hgrow
            simp only [List.setIfInBounds_toArray, List.set_cons_zero, List.set_cons_succ]
            refine hK _ _ ⟨⟨w10, BX.out⟩, rfl⟩ ?_
            clear hK K
            refine mix_last (by simp only [opsAt, List.getElem?_toArray, List.getElem?_cons_succ, List.getElem?_cons_zero]; rfl) ?_
            repeat (go_big_quiet_step (rfl))
            refine wpQuiet_nil ?_
            have hown' := hS
            clear hown' k1n k10 k1t
            go_wp2_with fail
            try clear wm vm
            refine ⟨⟨k + 2, M ++ [S], by (have := k2n.out; omega), by simp only [Value.int.injEq, true_and]; (have := k2n.out; omega), by simpa using OX.out, by have := HM.out; simp; omega, MR.out S SL.out 2 LM.out, BX.out⟩, by have := KL.out.1; simp [intOf]; omega⟩
        · have o0 : 0 < o := by omega
          have i2 : ¬ (k : Int) + len ≤ (n : Int) := fun c => NI.out ⟨i1, by have := KL.out.1; omega⟩
          have lr := LR.out
          simp only at lr
          obtain ⟨wm, vm⟩ := kwraps (m := len) KL1000.out (by omega) (by omega)
          by_cases h1 : n - k = 1
          · have SL := Lib.hid (show ((⟨#[100, 97, 116, 97, 32]⟩ : ByteArray) ++ hexS c0 2).data.toList = lineL l (L.drop k) by rw [LL.out, if_neg hI, if_pos h1, data_two])
            have LM := Lib.hid (show lineN l (L.drop k) = 1 by rw [LN.out, if_neg hI, h1]; rfl)
            have HX := Lib.hid (fun w => rhex_yes c0 2 w (by omega) (by decide) (by decide))
            have hx2 : (hexS c0 2).size = 2 := hexS_size _ _
            generalize hexS c0 2 = X at HX SL hx2
            have kn : (k : Int) + 1 = (n : Int) := by omega
            have kc := HC0.out w8 B9.out
            clear hI LL LN II IL HC0 HC1
            go_upto_region 9 with fail
            go_wp2_with fail
            refine (HX.out _).mono ?_
            clear kc f0 f6 l8
            rintro e w9 ⟨rfl, b9⟩
            have GI := Lib.hid (GI.out.step b9)
            have O9 := Lib.hid (own_apart (p := w8.heap.size) (g := none) O9.out (Apart.of_below b9) (fun h => by have := (O9.out.lt _ h).2; omega) (fun k hk => by cases hk))
            have B9 := Lib.hid (B9.out.trans (b9.mono B9.out.size))
            clear b9
            obtain ⟨S, hS⟩ : ∃ S, (⟨#[100, 97, 116, 97, 32]⟩ : ByteArray) ++ X = S := ⟨_, rfl⟩
            rw [hS] at SL
            simp only []
            go_at_K
            go_step
            iterate 6 go_step
            refine wpList_append_own _ rfl (.tmp 56) (.tmp 64) 24 rfl w.heap.size 9 i0 (.string ⟨#[]⟩) 1 16 Tryz.underlying24 hi hz0 hz1 hz2 rfl (by decide) _ _ _ rfl (O9.out.alloc _) ⟨_, 0, none⟩ 1 1 [.string S] rfl rfl (cell_one_str _ _ _) (by simp [Value.oneCell']) (by have := KM.out; unfold maxLen; omega) (by have := KM.out; omega) (by have := B9.out.size; simp; omega) ?_
            intro v' w10 hown' hgrow _
            have OX := Lib.hid hown'
            have BX := Lib.hid ((B9.out.alloc B9.out.size (.cells #[.string S] 9)).grown hgrow (by have := B9.out.size; simp; omega) (fun j hj => (O9.out.lt j hj).1))
            have GX := Lib.hid (show Blk g 33 #[.int .i64 o, .int .i64 x, .int .i64 y, .int .i64 nf, .int .i64 nn, .int .i64 a, .int .i64 len] w10 from (hgrow.block g (by have := GI.out.lt; simp; omega) (fun e => own_tag O9.out GI.out (by decide) e.symm)).trans (GI.out.alloc (.cells #[.string S] 9)))
            clear hown' hgrow
            simp only [Act.put, List.setIfInBounds_toArray, List.set_cons_zero, List.set_cons_succ]
            iterate 4 go_step
            clear hS
            go_upto_region 10 with fail
            go_wp2_with fail
            try clear wm vm
            refine ⟨⟨k + 1, M ++ [S], by omega, by simp only [Value.int.injEq, true_and]; omega, by simpa using OX.out, by have := HM.out; simp; omega, MR.out S SL.out 1 LM.out, BX.out⟩, by have := KL.out.1; simp [intOf]; omega⟩
          · have SL := Lib.hid (show ((⟨#[100, 97, 116, 97, 32]⟩ : ByteArray) ++ hexS (c0 * 256 + c1) 4).data.toList = lineL l (L.drop k) by rw [LL.out, if_neg hI, if_neg h1, data_four])
            have n2 : 2 ≤ n - k := by have := KL.out.1; omega
            have LM := Lib.hid (show lineN l (L.drop k) = 2 by rw [LN.out, if_neg hI]; exact Nat.min_eq_left n2)
            have HX := Lib.hid (fun w => by
              have h := rhex_yes (c0 * 256 + c1) 4 w (by omega) (by decide) (by decide)
              rw [show ((c0 * 256 + c1 : Nat) : Int) = (c0 : Int) * 256 + (c1 : Int) by omega] at h
              exact h)
            have hx2 : (hexS (c0 * 256 + c1) 4).size = 4 := hexS_size _ _
            generalize hexS (c0 * 256 + c1) 4 = X at HX SL hx2
            have kn : ((k : Int) + 1 == (n : Int)) = false := by apply beq_false_of_ne; omega
            have kc : ∀ u : Calm w, u.w.cell? (ad.add k) = some (.int .u8 (c0 : Int)) := fun u => HC0.out _ u.below
            have e1 : ad.add (k + 1) = ⟨ad.block, ad.off + (k + 1), none⟩ := by unfold Addr.add; rw [if_neg (Nat.succ_ne_zero k)]
            have kc1 : ∀ u : Calm w, u.w.cell? ⟨ad.block, ad.off + (k + 1), none⟩ = some (.int .u8 (c1 : Int)) := fun u => by
              have h := HC1.out (by omega) _ u.below
              rw [e1] at h
              exact h
            have k1n : (k : Int) + 1 < (n : Int) := by omega
            have k10 : 0 ≤ (k : Int) + 1 := by omega
            have k1t : ((k : Int) + 1).toNat = k + 1 := by omega
            have k2n := Lib.hid (show k + 2 ≤ n by omega)
            clear hI LL LN II IL HC0 HC1 e1
            obtain ⟨wx, vx, wy, vy⟩ := cwraps b0 b1
            obtain ⟨wb0, vb0⟩ := bwrap b0
            obtain ⟨wb1, vb1⟩ := bwrap b1
            clear zo  b0 b1 h1 n2 NI
            obtain ⟨wj, vj⟩ := kwraps (m := 1) KL1000.out (by decide) (by decide)
            go_upto_region 11 with fail
            refine wp_region_mix (C := fun w' => ∃ u : Calm w, w' = u.w) [([0, 1, 2, 3, 4, 5, 6, 7, 8, 9, 10, 11, 12, 13], 14), ([15], 16), ([], 17)] [18] (by kernel_rfl) (by kernel_rfl) (fun _ _ d _ _ h => by cases d <;> exact h) ⟨⟨w8.drew, B9.out.drew⟩, rfl⟩ ?_
            intro wd hwd
            have bd : Below w8.heap.size w8 wd := by rw [hwd]; exact (Below.refl _ _).drew
            have GI := Lib.hid (GI.out.step bd)
            have O9 := Lib.hid (own_apart (p := w8.heap.size) (g := none) O9.out (Apart.of_below bd) (fun h => Nat.lt_irrefl _ (O9.out.lt _ h).2) (fun k hk => by cases hk))
            have B9 := Lib.hid (B9.out.trans (bd.mono B9.out.size))
            clear bd hwd f0 f6 l8
            refine mix_run (by simp only [opsAt, List.getElem?_toArray, List.getElem?_cons_succ, List.getElem?_cons_zero]; rfl) (by simp only [List.getElem?_toArray, List.getElem?_cons_succ, List.getElem?_cons_zero]; rfl) ?_
            repeat (go_big_quiet_step (rfl))
            refine wpQuiet_nil ?_
            refine mix_call (by rfl) ?_
            intro K hK
            go_wp2_with fail
            refine (HX.out _).mono ?_
            clear kc kc1 wx vx wy vy wj vj wb0 vb0 wb1 vb1
            rintro e w9 ⟨rfl, b9⟩
            have GI := Lib.hid (GI.out.step b9)
            have O9 := Lib.hid (own_apart (p := wd.heap.size) (g := none) O9.out (Apart.of_below b9) (fun h => Nat.lt_irrefl _ (O9.out.lt _ h).2) (fun k hk => by cases hk))
            have B9 := Lib.hid (B9.out.trans (b9.mono B9.out.size))
            clear b9
            simp only []
            refine hK _ _ ⟨⟨w9, B9.out⟩, rfl⟩ ?_
            clear hK K
            obtain ⟨S, hS⟩ : ∃ S, (⟨#[100, 97, 116, 97, 32]⟩ : ByteArray) ++ X = S := ⟨_, rfl⟩
            rw [hS] at SL
            refine mix_run (by simp only [opsAt, List.getElem?_toArray, List.getElem?_cons_succ, List.getElem?_cons_zero]; rfl) (by simp only [List.getElem?_toArray, List.getElem?_cons_succ, List.getElem?_cons_zero]; rfl) ?_
            repeat (go_big_quiet_step (rfl))
            refine wpQuiet_nil ?_
            refine mix_call (by rfl) ?_
            intro K hK
            go_wp2_with fail
            try rw [hS]
            have B10 := Lib.hid (B9.out.alloc B9.out.size (.cells #[.string S] 9))
            refine hK _ _ ⟨⟨_, B10.out⟩, rfl⟩ ?_
            clear hK K
            refine mix_run (by simp only [opsAt, List.getElem?_toArray, List.getElem?_cons_succ, List.getElem?_cons_zero]; rfl) (by simp only [List.getElem?_toArray, List.getElem?_cons_succ, List.getElem?_cons_zero]; rfl) ?_
            refine wpQuiet_nil ?_
            refine mix_call (by rfl) ?_
            intro K hK
            refine wp_append_str (.tmp 68) (.tmp 84) rfl w.heap.size _ M.length M (by rfl) (O9.out.alloc _) w9.heap.size S (by rfl) ((Blk.new w9 9 #[.string S]).cell 0) (Nat.le_trans KM.out (by decide)) B10.out.size 85 (by rfl) ?_
            intro v' w10 hown' hgrow
            have OX := Lib.hid hown'
            have BX := Lib.hid (B10.out.grown hgrow B10.out.size (fun j hj => (O9.out.lt j hj).1))
            have GX := Lib.hid (show Blk g 33 #[.int .i64 o, .int .i64 x, .int .i64 y, .int .i64 nf, .int .i64 nn, .int .i64 a, .int .i64 len] w10 from (hgrow.block g (by have := GI.out.lt; simp; omega) (fun e => own_tag O9.out GI.out (by decide) e.symm)).trans (GI.out.alloc (.cells #[.string S] 9)))
            clear hown' hgrow
            simp only [List.setIfInBounds_toArray, List.set_cons_zero, List.set_cons_succ]
            refine hK _ _ ⟨⟨w10, BX.out⟩, rfl⟩ ?_
            clear hK K
            refine mix_last (by simp only [opsAt, List.getElem?_toArray, List.getElem?_cons_succ, List.getElem?_cons_zero]; rfl) ?_
            repeat (go_big_quiet_step (rfl))
            refine wpQuiet_nil ?_
            have hown' := hS
            clear hown' k1n k10 k1t
            go_wp2_with fail
            try clear wm vm
            refine ⟨⟨k + 2, M ++ [S], by (have := k2n.out; omega), by simp only [Value.int.injEq, true_and]; (have := k2n.out; omega), by simpa using OX.out, by have := HM.out; simp; omega, MR.out S SL.out 2 LM.out, BX.out⟩, by have := KL.out.1; simp [intOf]; omega⟩
    · obtain rfl : k = n := by omega
      have HF := Lib.hid (show bytesOf M = linesA l L by
        have h := HE.out
        rw [lines_nil l (by have := HH.out.2.2.1; rw [List.length_drop]; omega), List.append_nil] at h
        exact h)
      obtain ⟨A4, c4, rfl⟩ := own_form HO.out
      clear hk
      go_wp2_with fail
      go_ret
      exact ⟨M, HF.out, A4, c4, rfl, HO.out, HB.out⟩
end Go.Proofs.YthfiaemdpfffcaaGreatDoor
