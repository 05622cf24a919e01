/- The walk of FlagsTwice. -/
import Derived.Test.YtafgdkgmjigjoaaFlaAwake
import Derived.Test.YtafgdkgmjigjoaaFlaRef
import Derived.Test.YtafgdkgmjigjoaaBytOpen
import Derived.Deep.Cut
import Derived.Test.YtafgdkgmjigjoaaMix
namespace Go.Proofs.Ytafgdkgmjigjoaa
open Go.RowKit Num
set_option linter.unusedVariables false
set_option linter.unusedSimpArgs false

/-- append of bytes where a region draws its order. -/
theorem wp_append_rd {w : World} {o : Oper} {a : Act} {K : Act → World → Prop} {Q : Exit → Act → World → Prop} (s x : Operand)
    (ho : o.op = .call { callee := .builtin .append, args := #[s, x], argTypes := #[22, 22] }) (base : Nat) (v : Value) (n : Nat) (L0 : List Int) (hs : a.eval s = v) (hown : w.ownsRow base 5 1 v n (L0.map (Value.int .u8)))
    (A : Option Addr) (m c : Nat) (L : List Int) (hx : a.eval x = .slice A m c) (hR : Rd w A L) (hL : L.length = m) (h63 : n + m ≤ 1000000) (hbase : base ≤ w.heap.size) (t : Nat) (hdst : o.dst = some t)
    (h : ∀ v' w', w'.ownsRow base 5 1 v' (n + m) ((L0 ++ L).map (Value.int .u8)) → w.grownBy w' v.ownBlock → K ⟨a.tmps.setIfInBounds t v', a.defers⟩ w') : o.wp Try.prog a w K Q := by
  obtain ⟨v', w', hrun, h2, h3⟩ := run_append_rd w o.type base v n L0 hown A m c L hR hL h63 hbase
  have hk := h v' w' h2 h3
  replace hk : K (a.put o.dst v') w' := by rw [hdst]; exact hk
  unfold Oper.wp execOp
  simp only [ho, resolve, invoke, builtin, Sem.run_bind, Sem.run_pure, Result.andThen_ok, List.map_toArray, List.map_cons, List.map_nil, hs, hx, hrun]
  exact hk
theorem cut_any (A D : Option Addr) (n c m : Nat) (hm : m ≤ n) (hc : n ≤ c) (h9 : c ≤ maxLen) (hD : D = if c = m then A else A.map (·.add m)) (w : World) :
    (Instr.sliceAt 22 (.slice A n c) (some (.int .i64 (m : Int))) none none).run Try.prog w = .ok (.slice D (n - m) (c - m)) w := by
  rw [run_sliceAt_slice (P := Try.prog) w 22 _ _ _ _ Try.underlying22, run_slice_l (P := Try.prog) w 22 _ n c Try.underlying22 .i64 m (by omega) (by omega), hD]
  show Result.ok (sliced _ _ _ _ 1) w = _
  unfold sliced
  by_cases h : c = m
  · subst h
    simp
  · rw [if_neg h]
    simp [h]
/-- A shorter list over a longer one. -/
theorem twice_list (L M : List Int) (h1 : M.length < L.length) (h2 : L.length ≤ 16) : (lstP (ov (ov zeroP L) M)).take L.length = M ++ L.drop M.length := by
  apply List.ext_getElem?
  intro j
  rw [List.getElem?_take, lstP_get?]
  by_cases hj : j < L.length
  · rw [if_pos hj, if_pos (by omega)]
    by_cases hm : j < M.length
    · rw [ov_in _ _ _ hm, List.getElem?_append_left hm, List.getElem?_eq_getElem hm]
    · rw [ov_out _ _ _ hm, ov_in _ _ _ hj, List.getElem?_append_right (by omega), List.getElem?_drop, show M.length + (j - M.length) = j by omega, List.getElem?_eq_getElem hj]
  · rw [if_neg hj, List.getElem?_eq_none (by rw [List.length_append, List.length_drop]; omega)]
/-- A list that is not shorter over another one. -/
theorem twice_eq (L M : List Int) (h : L.length ≤ M.length) : eqP (ov (ov zeroP L) M) (ov zeroP M) = true := by
  rw [eqP_iff]
  intro j _
  by_cases hm : j < M.length
  · rw [ov_in _ _ _ hm, ov_in _ _ _ hm]
  · rw [ov_out _ _ _ hm, ov_out _ _ _ hm, ov_out _ _ _ (by omega)]

set_option maxRecDepth 100000 in
set_option maxHeartbeats 8000000 in
theorem flagsTwice_walk (A : Option Addr) (n c : Nat) (L : List Int) (B : Option Addr) (m d : Nat) (M : List Int) (w : World) (H : ArgB w A n c L) (K : ArgB w B m d M) :
    Calls Try.prog 6 #[.slice A n c, .slice B m d] w fun e w' => e = .returned (.bool true) ∧ Below w.heap.size w w' := by
  have HA := Lib.hid H
  have HB := Lib.hid K
  clear H K
  obtain ⟨v0, hv0⟩ : ∃ v0, v0 = w := ⟨_, rfl⟩
  subst hv0
  go_enter Try.func6, Try.ntmps6
  go_wp2_with fail
  refine (awake12 _).mono ?_
  rintro e v1 ⟨rfl, b1⟩
  have BV := Lib.hid b1
  clear b1
  by_cases hlen0 : 16 < n
  · have k0 : (16 : Int) < (n : Int) := by omega
    go_wp2_with fail
    refine (awake12 _).mono ?_
    rintro e v2 ⟨rfl, b1⟩
    have BV := Lib.hid (BV.out.trans (b1.mono BV.out.size))
    clear b1
    go_wp2
    go_ret
    exact ⟨rfl, BV.out⟩
  have k0 : ¬ (16 : Int) < (n : Int) := by omega
  by_cases hlen1 : 16 < m
  · have k1 : (16 : Int) < (m : Int) := by omega
    go_wp2_with fail
    refine (awake12 _).mono ?_
    rintro e v2 ⟨rfl, b1⟩
    have BV := Lib.hid (BV.out.trans (b1.mono BV.out.size))
    clear b1
    go_wp2
    go_ret
    exact ⟨rfl, BV.out⟩
  have k1 : ¬ (16 : Int) < (m : Int) := by omega
  have N0 := Lib.hid (show n ≤ 16 by omega)
  have N1 := Lib.hid (show m ≤ 16 by omega)
  have TE := Lib.hid fun h : n ≤ m => twice_eq L M (by rw [HA.out.len, HB.out.len]; exact h)
  have TL := Lib.hid (show m < n → (lstP (ov (ov zeroP L) M)).take (cl (n : Int)) = M ++ L.drop m by intro h; rw [cl_nat n N0.out]; have h1 := HA.out.len; have h2 := HB.out.len; subst h1 h2; exact twice_list L M h N0.out)
  obtain ⟨P, hP⟩ : ∃ P, ov zeroP L = P := ⟨_, rfl⟩
  obtain ⟨R, hR⟩ : ∃ R, ov zeroP M = R := ⟨_, rfl⟩
  have HP := Lib.hid hP
  have HR := Lib.hid hR
  rw [hP, hR] at TE
  rw [hP] at TL
  obtain ⟨Q, hQ⟩ : ∃ Q, ov P M = Q := ⟨_, rfl⟩
  have HQ := Lib.hid hQ
  rw [hQ] at TE TL
  clear hP hQ hR
  go_upto_region 3 with fail
  refine wp_region_lit ?_
  refine list_litF rfl rfl ?_
  simp only [Act.put, List.setIfInBounds_toArray, List.set_cons_zero, List.set_cons_succ]
  go_wp2_with fail
  refine (HP.out ▸ save_any zeroP A n c L v1 (HA.out.rd.below BV.out) HA.out.len).mono ?_
  rintro e v2 ⟨rfl, b1⟩
  have BV := Lib.hid (BV.out.trans (b1.mono BV.out.size))
  clear b1
  go_wp2_with fail
  refine (HQ.out ▸ save_any P B m d M v2 (HB.out.rd.below BV.out) HB.out.len).mono ?_
  rintro e v3 ⟨rfl, b1⟩
  have BV := Lib.hid (BV.out.trans (b1.mono BV.out.size))
  clear b1
  simp only []
  go_at_K
  go_step
  refine list_var_all (ds := pc (Q)) aggFla zeroFla (pc_size _) (pc_size _) (pc_one _) rfl rfl rfl (.tmp 5) (.tmp 24) rfl (by simp [Act.eval, Act.put]) (by simp [Act.eval, Act.put]) ?_
  simp only [Act.put, List.setIfInBounds_toArray, List.set_cons_zero, List.set_cons_succ]
  have S := Lib.hid (FB.new v3 (Q))
  have BA := below_new v3 (.cells (pc (Q)) 26)
  have BV := Lib.hid (BV.out.trans (BA.mono BV.out.size))
  clear BA
  obtain ⟨a, hq⟩ : ∃ q, v3.heap.size = q := ⟨_, rfl⟩
  generalize v3.alloc (.cells (pc (Q)) 26) = v4 at *
  rw [hq] at S ⊢
  clear hq
  by_cases hc : n ≤ m
  · have cI : (n : Int) ≤ (m : Int) := by omega
    have E := Lib.hid (TE.out hc)
    have SV := Lib.hid fun x : Calm v4 => (HR.out ▸ save_any zeroP B m d M x.w ((HB.out.rd.below BV.out).below x.below) HB.out.len : Calls Try.prog 8 #[.agg (pc zeroP), .slice B m d] x.w fun e w' => e = .returned (.agg (pc R)) ∧ Below x.w.heap.size x.w w')
    have KA := Lib.hid S.out.calm
    clear hc
    go_upto_region 5 with fail
    refine calm_region (by kernel_rfl) (by kernel_rfl) ?_
    repeat (first
      | (refine quiet_loadF KA.out ?_ (.tmp 5) ?_ ?_ ?_; (focus rfl); (focus rfl); (focus (simp [Act.eval]; done)); simp only [Act.put, List.setIfInBounds_toArray, List.set_cons_zero, List.set_cons_succ])
      | (refine quiet_litF ?_ ?_ ?_; (focus rfl); (focus rfl); simp only [Act.put, List.setIfInBounds_toArray, List.set_cons_zero, List.set_cons_succ])
      | (refine quiet_eqF (P := Q) (Q := R) ?_ (.tmp 30) (.tmp 33) 26 ?_ ?_ ?_ ?_; (focus rfl); (focus rfl); (focus (simp [Act.eval]; done)); (focus (simp [Act.eval]; done)); rw [E.out]; simp only [Act.put, List.setIfInBounds_toArray, List.set_cons_zero, List.set_cons_succ])
      | go_big_quiet_step ((go_at_call 8; exact calm_call (SV.out _))))
    refine wpQuiet_nil ?_
    intro _ hw'
    obtain ⟨u, rfl⟩ := hw'
    have BV := Lib.hid (BV.out.trans (u.below.mono BV.out.size))
    go_wp2
    go_ret
    exact ⟨rfl, BV.out⟩
  · have cI : ¬ (n : Int) ≤ (m : Int) := by omega
    have T := Lib.hid (TL.out (by omega))
    have TN := Lib.hid (show (M ++ L.drop m).length = n by rw [List.length_append, List.length_drop, HA.out.len, HB.out.len]; omega)
    have MN := Lib.hid (show m ≤ n by omega)
    clear hc TE TL
    go_upto_region 6 with fail
    refine wp_region_lit ?_
    refine list_loadF S.out rfl (.tmp 5) rfl (by simp [Act.eval]) ?_
    simp only [Act.put, List.setIfInBounds_toArray, List.set_cons_zero, List.set_cons_succ]
    go_wp2_with fail
    refine ((load_any Q (n : Int) v4).mono fun e w' h => Got.of (T.out ▸ h) TN.out).mono ?_
    rintro e v5 h
    obtain ⟨Y, c5, rfl, o1, l1, b1⟩ := h
    have O5 := Lib.hid (And.intro o1 l1)
    clear o1 l1
    have BV := Lib.hid (BV.out.trans (b1.mono BV.out.size))
    clear b1
    clear S
    obtain ⟨D, hD⟩ : ∃ D, D = if c = m then A else A.map (·.add m) := ⟨_, rfl⟩
    have HD := Lib.hid hD
    clear hD
    have cutE := fun w : World => cut_any A D n c m MN.out HA.out.cap HA.out.max HD.out w
    go_upto_region 7 with fail
    refine wp_region_mix (C := fun w' => ∃ x : AnyW, w' = x.w) [([0, 1, 2, 3, 4, 5, 6, 8, 10, 11, 12, 13], 7), ([], 9), ([], 14), ([], 15)] [16, 17] (by kernel_rfl) (by kernel_rfl) (fun _ _ d _ _ h => by cases d <;> exact h) (AnyW.any _) ?_
    intro wd hwd
    have BD := Lib.hid (show Below v5.heap.size v5 wd by rw [hwd]; exact (Below.refl _ _).drew)
    clear hwd
    refine mix_run (by simp only [opsAt, List.getElem?_toArray, List.getElem?_cons_succ, List.getElem?_cons_zero]; rfl) (by rfl) ?_
    repeat (go_big_quiet_step (fail))
    refine wpQuiet_nil ?_
    refine mix_call (by rfl) ?_
    intro K hK
    have hown0 : (wd.alloc (.cells #[] 5)).ownsRow wd.heap.size 5 1 (.slice (some ⟨wd.heap.size, 0, none⟩) 0 0) 0 (([] : List Int).map (Value.int .u8)) := World.ownsRow_made wd #[] 0 (Nat.le_refl _) (by unfold maxLen; omega) rfl
    have Q0 := Lib.hid (And.intro hown0 (below_new wd (.cells #[] 5)))
    clear hown0 cutE
    go_wp2_with fail
    refine hK _ _ (AnyW.any _) ?_
    clear hK K
    refine mix_run (by simp only [opsAt, List.getElem?_toArray, List.getElem?_cons_succ, List.getElem?_cons_zero]; rfl) (by rfl) ?_
    refine wpQuiet_nil ?_
    refine mix_call (by rfl) ?_
    intro K hK
    refine wp_append_rd (.tmp 46) (.tmp 47) rfl wd.heap.size _ 0 [] (by rfl) Q0.out.1 B m d M (by rfl) (HB.out.rd.below (BV.out.trans ((BD.out.trans (Q0.out.2.mono BD.out.size)).mono BV.out.size))) HB.out.len (by have := N1.out; omega) (by simp) 48 (by rfl) ?_
    intro u6 w6 o6 g6
    have P6 := Lib.hid (And.intro o6 (Q0.out.2.grown g6 (by simp) fun j ej => (Q0.out.1.lt j ej).1))
    clear o6 g6 Q0
    simp only [List.setIfInBounds_toArray, List.set_cons_zero, List.set_cons_succ]
    refine hK _ _ (AnyW.any _) ?_
    clear hK K
    refine mix_run (by simp only [opsAt, List.getElem?_toArray, List.getElem?_cons_succ, List.getElem?_cons_zero]; rfl) (by rfl) ?_
    refine wpQuiet_nil ?_
    refine mix_call (by rfl) ?_
    intro K hK
    have RD : Rd v0 D (L.drop m) := by rw [HD.out]; exact HA.out.rd.cut (by rw [HA.out.len]; exact HA.out.cap)
    refine wp_append_rd (.tmp 48) (.tmp 52) rfl wd.heap.size u6 (0 + m) ([] ++ M) (by rfl) P6.out.1 D (n - m) (c - m) (L.drop m) (by rfl) (RD.below (BV.out.trans ((BD.out.trans (P6.out.2.mono BD.out.size)).mono BV.out.size))) (by rw [List.length_drop, HA.out.len]) (by have := N0.out; have := N1.out; omega) P6.out.2.size 53 (by rfl) ?_
    intro u7 w7 o7 g7
    have P7 := Lib.hid (And.intro o7 (P6.out.2.grown g7 P6.out.2.size fun j ej => (P6.out.1.lt j ej).1))
    clear o7 g7 P6 RD
    obtain ⟨X, c7, hX⟩ := own_form P7.out.1
    subst hX
    have e7 : 0 + m + (n - m) = n := by have := MN.out; omega
    rw [e7] at P7 ⊢
    clear e7
    simp only [List.setIfInBounds_toArray, List.set_cons_zero, List.set_cons_succ]
    refine hK _ _ (AnyW.any _) ?_
    clear hK K
    have BW := Lib.hid (BD.out.trans (P7.out.2.mono BD.out.size))
    have RY := Lib.hid ((own_rd O5.out.1).below (BW.out))
    have BV := Lib.hid (BV.out.trans (BW.out.mono BV.out.size))
    have SC := Lib.hid (decide_eq_true (rfl : M ++ L.drop m = M ++ L.drop m) ▸ same2_any Y X c5 c7 n n (M ++ L.drop m) (M ++ L.drop m) w7 TN.out TN.out (by have := N0.out; omega) (by have := N0.out; omega) RY.out (own_rd P7.out.1) : Calls Try.prog 10 #[.slice Y n c5, .slice X n c7] w7 fun e w' => e = .returned (.bool true) ∧ Below w7.heap.size w7 w')
    clear P7 O5 BW BD
    refine mix_run (by simp only [opsAt, List.getElem?_toArray, List.getElem?_cons_succ, List.getElem?_cons_zero]; rfl) (by rfl) ?_
    refine wpQuiet_nil ?_
    refine mix_call (by rfl) ?_
    intro K hK
    go_wp2_with fail
    refine SC.out.mono ?_
    rintro e w8 ⟨rfl, b1⟩
    have BV := Lib.hid (BV.out.trans (b1.mono BV.out.size))
    clear b1
    simp only []
    refine hK _ _ (AnyW.any _) ?_
    clear hK K
    refine mix_last (by simp only [opsAt, List.getElem?_toArray, List.getElem?_cons_succ, List.getElem?_cons_zero]; rfl) ?_
    repeat (go_big_quiet_step (fail))
    refine wpQuiet_nil ?_
    go_wp2
    go_ret
    exact ⟨rfl, BV.out⟩
end Go.Proofs.Ytafgdkgmjigjoaa
