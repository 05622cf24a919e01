/- The walk of FlagsMatchReference. -/
import Derived.Test.YtafgdkgmjigjoaaFlaAwake
import Derived.Test.YtafgdkgmjigjoaaFlaRef
import Derived.Test.YtafgdkgmjigjoaaBytOpen
import Derived.Deep.Cut
namespace Go.Proofs.Ytafgdkgmjigjoaa
open Go.RowKit Num
set_option linter.unusedVariables false
set_option linter.unusedSimpArgs false

set_option maxRecDepth 100000 in
set_option maxHeartbeats 8000000 in
theorem flagsMatchReference_walk (A : Option Addr) (n c : Nat) (L : List Int) (B : Option Addr) (m d : Nat) (M : List Int) (i l x : Int) (w : World) (H : ArgB w A n c L) (K : ArgB w B m d M) (w2 : (Lit.int .i64 i).wf = true) (w3 : (Lit.int .i64 l).wf = true) (w4 : (Lit.int .i64 x).wf = true) :
    Calls Try.prog 3 #[.slice A n c, .slice B m d, .int .i64 i, .int .i64 l, .int .i64 x] w fun e w' => e = .returned (.bool true) ∧ Below w.heap.size w w' := by
  have HA := Lib.hid H
  have HB := Lib.hid K
  clear H K
  have AL := Lib.hid fun w : World => allowed_any l x w w3
  have RL := Lib.hid fun w : World => rallowed_any l x w
  clear w2 w3 w4
  obtain ⟨v0, hv0⟩ : ∃ v0, v0 = w := ⟨_, rfl⟩
  subst hv0
  go_enter Try.func3, Try.ntmps3
  go_wp2_with fail
  refine (awake12 _).mono ?_
  rintro e v1 ⟨rfl, b1⟩
  have BV := Lib.hid b1
  clear b1
  by_cases hlen0 : 100 < n
  · have k0 : (100 : Int) < (n : Int) := by omega
    go_wp2_with fail
    refine (awake12 _).mono ?_
    rintro e v2 ⟨rfl, b1⟩
    have BV := Lib.hid (BV.out.trans (b1.mono BV.out.size))
    clear b1
    go_wp2
    go_ret
    exact ⟨rfl, BV.out⟩
  have k0 : ¬ (100 : Int) < (n : Int) := by omega
  by_cases hlen1 : 100 < m
  · have k1 : (100 : Int) < (m : Int) := by omega
    go_wp2_with fail
    refine (awake12 _).mono ?_
    rintro e v2 ⟨rfl, b1⟩
    have BV := Lib.hid (BV.out.trans (b1.mono BV.out.size))
    clear b1
    go_wp2
    go_ret
    exact ⟨rfl, BV.out⟩
  have k1 : ¬ (100 : Int) < (m : Int) := by omega
  have N0 := Lib.hid (show n ≤ 100 by omega)
  have N1 := Lib.hid (show m ≤ 100 by omega)
  obtain ⟨P, hP⟩ : ∃ P, ov zeroP L = P := ⟨_, rfl⟩
  obtain ⟨Q, hQ⟩ : ∃ Q, ov P M = Q := ⟨_, rfl⟩
  have HP := Lib.hid (And.intro hP hQ)
  clear hP hQ
  go_upto_region 3 with fail
  refine wp_region_lit ?_
  refine list_litF rfl rfl ?_
  simp only [Act.put, List.setIfInBounds_toArray, List.set_cons_zero, List.set_cons_succ]
  go_wp2_with fail
  refine (HP.out.1 ▸ save_any zeroP A n c L v1 (HA.out.rd.below BV.out) HA.out.len).mono ?_
  rintro e v2 ⟨rfl, b1⟩
  have BV := Lib.hid (BV.out.trans (b1.mono BV.out.size))
  clear b1
  go_wp2_with fail
  refine (HP.out.2 ▸ save_any P B m d M v2 (HB.out.rd.below BV.out) HB.out.len).mono ?_
  rintro e v3 ⟨rfl, b1⟩
  have BV := Lib.hid (BV.out.trans (b1.mono BV.out.size))
  clear b1
  simp only []
  go_at_K
  go_step
  refine list_var_all (ds := pc (Q)) aggFla zeroFla (pc_size _) (pc_size _) (pc_one _) rfl rfl rfl (.tmp 11) (.tmp 30) rfl (by simp [Act.eval, Act.put]) (by simp [Act.eval, Act.put]) ?_
  simp only [Act.put, List.setIfInBounds_toArray, List.set_cons_zero, List.set_cons_succ]
  have S := Lib.hid (FB.new v3 (Q))
  have BA := below_new v3 (.cells (pc (Q)) 26)
  have BV := Lib.hid (BV.out.trans (BA.mono BV.out.size))
  clear BA
  obtain ⟨a, hq⟩ : ∃ q, v3.heap.size = q := ⟨_, rfl⟩
  generalize v3.alloc (.cells (pc (Q)) 26) = v4 at *
  rw [hq] at S ⊢
  clear hq
  have mk : ∀ w : World, (Instr.makeSlice 22 (.int .i64 16) (.int .i64 16)).run Try.prog w = .ok (.slice (some ⟨w.heap.size, 0, none⟩) 16 16) (w.alloc (.cells (pc zeroP) 5)) := fun w => make_bytes 16 16 rfl (by omega) w
  go_wp2_with fail
  have BA := below_new v4 (.cells (pc zeroP) 5)
  have G := Lib.hid (show Rd _ _ (lstP zeroP) from pc_rd (Blk.new v4 5 (pc zeroP)))
  have S := Lib.hid (S.out.step BA)
  have BV := Lib.hid (BV.out.trans (BA.mono BV.out.size))
  clear BA mk
  generalize v4.alloc (.cells (pc zeroP) 5) = v5 at *
  obtain ⟨g, hg⟩ : ∃ g, v4.heap.size = g := ⟨_, rfl⟩
  rw [hg] at G ⊢
  clear hg
  go_wp2_with fail
  refine (((HP.out.1 ▸ rsave_any zeroP (some ⟨g, 0, none⟩) 16 A n c L v5 G.out (HA.out.rd.below BV.out) HA.out.len (by have := N0.out; omega) : Calls Try.prog 9 #[.slice (some ⟨g, 0, none⟩) 16 16, .slice A n c] v5 (Gives 5 (lstP P) v5))).mono fun e w' h => Got.of h (lstP_len P)).mono ?_
  rintro e v6 h
  obtain ⟨C, c1, rfl, o1, l1, b1⟩ := h
  have O := Lib.hid (And.intro o1 l1)
  clear o1 l1
  have S := Lib.hid (S.out.step b1)
  have BV := Lib.hid (BV.out.trans (b1.mono BV.out.size))
  clear b1
  go_wp2_with fail
  refine (((HP.out.2 ▸ rsave_any P C c1 B m d M v6 (own_rd O.out.1) (HB.out.rd.below BV.out) HB.out.len (by have := N1.out; omega) : Calls Try.prog 9 #[.slice C 16 c1, .slice B m d] v6 (Gives 5 (lstP Q) v6))).mono fun e w' h => Got.of h (lstP_len Q)).mono ?_
  rintro e v7 h
  obtain ⟨D, c2, rfl, o1, l1, b1⟩ := h
  have O2 := Lib.hid (And.intro o1 l1)
  clear o1 l1
  have S := Lib.hid (S.out.step b1)
  have BV := Lib.hid (BV.out.trans (b1.mono BV.out.size))
  clear b1
  have R := Lib.hid (own_rd O2.out.1)
  clear O O2 G
  go_wp2_with fail
  refine (((decide_eq_true (rfl : lstP Q = lstP Q)) ▸ same2_any (some ⟨a, 0, none⟩) D 16 c2 16 16 (lstP Q) (lstP Q) v7 (lstP_len Q) (lstP_len Q) (by omega) (by omega) S.out.rd R.out : Calls Try.prog 10 #[.slice (some ⟨a, 0, none⟩) 16 16, .slice D 16 c2] v7 fun e w' => e = .returned (.bool true) ∧ Below v7.heap.size v7 w')).mono ?_
  rintro e v8 ⟨rfl, b1⟩
  have S := Lib.hid (S.out.step b1)
  have R := Lib.hid (R.out.below b1)
  have BV := Lib.hid (BV.out.trans (b1.mono BV.out.size))
  clear b1
  simp only []
  go_at_K
  iterate 4 go_step
  refine list_loadF S.out rfl (.tmp 11) rfl (by simp [Act.eval]) ?_
  simp only [Act.put, List.setIfInBounds_toArray, List.set_cons_zero, List.set_cons_succ]
  go_wp2_with fail
  refine ((load_any Q i v8).mono fun e w' h => Got.of h (take_len Q _ (cl_le i))).mono ?_
  rintro e v9 h
  obtain ⟨X, c3, rfl, o1, l1, b1⟩ := h
  have X1 := Lib.hid (And.intro o1 l1)
  clear o1 l1
  have R := Lib.hid (R.out.below b1)
  have BV := Lib.hid (BV.out.trans (b1.mono BV.out.size))
  clear b1
  go_wp2_with fail
  refine ((rload_any Q D c2 i v9 R.out).mono fun e w' h => Got.of h (take_len Q _ (cl_le i))).mono ?_
  rintro e v10 h
  obtain ⟨Y, c4, rfl, o1, l1, b1⟩ := h
  have Y1 := Lib.hid (And.intro o1 l1)
  have X2 := Lib.hid (Rd.below (own_rd X1.out.1) b1)
  clear o1 l1 X1
  have BV := Lib.hid (BV.out.trans (b1.mono BV.out.size))
  clear b1
  go_wp2_with fail
  refine (((decide_eq_true (rfl : (lstP Q).take (cl i) = (lstP Q).take (cl i))) ▸ same2_any X Y c3 c4 (cl i) (cl i) _ _ v10 (take_len Q _ (cl_le i)) (take_len Q _ (cl_le i)) (by have := cl_le i; omega) (by have := cl_le i; omega) X2.out (own_rd Y1.out.1) : Calls Try.prog 10 #[.slice X (cl i) c3, .slice Y (cl i) c4] v10 fun e w' => e = .returned (.bool true) ∧ Below v10.heap.size v10 w')).mono ?_
  rintro e v11 ⟨rfl, b1⟩
  have BV := Lib.hid (BV.out.trans (b1.mono BV.out.size))
  clear b1
  go_wp2_with fail
  refine (AL.out v11).mono ?_
  rintro e v12 ⟨rfl, b1⟩
  have BV := Lib.hid (BV.out.trans (b1.mono BV.out.size))
  clear b1
  go_wp2_with fail
  refine (RL.out v12).mono ?_
  rintro e v13 ⟨rfl, rfl⟩
  go_wp2_with fail
  go_ret
  exact ⟨by simp, BV.out⟩
end Go.Proofs.Ytafgdkgmjigjoaa
