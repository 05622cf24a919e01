/- The walk of StackMatchesReference. -/
import Derived.Test.YtbgdkhbembjjlaaStkList
import Derived.Test.YtbgdkhbembjjlaaLate
import Derived.Deep.Cut
import Derived.IntWalk
import Derived.Shelf.Abstract
import Derived.Test.YtbgdkhbembjjlaaStkAwake
import Derived.Test.YtbgdkhbembjjlaaIntOpen
import Derived.Test.YtbgdkhbembjjlaaBlk
namespace Go.Proofs.Ytbgdkhbembjjlaa
open Go.RowKit Go.Shelf Num
set_option linter.unusedVariables false
set_option linter.unusedSimpArgs false
set_option maxRecDepth 100000

theorem RStk.past {base p : Nat} {w : World} {A : Option Addr} {n c : Nat} {L : List Int} (H : RStk base w A n c L) (hp : p < base) (cs : Array Value) : RStk base (w.setRow p cs) A n c L :=
  ⟨H.low, fun hne => by
    obtain ⟨b, o, e, hb, hc⟩ := H.row hne
    have hl := H.low _ e
    refine ⟨b, o, e, by simp [World.setRow]; exact hb, fun j hj => ?_⟩
    rw [← hc j hj]
    exact World.cell?_of_block (w := w) (a := ⟨b, o + j, none⟩) (setRow_other w p b cs (by simp only at hl; omega)), H.len, H.cap, H.max⟩
section
variable {P : Program} {ops : Array Oper} {T ty : TypeId} {b n : Nat} {cs : Array Value} {w : World} {Q : Exit → Act → World → Prop} {rest : List Oper} {op : Oper} {a : Act}
theorem list_load_allT (A : AggT P ty n) (H : Blk b T cs w) (hn : cs.size = n) (hw : Region.wanted op (yielded ops a.tmps) = true) (x : Operand) (ho : op.op = .load ty x) (hx : a.eval x = .pointer (some ⟨b, 0, none⟩))
    (h : wpList P ops Q rest (a.put op.dst (.agg cs)) w) : wpList P ops Q (op :: rest) a w :=
  wpList_step fun K hK => by rw [if_pos hw]; unfold Oper.wp; rw [exec_load_all A H hn x ho hx]; exact hK _ _ h
end
theorem pushL_le (M : List Int) (x : Int) (h : M.length ≤ 16) : (pushL M x).length ≤ 16 := by
  unfold pushL
  by_cases h2 : 16 ≤ M.length
  · rw [if_pos h2]; exact h
  · rw [if_neg h2]; simp; omega
set_option maxHeartbeats 16000000 in
theorem stackMatchesReference_walk (A : Option Addr) (n c : Nat) (l : List Int) (w : World) (H : ArgI w A n c l) :
    Calls Try.prog 3 #[.slice A n c] w fun e w' => e = .returned (.bool true) ∧ Below w.heap.size w w' := by
  have GE := Lib.hid H
  have mx := H.max
  have nc := H.cap
  clear H
  obtain ⟨v0, hv0⟩ : ∃ v0, v0 = w := ⟨_, rfl⟩
  subst hv0
  go_enter Try.func3, Try.ntmps3
  go_wp2_with fail
  refine (awake17 _).mono ?_
  rintro e w1 ⟨rfl, b1⟩
  have BV := Lib.hid b1
  clear b1
  by_cases hlen : 200 < n
  · have k1 : (200 : Int) < (n : Int) := by omega
    go_wp2_with fail
    refine (awake17 _).mono ?_
    rintro e w2 ⟨rfl, b1⟩
    have BV := Lib.hid (BV.out.trans (b1.mono BV.out.size))
    clear b1
    go_wp2
    go_ret
    exact ⟨rfl, BV.out⟩
  have k1 : ¬ (200 : Int) < (n : Int) := by omega
  have HL := Lib.hid GE.out.len
  have hz := zeroStkV
  have n16 : n ≤ 200 := by omega
  go_upto_region 4 with fail
  have GP := Lib.hid (TB8.new w1 [])
  have BQ := Lib.hid BV.out.size
  have BV := Lib.hid (BV.out.alloc BV.out.size (.cells (stkL []) 26))
  obtain ⟨p, hp⟩ : ∃ p, w1.heap.size = p := ⟨_, rfl⟩
  generalize w1.alloc (.cells (stkL []) 26) = w3 at *
  rw [hp] at GP BQ ⊢
  clear hp hz
  have RB := Lib.hid (show p + 1 ≤ w3.heap.size from GP.out.lt)
  go_wp2
  go_loopw [4, 5] (fun u i wr => ∃ (k m c1 : Nat) (A1 : Option Addr) (M : List Int), k ≤ n ∧ i = .int .i64 (k : Int) ∧ u = .slice A1 m c1 ∧ M.length ≤ 16 ∧ RStk (p + 1) wr A1 m c1 M ∧ TB8 p M wr ∧ Below v0.heap.size v0 wr) (fun _ i _ => n - (intOf i).toNat)
  case atStart => exact ⟨0, 0, 0, none, [], by omega, rfl, rfl, by simp, RStk.nil _ _, GP.out, BV.out⟩
  case round =>
    clear GP BV RB
    obtain ⟨k, m, c1, A1, M, hk, rfl, rfl, hM, r, gp, bv⟩ := hrel
    have GP := Lib.hid gp
    have BV := Lib.hid bv
    have R := Lib.hid r
    have HM := Lib.hid hM
    clear gp bv r hM
    by_cases hlt : k < n
    · have k1 : (k : Int) < (n : Int) := by omega
      have k0 : 0 ≤ (k : Int) := by omega
      have hkl : k < l.length := by rw [HL.out]; exact hlt
      obtain ⟨b, o, hA, hbl, cx⟩ := (GE.out.step BV.out).row.at_ hkl
      subst hA
      obtain ⟨x, hx⟩ : ∃ x, x = l[k] := ⟨_, rfl⟩
      rw [← hx] at cx
      have SK := Lib.hid (show l.take (k + 1) = l.take k ++ [x] by rw [hx]; exact List.take_succ_eq_append_getElem hkl)
      clear hx
      clear SK
      have CX := Lib.hid (And.intro hbl cx)
      have k2 : (k : Int) ≤ (c : Int) := by omega
      have k3 : k ≤ c := by omega
      by_cases hx : x < 0
      · rcases (show M = [] ∨ ∃ M2 y, M = M2 ++ [y] from by rcases List.eq_nil_or_concat M with h | ⟨M2, y, h⟩; (exact .inl h); exact .inr ⟨M2, y, by rw [h, List.concat_eq_append]⟩) with hM | ⟨M2, y, rfl⟩
        · have hm : m = 0 := by have := R.out.len; rw [hM] at this; simp at this; omega
          have RN := Lib.hid fun w' => (show Calls Try.prog 8 #[.slice A1 m c1] w' fun e w'' => e = .returned (.tuple #[.slice A1 m c1, .int .i64 0, .int .i64 3]) ∧ w' = w'' by rw [hm]; exact rpop_none A1 c1 w')
          have PN := Lib.hid fun w' => (show Calls Try.prog 7 #[.agg (stkL M)] w' fun e w'' => e = .returned (.tuple #[.agg (stkL M), .int .i64 0, .int .i64 3]) ∧ Below w'.heap.size w' w'' by rw [hM]; exact pop_no w')
          clear hm hM
          go_upto_region 9 with fail
          clear cx CX
          refine wp_region_lit ?_
          refine list_load_all aggStk GP.out (stkL_size _) rfl (.tmp 3) rfl (by simp [Act.eval, Act.put]) ?_
          simp only [Act.put, List.setIfInBounds_toArray, List.set_cons_zero, List.set_cons_succ]
          go_wp2_with fail
          refine (PN.out _).mono ?_
          rintro e w4 ⟨rfl, b1⟩
          have GP := Lib.hid (GP.out.step b1)
          have R := Lib.hid (R.out.below b1)
          have BV := Lib.hid (BV.out.trans (b1.mono BV.out.size))
          clear b1
          simp only []
          go_at_K
          iterate 13 go_step
          refine list_var_all (ds := stkL M) aggStk zeroStk (stkL_size _) (stkL_size _) (stkL_one _) rfl rfl rfl (.tmp 6) (.tmp 39) rfl (by simp [Act.eval, Act.put]) (by simp [Act.eval, Act.put]) ?_
          simp only [Act.put, List.setIfInBounds_toArray, List.set_cons_zero, List.set_cons_succ]
          have GQ := Lib.hid (TB8.new w4 M)
          have BA := below_newT w4 (.cells (stkL M) 26)
          have GP := Lib.hid (GP.out.step BA)
          have R := Lib.hid (R.out.below BA)
          have BV := Lib.hid (BV.out.trans (BA.mono BV.out.size))
          clear BA
          obtain ⟨q, hq⟩ : ∃ q, w4.heap.size = q := ⟨_, rfl⟩
          generalize w4.alloc (.cells (stkL M) 26) = w5 at *
          rw [hq] at GQ ⊢
          clear hq
          go_upto_region 10 with fail
          refine wp_region_lit ?_
          go_wp2_with fail
          refine (RN.out _).mono ?_
          rintro e w6 ⟨rfl, rfl⟩
          go_upto_region 11 with fail
          refine wp_region_lit ?_
          refine list_load_all aggStk GQ.out (stkL_size _) rfl (.tmp 6) rfl (by simp [Act.eval, Act.put]) ?_
          simp only [Act.put, List.setIfInBounds_toArray, List.set_cons_zero, List.set_cons_succ]
          refine list_store_all (ds := stkL M) aggStk GP.out (stkL_size _) (stkL_size _) (stkL_one _) rfl (.tmp 3) (.tmp 48) rfl (by simp [Act.eval, Act.put]) (by simp [Act.eval, Act.put]) ?_
          simp only [Act.put, List.setIfInBounds_toArray, List.set_cons_zero, List.set_cons_succ]
          have GP := Lib.hid (GP.out.store M)
          have BV := Lib.hid (belowRowT BV.out BQ.out (stkL M))
          have R := Lib.hid (R.out.past (Nat.lt_succ_self p) (stkL M))
          generalize w5.setRow p (stkL M) = w7 at *
          clear GQ
          obtain ⟨wx, hwx⟩ : ∃ v, v = w7 := ⟨_, rfl⟩
          rw [← hwx] at GP R BV ⊢
          clear hwx
          go_upto_region 21 with fail
          have c0 := GP.out.depth
          rw [R.out.len] at c0
          have bb : (((m : Nat) : Int) != ((m : Nat) : Int)) = false := by simp
          have LS := Lib.hid fun w' => list17_any M HM.out w'
          have NS := Lib.hid fun (B1 : Option Addr) (d1 : Nat) (w' : World) (h1 : Row (Value.int .i64) w' B1 M) (h2 : RStk (p + 1) w' A1 m c1 M) => numbers_same B1 A1 d1 c1 M.length M w' rfl (by have := HM.out; omega) h1 h2.row
          rw [R.out.len] at NS
          refine wp_region_lit ?_
          iterate 18 go_step
          refine list_load_allT aggStk GP.out (stkL_size _) rfl (.tmp 3) rfl (by simp [Act.eval, Act.put]) ?_
          simp only [Act.put, List.setIfInBounds_toArray, List.set_cons_zero, List.set_cons_succ]
          clear c0 bb
          go_wp2_with fail
          refine (LS.out _).mono ?_
          rintro e w8 ⟨⟨B1, d1, rfl, hrow⟩, b1⟩
          have R1 := Lib.hid hrow
          clear hrow
          rw [R.out.len]
          have GP := Lib.hid (GP.out.step b1)
          have R := Lib.hid (R.out.below b1)
          have BV := Lib.hid (BV.out.trans (b1.mono BV.out.size))
          clear b1
          go_wp2_with fail
          refine (NS.out _ _ _ R1.out R.out).mono ?_
          rintro e w9 ⟨rfl, b1⟩
          have GP := Lib.hid (GP.out.step b1)
          have R := Lib.hid (R.out.below b1)
          have BV := Lib.hid (BV.out.trans (b1.mono BV.out.size))
          clear b1
          clear R1 NS LS
          have m16 : m ≤ 16 := by rw [← R.out.len]; exact HM.out
          have ML := Lib.hid R.out.len
          go_wp2
          go_loopw [16] (fun i wr => ∃ (q : Nat), m ≤ q ∧ q ≤ 16 ∧ i = .int .i64 (q : Int) ∧ Below w9.heap.size w9 wr) (fun i _ => 16 - (intOf i).toNat)
          case atStart => exact ⟨m, Nat.le_refl _, m16, rfl, Below.refl _ _⟩
          case round =>
            obtain ⟨q, q0, q1, rfl, hb⟩ := hrel
            have GP := Lib.hid (GP.out.step hb)
            have R := Lib.hid (R.out.below hb)
            have HB := Lib.hid hb
            have BV := Lib.hid (BV.out.trans (hb.mono BV.out.size))
            clear hb
            by_cases hq : q < 16
            · have qI : (q : Int) < 16 := by omega
              have c0 := GP.out.cell hq
              rw [stF_out _ _ (by rw [ML.out]; exact q0)] at c0
              go_wp2
              go_roundw
              case rel => exact ⟨q + 1, by omega, by omega, by go_num, HB.out⟩
              case measure => simp [intOf]; omega
            · have qI : ¬ (q : Int) < 16 := by omega
              go_wp2
              go_roundw
              case rel => exact ⟨k + 1, m, c1, A1, M, by omega, by go_num, rfl, HM.out, R.out, GP.out, BV.out⟩
              case measure => simp [intOf]; omega
        · obtain ⟨m2, rfl⟩ : ∃ m2, m = m2 + 1 := ⟨M2.length, by have := R.out.len; simp at this; omega⟩
          have HM2 := Lib.hid (show M2.length ≤ 16 by have := HM.out; simp at this; omega)
          have PP := Lib.hid fun w' => pop_yes M2 y (by have := HM.out; simp at this; omega) w'
          have yy : (y != y) = false := by simp
          go_upto_region 9 with fail
          clear cx CX
          refine wp_region_lit ?_
          refine list_load_all aggStk GP.out (stkL_size _) rfl (.tmp 3) rfl (by simp [Act.eval, Act.put]) ?_
          simp only [Act.put, List.setIfInBounds_toArray, List.set_cons_zero, List.set_cons_succ]
          go_wp2_with fail
          refine (PP.out _).mono ?_
          rintro e w4 ⟨rfl, b1⟩
          have GP := Lib.hid (GP.out.step b1)
          have R := Lib.hid (R.out.below b1)
          have BV := Lib.hid (BV.out.trans (b1.mono BV.out.size))
          clear b1
          simp only []
          go_at_K
          iterate 13 go_step
          refine list_var_all (ds := stkL M2) aggStk zeroStk (stkL_size _) (stkL_size _) (stkL_one _) rfl rfl rfl (.tmp 6) (.tmp 39) rfl (by simp [Act.eval, Act.put]) (by simp [Act.eval, Act.put]) ?_
          simp only [Act.put, List.setIfInBounds_toArray, List.set_cons_zero, List.set_cons_succ]
          have GQ := Lib.hid (TB8.new w4 M2)
          have BA := below_newT w4 (.cells (stkL M2) 26)
          have GP := Lib.hid (GP.out.step BA)
          have R := Lib.hid (R.out.below BA)
          have BV := Lib.hid (BV.out.trans (BA.mono BV.out.size))
          clear BA
          obtain ⟨q, hq⟩ : ∃ q, w4.heap.size = q := ⟨_, rfl⟩
          generalize w4.alloc (.cells (stkL M2) 26) = w5 at *
          rw [hq] at GQ ⊢
          clear hq
          go_upto_region 10 with fail
          refine wp_region_lit ?_
          go_wp2_with fail
          refine (rpop_some (p + 1) A1 m2 c1 M2 y _ R.out (by have := HM2.out; have := R.out.len; simp at this; omega)).mono ?_
          rintro e w6 ⟨c2, rfl, hr, b1⟩
          have R2 := Lib.hid hr
          clear hr R
          have GP := Lib.hid (GP.out.step b1)
          have GQ := Lib.hid (GQ.out.step b1)
          have BV := Lib.hid (BV.out.trans (b1.mono BV.out.size))
          clear b1
          have R := R2
          clear R2
          go_upto_region 11 with fail
          refine wp_region_lit ?_
          refine list_load_all aggStk GQ.out (stkL_size _) rfl (.tmp 6) rfl (by simp [Act.eval, Act.put]) ?_
          simp only [Act.put, List.setIfInBounds_toArray, List.set_cons_zero, List.set_cons_succ]
          refine list_store_all (ds := stkL M2) aggStk GP.out (stkL_size _) (stkL_size _) (stkL_one _) rfl (.tmp 3) (.tmp 48) rfl (by simp [Act.eval, Act.put]) (by simp [Act.eval, Act.put]) ?_
          simp only [Act.put, List.setIfInBounds_toArray, List.set_cons_zero, List.set_cons_succ]
          have GP := Lib.hid (GP.out.store M2)
          have BV := Lib.hid (belowRowT BV.out BQ.out (stkL M2))
          have R := Lib.hid (R.out.past (Nat.lt_succ_self p) (stkL M2))
          generalize w6.setRow p (stkL M2) = w7 at *
          clear GQ
          obtain ⟨A2, hA2⟩ : ∃ A2, A2 = A1 := ⟨_, rfl⟩
          rw [← hA2] at R ⊢
          clear hA2 PP
          obtain ⟨wx, hwx⟩ : ∃ v, v = w7 := ⟨_, rfl⟩
          rw [← hwx] at GP R BV ⊢
          clear hwx
          go_upto_region 21 with fail
          have c0 := GP.out.depth
          rw [R.out.len] at c0
          have bb : (((m2 : Nat) : Int) != ((m2 : Nat) : Int)) = false := by simp
          have LS := Lib.hid fun w' => list17_any M2 HM2.out w'
          have NS := Lib.hid fun (B1 : Option Addr) (d1 : Nat) (w' : World) (h1 : Row (Value.int .i64) w' B1 M2) (h2 : RStk (p + 1) w' A2 m2 c2 M2) => numbers_same B1 A2 d1 c2 M2.length M2 w' rfl (by have := HM2.out; omega) h1 h2.row
          rw [R.out.len] at NS
          refine wp_region_lit ?_
          iterate 18 go_step
          refine list_load_allT aggStk GP.out (stkL_size _) rfl (.tmp 3) rfl (by simp [Act.eval, Act.put]) ?_
          simp only [Act.put, List.setIfInBounds_toArray, List.set_cons_zero, List.set_cons_succ]
          clear c0 bb
          go_wp2_with fail
          refine (LS.out _).mono ?_
          rintro e w8 ⟨⟨B1, d1, rfl, hrow⟩, b1⟩
          have R1 := Lib.hid hrow
          clear hrow
          rw [R.out.len]
          have GP := Lib.hid (GP.out.step b1)
          have R := Lib.hid (R.out.below b1)
          have BV := Lib.hid (BV.out.trans (b1.mono BV.out.size))
          clear b1
          go_wp2_with fail
          refine (NS.out _ _ _ R1.out R.out).mono ?_
          rintro e w9 ⟨rfl, b1⟩
          have GP := Lib.hid (GP.out.step b1)
          have R := Lib.hid (R.out.below b1)
          have BV := Lib.hid (BV.out.trans (b1.mono BV.out.size))
          clear b1
          clear R1 NS LS
          have m16 : m2 ≤ 16 := by rw [← R.out.len]; exact HM2.out
          have ML := Lib.hid R.out.len
          go_wp2
          go_loopw [16] (fun i wr => ∃ (q : Nat), m2 ≤ q ∧ q ≤ 16 ∧ i = .int .i64 (q : Int) ∧ Below w9.heap.size w9 wr) (fun i _ => 16 - (intOf i).toNat)
          case atStart => exact ⟨m2, Nat.le_refl _, m16, rfl, Below.refl _ _⟩
          case round =>
            obtain ⟨q, q0, q1, rfl, hb⟩ := hrel
            have GP := Lib.hid (GP.out.step hb)
            have R := Lib.hid (R.out.below hb)
            have HB := Lib.hid hb
            have BV := Lib.hid (BV.out.trans (hb.mono BV.out.size))
            clear hb
            by_cases hq : q < 16
            · have qI : (q : Int) < 16 := by omega
              have c0 := GP.out.cell hq
              rw [stF_out _ _ (by rw [ML.out]; exact q0)] at c0
              go_wp2
              go_roundw
              case rel => exact ⟨q + 1, by omega, by omega, by go_num, HB.out⟩
              case measure => simp [intOf]; omega
            · have qI : ¬ (q : Int) < 16 := by omega
              go_wp2
              go_roundw
              case rel => exact ⟨k + 1, m2, c2, A2, M2, by omega, by go_num, rfl, HM2.out, R.out, GP.out, BV.out⟩
              case measure => simp [intOf]; omega
      · obtain ⟨M2, hM2⟩ : ∃ M2, M2 = pushL M x := ⟨_, rfl⟩
        obtain ⟨ee, he⟩ : ∃ ee, ee = pushE M := ⟨_, rfl⟩
        have HM2 := Lib.hid (show M2.length ≤ 16 by rw [hM2]; exact pushL_le M x HM.out)
        have PS := Lib.hid fun w' => push_any M x HM.out w'
        have RP := Lib.hid fun (w' : World) (h1 : RStk (p + 1) w' A1 m c1 M) (h2 : p + 1 ≤ w'.heap.size) => rpush_any (p + 1) A1 m c1 M x w' h1 (by have := HM.out; have := h1.len; omega) h2
        rw [← hM2, ← he] at PS RP
        clear hM2 he
        have KP := Lib.hid GP.out.calm
        have q1 : ∀ u : Calm wr, u.w.cell? ⟨b, o + k, none⟩ = some (.int .i64 x) := fun u => (u.below.cell (p := ⟨b, o + k, none⟩) hbl).trans cx
        go_upto_region 15 with fail
        clear cx
        refine wp_region_late (C := fun w' => ∃ u : Calm wr, w' = u.w) 10 [([0, 1, 2, 3, 4], 5, true), ([6, 7, 8], 9, false)] [] [11] (by kernel_rfl) (by kernel_rfl) ?_ ?_ ⟨⟨wr.drew, (Below.refl _ _).drew⟩, rfl⟩ ?_
        · exact fun _ _ d _ _ h => by cases d <;> exact h
        · rintro _ w' ⟨u, rfl⟩ hg
          exact ⟨⟨w', u.below.trans (hg.mono u.below.size)⟩, rfl⟩
        intro wd hwd
        have bd := Lib.hid (show Below wr.heap.size wr wd by rw [hwd]; exact (Below.refl _ _).drew)
        clear hwd
        clear bd
        refine late_calm (by simp only [opsAt, List.getElem?_toArray, List.getElem?_cons_succ, List.getElem?_cons_zero]; rfl) (by simp only [List.getElem?_toArray, List.getElem?_cons_succ, List.getElem?_cons_zero]; rfl) ?_
        repeat (first
          | (refine quiet_load_all aggStk KP.out (stkL_size _) ?_ (.tmp 3) ?_ ?_ ?_; (focus rfl); (focus rfl); (focus (simp [Act.eval]; done)); simp only [Act.put, List.setIfInBounds_toArray, List.set_cons_zero, List.set_cons_succ])
          | go_big_quiet_step (rfl))
        refine wpQuiet_nil ?_
        refine calm_next (v := .tuple #[.agg (stkL M2), .int .i64 ee]) (calm_fn (g := 9) (caps := #[]) (args := #[.agg (stkL M), .int .i64 x]) (.func 9) #[.tmp 59, .tmp 63] #[26, 3] rfl rfl (enters_of Try.func9 (by kernel_rfl) rfl) (fun w' hw => PS.out w') rfl (by simp [Act.eval])) ?_
        simp only [Act.put, List.setIfInBounds_toArray, List.set_cons_zero, List.set_cons_succ]
        clear KP q1
        refine late_real (by simp only [opsAt, List.getElem?_toArray, List.getElem?_cons_succ, List.getElem?_cons_zero]; rfl) (by simp only [List.getElem?_toArray, List.getElem?_cons_succ, List.getElem?_cons_zero]; rfl) ?_
        repeat (go_big_quiet_step (rfl))
        refine wpQuiet_nil ?_
        refine real_next rfl ?_
        intro w5 g5 C5 K8 hK
        obtain ⟨u5, rfl⟩ := C5
        refine wp_alloc zeroStk rfl ?_
        refine hK _ _ ⟨⟨u5.w.alloc (.cells (stkL []) 26), u5.below.alloc u5.below.size _⟩, rfl⟩ ?_
        clear hK K8 g5
        simp only [Act.put, List.setIfInBounds_toArray, List.set_cons_zero, List.set_cons_succ]
        have G5 := Lib.hid (TB8.new u5.w [])
        have Z5 := Lib.hid u5.below.size
        obtain ⟨q, hq⟩ : ∃ q, u5.w.heap.size = q := ⟨_, rfl⟩
        generalize u5.w.alloc (.cells (stkL []) 26) = w6 at *
        rw [hq] at G5 Z5 ⊢
        clear hq u5
        refine late_last (by simp only [opsAt, List.getElem?_toArray, List.getElem?_cons_succ, List.getElem?_cons_zero]; rfl) (by simp only [List.getElem?_toArray, List.getElem?_cons_succ, List.getElem?_cons_zero]; rfl) ?_
        repeat (go_big_quiet_step (rfl))
        refine wpQuiet_nil ?_
        refine last_next rfl ?_
        intro w7 g7 C7 K8 hK
        obtain ⟨u7, rfl⟩ := C7
        refine wp_store_all (ds := stkL M2) aggStk (G5.out.step g7) (stkL_size _) (stkL_size _) (stkL_one _) (.tmp 12) (.tmp 65) rfl (by simp [Act.eval, Act.put]) (by simp [Act.eval, Act.put]) ?_
        refine hK _ _ ?_
        clear hK K8
        simp only [Act.put, List.setIfInBounds_toArray, List.set_cons_zero, List.set_cons_succ]
        simp only [opsAt, List.getElem?_toArray, List.getElem?_cons_succ, List.getElem?_cons_zero]
        repeat (go_big_quiet_step (rfl))
        refine wpQuiet_nil ?_
        intro w8 g8
        have GQ := Lib.hid (((G5.out.step g7).store M2).step g8)
        have B8 := Lib.hid ((belowRowT u7.below Z5.out (stkL M2)).trans (g8.mono (by have := u7.below.size; simp [World.setRow]; omega)))
        have GP := Lib.hid (GP.out.step B8.out)
        have BV := Lib.hid (BV.out.trans (B8.out.mono BV.out.size))
        clear G5 Z5 g7 g8 u7
        have CX := Lib.hid (And.intro (Nat.lt_of_lt_of_le CX.out.1 B8.out.size) ((B8.out.cell (p := ⟨b, o + k, none⟩) CX.out.1).trans CX.out.2))
        have R := Lib.hid (R.out.below B8.out)
        have cx := CX.out.2
        clear B8
        go_upto_region 16 with fail
        refine wp_region_lit ?_
        go_wp2_with fail
        refine (RP.out _ R.out GP.out.lt).mono ?_
        rintro e w9 ⟨A2, m2, c2, rfl, hr, b1⟩
        have R2 := Lib.hid hr
        clear hr R RP PS cx CX
        have GP := Lib.hid (GP.out.step b1)
        have GQ := Lib.hid (GQ.out.step b1)
        have BV := Lib.hid (BV.out.trans (b1.mono BV.out.size))
        clear b1
        have R := R2
        clear R2
        go_upto_region 17 with fail
        refine wp_region_lit ?_
        refine list_load_all aggStk GQ.out (stkL_size _) rfl (.tmp 12) rfl (by simp [Act.eval, Act.put]) ?_
        simp only [Act.put, List.setIfInBounds_toArray, List.set_cons_zero, List.set_cons_succ]
        refine list_store_all (ds := stkL M2) aggStk GP.out (stkL_size _) (stkL_size _) (stkL_one _) rfl (.tmp 3) (.tmp 76) rfl (by simp [Act.eval, Act.put]) (by simp [Act.eval, Act.put]) ?_
        simp only [Act.put, List.setIfInBounds_toArray, List.set_cons_zero, List.set_cons_succ]
        have GP := Lib.hid (GP.out.store M2)
        have BV := Lib.hid (belowRowT BV.out BQ.out (stkL M2))
        have R := Lib.hid (R.out.past (Nat.lt_succ_self p) (stkL M2))
        generalize w9.setRow p (stkL M2) = w10 at *
        clear GQ
        have ez : (ee != ee) = false := by simp
        obtain ⟨wx, hwx⟩ : ∃ v, v = w10 := ⟨_, rfl⟩
        rw [← hwx] at GP R BV ⊢
        clear hwx
        go_upto_region 21 with fail
        have c0 := GP.out.depth
        rw [R.out.len] at c0
        have bb : (((m2 : Nat) : Int) != ((m2 : Nat) : Int)) = false := by simp
        have LS := Lib.hid fun w' => list17_any M2 HM2.out w'
        have NS := Lib.hid fun (B1 : Option Addr) (d1 : Nat) (w' : World) (h1 : Row (Value.int .i64) w' B1 M2) (h2 : RStk (p + 1) w' A2 m2 c2 M2) => numbers_same B1 A2 d1 c2 M2.length M2 w' rfl (by have := HM2.out; omega) h1 h2.row
        rw [R.out.len] at NS
        refine wp_region_lit ?_
        iterate 18 go_step
        refine list_load_allT aggStk GP.out (stkL_size _) rfl (.tmp 3) rfl (by simp [Act.eval, Act.put]) ?_
        simp only [Act.put, List.setIfInBounds_toArray, List.set_cons_zero, List.set_cons_succ]
        clear c0 bb
        go_wp2_with fail
        refine (LS.out _).mono ?_
        rintro e w11 ⟨⟨B1, d1, rfl, hrow⟩, b1⟩
        have R1 := Lib.hid hrow
        clear hrow
        rw [R.out.len]
        have GP := Lib.hid (GP.out.step b1)
        have R := Lib.hid (R.out.below b1)
        have BV := Lib.hid (BV.out.trans (b1.mono BV.out.size))
        clear b1
        go_wp2_with fail
        refine (NS.out _ _ _ R1.out R.out).mono ?_
        rintro e w12 ⟨rfl, b1⟩
        have GP := Lib.hid (GP.out.step b1)
        have R := Lib.hid (R.out.below b1)
        have BV := Lib.hid (BV.out.trans (b1.mono BV.out.size))
        clear b1
        clear R1 NS LS
        have m16 : m2 ≤ 16 := by rw [← R.out.len]; exact HM2.out
        have ML := Lib.hid R.out.len
        go_wp2
        go_loopw [16] (fun i wr => ∃ (q : Nat), m2 ≤ q ∧ q ≤ 16 ∧ i = .int .i64 (q : Int) ∧ Below w12.heap.size w12 wr) (fun i _ => 16 - (intOf i).toNat)
        case atStart => exact ⟨m2, Nat.le_refl _, m16, rfl, Below.refl _ _⟩
        case round =>
          obtain ⟨q, q0, q1, rfl, hb⟩ := hrel
          have GP := Lib.hid (GP.out.step hb)
          have R := Lib.hid (R.out.below hb)
          have HB := Lib.hid hb
          have BV := Lib.hid (BV.out.trans (hb.mono BV.out.size))
          clear hb
          by_cases hq : q < 16
          · have qI : (q : Int) < 16 := by omega
            have c0 := GP.out.cell hq
            rw [stF_out _ _ (by rw [ML.out]; exact q0)] at c0
            go_wp2
            go_roundw
            case rel => exact ⟨q + 1, by omega, by omega, by go_num, HB.out⟩
            case measure => simp [intOf]; omega
          · have qI : ¬ (q : Int) < 16 := by omega
            go_wp2
            go_roundw
            case rel => exact ⟨k + 1, m2, c2, A2, M2, by omega, by go_num, rfl, HM2.out, R.out, GP.out, BV.out⟩
            case measure => simp [intOf]; omega
    · have k1 : ¬ (k : Int) < (n : Int) := by omega
      go_wp2
      go_ret
      exact ⟨rfl, BV.out⟩
end Go.Proofs.Ytbgdkhbembjjlaa
