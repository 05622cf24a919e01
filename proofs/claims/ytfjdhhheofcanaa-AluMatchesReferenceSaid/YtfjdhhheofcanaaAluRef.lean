/- The reference of layer 18: bits, flag. -/
import Derived.Test.YtfjdhhheofcanaaAluNum
import Derived.Test.YtfjdhhheofcanaaPat
import Derived.Test.YtfjdhhheofcanaaInsV
import Derived.Test.YtfjdhhheofcanaaCells
import Derived.Test.YtfjdhhheofcanaaPlain
import Derived.LoopTactic
namespace Go.Proofs.Ytfjdhhheofcanaa
open Go.RowKit Num Dec Cpu
set_option linter.unusedVariables false
set_option linter.unusedSimpArgs false
set_option maxRecDepth 100000

set_option maxHeartbeats 400000 in
theorem rflag_any (b : Bool) (w : World) : Calls Try.prog 19 #[.bool b] w fun e w' => e = .returned (.int .i64 (b2 b : Nat)) ∧ w = w' := by
  cases b
  all_goals
    go_enter Try.func19, Try.ntmps19
    go_wp2
    go_ret
    exact ⟨rfl, rfl⟩
theorem divs (x P : Nat) (hx : x < 256) (hP : 0 < P) : ∃ q r : Int, (Int.tdiv (x : Int) (P : Int) = q ∧ IntKind.i64.wrap q = q ∧ Int.tmod q 2 = r ∧ IntKind.i64.wrap r = r) ∧ r = ((x / P % 2 : Nat) : Int) := by
  have hq : x / P ≤ x := Nat.div_le_self _ _
  have e : Int.tdiv (x : Int) (P : Int) = ((x / P : Nat) : Int) := by rw [Int.tdiv_eq_ediv_of_nonneg (by omega)]; rfl
  have e2 : Int.tmod ((x / P : Nat) : Int) 2 = ((x / P % 2 : Nat) : Int) := by rw [Int.tmod_eq_emod_of_nonneg (Int.natCast_nonneg _)]; rfl
  generalize x / P = z at *
  exact ⟨(z : Int), ((z % 2 : Nat) : Int), ⟨e, by rw [IntKind.wrap_i64]; omega, e2, by rw [IntKind.wrap_i64]; omega⟩, rfl⟩
/-- The digits of a bit in a round. -/
theorem bit_words (x i : Nat) (hx : x < 256) (hi : i < 8) : ∃ q r : Int, (Int.tdiv (x : Int) ((2 ^ i : Nat) : Int) = q ∧ IntKind.i64.wrap q = q ∧ Int.tmod q 2 = r ∧ IntKind.i64.wrap r = r) ∧ r = (bitC x i : Nat) := divs x (2 ^ i) hx (Nat.two_pow_pos i)
theorem pow8 {i : Nat} (hi : i ≤ 8) : 2 ^ i ≤ 256 := Nat.pow_le_pow_right (n := 2) (by decide) hi
set_option maxHeartbeats 8000000 in
theorem rbits_or (x y : Nat) (w : World) (hx : x < 256) (hy : y < 256) : Calls Try.prog 18 #[.int .i64 11, .int .i64 (x : Int), .int .i64 (y : Int)] w fun e w' => e = .returned (.int .i64 ((x ||| y : Nat) : Int)) ∧ w = w' := by
  have HX := Lib.hid (And.intro hx hy)
  have HR := Lib.hid (or_lt hx hy)
  have BS := Lib.hid (bitC_or x y)
  obtain ⟨f, hf⟩ : ∃ f, x ||| y = f := ⟨_, rfl⟩
  rw [hf] at HR BS ⊢
  clear hx hy hf
  go_enter Try.func18, Try.ntmps18
  go_wp2_with fail
  go_loop [7, 8, 9] (fun n v i => ∃ k : Nat, k ≤ 8 ∧ i = .int .i64 (k : Int) ∧ v = .int .i64 ((2 ^ k : Nat) : Int) ∧ n = .int .i64 ((f % 2 ^ k : Nat) : Int)) (fun _ _ i => 8 - (intOf i).toNat)
  case atStart => exact ⟨0, by omega, rfl, rfl, by rw [Nat.pow_zero, Nat.mod_one]; rfl⟩
  case round =>
    obtain ⟨k, hk, rfl, rfl, rfl⟩ := hrel
    by_cases hlt : k < 8
    · have HK := Lib.hid hlt
      obtain ⟨q, r, ⟨u1, u2, u3, u4⟩, er⟩ := bit_words x k HX.out.1 hlt
      obtain ⟨q', r', ⟨v1, v2, v3, v4⟩, er'⟩ := bit_words y k HX.out.2 hlt
      have ST := Lib.hid (bitC_step f k)
      have BK := Lib.hid (BS.out k)
      have p8 := pow8 (show k ≤ 8 by omega)
      have p1 : 0 < 2 ^ k := Nat.two_pow_pos k
      have E2 := Lib.hid (show 2 ^ (k + 1) = 2 * 2 ^ k by rw [Nat.pow_succ]; omega)
      have hki : (k : Int) < 8 := by omega
      obtain ⟨P, hP⟩ : ∃ P : Nat, 2 ^ k = P := ⟨_, rfl⟩
      rw [hP] at u1 v1 ST p8 p1 E2 ⊢
      have M0 := Lib.hid (show f % P < P from Nat.mod_lt _ p1)
      obtain ⟨m, hm⟩ : ∃ m : Nat, f % P = m := ⟨_, rfl⟩
      rw [hm] at M0 ST ⊢
      have PI : ¬ (P : Int) = 0 := by omega
      have P0 := Lib.hid (And.intro p8 p1)
      have W2 : IntKind.i64.wrap (2 * (P : Int)) = ((2 * P : Nat) : Int) := by rw [IntKind.wrap_i64]; omega
      have W1 : IntKind.i64.wrap ((m : Int) + (P : Int)) = ((m + P : Nat) : Int) := by have := M0.out; rw [IntKind.wrap_i64]; omega
      obtain ⟨d2, hd2⟩ : ∃ d2 : Int, ((2 * P : Nat) : Int) = d2 := ⟨_, rfl⟩
      obtain ⟨d1, hd1⟩ : ∃ d1 : Int, ((m + P : Nat) : Int) = d1 := ⟨_, rfl⟩
      rw [hd2] at W2
      rw [hd1] at W1
      have D := Lib.hid (And.intro hd1 hd2)
      have ER := Lib.hid (And.intro er er')
      clear hd1 hd2 hP hm hk hlt p8 p1 er er'
      rcases bitC_le x k with bx | bx <;> rcases bitC_le y k with by' | by'
      all_goals
        have hr := ER.out.1
        have hr' := ER.out.2
        rw [bx] at hr
        rw [by'] at hr'
        have BK2 := BK.out
        rw [bx, by'] at BK2
        have BK3 := Lib.hid BK2
        clear BK2
        subst hr hr'
        clear bx by'
        go_wp2_with fail
        refine ⟨⟨k + 1, HK.out, rfl, ?_, ?_⟩, by have := HK.out; simp [intOf]; omega⟩
        · rw [E2.out, D.out.2]
        · have hb := BK3.out
          simp [b2] at hb
          rw [ST.out, hb]
          first | (rw [← D.out.1]; simp; done) | (simp; done)
    · obtain rfl : k = 8 := by omega
      have e := Lib.hid (show f % 2 ^ 8 = f from Nat.mod_eq_of_lt HR.out)
      clear hk hlt
      rw [e.out]
      go_wp2_with fail
      go_ret
      exact ⟨rfl, rfl⟩
set_option maxHeartbeats 8000000 in
theorem rbits_and (x y : Nat) (w : World) (hx : x < 256) (hy : y < 256) : Calls Try.prog 18 #[.int .i64 12, .int .i64 (x : Int), .int .i64 (y : Int)] w fun e w' => e = .returned (.int .i64 ((x &&& y : Nat) : Int)) ∧ w = w' := by
  have HX := Lib.hid (And.intro hx hy)
  have HR := Lib.hid (and_lt hx hy)
  have BS := Lib.hid (bitC_and x y)
  obtain ⟨f, hf⟩ : ∃ f, x &&& y = f := ⟨_, rfl⟩
  rw [hf] at HR BS ⊢
  clear hx hy hf
  go_enter Try.func18, Try.ntmps18
  go_wp2_with fail
  go_loop [7, 8, 9] (fun n v i => ∃ k : Nat, k ≤ 8 ∧ i = .int .i64 (k : Int) ∧ v = .int .i64 ((2 ^ k : Nat) : Int) ∧ n = .int .i64 ((f % 2 ^ k : Nat) : Int)) (fun _ _ i => 8 - (intOf i).toNat)
  case atStart => exact ⟨0, by omega, rfl, rfl, by rw [Nat.pow_zero, Nat.mod_one]; rfl⟩
  case round =>
    obtain ⟨k, hk, rfl, rfl, rfl⟩ := hrel
    by_cases hlt : k < 8
    · have HK := Lib.hid hlt
      obtain ⟨q, r, ⟨u1, u2, u3, u4⟩, er⟩ := bit_words x k HX.out.1 hlt
      obtain ⟨q', r', ⟨v1, v2, v3, v4⟩, er'⟩ := bit_words y k HX.out.2 hlt
      have ST := Lib.hid (bitC_step f k)
      have BK := Lib.hid (BS.out k)
      have p8 := pow8 (show k ≤ 8 by omega)
      have p1 : 0 < 2 ^ k := Nat.two_pow_pos k
      have E2 := Lib.hid (show 2 ^ (k + 1) = 2 * 2 ^ k by rw [Nat.pow_succ]; omega)
      have hki : (k : Int) < 8 := by omega
      obtain ⟨P, hP⟩ : ∃ P : Nat, 2 ^ k = P := ⟨_, rfl⟩
      rw [hP] at u1 v1 ST p8 p1 E2 ⊢
      have M0 := Lib.hid (show f % P < P from Nat.mod_lt _ p1)
      obtain ⟨m, hm⟩ : ∃ m : Nat, f % P = m := ⟨_, rfl⟩
      rw [hm] at M0 ST ⊢
      have PI : ¬ (P : Int) = 0 := by omega
      have P0 := Lib.hid (And.intro p8 p1)
      have W2 : IntKind.i64.wrap (2 * (P : Int)) = ((2 * P : Nat) : Int) := by rw [IntKind.wrap_i64]; omega
      have W1 : IntKind.i64.wrap ((m : Int) + (P : Int)) = ((m + P : Nat) : Int) := by have := M0.out; rw [IntKind.wrap_i64]; omega
      obtain ⟨d2, hd2⟩ : ∃ d2 : Int, ((2 * P : Nat) : Int) = d2 := ⟨_, rfl⟩
      obtain ⟨d1, hd1⟩ : ∃ d1 : Int, ((m + P : Nat) : Int) = d1 := ⟨_, rfl⟩
      rw [hd2] at W2
      rw [hd1] at W1
      have D := Lib.hid (And.intro hd1 hd2)
      have ER := Lib.hid (And.intro er er')
      clear hd1 hd2 hP hm hk hlt p8 p1 er er'
      rcases bitC_le x k with bx | bx <;> rcases bitC_le y k with by' | by'
      all_goals
        have hr := ER.out.1
        have hr' := ER.out.2
        rw [bx] at hr
        rw [by'] at hr'
        have BK2 := BK.out
        rw [bx, by'] at BK2
        have BK3 := Lib.hid BK2
        clear BK2
        subst hr hr'
        clear bx by'
        go_wp2_with fail
        refine ⟨⟨k + 1, HK.out, rfl, ?_, ?_⟩, by have := HK.out; simp [intOf]; omega⟩
        · rw [E2.out, D.out.2]
        · have hb := BK3.out
          simp [b2] at hb
          rw [ST.out, hb]
          first | (rw [← D.out.1]; simp; done) | (simp; done)
    · obtain rfl : k = 8 := by omega
      have e := Lib.hid (show f % 2 ^ 8 = f from Nat.mod_eq_of_lt HR.out)
      clear hk hlt
      rw [e.out]
      go_wp2_with fail
      go_ret
      exact ⟨rfl, rfl⟩
set_option maxHeartbeats 8000000 in
theorem rbits_xor (x y : Nat) (w : World) (hx : x < 256) (hy : y < 256) : Calls Try.prog 18 #[.int .i64 13, .int .i64 (x : Int), .int .i64 (y : Int)] w fun e w' => e = .returned (.int .i64 ((x ^^^ y : Nat) : Int)) ∧ w = w' := by
  have HX := Lib.hid (And.intro hx hy)
  have HR := Lib.hid (xor_lt hx hy)
  have BS := Lib.hid (bitC_xor x y)
  obtain ⟨f, hf⟩ : ∃ f, x ^^^ y = f := ⟨_, rfl⟩
  rw [hf] at HR BS ⊢
  clear hx hy hf
  go_enter Try.func18, Try.ntmps18
  go_wp2_with fail
  go_loop [7, 8, 9] (fun n v i => ∃ k : Nat, k ≤ 8 ∧ i = .int .i64 (k : Int) ∧ v = .int .i64 ((2 ^ k : Nat) : Int) ∧ n = .int .i64 ((f % 2 ^ k : Nat) : Int)) (fun _ _ i => 8 - (intOf i).toNat)
  case atStart => exact ⟨0, by omega, rfl, rfl, by rw [Nat.pow_zero, Nat.mod_one]; rfl⟩
  case round =>
    obtain ⟨k, hk, rfl, rfl, rfl⟩ := hrel
    by_cases hlt : k < 8
    · have HK := Lib.hid hlt
      obtain ⟨q, r, ⟨u1, u2, u3, u4⟩, er⟩ := bit_words x k HX.out.1 hlt
      obtain ⟨q', r', ⟨v1, v2, v3, v4⟩, er'⟩ := bit_words y k HX.out.2 hlt
      have ST := Lib.hid (bitC_step f k)
      have BK := Lib.hid (BS.out k)
      have p8 := pow8 (show k ≤ 8 by omega)
      have p1 : 0 < 2 ^ k := Nat.two_pow_pos k
      have E2 := Lib.hid (show 2 ^ (k + 1) = 2 * 2 ^ k by rw [Nat.pow_succ]; omega)
      have hki : (k : Int) < 8 := by omega
      obtain ⟨P, hP⟩ : ∃ P : Nat, 2 ^ k = P := ⟨_, rfl⟩
      rw [hP] at u1 v1 ST p8 p1 E2 ⊢
      have M0 := Lib.hid (show f % P < P from Nat.mod_lt _ p1)
      obtain ⟨m, hm⟩ : ∃ m : Nat, f % P = m := ⟨_, rfl⟩
      rw [hm] at M0 ST ⊢
      have PI : ¬ (P : Int) = 0 := by omega
      have P0 := Lib.hid (And.intro p8 p1)
      have W2 : IntKind.i64.wrap (2 * (P : Int)) = ((2 * P : Nat) : Int) := by rw [IntKind.wrap_i64]; omega
      have W1 : IntKind.i64.wrap ((m : Int) + (P : Int)) = ((m + P : Nat) : Int) := by have := M0.out; rw [IntKind.wrap_i64]; omega
      obtain ⟨d2, hd2⟩ : ∃ d2 : Int, ((2 * P : Nat) : Int) = d2 := ⟨_, rfl⟩
      obtain ⟨d1, hd1⟩ : ∃ d1 : Int, ((m + P : Nat) : Int) = d1 := ⟨_, rfl⟩
      rw [hd2] at W2
      rw [hd1] at W1
      have D := Lib.hid (And.intro hd1 hd2)
      have ER := Lib.hid (And.intro er er')
      clear hd1 hd2 hP hm hk hlt p8 p1 er er'
      rcases bitC_le x k with bx | bx <;> rcases bitC_le y k with by' | by'
      all_goals
        have hr := ER.out.1
        have hr' := ER.out.2
        rw [bx] at hr
        rw [by'] at hr'
        have BK2 := BK.out
        rw [bx, by'] at BK2
        have BK3 := Lib.hid BK2
        clear BK2
        subst hr hr'
        clear bx by'
        go_wp2_with fail
        refine ⟨⟨k + 1, HK.out, rfl, ?_, ?_⟩, by have := HK.out; simp [intOf]; omega⟩
        · rw [E2.out, D.out.2]
        · have hb := BK3.out
          simp [b2] at hb
          rw [ST.out, hb]
          first | (rw [← D.out.1]; simp; done) | (simp; done)
    · obtain rfl : k = 8 := by omega
      have e := Lib.hid (show f % 2 ^ 8 = f from Nat.mod_eq_of_lt HR.out)
      clear hk hlt
      rw [e.out]
      go_wp2_with fail
      go_ret
      exact ⟨rfl, rfl⟩
end Go.Proofs.Ytfjdhhheofcanaa
