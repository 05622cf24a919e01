/- The walk of AddrLists. -/
import Derived.Test.YtcgineohhlmghaaAddrAwake
namespace Go.Proofs.Ytcgineohhlmghaa
open Go.RowKit Num
set_option linter.unusedVariables false

set_option maxRecDepth 100000 in
set_option maxHeartbeats 4000000 in
theorem addrLists_out (a n : Int) (w : World) (h : ¬ (0 ≤ a ∧ a ≤ 65535 ∧ 0 ≤ n ∧ n ≤ 65536) ∨ (0 ≤ a ∧ a ≤ 65535 ∧ 0 ≤ n ∧ n ≤ 65536) ∧ 3000 < n) :
    Calls Try.prog 6 #[.int .i64 a, .int .i64 n] w fun e w' => e = .returned (.bool true) ∧ Below w.heap.size w w' := by
  rcases h with h | ⟨⟨h1, h2, h3, h4⟩, h5⟩
  all_goals
    go_enter Try.func6, Try.ntmps6
    go_wp2_with fail
    refine (awake3 _).mono ?_
    rintro e w1 ⟨rfl, hb1⟩
    go_wp2_with fail
    first
      | (refine (right_no _ _ _ h).mono ?_)
      | (refine (right_yes _ _ _ h1 h2 h3 h4).mono ?_)
    rintro e w' ⟨rfl, rfl⟩
    go_wp2_with fail
    refine (awake3 _).mono ?_
    rintro e w2 ⟨rfl, hb2⟩
    go_wp2
    go_ret
    exact ⟨rfl, hb1.trans (hb2.mono hb1.size)⟩

theorem in_yes (a n b : Int) (w : World) (a0 : 0 ≤ a) (a1 : a ≤ 65535) (b0 : 0 ≤ b) (b1 : b ≤ 65535) (h : inB a n b = true) : Calls Try.prog 12 #[.int .i64 a, .int .i64 n, .int .i64 b] w fun e w' => e = .returned (.bool true) ∧ w' = w :=
  (in_any a n b w a0 a1 b0 b1).mono fun e w' ⟨he, hw⟩ => ⟨by rw [he, h], hw.symm⟩
theorem wrap_same (n : Int) (w : World) : Calls Try.prog 8 #[.int .i64 n] w fun e w' => e = .returned (.int .i64 (n % 65536)) ∧ w' = w :=
  (wrap_any n w).mono fun e w' ⟨he, hw⟩ => ⟨he, hw.symm⟩

set_option maxRecDepth 100000 in
set_option maxHeartbeats 4000000 in
theorem addrLists_in (a : Int) (n : Nat) (w : World) (h1 : 0 ≤ a) (h2 : a ≤ 65535) (h4 : n ≤ 3000) :
    Calls Try.prog 6 #[.int .i64 a, .int .i64 n] w fun e w' => e = .returned (.bool true) ∧ Below w.heap.size w w' := by
  have hl0 : inB a n ((a + (n : Int)) % 65536) = false := inB_no (by omega)
  have hl1 : inB a 65536 ((a + (n : Int)) % 65536) = true := inB_yes (by omega)
  have HL0 := Lib.hid hl0
  have HL1 := Lib.hid hl1
  clear hl0 hl1
  have g3 : decide (3000 < (n : Int)) = false := by simp; omega
  go_enter Try.func6, Try.ntmps6
  go_wp2_with fail
  refine (awake3 _).mono ?_
  rintro e w1 ⟨rfl, hb1⟩
  go_wp2_with fail
  refine (right_yes _ _ _ h1 h2 (by omega) (by omega)).mono ?_
  rintro e w' ⟨rfl, rfl⟩
  go_wp2_with fail
  refine (list_any _ _ _ h1 h2 (by omega)).mono ?_
  rintro e w2 ⟨⟨A, c, rfl, hr⟩, hb2⟩
  rw [lst_len]
  have hb := hb1.trans (hb2.mono hb1.size)
  clear hb1 hb2
  rcases Nat.eq_zero_or_pos n with h0 | h0
  · subst h0
    go_wp2
    go_loop [6] (fun i => i = .int .i64 0) (fun _ => 0)
    case atStart => rfl
    case round =>
      obtain rfl := hrel
      go_wp2_with fail
      refine (wrap_any _ _).mono ?_
      rintro e w' ⟨rfl, rfl⟩
      have HL0' : Hid (inB a 0 (a % 65536) = false) := Lib.hid (by have := HL0.out; simpa using this)
      have HL1' : Hid (inB a 65536 (a % 65536) = true) := Lib.hid (by have := HL1.out; simpa using this)
      go_wp2_with fail
      refine (in_any _ _ _ _ h1 h2 (by omega) (by omega)).mono ?_
      rintro e w' ⟨rfl, rfl⟩
      rw [HL0'.out]
      go_wp2_with fail
      refine (wrap_any _ _).mono ?_
      rintro e w' ⟨rfl, rfl⟩
      go_wp2_with fail
      refine (in_any _ _ _ _ h1 h2 (by omega) (by omega)).mono ?_
      rintro e w' ⟨rfl, rfl⟩
      rw [HL1'.out]
      go_wp2
      go_ret
      exact ⟨rfl, hb⟩
  · obtain ⟨g, o, rfl, hg, hc0⟩ := hr.at_ (k := 0) (by rw [lst_len]; exact h0)
    rw [lst_get] at hc0
    have hcs : ∀ k : Nat, k < n → w2.cell? ⟨g, o + k, none⟩ = some (.int .i64 ((a + (k : Int)) % 65536)) := fun k hk => by
      obtain ⟨g', o', he, _, hc⟩ := hr.at_ (k := k) (by rw [lst_len]; exact hk)
      injection he with he
      injection he with e1 e2
      subst e1; subst e2
      rw [lst_get] at hc
      exact hc
    have Hcs := Lib.hid hcs
    clear hcs hr
    have ha0 : (a + ((0 : Nat) : Int)) % 65536 = a := by omega
    rw [ha0, Nat.add_zero] at hc0
    have hp : 0 < (n : Int) := by omega
    go_wp2
    clear hc0 ha0
    go_loopw [6] (fun i wr => ∃ k : Nat, k ≤ n ∧ i = .int .i64 k ∧ Below w.heap.size w wr ∧ Hid (∀ k : Nat, k < n → wr.cell? ⟨g, o + k, none⟩ = some (.int .i64 ((a + (k : Int)) % 65536)))) (fun i _ => n - (intOf i).toNat)
    case atStart => exact ⟨0, Nat.zero_le _, rfl, hb, Hcs⟩
    case round =>
      obtain ⟨k, hk, rfl, hbr, Hr⟩ := hrel
      by_cases hlt : k < n
      · have hik := inB_self a n k hlt (by omega)
        have Hik := Lib.hid hik
        clear hik
        have hck := Hr.out k hlt
        rcases k with _ | j
        · have ha0 : (a + ((0 : Nat) : Int)) % 65536 = a := by omega
          rw [ha0] at Hik
          rw [ha0, Nat.add_zero] at hck
          have ik := fun W => in_yes a n a W (a0 := h1) (a1 := h2) (b0 := h1) (b1 := h2) (h := Hik.out)
          clear ha0
          go_wp2
          go_quiet ((go_at_call 12; exact Calls.quiet_of_same (ik _)))
          go_wp2
          go_roundw
          case rel => exact ⟨1, by omega, by go_num, hbr.trans ⟨rfl, rfl, rfl, Nat.le_refl _, fun _ _ => rfl⟩, Lib.hid Hr.out⟩
          case measure => simp [intOf]; omega
        · have hcj := Hr.out j (by omega)
          obtain ⟨x, hx⟩ : ∃ x, (a + ((j + 1 : Nat) : Int)) % 65536 = x := ⟨_, rfl⟩
          obtain ⟨y, hy⟩ : ∃ y, (a + (j : Int)) % 65536 = y := ⟨_, rfl⟩
          rw [hx] at hck Hik
          rw [hy] at hcj
          have x0 : 0 ≤ x := by omega
          have x1 : x ≤ 65535 := by omega
          have y0 : 0 ≤ y := by omega
          have y1 : y ≤ 65535 := by omega
          have hxy : (y + 1) % 65536 = x := by omega
          clear hx hy
          have ik := fun W => in_yes a n x W (a0 := h1) (a1 := h2) (b0 := x0) (b1 := x1) (h := Hik.out)
          have wk := fun W => wrap_same (y + 1) W
          rw [hxy] at wk
          clear hxy
          have u1 := IntWalk.i64_in (y + 1) (by omega)
          have u2 := IntWalk.i64_in ((j : Int) + 1 - 1) (by omega)
          have u3 := IntWalk.i64_in ((j : Int) + 1) (by omega)
          go_wp2
          go_quiet ((first | (go_at_call 12; exact Calls.quiet_of_same (ik _)) | (go_at_call 8; exact Calls.quiet_of_same (wk _))))
          clear u1 u2 u3
          go_wp2
          go_roundw
          case rel => exact ⟨j + 1 + 1, by omega, by go_num, hbr.trans ⟨rfl, rfl, rfl, Nat.le_refl _, fun _ _ => rfl⟩, Lib.hid Hr.out⟩
          case measure => simp [intOf]; omega
      · have hkn : k = n := by omega
        subst hkn
        go_wp2_with fail
        refine (wrap_any _ _).mono ?_
        rintro e w' ⟨rfl, rfl⟩
        go_wp2_with fail
        refine (in_any _ _ _ _ h1 h2 (by omega) (by omega)).mono ?_
        rintro e w' ⟨rfl, rfl⟩
        rw [HL0.out]
        go_wp2_with fail
        refine (wrap_any _ _).mono ?_
        rintro e w' ⟨rfl, rfl⟩
        go_wp2_with fail
        refine (in_any _ _ _ _ h1 h2 (by omega) (by omega)).mono ?_
        rintro e w' ⟨rfl, rfl⟩
        rw [HL1.out]
        go_wp2
        go_ret
        exact ⟨rfl, hbr⟩

theorem addrLists_walk (a n : Int) (w0 : (Lit.int .i64 a).wf = true) (w1 : (Lit.int .i64 n).wf = true) (w : World) :
    Calls Try.prog 6 #[.int .i64 a, .int .i64 n] w fun e w' => e = .returned (.bool true) ∧ Below w.heap.size w w' := by
  by_cases h : 0 ≤ a ∧ a ≤ 65535 ∧ 0 ≤ n ∧ n ≤ 65536
  · by_cases h3 : 3000 < n
    · exact addrLists_out _ _ _ (.inr ⟨h, h3⟩)
    · obtain ⟨n, rfl⟩ := Int.eq_ofNat_of_zero_le h.2.2.1
      exact addrLists_in a n w h.1 h.2.1 (by omega)
  · exact addrLists_out _ _ _ (.inl h)
end Go.Proofs.Ytcgineohhlmghaa
