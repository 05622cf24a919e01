/- Contracts of the reference: digits, the fonts, and the comparison of bytes. -/
import Derived.Test.YtllfakimcgbppaaDoorFontTab
import Derived.BigQuiet
import Derived.Deep.QuietTactic
import Derived.Deep.RegionHeld3
import Derived.Deep.AppendLies
namespace Go.Proofs.YtllfakimcgbppaaDoor
open Go.RowKit Num
set_option linter.unusedVariables false

set_option maxHeartbeats 400000 in
theorem digit_any (c : Int) (w : World) (h0 : 0 ≤ c) (h1 : c ≤ 255) : Calls Tryd.prog 33 #[.int .u8 c] w fun e w' => e = .returned (.int .i64 (dig c)) ∧ w = w' := by
  by_cases h : 65 ≤ c
  all_goals
    go_enter Tryd.func33, Tryd.ntmps33
    go_wp2
    go_ret
    refine ⟨ret_int ?_, rfl⟩
    unfold dig
    split <;> omega

theorem chr_eq (s : ByteArray) (i : Int) (j : Nat) (e : i = j) (h : i.toNat < s.size) : ((s[i.toNat]'h).toNat : Int) = chr s j := by
  have hj : i.toNat = j := by omega
  subst hj
  unfold chr
  rw [dif_pos h]

theorem hexB_eq (s : ByteArray) (i : Int) (k : Nat) (p0 : i.toNat < s.size) (p1 : (i + 1).toNat < s.size) (e0 : (((s[i.toNat]'p0).toNat : Nat) : Int) = chr s (2 * k)) (e1 : (((s[(i + 1).toNat]'p1).toNat : Nat) : Int) = chr s (2 * k + 1)) :
    IntKind.u8.wrap (16 * dig (((s[i.toNat]'p0).toNat : Nat) : Int) + dig (((s[(i + 1).toNat]'p1).toNat : Nat) : Int)) = hexB s k := by
  rw [IntKind.wrap_u8, e0, e1]
  rfl

set_option maxRecDepth 100000 in
set_option maxHeartbeats 2000000 in
theorem unhex_any (s : ByteArray) (n : Nat) (w : World) (hs : s.size = 2 * n) (hn : n ≤ 1000) :
    Calls Tryd.prog 30 #[.string s] w (Gives 5 (hexL s n) w) := by
  obtain ⟨i0, hi, hz0, hz1, hz2⟩ := info_parts infoByte
  have Hs := Lib.hid hs
  clear hs
  go_enter Tryd.func30, Tryd.ntmps30
  go_wp2
  go_loopw [3, 4] (fun o c wr => ∃ (k : Nat) (i : Int), k ≤ n ∧ c = .int .i64 i ∧ i = 2 * k ∧ wr.ownsRow w.heap.size 5 1 o k ((hexL s k).map (Value.int .u8)) ∧ Below w.heap.size w wr) (fun _ c _ => 2 * n - (intOf c).toNat)
  case atStart => exact ⟨0, 0, Nat.zero_le _, rfl, rfl, World.ownsRow_nil _ _ _ _, Below.refl _ _⟩
  case round =>
    obtain ⟨k, i, hk, rfl, hik, hown, hb⟩ := hrel
    have hsz := Hs.out
    by_cases hlt : k < n
    · have hi0 : 0 ≤ i := by omega
      have hi1 : i < (s.size : Int) := by omega
      have hi2 : 0 ≤ i + 1 := by omega
      have hi4 : i + 2 ≤ 2002 := by omega
      have hi3 : i + 1 < (s.size : Int) := by omega
      have f3 := IntWalk.i64_in (i + 1) (by omega)
      have p0 : i.toNat < s.size := by omega
      have p1 : (i + 1).toNat < s.size := by omega
      have e0 := chr_eq s i (2 * k) (by omega) p0
      have e1 := chr_eq s (i + 1) (2 * k + 1) (by omega) p1
      have E := Lib.hid (And.intro hik (And.intro e0 e1))
      clear e0 e1 hsz hik
      have x0 : 0 ≤ (((s[i.toNat]'p0).toNat : Nat) : Int) ∧ (((s[i.toNat]'p0).toNat : Nat) : Int) ≤ 255 := by have := (s[i.toNat]'p0).toNat_lt; omega
      have x1 : 0 ≤ (((s[(i + 1).toNat]'p1).toNat : Nat) : Int) ∧ (((s[(i + 1).toNat]'p1).toNat : Nat) : Int) ≤ 255 := by have := (s[(i + 1).toNat]'p1).toNat_lt; omega
      have r0 := dig_range x0.1 x0.2
      have r1 := dig_range x1.1 x1.2
      have f1 := IntWalk.i64_in (16 * dig (((s[i.toNat]'p0).toNat : Nat) : Int)) (by omega)
      have f2 := IntWalk.i64_in (16 * dig (((s[i.toNat]'p0).toNat : Nat) : Int) + dig (((s[(i + 1).toNat]'p1).toNat : Nat) : Int)) (by omega)
      clear r0 r1
      go_wp2
      have hsz2 := hb.size
      go_region_held3 (fun _ => True) (trivial)
        (first
          | (go_at_call 33; refine (digit_any _ _ ?_ ?_).mono ?_; (omega); (omega); rintro e w' ⟨rfl, rfl⟩)
          | ((refine step_append_lies _ (by rfl) _ _ _ (by rfl) w.heap.size 5 i0 _ 1 1 Tryd.underlying22 hi hz0 hz1 hz2 rfl (by omega) _ _ _ (by rfl) ((hown.alloc _).drew) ⟨wr.heap.size, 0, none⟩ 1 1 [.int .u8 (IntKind.u8.wrap (16 * dig (((s[i.toNat]'p0).toNat : Nat) : Int) + dig (((s[(i + 1).toNat]'p1).toNat : Nat) : Int)))] (by rfl) (by rfl) (World.news_of_block (cs := #[.int .u8 (IntKind.u8.wrap (16 * dig (((s[i.toNat]'p0).toNat : Nat) : Int) + dig (((s[(i + 1).toNat]'p1).toNat : Nat) : Int)))]) (t := 5) (fr := (0, 0)) (heap_alloc_new wr _)) (by simp [Value.oneCell']) (by omega) (by unfold maxLen; omega) (by omega) (by simp; omega) _ rfl ?_; intro gg cap w1 hown1 hgrow hat hlt)))
      all_goals
        clear f1 f2 f3
        go_wp2
        go_roundw
        case rel =>
          refine ⟨k + 1, i + 2, by omega, by go_num, by have := E.out.1; omega, ?_, (hb.alloc hsz2 _).drew.grown hgrow (by simp; omega) fun j ej => (hown.lt j ej).1⟩
          rw [hexL_succ, List.map_append, ← hexB_eq s i k p0 p1 E.out.2.1 E.out.2.2]
          exact hown1
        case measure => have := E.out.1; simp [intOf]; omega
    · have hkn : k = n := by omega
      subst hkn
      have hge : ¬ i < (s.size : Int) := by omega
      clear hsz hik
      go_wp2
      go_ret
      exact ⟨_, rfl, by rw [hexL_len]; exact hown, hb⟩

set_option maxRecDepth 100000 in
set_option maxHeartbeats 400000 in
theorem rsmall_any (w : World) : Calls Tryd.prog 23 #[] w (Gives 5 smallL w) := by
  go_enter Tryd.func23, Tryd.ntmps23
  go_wp2_with fail
  refine (unhex_any _ 80 _ (by kernel_rfl) (by omega)).mono ?_
  rintro e w' h
  obtain ⟨v, rfl, hown, hb⟩ := h
  go_wp2
  go_ret
  exact ⟨_, rfl, by rw [show hexL _ 80 = smallL by decide +kernel] at hown; exact hown, hb⟩
set_option maxRecDepth 100000 in
set_option maxHeartbeats 400000 in
theorem rbig_any (w : World) : Calls Tryd.prog 24 #[] w (Gives 5 bigL w) := by
  go_enter Tryd.func24, Tryd.ntmps24
  go_wp2_with fail
  refine (unhex_any _ 160 _ (by kernel_rfl) (by omega)).mono ?_
  rintro e w' h
  obtain ⟨v, rfl, hown, hb⟩ := h
  go_wp2
  go_ret
  exact ⟨_, rfl, by rw [show hexL _ 160 = bigL by decide +kernel] at hown; exact hown, hb⟩

set_option maxRecDepth 100000 in
set_option maxHeartbeats 2000000 in
/-- The comparison of two slices that read as lists. -/
theorem same_any (A B : Option Addr) (c d n m : Nat) (L M : List Int) (w : World) (hn : L.length = n) (hm : M.length = m) (n1 : n ≤ 1000) (m1 : m ≤ 1000) (hA : Row (Value.int .u8) w A L) (hB : Row (Value.int .u8) w B M) :
    Calls Tryd.prog 12 #[.slice A n c, .slice B m d] w fun e w' => e = .returned (.bool (decide (L = M))) ∧ Below w.heap.size w w' := by
  by_cases hnm : n = m
  · subst hnm
    go_enter Tryd.func12, Tryd.ntmps12
    go_wp2
    go_loopw [5] (fun i wr => ∃ k : Nat, k ≤ n ∧ i = .int .i64 k ∧ L.take k = M.take k ∧ Below w.heap.size w wr) (fun i _ => n - (intOf i).toNat)
    case atStart => exact ⟨0, Nat.zero_le _, rfl, rfl, Below.refl _ _⟩
    case round =>
      obtain ⟨k, hk, rfl, he, hb⟩ := hrel
      have He := Lib.hid he
      clear he
      by_cases hlt : k < n
      · obtain ⟨g, o, rfl, hg, hc⟩ := (hA.below hb).at_ (k := k) (by omega)
        obtain ⟨g2, o2, rfl, hg2, hc2⟩ := (hB.below hb).at_ (k := k) (by omega)
        have hlk : (k : Int) < (n : Int) := by omega
        have ht := take_step (X := L) (k := k) (by omega)
        have ht2 := take_step (X := M) (k := k) (by omega)
        obtain ⟨x, hx⟩ : ∃ x, L[k]'(by omega) = x := ⟨_, rfl⟩
        obtain ⟨y, hy⟩ : ∃ y, M[k]'(by omega) = y := ⟨_, rfl⟩
        rw [hx] at hc ht
        rw [hy] at hc2 ht2
        have H := Lib.hid (And.intro ht ht2)
        clear hx hy ht ht2
        by_cases hxy : x = y
        · subst hxy
          go_wp2
          go_quiet (fail)
          go_wp2
          go_roundw
          case rel => exact ⟨k + 1, by omega, by go_num, by rw [H.out.1, H.out.2, He.out], hb.trans ⟨rfl, rfl, rfl, Nat.le_refl _, fun _ _ => rfl⟩⟩
          case measure => simp [intOf]; omega
        · have hne : ¬ L = M := fun e => by
            subst e
            have := H.out.1.symm.trans H.out.2
            simp at this
            exact hxy this
          have Hne := Lib.hid hne
          clear hne
          have hq : (x == y) = false := by simpa using hxy
          go_wp2
          go_quiet (fail)
          go_wp2
          go_ret
          exact ⟨by rw [decide_eq_false Hne.out]; rfl, hb.trans ⟨rfl, rfl, rfl, Nat.le_refl _, fun _ _ => rfl⟩⟩
      · have hkn : k = n := by omega
        subst hkn
        have he : L = M := by
          have := He.out
          rw [List.take_of_length_le (by omega), List.take_of_length_le (by omega)] at this
          exact this
        go_wp2
        go_ret
        exact ⟨by rw [decide_eq_true he]; rfl, hb⟩
  · have hne : ¬ L = M := fun e => hnm (by rw [← hn, ← hm, e])
    have hq : ((n : Int) == (m : Int)) = false := by simp; omega
    rw [decide_eq_false hne]
    clear hne
    go_enter Tryd.func12, Tryd.ntmps12
    go_wp2
    go_ret
    exact ⟨rfl, Below.refl _ _⟩
end Go.Proofs.YtllfakimcgbppaaDoor
