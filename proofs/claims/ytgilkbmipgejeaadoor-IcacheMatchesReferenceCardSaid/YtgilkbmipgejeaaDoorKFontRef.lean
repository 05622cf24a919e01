/- Contracts of the reference: digits, the fonts, and the comparison of bytes. -/
import Derived.BigQuiet
import Derived.Deep.QuietTactic
import Derived.Deep.RegionHeld3
import Derived.Deep.AppendLies
import Derived.Test.YtgilkbmipgejeaaDoorPk0a
namespace Go.Proofs.YtgilkbmipgejeaaDoor
open Go.RowKit Num
set_option linter.unusedVariables false
set_option maxRecDepth 100000

set_option maxHeartbeats 400000 in
theorem digit_any (c : Int) (w : World) (h0 : 0 ≤ c) (h1 : c ≤ 255) : Calls Tryd.prog 58 #[.int .u8 c] w fun e w' => e = .returned (.int .i64 (dig c)) ∧ w = w' := by
  by_cases h : 65 ≤ c
  all_goals
    go_enter Tryd.func58, Tryd.ntmps58
    go_wp2
    go_ret
    refine ⟨ret_int ?_, rfl⟩
    unfold dig
    split <;> omega

theorem chr_eq (s : ByteArray) (i : Int) (j : Nat) (e : i = j) (h : i.toNat < s.size) : ((s[i.toNat]'h).toNat : Int) = chr s j := by
  have hj : i.toNat = j := by omega
  subst hj
  unfold chr
  rw [dif_pos h]

theorem hexB_eq (s : ByteArray) (i : Int) (k : Nat) (p0 : i.toNat < s.size) (p1 : (i + 1).toNat < s.size) (e0 : (((s[i.toNat]'p0).toNat : Nat) : Int) = chr s (2 * k)) (e1 : (((s[(i + 1).toNat]'p1).toNat : Nat) : Int) = chr s (2 * k + 1)) :
    IntKind.u8.wrap (16 * dig (((s[i.toNat]'p0).toNat : Nat) : Int) + dig (((s[(i + 1).toNat]'p1).toNat : Nat) : Int)) = hexB s k := by
  rw [IntKind.wrap_u8, e0, e1]
  rfl

set_option maxRecDepth 100000 in
set_option maxHeartbeats 2000000 in
theorem unhex_any (s : ByteArray) (n : Nat) (w : World) (hs : s.size = 2 * n) (hn : n ≤ 1000) :
    Calls Tryd.prog 46 #[.string s] w (Gives 5 (hexL s n) w) := by
  obtain ⟨i0, hi, hz0, hz1, hz2⟩ := info_parts infoByte
  have Hs := Lib.hid hs
  clear hs
  go_enter Tryd.func46, Tryd.ntmps46
  go_wp2
  go_loopw [3, 4] (fun o c wr => ∃ (k : Nat) (i : Int), k ≤ n ∧ c = .int .i64 i ∧ i = 2 * k ∧ wr.ownsRow w.heap.size 5 1 o k ((hexL s k).map (Value.int .u8)) ∧ Below w.heap.size w wr) (fun _ c _ => 2 * n - (intOf c).toNat)
  case atStart => exact ⟨0, 0, Nat.zero_le _, rfl, rfl, World.ownsRow_nil _ _ _ _, Below.refl _ _⟩
  case round =>
    obtain ⟨k, i, hk, rfl, hik, hown, hb⟩ := hrel
    have hsz := Hs.out
    by_cases hlt : k < n
    · have hi0 : 0 ≤ i := by omega
      have hi1 : i < (s.size : Int) := by omega
      have hi2 : 0 ≤ i + 1 := by omega
      have hi4 : i + 2 ≤ 2002 := by omega
      have hi3 : i + 1 < (s.size : Int) := by omega
      have f3 := IntWalk.i64_in (i + 1) (by omega)
      have p0 : i.toNat < s.size := by omega
      have p1 : (i + 1).toNat < s.size := by omega
      have e0 := chr_eq s i (2 * k) (by omega) p0
      have e1 := chr_eq s (i + 1) (2 * k + 1) (by omega) p1
      have E := Lib.hid (And.intro hik (And.intro e0 e1))
      clear e0 e1 hsz hik
      have x0 : 0 ≤ (((s[i.toNat]'p0).toNat : Nat) : Int) ∧ (((s[i.toNat]'p0).toNat : Nat) : Int) ≤ 255 := by have := (s[i.toNat]'p0).toNat_lt; omega
      have x1 : 0 ≤ (((s[(i + 1).toNat]'p1).toNat : Nat) : Int) ∧ (((s[(i + 1).toNat]'p1).toNat : Nat) : Int) ≤ 255 := by have := (s[(i + 1).toNat]'p1).toNat_lt; omega
      have r0 := dig_range x0.1 x0.2
      have r1 := dig_range x1.1 x1.2
      have f1 := IntWalk.i64_in (16 * dig (((s[i.toNat]'p0).toNat : Nat) : Int)) (by omega)
      have f2 := IntWalk.i64_in (16 * dig (((s[i.toNat]'p0).toNat : Nat) : Int) + dig (((s[(i + 1).toNat]'p1).toNat : Nat) : Int)) (by omega)
      clear r0 r1
      go_wp2
      have hsz2 := hb.size
      go_region_held3 (fun _ => True) (trivial)
        (first
          | (go_at_call 58; refine (digit_any _ _ ?_ ?_).mono ?_; (omega); (omega); rintro e w' ⟨rfl, rfl⟩)
          | ((refine step_append_lies _ (by rfl) _ _ _ (by rfl) w.heap.size 5 i0 _ 1 1 Tryd.underlying22 hi hz0 hz1 hz2 rfl (by omega) _ _ _ (by rfl) ((hown.alloc _).drew) ⟨wr.heap.size, 0, none⟩ 1 1 [.int .u8 (IntKind.u8.wrap (16 * dig (((s[i.toNat]'p0).toNat : Nat) : Int) + dig (((s[(i + 1).toNat]'p1).toNat : Nat) : Int)))] (by rfl) (by rfl) (World.news_of_block (cs := #[.int .u8 (IntKind.u8.wrap (16 * dig (((s[i.toNat]'p0).toNat : Nat) : Int) + dig (((s[(i + 1).toNat]'p1).toNat : Nat) : Int)))]) (t := 5) (fr := (0, 0)) (heap_alloc_new wr _)) (by simp [Value.oneCell']) (by omega) (by unfold maxLen; omega) (by omega) (by simp; omega) _ rfl ?_; intro gg cap w1 hown1 hgrow hat hlt)))
      all_goals
        clear f1 f2 f3
        go_wp2
        go_roundw
        case rel =>
          refine ⟨k + 1, i + 2, by omega, by go_num, by have := E.out.1; omega, ?_, (hb.alloc hsz2 _).drew.grown hgrow (by simp; omega) fun j ej => (hown.lt j ej).1⟩
          rw [hexL_succ, List.map_append, ← hexB_eq s i k p0 p1 E.out.2.1 E.out.2.2]
          exact hown1
        case measure => have := E.out.1; simp [intOf]; omega
    · have hkn : k = n := by omega
      subst hkn
      have hge : ¬ i < (s.size : Int) := by omega
      clear hsz hik
      go_wp2
      go_ret
      exact ⟨_, rfl, by rw [hexL_len]; exact hown, hb⟩

set_option maxRecDepth 100000 in
set_option maxHeartbeats 400000 in
theorem rsmall_any (w : World) : Calls Tryd.prog 31 #[] w (Gives 5 smallL w) := by
  go_enter Tryd.func31, Tryd.ntmps31
  go_wp2_with fail
  refine (unhex_any _ 80 _ (by kernel_rfl) (by omega)).mono ?_
  rintro e w' h
  obtain ⟨v, rfl, hown, hb⟩ := h
  go_wp2
  go_ret
  exact ⟨_, rfl, by rw [show hexL _ 80 = smallL by decide +kernel] at hown; exact hown, hb⟩
set_option maxRecDepth 100000 in
set_option maxHeartbeats 400000 in
theorem rbig_any (w : World) : Calls Tryd.prog 32 #[] w (Gives 5 bigL w) := by
  go_enter Tryd.func32, Tryd.ntmps32
  go_wp2_with fail
  refine (unhex_any _ 160 _ (by kernel_rfl) (by omega)).mono ?_
  rintro e w' h
  obtain ⟨v, rfl, hown, hb⟩ := h
  go_wp2
  go_ret
  exact ⟨_, rfl, by rw [show hexL _ 160 = bigL by decide +kernel] at hown; exact hown, hb⟩
end Go.Proofs.YtgilkbmipgejeaaDoor
