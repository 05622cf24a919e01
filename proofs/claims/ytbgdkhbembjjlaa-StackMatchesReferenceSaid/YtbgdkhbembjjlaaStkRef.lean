/- The reference of layer 17: Push, Pop. -/
import Derived.Test.YtbgdkhbembjjlaaAppRow
import Derived.Test.YtbgdkhbembjjlaaNum
import Derived.Test.YtbgdkhbembjjlaaPlain
import Derived.Handy
import Derived.IntWalk
import Derived.Lib.Hide
namespace Go.Proofs.Ytbgdkhbembjjlaa
open Go.RowKit Num
set_option linter.unusedVariables false
set_option linter.unusedSimpArgs false
set_option maxRecDepth 100000

theorem elemInt : Elem Try.prog 22 3 (.int .i64 0) 8 := ⟨Try.underlying22, by kernel_rfl, rfl⟩
theorem one_i64 (a : Int) : (Value.int .i64 a).oneCell' = true := rfl
theorem own_emptyI (w : World) : (w.alloc (.cells #[] 3)).ownsRow w.heap.size 3 1 (.slice (some ⟨w.heap.size, 0, none⟩) 0 0) 0 (([] : List Int).map (Value.int .i64)) := World.ownsRow_made w #[] 0 (Nat.le_refl _) (by unfold maxLen; omega) rfl
/-- A stack of the reference; its row lies at the block base or above it. -/
structure RStk (base : Nat) (w : World) (A : Option Addr) (n c : Nat) (L : List Int) : Prop where
  low : ∀ ad, A = some ad → base ≤ ad.block
  row : Row (Value.int .i64) w A L
  len : L.length = n
  cap : n ≤ c
  max : c ≤ maxLen
theorem RStk.below {base : Nat} {w w' : World} {A : Option Addr} {n c : Nat} {L : List Int} (H : RStk base w A n c L) (b : Below w.heap.size w w') : RStk base w' A n c L := ⟨H.low, H.row.below b, H.len, H.cap, H.max⟩
theorem RStk.nil (base : Nat) (w : World) : RStk base w none 0 0 [] := ⟨fun _ e => by (cases e), Row.nil, rfl, Nat.le_refl _, Nat.zero_le _⟩
/-- What Push gives. -/
def pushL (L : List Int) (a : Int) : List Int := if 16 ≤ L.length then L else L ++ [a]
def pushE (L : List Int) : Int := if 16 ≤ L.length then 2 else 0

set_option maxHeartbeats 4000000 in
theorem rpush_any (base : Nat) (A : Option Addr) (n c : Nat) (L : List Int) (a : Int) (w : World) (H : RStk base w A n c L) (n1 : n ≤ 1000) (hb : base ≤ w.heap.size) :
    Calls Try.prog 10 #[.slice A n c, .int .i64 a] w fun e w' => ∃ A' n' c', e = .returned (.tuple #[.slice A' n' c', .int .i64 (pushE L)]) ∧ RStk base w' A' n' c' (pushL L a) ∧ Below w.heap.size w w' := by
  have HH := Lib.hid H
  have hn := H.len
  have BB := Lib.hid hb
  clear H hb
  by_cases h : 16 ≤ n
  · have hI : (n : Int) ≥ 16 := by omega
    have E := Lib.hid (show pushE L = 2 ∧ pushL L a = L by unfold pushE pushL; rw [if_pos (by omega), if_pos (by omega)]; exact ⟨rfl, rfl⟩)
    clear hn h
    go_enter Try.func10, Try.ntmps10
    go_wp2_with fail
    go_ret2
    exact ⟨A, n, c, by rw [E.out.1]; rfl, by rw [E.out.2]; exact HH.out, Below.refl _ _⟩
  · have hI : ¬ (n : Int) ≥ 16 := by omega
    have E := Lib.hid (show pushE L = 0 ∧ pushL L a = L ++ [a] by unfold pushE pushL; rw [if_neg (by omega), if_neg (by omega)]; exact ⟨rfl, rfl⟩)
    have HN := Lib.hid (And.intro hn n1)
    have O0 := Lib.hid (own_emptyI w)
    have B0 := Lib.hid ((Below.refl w.heap.size w).alloc (Nat.le_refl _) (.cells #[] 3))
    clear hn h n1
    go_enter Try.func10, Try.ntmps10
    go_upto_region 3 with fail
    refine wp_region_lit ?_
    iterate 6 go_step
    refine wpList_append_row elemInt one_i64 rfl (.tmp 10) (.tmp 11) rfl w.heap.size _ 0 [] rfl O0.out A n c L rfl (HH.out.row.below B0.out) HN.out.1 (by have := HN.out.2; omega) (by decide) (by simp) ?_
    intro v1 w1 o1 g1
    have B1 := Lib.hid (B0.out.grown g1 (by simp) fun j ej => (O0.out.lt j ej).1)
    have O1 := Lib.hid o1
    clear o1 g1 O0 B0
    simp only [Act.put, List.setIfInBounds_toArray, List.set_cons_zero, List.set_cons_succ]
    have R1 := Lib.hid (show Row (Value.int .i64) (w1.alloc (.cells #[.int .i64 a] 3)) (some ⟨w1.heap.size, 0, none⟩) [a] from fun _ => ⟨w1.heap.size, 0, rfl, by simp, fun j hj => by
      have : j = 0 := by simp at hj; exact hj
      subst this
      simp⟩)
    have B2 := Lib.hid (B1.out.alloc B1.out.size (.cells #[.int .i64 a] 3))
    have O2 := Lib.hid (O1.out.alloc (.cells #[.int .i64 a] 3))
    iterate 6 go_step
    refine wpList_append_row elemInt one_i64 rfl (.tmp 12) (.tmp 14) rfl w.heap.size v1 (0 + n) ([] ++ L) rfl O2.out (some ⟨w1.heap.size, 0, none⟩) 1 1 [a] rfl R1.out rfl (by have := HN.out.2; omega) (by decide) B2.out.size ?_
    intro v2 w2 o2 g2
    have B3 := Lib.hid (B2.out.grown g2 B2.out.size fun j ej => (O2.out.lt j ej).1)
    rw [Nat.zero_add, List.nil_append] at o2
    obtain ⟨A2, c2, e2⟩ := own_form o2
    have OR := Lib.hid (show RStk base w2 A2 (n + 1) c2 (L ++ [a]) from ⟨fun ad ea => by
      rw [e2] at o2
      subst ea
      exact Nat.le_trans BB.out (o2.lt _ rfl).1, by rw [e2] at o2; exact Row.of_own o2, by simp [HN.out.1], by
      rw [e2] at o2
      rcases o2.2 with ⟨h1, _⟩ | ⟨g', c', cur, h1, _, _, hc, _⟩
      · cases h1
      · injection h1 with _ _ h2
        omega, by
      rw [e2] at o2
      rcases o2.2 with ⟨h1, _⟩ | ⟨g', c', cur, h1, _, _, hc, hm, _⟩
      · cases h1
      · injection h1 with _ _ h2
        rw [h2]
        exact hm⟩)
    subst e2
    clear o2 g2 O2 O1 B2 B1 R1
    simp only [Act.put, List.setIfInBounds_toArray, List.set_cons_zero, List.set_cons_succ]
    go_wp2_with fail
    go_ret2
    exact ⟨A2, n + 1, c2, by rw [E.out.1]; rfl, by rw [E.out.2]; exact OR.out, B3.out⟩

set_option maxHeartbeats 4000000 in
theorem rpop_none (A : Option Addr) (c : Nat) (w : World) :
    Calls Try.prog 8 #[.slice A 0 c] w fun e w' => e = .returned (.tuple #[.slice A 0 c, .int .i64 0, .int .i64 3]) ∧ w = w' := by
  go_enter Try.func8, Try.ntmps8
  go_wp2_with fail
  exact bodyPost_ret (v := .tuple #[.slice A 0 c, .int .i64 0, .int .i64 3]) (by simp [results, Try.results8, go_sem]) rfl ⟨rfl, rfl⟩
set_option maxHeartbeats 4000000 in
theorem rpop_some (base : Nat) (A : Option Addr) (k c : Nat) (L : List Int) (a : Int) (w : World) (H : RStk base w A (k + 1) c (L ++ [a])) (n1 : k ≤ 1000) :
    Calls Try.prog 8 #[.slice A (k + 1) c] w fun e w' => ∃ c', e = .returned (.tuple #[.slice A k c', .int .i64 a, .int .i64 0]) ∧ RStk base w' A k c' L ∧ Below w.heap.size w w' := by
  have hl := H.len
  have hc := H.max
  have hk : L.length = k := by simpa using hl
  obtain ⟨b, o, rfl, hb, c1⟩ := H.row.at_ (show k < (L ++ [a]).length by rw [hl]; omega)
  have ea : (L ++ [a])[k]'(by rw [hl]; omega) = a := by simp [← hk]
  rw [ea] at c1
  have HH := Lib.hid (And.intro H (And.intro hk hc))
  have k1 := Calm.cell c1 hb
  have hcc := H.cap
  have w0 : ¬ ((k + 1 : Nat) : Int) = 0 := by omega
  have w1 : IntKind.i64.wrap (((k + 1 : Nat) : Int) - 1) = (k : Int) := by rw [IntKind.wrap_i64]; omega
  have wk : IntKind.i64.wrap (k : Int) = (k : Int) := by rw [IntKind.wrap_i64]; omega
  have ki : (k : Int) < (k : Int) + 1 := by omega
  have cutK : ∀ u : World, (Instr.sliceAt 22 (.slice (some ⟨b, o, none⟩) (k + 1) c) none (some (.int .i64 (k : Int))) none).run Try.prog u = .ok (.slice (some ⟨b, o, none⟩) k c) u := by
    intro u
    rw [run_sliceAt_slice (P := Try.prog) u 22 _ _ _ _ Try.underlying22, run_slice_h (P := Try.prog) u 22 _ (k + 1) c Try.underlying22 .i64 k (by omega) (by omega)]
    show Result.ok (sliced _ _ _ _ 1) u = _
    unfold sliced
    rw [if_neg (by omega)]
    simp
    rfl
  clear ea hl c1 H
  go_enter Try.func8, Try.ntmps8
  go_upto_region 3 with fail
  refine calm_region (by kernel_rfl) (by kernel_rfl) ?_
  repeat (go_big_quiet_step (fail))
  refine wpQuiet_nil ?_
  intro _ hw'
  obtain ⟨u, rfl⟩ := hw'
  go_wp2_with fail
  exact bodyPost_ret (v := .tuple #[.slice (some ⟨b, o, none⟩) k c, .int .i64 a, .int .i64 0]) (by simp [results, Try.results8, go_sem]) rfl ⟨c, rfl, ⟨HH.out.1.low, fun hne => ⟨b, o, rfl, Nat.lt_of_lt_of_le hb u.below.size, fun j hj => by
    obtain ⟨b2, o2, e2, hb2, hc2⟩ := (HH.out.1.row) (by simp)
    injection e2 with e2
    injection e2 with e3 e4 _
    subst e3 e4
    have h := (u.below.cell (p := ⟨b, o + j, none⟩) hb).trans (hc2 j (by simp; omega))
    rw [List.getElem_append_left hj] at h
    exact h⟩, hk, by omega, hc⟩, u.below⟩
end Go.Proofs.Ytbgdkhbembjjlaa
