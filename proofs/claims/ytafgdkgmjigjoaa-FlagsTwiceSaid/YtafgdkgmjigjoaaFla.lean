/- Contracts of flags.Save, Load, Allowed. -/
import Derived.Test.YtafgdkgmjigjoaaFlaBox
import Derived.Test.YtafgdkgmjigjoaaAppRd
import Derived.Lib.MinMax
import Derived.Lib.SliceRun
import Derived.Maps.OwnSet
import Derived.Maps.Views
namespace Go.Proofs.Ytafgdkgmjigjoaa
open Go.RowKit Num
set_option linter.unusedVariables false
set_option linter.unusedSimpArgs false

set_option maxRecDepth 100000 in
set_option maxHeartbeats 2000000 in
theorem save_any (P : Nat → Int) (A : Option Addr) (n c : Nat) (L : List Int) (w : World) (H : Rd w A L) (hn : L.length = n) :
    Calls Try.prog 8 #[.agg (pc P), .slice A n c] w fun e w' => e = .returned (.agg (pc (ov P L))) ∧ Below w.heap.size w w' := by
  have hz := zeroF
  have HL := Lib.hid (And.intro H hn)
  clear H hn
  go_enter Try.func8, Try.ntmps8
  go_upto_region 1 with fail
  have S := Lib.hid ((FB.new w P).alloc (.cells (pc zeroP) 26))
  have R := Lib.hid (FB.new (w.alloc (.cells (pc P) 26)) zeroP)
  have B := Lib.hid ((below_new w (.cells (pc P) 26)).alloc (by simp) (.cells (pc zeroP) 26))
  rw [World.size_alloc] at R
  generalize (w.alloc (.cells (pc P) 26)).alloc (.cells (pc zeroP) 26) = w1 at *
  clear hz
  obtain ⟨r, hr⟩ : ∃ r, w.heap.size = r := ⟨_, rfl⟩
  have HR := Lib.hid hr
  rw [hr] at S R B ⊢
  clear hr
  refine wp_region_lit ?_
  iterate 9 go_step
  obtain ⟨d, hd⟩ : ∃ d, d = min n 16 := ⟨_, rfl⟩
  have hp : w1.heap[r]? = some (.cells ((lstP P).map (Value.int .u8)).toArray 26 (0, 0)) := by rw [← pc_list]; exact S.out
  have RL : Rd w1 A L := HL.out.1.below (by rw [HR.out]; exact B.out)
  obtain ⟨w3, hrun, hg, ha⟩ := run_copy_gen 3 r 0 16 16 (some ⟨r, 0, none⟩) (fun _ => rfl) A n c d hd L HL.out.2 RL _ 26 hp (by simp [lstP_len])
  rw [pc_copy] at hg
  refine list_copy rfl (.tmp 6) (.tmp 7) rfl _ _ _ (by simp [Act.eval]) (by simp [Act.eval]) hrun 8 rfl ?_
  have S3 := Lib.hid (show FB r (ov P L) w3 from hg)
  have R3 := Lib.hid (show FB (r + 1) zeroP w3 from ((ha none).block (r + 1) R.out.lt (by omega) (fun e => by cases e)).trans R.out)
  have B3 := Lib.hid (B.out.trans ((ha none).below (by have := S.out.lt; omega) (Nat.le_refl _) (fun k hk => by cases hk)))
  clear hrun hg ha RL hp hd
  simp only [List.setIfInBounds_toArray, List.set_cons_zero, List.set_cons_succ]
  go_upto_region 2 with fail
  refine wp_region_lit ?_
  refine list_load_all aggFla S3.out (pc_size _) rfl (.tmp 2) rfl (by simp [Act.eval]) ?_
  simp only [Act.put, List.setIfInBounds_toArray, List.set_cons_zero, List.set_cons_succ]
  refine list_store_all (ds := pc (ov P L)) aggFla R3.out (pc_size _) (pc_size _) (pc_one _) rfl (.tmp 4) (.tmp 9) rfl (by simp [Act.eval, Act.put]) (by simp [Act.eval, Act.put]) ?_
  have R4 := Lib.hid (R3.out.store (ov P L))
  have B4 := Lib.hid (belowRowF B3.out (Nat.le_succ r) (pc (ov P L)))
  generalize w3.setRow (r + 1) (pc (ov P L)) = w4 at *
  iterate 4 go_step
  exact bodyPost_ret (results_cell_row rfl _ _ (r + 1) _ _ _ _ rfl R4.out Try.underlying26 rfl (by rw [aggFla.i, pc_size])) rfl ⟨rfl, by rw [HR.out]; exact B4.out⟩

set_option maxRecDepth 100000 in
set_option maxHeartbeats 2000000 in
theorem clone_any (ad : Addr) (n c : Nat) (L : List Int) (w : World) (H : Rd w (some ad) L) (hn : L.length = n) (n1 : n ≤ 1000) :
    Calls Try.prog 15 #[.slice (some ad) n c] w (Gives 5 L w) := by
  have HL := Lib.hid (And.intro H (And.intro hn n1))
  clear H hn n1
  have qN : ∀ (w : World) (a : Option Addr) (n c n' c' : Nat), (binOp .eql 22 (.slice a n c) (.slice none n' c')).run Try.prog w = .ok (.bool a.isNone) w := fun w a n c n' c' => Lib.run_eql_slice_nil w _ _ a n c n' c' Try.underlying22
  go_enter Try.func15, Try.ntmps15
  have hown0 : (w.alloc (.cells #[] 5)).ownsRow w.heap.size 5 1 (.slice (some ⟨w.heap.size, 0, none⟩) 0 0) 0 (([] : List Int).map (Value.int .u8)) := World.ownsRow_made w #[] 0 (Nat.le_refl _) (by unfold maxLen; omega) rfl
  have Q := Lib.hid (And.intro hown0 (below_new w (.cells #[] 5)))
  clear hown0
  go_wp2_with (first
    | (at_builtin; refine wpList_append_rd rfl (.tmp 5) (.tmp 6) rfl w.heap.size _ 0 [] rfl Q.out.1 (some ad) n c L rfl (HL.out.1.below Q.out.2) HL.out.2.1 (by have := HL.out.2.2; omega) (by simp) ?_; intro v1 w1 o1 g1; have P1 := Lib.hid (And.intro o1 (Q.out.2.grown g1 (by simp) fun j ej => (Q.out.1.lt j ej).1)); clear o1 g1))
  go_ret
  refine ⟨v1, rfl, ?_, P1.out.2⟩
  have := P1.out.1
  rw [HL.out.2.1]
  simpa using this

set_option maxRecDepth 100000 in
set_option maxHeartbeats 2000000 in
theorem load_any (P : Nat → Int) (n : Int) (w : World) : Calls Try.prog 11 #[.agg (pc P), .int .i64 n] w (Gives 5 ((lstP P).take (cl n)) w) := by
  obtain ⟨k, hk⟩ : ∃ k, cl n = k := ⟨_, rfl⟩
  have k16 : k ≤ 16 := by rw [← hk]; exact cl_le n
  have e := cl_eq n
  rw [hk] at e ⊢
  have KI : (k : Int) ≤ 16 := by omega
  have K16 := Lib.hid k16
  clear hk k16
  go_enter Try.func11, Try.ntmps11
  go_upto_region 1 with fail
  have S := Lib.hid (FB.new w P)
  have B := Lib.hid (below_new w (.cells (pc P) 26))
  generalize w.alloc (.cells (pc P) 26) = w1 at *
  obtain ⟨r, hr⟩ : ∃ r, w.heap.size = r := ⟨_, rfl⟩
  have HR := Lib.hid hr
  rw [hr] at S B ⊢
  clear hr
  go_wp2_with fail
  refine (clone_any ⟨r, 0, none⟩ k 16 ((lstP P).take k) _ (rd_take S.out.rd k) (take_len _ _ K16.out) (by have := K16.out; omega)).mono ?_
  rintro e w2 ⟨v, rfl, ho, hb⟩
  have Z := Lib.hid (And.intro ho hb)
  clear ho hb
  go_wp2_with fail
  go_ret
  exact ⟨v, rfl, own_mono Z.out.1 B.out.size, by rw [HR.out]; exact B.out.trans (Z.out.2.mono (by rw [← HR.out]; exact B.out.size))⟩
end Go.Proofs.Ytafgdkgmjigjoaa
