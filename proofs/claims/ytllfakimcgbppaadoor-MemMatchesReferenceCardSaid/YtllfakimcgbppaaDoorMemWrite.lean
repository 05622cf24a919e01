/- The contract of Write. -/
import Derived.Test.YtllfakimcgbppaaDoorMemLog
namespace Go.Proofs.YtllfakimcgbppaaDoor
open Go.RowKit Num
set_option linter.unusedVariables false

theorem lenMem : Tryd.prog.arrayLen 51 = 65536 := by kernel_rfl
theorem cut_mem (p k : Nat) (hk : k < 65536) (w : World) : (Instr.sliceAt 51 (.pointer (some ⟨p, 0, none⟩)) (some (.int .i64 (k : Int))) none none).run Tryd.prog w = .ok (.slice (some ⟨p, k, none⟩) (65536 - k) (65536 - k)) w := by
  have h := run_sliceAt_array_l (P := Tryd.prog) w 51 ⟨p, 0, none⟩ Tryd.underlying51 .i64 k (by omega) (by rw [lenMem]; omega)
  rw [h, lenMem]
  show Result.ok (slicedAt _ _ _ _ 1) w = _
  unfold slicedAt
  rw [if_neg (by simp; omega), add_pl]
  simp
theorem cut_all (p N : Nat) (hN : N = 65536) (w : World) : (Instr.sliceAt 51 (.pointer (some ⟨p, 0, none⟩)) none none none).run Tryd.prog w = .ok (.slice (some ⟨p, 0, none⟩) N N) w := by
  subst hN
  have h := run_sliceAt_array_all (P := Tryd.prog) w 51 ⟨p, 0, none⟩ Tryd.underlying51
  rw [h, lenMem]
  show Result.ok (slicedAt _ _ _ _ 1) w = _
  unfold slicedAt
  rw [if_neg (by omega), add_pl]

set_option maxRecDepth 100000 in
set_option maxHeartbeats 1000000 in
theorem write_none (p : Nat) (a : Int) (A : Option Addr) (c : Nat) (w : World) :
    Calls Tryd.prog 15 #[.pointer (some ⟨p, 0, none⟩), .int .i64 a, .slice A 0 c] w fun e w' => e = .returned (.tuple #[]) ∧ w = w' := by
  go_enter Tryd.func15, Tryd.ntmps15
  go_wp2
  refine bodyPost_ret (results_none rfl _ _ _) rfl ?_
  exact ⟨rfl, rfl⟩

set_option linter.unusedSimpArgs false in
set_option maxRecDepth 100000 in
set_option maxHeartbeats 2000000 in
theorem write_any (p : Nat) (M : List Int) (v : Value) (n base : Nat) (xs : List Value) (a : Int) (k : Nat) (A : Option Addr) (m c : Nat) (L : List Int) (w : World) (hM : M.length = 65536) (hp : MemAt p M v w)
    (hv : w.ownsRow base 41 2 v n xs) (hb : base ≤ w.heap.size) (hn : n ≤ 1000) (hk : a % 65536 = k) (hL : L.length = m) (m0 : 0 < m) (m1 : m ≤ 65536) (hmc : m ≤ c) (hR : Rd w A L) (hA : ∀ ad, A = some ad → ad.block ≠ p) :
    Calls Tryd.prog 15 #[.pointer (some ⟨p, 0, none⟩), .int .i64 a, .slice A m c] w (Wrote p (put M a L) base (n + 1) (xs ++ [.int .i64 k, .int .i64 m]) v w) := by
  have k0 : 0 ≤ (k : Int) := by omega
  have k1 : (k : Int) < 65536 := by omega
  have k2 : k < 65536 := by omega
  have ks := cut_mem p k k2
  have k3 : ((m : Int) == 0) = false := by simp; omega
  have H := Lib.hid (And.intro hk (And.intro hL (And.intro hM (And.intro hp (And.intro hv (And.intro hR hA))))))
  clear hk hL hM hp hv hR hA
  go_enter Tryd.func15, Tryd.ntmps15
  go_wp2_with fail
  refine (mwrap_any _ _ _ H.out.1).mono ?_
  rintro e w0 ⟨rfl, h⟩
  subst h
  go_wp2_with fail
  obtain ⟨d, hd⟩ : ∃ d, d = min m (65536 - k) := ⟨_, rfl⟩
  obtain ⟨w1, hrun, hp1, ha1⟩ := run_copy_mem 3 p k (65536 - k) (65536 - k) A m c d hd L H.out.2.1 H.out.2.2.2.2.2.1 M v H.out.2.2.1 H.out.2.2.2.1 (by omega)
  have D := Lib.hid hd
  have d0 : 0 ≤ (d : Int) := by omega
  have d1 : (d : Int) ≤ (m : Int) := by omega
  have d2 : (d : Int) ≤ (c : Int) := by omega
  have P1 := Lib.hid (And.intro hp1 ha1)
  clear hd hp1 ha1
  rw [hrun]
  clear hrun ks
  go_wp2_with fail
  obtain ⟨N, hN⟩ : ∃ N, N = 65536 := ⟨_, rfl⟩
  have kl := cut_all p N hN
  have HN := Lib.hid hN
  clear hN
  refine wp_region_mix (C := fun w' => ∃ x : AnyW, w' = x.w) [([0, 1, 2, 3, 4, 5, 6], 7)] [] (by kernel_rfl) (by kernel_rfl) (fun _ _ d _ _ h => by cases d <;> exact h) (AnyW.any _) ?_
  intro wd hwd
  have P2 : MemAt p (splice M k (L.take (65536 - k))) v wd ∧ ∀ g, Apart p g w0 wd := by rw [hwd]; exact ⟨P1.out.1, fun g => (P1.out.2 g).drew⟩
  have PD := Lib.hid P2
  clear hwd P2 P1
  refine mix_run (by simp only [opsAt, List.getElem?_toArray, List.getElem?_cons_succ, List.getElem?_cons_zero]; rfl) (by rfl) ?_
  repeat (go_big_quiet_step (fail))
  refine wpQuiet_nil ?_
  refine mix_call (by rfl) ?_
  intro K hK
  have hl1 : (splice M k (L.take (65536 - k))).length = 65536 := by
    have h1 := H.out.2.1
    have h2 := H.out.2.2.1
    rw [splice_len _ _ _ (by rw [List.length_take]; omega)]
    exact h2
  have R1 : Rd wd A L := H.out.2.2.2.2.2.1.keep ((PD.out.2 none).size) fun ad e hlt => (PD.out.2 none).block ad.block hlt (H.out.2.2.2.2.2.2 ad e) (by simp)
  obtain ⟨w2, hrun, hp2, ha2⟩ := run_copy_mem 3 p 0 N N (if c = d then A else A.map (·.add d)) (m - d) (c - d) (m - d) (by have := HN.out; omega) (L.drop d) (by rw [List.length_drop, H.out.2.1]) (R1.cut (by rw [H.out.2.1]; exact hmc)) _ v hl1 PD.out.1 (by have := HN.out; omega)
  refine wp_copy_run (.tmp 27) (.tmp 30) rfl 3 rfl _ _ _ (by rfl) (by rfl) hrun 31 (by rfl) ?_
  simp only [List.setIfInBounds_toArray, List.set_cons_zero, List.set_cons_succ]
  refine hK _ _ (AnyW.any _) ?_
  clear hK K hrun
  generalize Value.slice (if c = d then A else A.map (·.add d)) (m - d) (c - d) = V1
  generalize Value.int .i64 ((m - d : Nat) : Int) = V2
  refine mix_last (by simp only [opsAt, List.getElem?_toArray, List.getElem?_cons_succ, List.getElem?_cons_zero]; rfl) ?_
  repeat (go_big_quiet_step (fail))
  refine wpQuiet_nil ?_
  have e2 : splice (splice M k (L.take (65536 - k))) 0 ((L.drop d).take N) = put M a L := by
    rw [HN.out]
    have h1 := H.out.2.1
    have h4 := D.out
    exact splice_write2 M L a k d H.out.1 (by omega) H.out.2.2.1 (by omega)
  rw [e2] at hp2
  have a02 : ∀ g, Apart p g w0 w2 := fun g => (PD.out.2 g).trans (ha2 g)
  have P2 := Lib.hid (And.intro hp2 a02)
  clear e2 hl1 hp2 ha2 kl a02 R1
  go_wp2_with fail
  have hv2 : w2.ownsRow base 41 2 v n xs := own_apart (g := none) H.out.2.2.2.2.1 (P2.out.2 none) (own_tag H.out.2.2.2.2.1 H.out.2.2.2.1 (by decide)) (fun k hk => by cases hk)
  refine (add_any p (put M a L) v n base xs k m w2 (by rw [put_len]; exact H.out.2.2.1) P2.out.1 hv2 (Nat.le_trans hb (P2.out.2 none).size) hn).mono ?_
  rintro e w3 ⟨rfl, h⟩
  have H3 := Lib.hid h
  clear h
  go_wp2
  go_end0
  obtain ⟨v', h1, h2, h3, h4⟩ := H3.out
  refine ⟨rfl, v', h1, h2, (P2.out.2 _).trans h3, h4.imp id ?_⟩
  rintro ⟨g, e, h⟩
  exact ⟨g, e, Nat.le_trans (P2.out.2 none).size h⟩
end Go.Proofs.YtllfakimcgbppaaDoor
