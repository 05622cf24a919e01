/- Contracts of the reference of layer 7: Plane (a plane off its seed). -/
import Derived.Test.YtfijkbckokcbnaaPlaneRefSc
import Derived.Deep.Cut
namespace Go.Proofs.Ytfijkbckokcbnaa
open Go.RowKit Num
set_option linter.unusedVariables false
set_option linter.unusedSimpArgs false

/-- A new plane of the resolution. -/
def DrawnR (m h : Nat) (w : World) (e : Ending) (w' : World) : Prop := ∃ f, InRes f m h ∧ DrawnP f w e w'
theorem tmod_bd (a : Int) (M : Int) (hM : 0 < M) : -M < a.tmod M ∧ a.tmod M < M := by
  have h := Int.tmod_lt_of_pos a hM
  have h2 := Int.lt_tmod_of_pos a hM
  omega
set_option maxRecDepth 100000 in
set_option maxHeartbeats 4000000 in
theorem rplane_any (a1 a2 a3 : Int) (b : Bool) (m h : Nat) (hr : Res b m h) (w : World) (b1 : -9223372036854775808 ≤ a1 ∧ a1 ≤ 9223372036854775807) (b2 : -9223372036854775808 ≤ a2 ∧ a2 ≤ 9223372036854775807) (b3 : -9223372036854775808 ≤ a3 ∧ a3 ≤ 9223372036854775807) :
    Calls Try.prog 11 #[.agg #[.int .i64 a1, .int .i64 a2, .int .i64 a3], .bool b] w (DrawnR m h w) := by
  obtain ⟨b1, b1'⟩ := b1
  obtain ⟨b2, b2'⟩ := b2
  obtain ⟨b3, b3'⟩ := b3
  obtain ⟨N, hN⟩ : ∃ N, N = 8192 := ⟨_, rfl⟩
  obtain ⟨m0, m1, h0, h1⟩ := hr.bounds
  obtain ⟨M, hM⟩ : ∃ M, M = m * h := ⟨_, rfl⟩
  have M0 : 0 < (M : Int) := by have := Nat.mul_pos (show 0 < m by omega) (show 0 < h by omega); omega
  have M1 : (M : Int) ≤ 10000 := by have := Nat.mul_le_mul m1 h1; omega
  have eM : (m : Int) * (h : Int) = (M : Int) := by rw [hM]; simp
  have BB := Lib.hid fun w => blankN hN w
  have RR := Lib.hid hr
  have NN := Lib.hid (And.intro hN hM)
  obtain ⟨t0, ht0⟩ : ∃ t0, a1.tmod (M : Int) = t0 := ⟨_, rfl⟩
  have t1 := tmod_bd a1 M M0
  rw [ht0] at t1
  obtain ⟨t1, t2⟩ := t1
  obtain ⟨s0, hs0⟩ : ∃ s0, a2.tmod 1000 = s0 := ⟨_, rfl⟩
  have s1 := tmod_bd a2 1000 (by decide)
  rw [hs0] at s1
  obtain ⟨s1, s2⟩ := s1
  obtain ⟨d, hd⟩ : ∃ d : Nat, (s0 + 1000) % 1000 = (d : Int) := ⟨((s0 + 1000) % 1000).toNat, by omega⟩
  have d1 : (d : Int) < 1000 := by omega
  have TS := Lib.hid hs0
  have TD := Lib.hid hd
  unfold DrawnR DrawnP
  rw [← hN]
  clear hN hr hM hs0 hd
  go_enter Try.func11, Try.ntmps11
  go_wp2_with fail
  refine (BB.out _).mono ?_
  rintro e w1 ⟨G, rfl, hG, hP0, hb0⟩
  have X : Below (w.heap.size + 1) (w.alloc (.cells #[.int .i64 a1, .int .i64 a2, .int .i64 a3] 23)) w1 := by simpa using hb0
  have q1 : w1.cell? ⟨w.heap.size, 0, none⟩ = some (.int .i64 a1) := (X.cell (p := ⟨w.heap.size, 0, none⟩) (by simp)).trans (by rw [World.cell?_alloc_at _ _ _ _ rfl]; rfl)
  have q2 : w1.cell? ⟨w.heap.size, 1, none⟩ = some (.int .i64 a2) := (X.cell (p := ⟨w.heap.size, 1, none⟩) (by simp)).trans (by rw [World.cell?_alloc_at _ _ _ _ rfl]; rfl)
  have q3 : w1.cell? ⟨w.heap.size, 2, none⟩ = some (.int .i64 a3) := (X.cell (p := ⟨w.heap.size, 2, none⟩) (by simp)).trans (by rw [World.cell?_alloc_at _ _ _ _ rfl]; rfl)
  have G0 := Lib.hid (show w.heap.size < G by simp at hG; omega)
  have P0 := Lib.hid hP0
  have b0 := Lib.hid ((below_new w (.cells #[.int .i64 a1, .int .i64 a2, .int .i64 a3] 23)).trans (hb0.mono (by simp)))
  have Q0 := Lib.hid (And.intro q2 q3)
  clear hG hP0 hb0 X
  go_wp2_with fail
  refine (rwidthR RR.out w1).mono ?_
  rintro e w' ⟨rfl, rfl⟩
  go_wp2_with fail
  refine (rheightR RR.out w1).mono ?_
  rintro e w' ⟨rfl, rfl⟩
  rcases Int.lt_or_le t0 0 with ht | ht
  all_goals
    go_wp2
    go_loopw [8, 9] (fun nv i wr => ∃ (n k : Nat) (f : Nat → Bool), n < M ∧ k ≤ 3000 ∧ nv = .int .i64 (n : Int) ∧ i = .int .i64 (k : Int) ∧ InRes f m h ∧ Pxs G f wr ∧ Below w.heap.size w wr ∧ Below (w.heap.size + 1) w1 wr) (fun _ i _ => 3000 - (intOf i).toNat)
    case atStart =>
      first
        | exact ⟨0, 0, _, by omega, by omega, rfl, rfl, inRes_blank m h, P0.out, b0.out, Below.refl _ _⟩
        | (obtain ⟨n0, rfl⟩ := Int.eq_ofNat_of_zero_le ht; exact ⟨n0, 0, _, by omega, by omega, rfl, rfl, inRes_blank m h, P0.out, b0.out, Below.refl _ _⟩)
    case round =>
      clear P0 b0 ht0 q1 q2 q3 ht t1 t2
      obtain ⟨n, k, f, hn, hk, rfl, rfl, hf, hP, hB, hS⟩ := hrel
      have q2 := (hS.cell (p := ⟨w.heap.size, 1, none⟩) (by simp)).trans Q0.out.1
      have q3 := (hS.cell (p := ⟨w.heap.size, 2, none⟩) (by simp)).trans Q0.out.2
      have PB := Lib.hid (And.intro hP (And.intro hB (And.intro hS hf)))
      clear hP hB hS hf
      rcases (show ((k : Int) < a3 ∧ (k : Int) < 3000) ∨ ¬ (k : Int) < a3 ∨ ((k : Int) < a3 ∧ ¬ (k : Int) < 3000) by omega) with ⟨i1, i2⟩ | i1 | ⟨i1, i2⟩
      · obtain ⟨q, hq⟩ : ∃ q, n / m = q := ⟨_, rfl⟩
        obtain ⟨r, hr⟩ : ∃ r, n % m = r := ⟨_, rfl⟩
        obtain ⟨p1, p2, p3⟩ := place_in n m h m1 (by omega) (by have := NN.out.2; omega)
        rw [hq, hr] at p1 p2 p3
        obtain ⟨p, hp⟩ : ∃ p, 128 * q + r = p := ⟨_, rfl⟩
        rw [hp] at p1 p2 p3
        have p8 : p < 8192 := by omega
        have pN : (p : Int) < (N : Int) := by have := NN.out.1; omega
        have pn : p < N := by omega
        have e1 : (n : Int).tdiv (m : Int) = (q : Int) := by rw [Int.tdiv_eq_ediv_of_nonneg (by omega), ← hq]; simp
        have e2 : (n : Int).tmod (m : Int) = (r : Int) := by rw [tmod_pos _ _ (by omega), ← hr]; simp
        have e3 : IntKind.i64.wrap (128 * (q : Int)) = 128 * (q : Int) := wraps_i64 _ (by omega) (by omega)
        have e4 : IntKind.i64.wrap (128 * (q : Int) + (r : Int)) = (p : Int) := by rw [wraps_i64 _ (by omega) (by omega)]; omega
        have e5 : IntKind.i64.wrap (q : Int) = (q : Int) := wraps_i64 _ (by omega) (by omega)
        have e6 : (n : Int) / (m : Int) = (q : Int) := by rw [← hq]; simp
        have e7 : (n : Int) % (m : Int) = (r : Int) := by rw [← hr]; simp
        obtain ⟨n', hn'⟩ : ∃ n', (n + 1 + d) % M = n' := ⟨_, rfl⟩
        have n1 : n' < M := by rw [← hn']; exact Nat.mod_lt _ (by omega)
        have e8 : ((n : Int) + 1 + (d : Int)) % (M : Int) = (n' : Int) := by rw [← hn']; simp
        have PP := Lib.hid (And.intro p1 (And.intro p2 p8))
        clear hq hr hp hn' p1 p2 p3 p8
        have NM : (n : Int) ≤ 10000 := by omega
        have mm : m ≠ 0 := by omega
        have mm2 : ((m : Int) == 0) = false := by simp; omega
        have mm3 : (M : Int) ≠ 0 := by omega
        go_wp2
        refine tail_region 10 (by kernel_rfl) (by kernel_rfl) ?_
        intro wd hwd
        have PD0 : (Pxs G f wd ∧ Below w.heap.size w wd ∧ Below (w.heap.size + 1) w1 wd ∧ InRes f m h) ∧ wd.cell? ⟨w.heap.size, 1, none⟩ = some (.int .i64 a2) := by rw [hwd]; exact ⟨⟨PB.out.1.drew, PB.out.2.1.drew, PB.out.2.2.1.drew, PB.out.2.2.2⟩, q2⟩
        have q2d := PD0.2
        have PD := Lib.hid PD0.1
        have c3 := PD.out.1.at_ p PP.out.2.2
        have c4 := PD.out.1.fz p PP.out.2.2
        clear hwd PB PD0 q2 q3
        simp only [List.take_succ_cons, List.take_zero, List.drop_succ_cons, List.drop_zero]
        repeat still_step
        refine wpStill_nil ?_
        have ts := TS.out
        have td := TD.out
        have gw : (⟨G, p, none⟩ : Addr).block ≠ w.heap.size := by have := G0.out; simp; omega
        go_wp2
        go_roundw
        case rel =>
          exact ⟨n', k + 1, _, n1, by omega, by go_num, by go_num, inRes_set PD.out.2.2.2 p true PP.out.1 PP.out.2.1, PD.out.1.set PP.out.2.2 true, PD.out.2.1.setCell (p := ⟨G, p, none⟩) (Nat.le_of_lt G0.out) _, PD.out.2.2.1.setCell (p := ⟨G, p, none⟩) G0.out _⟩
        case measure => simp [intOf]; omega
      · go_wp2
        go_ret
        exact ⟨f, PB.out.2.2.2, G, rfl, Nat.le_of_lt G0.out, PB.out.1, PB.out.2.1⟩
      · go_wp2
        go_ret
        exact ⟨f, PB.out.2.2.2, G, rfl, Nat.le_of_lt G0.out, PB.out.1, PB.out.2.1⟩
end Go.Proofs.Ytfijkbckokcbnaa
