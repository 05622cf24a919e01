/- Texts put together: MemRef, MemPut, MemRef2, InsEq, MemFew, MemGet, MemLaw, MemOpen, MemFrame. -/
import Derived.Deep.Draws
import Derived.Laws.StructEq
import Derived.Deep.SlicePairs
import Derived.Carry
import Derived.ChangeOld
import Derived.Test.YtgilkbmipgejeaaDoorPk0a
import Derived.Test.YtgilkbmipgejeaaDoorKFontRef
import Derived.Test.YtgilkbmipgejeaaDoorKDecTab
import Derived.Test.YtgilkbmipgejeaaDoorKFontFrame
/- What the reference of layer 5 wants of the others. -/
/- The contract of the reference's Put. -/
namespace Go.Proofs.YtgilkbmipgejeaaDoor
open Go.RowKit Num
set_option linter.unusedVariables false
set_option maxRecDepth 100000

set_option linter.unusedSimpArgs false in
set_option maxRecDepth 100000 in
set_option maxHeartbeats 2000000 in
theorem rput_any (ad : Addr) (N c : Nat) (M : List Int) (a : Int) (B : Option Addr) (m d : Nat) (L : List Int) (w : World) (hN : N = 65536) (hM : M.length = N) (hR : ad.block < w.heap.size ∧ ∀ j (h : j < M.length), w.cell? (ad.add j) = some (.int .u8 M[j]))
    (a0 : -2000000 ≤ a) (a1 : a ≤ 2000000) (hL : L.length = m) (m1 : m ≤ 65536) (hB : Rd w B L) :
    Calls Tryd.prog 19 #[.slice (some ad) N c, .int .i64 a, .slice B m d] w (Gives 5 (put M a L) w) := by
  obtain ⟨i0, hi, hz0, hz1, hz2⟩ := info_parts infoByte
  have Hi := Lib.hid (And.intro hi (And.intro hz0 (And.intro hz1 hz2)))
  have N0 : 0 < N := by omega
  have N1 : N ≤ 65536 := by omega
  have H := Lib.hid (And.intro hN (And.intro hM (And.intro hL (And.intro hR hB))))
  clear hN hM hL hR hB hi hz0 hz1 hz2
  have hown0 : (w.alloc (.cells #[] 5)).ownsRow w.heap.size 5 1 (.slice (some ⟨w.heap.size, 0, none⟩) 0 0) 0 [] := World.ownsRow_made w #[] 0 (Nat.le_refl _) (by unfold maxLen; omega) rfl
  have hb0 : Below w.heap.size w (w.alloc (.cells #[] 5)) := (Below.refl _ _).alloc (Nat.le_refl _) _
  have hnews : ∀ j u, (M.map (Value.int .u8))[j]? = some u → (w.alloc (.cells #[] 5)).cell? (ad.add j) = some u :=
    rd_cells fun j h => (hb0.cell (p := ad.add j) (by rw [add_block]; exact H.out.2.2.2.1.1)).trans (H.out.2.2.2.1.2 j h)
  have Hn := Lib.hid (And.intro hown0 (And.intro hb0 hnews))
  clear hown0 hb0 hnews
  go_enter Tryd.func19, Tryd.ntmps19
  go_wp2_with ((at_builtin; refine wpList_append_own _ rfl _ _ 22 rfl w.heap.size 5 i0 (.int .u8 0) 1 1 Tryd.underlying22 Hi.out.1 Hi.out.2.1 Hi.out.2.2.1 Hi.out.2.2.2 rfl (by decide) _ 0 [] rfl Hn.out.1 ad N c (M.map (Value.int .u8)) rfl (by rw [List.length_map, Nat.mul_one]; exact H.out.2.1) Hn.out.2.2 (int_cells M) (by unfold maxLen; omega) (by omega) (by simp) ?_; intro v' w1 hown1 hgrow _))
  have hb1 : Below w.heap.size w w1 := Hn.out.2.1.grown hgrow (by simp) fun j ej => (Hn.out.1.lt j ej).1
  rw [List.nil_append, Nat.zero_add] at hown1
  obtain ⟨g, cap, rfl, hg, hgl⟩ := hown1.form N0
  have hNc : N ≤ cap := by
    rcases hown1.2 with ⟨h1, _⟩ | ⟨g', c', cur, h1, _, _, hc, _⟩
    · cases h1
    · injection h1 with _ _ h2
      omega
  have Q := Lib.hid (And.intro hown1 hb1)
  clear hown1 hb1 hgrow Hn
  go_loopw [8] (fun i wr => ∃ k : Nat, k ≤ m ∧ i = .int .i64 k ∧ wr.ownsRow w.heap.size 5 1 (.slice (some ⟨g, 0, none⟩) N cap) N ((put M a (L.take k)).map (Value.int .u8)) ∧ Below w.heap.size w wr) (fun i _ => m - (intOf i).toNat)
  case atStart => exact ⟨0, Nat.zero_le _, rfl, by rw [List.take_zero, put_nil]; exact Q.out.1, Q.out.2⟩
  case round =>
    clear Q
    obtain ⟨k, hk, rfl, hown, hb⟩ := hrel
    have P := Lib.hid (And.intro hown hb)
    clear hown hb
    by_cases hlt : k < m
    · obtain ⟨adb, rfl, hlb, hcb⟩ := (H.out.2.2.2.2.below P.out.2).at_ (k := k) (by rw [H.out.2.2.1]; exact hlt)
      have hkL : k < L.length := by rw [H.out.2.2.1]; exact hlt
      have ht := take_step hkL
      obtain ⟨x, hx⟩ : ∃ x, L[k] = x := ⟨_, rfl⟩
      rw [hx] at ht hcb
      obtain ⟨j, hj⟩ : ∃ j : Nat, (a + (k : Int)) % 65536 = j := ⟨((a + (k : Int)) % 65536).toNat, by omega⟩
      have j0 : 0 ≤ (j : Int) := by omega
      have j1 : (j : Int) < (N : Int) := by have := H.out.1; omega
      have f1 := IntWalk.i64_in (a + (k : Int)) (by omega)
      have k0 : 0 ≤ (k : Int) := by omega
      have k1 : (k : Int) < (m : Int) := by omega
      have HT := Lib.hid (And.intro ht (And.intro hx hj))
      clear ht hx hj
      go_wp2
      refine tail_region 10 (by kernel_rfl) (by kernel_rfl) ?_
      intro wd hwd
      have PD : (wd.ownsRow w.heap.size 5 1 (.slice (some ⟨g, 0, none⟩) N cap) N ((put M a (L.take k)).map (Value.int .u8)) ∧ Below w.heap.size w wd) ∧ wd.cell? (adb.add k) = some (.int .u8 x) := by rw [hwd]; exact ⟨⟨P.out.1, P.out.2.drew⟩, hcb⟩
      have hcb := PD.2
      obtain ⟨y, cj⟩ : ∃ y, wd.cell? ⟨g, j, none⟩ = some y := by
        have hl : ((put M a (L.take k)).map (Value.int .u8)).length = N := by rw [List.length_map, put_len]; exact H.out.2.1
        exact ⟨_, (PD.1.1.cellAt j (by omega)).trans (List.getElem?_eq_getElem (by omega))⟩
      have fj := PD.1.1.frozenAt j
      have PD := Lib.hid PD.1
      clear hwd P
      simp only [List.take_succ_cons, List.take_zero, List.drop_succ_cons, List.drop_zero]
      repeat still_step
      still_call (mmod_any _ j _ HT.out.2.2)
      repeat still_step
      refine wpStill_nil ?_
      go_wp2
      go_roundw
      case rel =>
        refine ⟨k + 1, by omega, by go_num, ?_, PD.out.2.setCell hg _⟩
        have hs := (PD.out.1.stored j (.int .u8 x)).1
        have e : ((a + ((L.take k).length : Int)) % 65536).toNat = j := by
          rw [List.length_take, Nat.min_eq_left (by omega)]
          have := HT.out.2.2
          omega
        rw [HT.out.1, put_snoc, e, List.map_set]
        exact hs
      case measure => simp [intOf]; omega
    · have hkn : k = m := by omega
      subst hkn
      go_wp2
      go_ret
      have h := P.out.1
      rw [List.take_of_length_le (by rw [H.out.2.2.1]; omega)] at h
      have hl : (put M a L).length = N := by rw [put_len]; exact H.out.2.1
      exact ⟨_, rfl, by rw [hl]; exact h, P.out.2⟩
end Go.Proofs.YtgilkbmipgejeaaDoor
/- Contracts of the reference's Bytes, New and Few. -/
namespace Go.Proofs.YtgilkbmipgejeaaDoor
open Go.RowKit Num
set_option linter.unusedVariables false
set_option maxRecDepth 100000

theorem mmod_at (n : Int) (k : Nat) (w : World) (h : n % 65536 = k) : Calls Tryd.prog 17 #[.int .i64 n] w fun e w' => e = .returned (.int .i64 k) ∧ w = w' :=
  (mmod_any n k w h).mono fun _ _ ⟨he, hw⟩ => ⟨he, hw.symm⟩

/-- A slice of n bytes, which reads as L. -/
def Got (n : Nat) (L : List Int) (w : World) (e : Ending) (w' : World) : Prop := (∃ A c, e = .returned (.slice A n c) ∧ Rd w' A L) ∧ Below w.heap.size w w'

set_option maxRecDepth 100000 in
set_option maxHeartbeats 2000000 in
theorem rbytes_any (ad : Addr) (N c : Nat) (M : List Int) (a : Int) (n : Nat) (w : World) (hN : N = 65536) (hM : M.length = N) (hR : ad.block < w.heap.size ∧ ∀ j (h : j < M.length), w.cell? (ad.add j) = some (.int .u8 M[j]))
    (a0 : -2000000 ≤ a) (a1 : a ≤ 2000000) (n1 : n ≤ 1000) :
    Calls Tryd.prog 36 #[.slice (some ad) N c, .int .i64 a, .int .i64 (n : Int)] w (Got n (seg M a n) w) := by
  obtain ⟨i0, hi, hz0, hz1, hz2⟩ := info_parts infoByte
  have H := Lib.hid (And.intro hN (And.intro hM hR))
  clear hN hM hR
  go_enter Tryd.func36, Tryd.ntmps36
  go_wp2
  go_loopw [7, 8] (fun o i wr => ∃ k : Nat, k ≤ n ∧ i = .int .i64 k ∧ wr.ownsRow w.heap.size 5 1 o k ((seg M a k).map (Value.int .u8)) ∧ Below w.heap.size w wr) (fun _ i _ => n - (intOf i).toNat)
  case atStart => exact ⟨0, Nat.zero_le _, rfl, World.ownsRow_nil _ _ _ _, Below.refl _ _⟩
  case round =>
    obtain ⟨k, hk, rfl, hown, hb⟩ := hrel
    by_cases hlt : k < n
    · obtain ⟨j, hj⟩ : ∃ j : Nat, (a + (k : Int)) % 65536 = j := ⟨((a + (k : Int)) % 65536).toNat, by omega⟩
      have j0 : 0 ≤ (j : Int) := by omega
      have j1 : (j : Int) < (N : Int) := by have := H.out.1; omega
      have jM : j < M.length := by have := H.out.2.1; omega
      have hs := seg_succ M a k
      have e : M.getD ((a + (k : Int)) % 65536).toNat 0 = M[j] := by
        rw [hj]
        simp [jM]
      have hc : wr.cell? (ad.add j) = some (.int .u8 M[j]) := (hb.cell (p := ad.add j) (by rw [add_block]; exact H.out.2.2.1)).trans (H.out.2.2.2 j jM)
      rw [e] at hs
      clear e
      obtain ⟨x, hx⟩ : ∃ x, M[j] = x := ⟨_, rfl⟩
      rw [hx] at hc hs
      have HS := Lib.hid (And.intro hs hj)
      clear hx hs hj
      go_wp2_with (first
        | (go_at_call 17; refine (mmod_at _ j _ HS.out.2).mono ?_; rintro e w' ⟨rfl, rfl⟩)
        | (at_builtin; refine wpList_append_own _ rfl _ _ 22 rfl w.heap.size 5 i0 (.int .u8 0) 1 1 Tryd.underlying22 hi hz0 hz1 hz2 rfl (by decide) _ _ _ rfl (hown.alloc _) ⟨_, 0, none⟩ 1 1 [.int .u8 x] rfl rfl (cell_one_new _ _ _) (by simp [Value.oneCell']) (by unfold maxLen; omega) (by omega) (by have := hb.size; simp; omega) ?_; intro v' w1 hown' hgrow _))
      go_roundw
      case rel =>
        refine ⟨k + 1, by omega, by go_num, by rw [HS.out.1]; simpa using hown', (hb.alloc hb.size _).grown hgrow (by have := hb.size; simp; omega) fun j ej => ?_⟩
        exact (hown.lt j ej).1
      case measure => simp [intOf]; omega
    · have hkn : k = n := by omega
      subst hkn
      go_wp2
      go_ret
      obtain ⟨A, c, rfl⟩ := own_form hown
      exact ⟨⟨A, c, rfl, own_rd hown⟩, hb⟩

theorem Gives.bytes {L : List Int} {w w' : World} {e : Ending} {n : Nat} (h : Gives 5 L w e w') (hn : L.length = n) (h0 : 0 < n) :
    ∃ g c, e = .returned (.slice (some ⟨g, 0, none⟩) n c) ∧ w.heap.size ≤ g ∧ g < w'.heap.size ∧ w'.ownsRow w.heap.size 5 1 (.slice (some ⟨g, 0, none⟩) n c) n (L.map (Value.int .u8)) ∧ Below w.heap.size w w' := by
  obtain ⟨v, rfl, hown, hb⟩ := h
  rw [hn] at hown
  obtain ⟨g, c, rfl, hg, hlt⟩ := hown.form h0
  exact ⟨g, c, rfl, hg, hlt, hown, hb⟩
theorem own_at {w : World} {base : Nat} {e : TypeId} {n c g : Nat} {L : List Int} (h : w.ownsRow base e 1 (.slice (some ⟨g, 0, none⟩) n c) n (L.map (Value.int .u8))) : ∀ j (hj : j < L.length), w.cell? ((⟨g, 0, none⟩ : Addr).add j) = some (.int .u8 L[j]) := fun j hj => by
  have hl := h.1
  rw [List.length_map] at hl
  rw [add_pl, Nat.zero_add, h.cellAt j (by omega), List.getElem?_map, List.getElem?_eq_getElem hj]
  rfl

set_option maxRecDepth 100000 in
set_option maxHeartbeats 2000000 in
theorem rnew_any (A : Option Addr) (n c : Nat) (L : List Int) (w : World) (hL : L.length = n) (hn : n ≤ 65024) (hR : Rd w A L) :
    Calls Tryd.prog 13 #[.slice A n c] w (Gives 5 (initial L) w) := by
  obtain ⟨N, hN⟩ : ∃ N, N = 65536 := ⟨_, rfl⟩
  have mk : ∀ w : World, (Instr.makeSlice 22 (.int .i64 65536) (.int .i64 65536)).run Tryd.prog w = .ok (.slice (some ⟨w.heap.size, 0, none⟩) N N) (w.alloc (.cells (arr zeros) 5)) := by
    subst hN
    exact make_bytes 65536 65536 rfl (by omega)
  have N0 : 0 < N := by omega
  have N1 : N ≤ 65536 := by omega
  have H := Lib.hid (And.intro hN (And.intro hL hR))
  clear hN hL hR
  go_enter Tryd.func13, Tryd.ntmps13
  go_wp2_with fail
  clear mk
  have B1 : Below w.heap.size w (w.alloc (.cells (arr zeros) 5)) := (Below.refl _ _).alloc (Nat.le_refl _) _
  have G1 : (w.alloc (.cells (arr zeros) 5)).heap[w.heap.size]? = some (.cells (arr zeros) 5 (0, 0)) := heap_alloc_new _ _
  obtain ⟨g, hg⟩ : ∃ g, g = w.heap.size := ⟨_, rfl⟩
  generalize w.alloc (.cells (arr zeros) 5) = w1 at *
  rw [← hg] at G1 ⊢
  have P1 := Lib.hid (And.intro B1 G1)
  clear B1 G1 hg
  refine (rsmall_any _).mono ?_
  rintro e w2 h
  obtain ⟨g2, c2, rfl, _, _, o2, b2⟩ := h.bytes smallL_len (by omega)
  have P2 := Lib.hid (And.intro (P1.out.1.trans (b2.mono P1.out.1.size)) (And.intro ((b2.block g (Array.getElem?_eq_some_iff.1 P1.out.2).1).trans P1.out.2) (own_rd o2)))
  clear h o2 b2 P1
  go_wp2_with fail
  refine (rput_any ⟨g, 0, none⟩ N N zeros 80 (some ⟨g2, 0, none⟩) 80 c2 smallL _ H.out.1 (by rw [H.out.1]; exact zeros_len) ⟨(Array.getElem?_eq_some_iff.1 P2.out.2.1).1, fun j hj => by rw [add_pl, Nat.zero_add, cell_of_row _ _ _ _ _ _ P2.out.2.1]; exact arr_get _ j hj⟩ (by omega) (by omega) smallL_len (by omega) P2.out.2.2).mono ?_
  rintro e w3 h
  obtain ⟨g3, c3, rfl, _, l3, o3, b3⟩ := h.bytes (n := N) (by rw [put_len, H.out.1]; exact zeros_len) N0
  have P3 := Lib.hid (And.intro (P2.out.1.trans (b3.mono P2.out.1.size)) (And.intro l3 (own_at o3)))
  clear h o3 b3 l3 P2
  go_wp2_with fail
  refine (rbig_any _).mono ?_
  rintro e w4 h
  obtain ⟨g4, c4, rfl, _, _, o4, b4⟩ := h.bytes bigL_len (by omega)
  have P4 := Lib.hid (And.intro (P3.out.1.trans (b4.mono P3.out.1.size)) (And.intro (Nat.lt_of_lt_of_le P3.out.2.1 b4.size) (And.intro (fun j hj => (b4.cell (p := (⟨g3, 0, none⟩ : Addr).add j) (by rw [add_block]; exact P3.out.2.1)).trans (P3.out.2.2 j hj)) (own_rd o4))))
  clear h o4 b4 P3
  go_wp2_with fail
  refine (rput_any ⟨g3, 0, none⟩ N c3 (put zeros 80 smallL) 160 (some ⟨g4, 0, none⟩) 160 c4 bigL _ H.out.1 (by rw [put_len, H.out.1]; exact zeros_len) ⟨P4.out.2.1, P4.out.2.2.1⟩ (by omega) (by omega) bigL_len (by omega) P4.out.2.2.2).mono ?_
  rintro e w5 h
  obtain ⟨g5, c5, rfl, _, l5, o5, b5⟩ := h.bytes (n := N) (by rw [put_len, put_len, H.out.1]; exact zeros_len) N0
  have P5 := Lib.hid (And.intro (P4.out.1.trans (b5.mono P4.out.1.size)) (And.intro l5 (own_at o5)))
  clear h o5 b5 l5 P4
  go_wp2_with fail
  refine (rput_any ⟨g5, 0, none⟩ N c5 (put (put zeros 80 smallL) 160 bigL) 512 A n c L _ H.out.1 (by rw [put_len, put_len, H.out.1]; exact zeros_len) ⟨P5.out.2.1, P5.out.2.2⟩ (by omega) (by omega) H.out.2.1 (by omega) (H.out.2.2.below P5.out.1)).mono ?_
  rintro e w6 h
  obtain ⟨v6, rfl, o6, b6⟩ := h
  have P6 := Lib.hid (And.intro (P5.out.1.trans (b6.mono P5.out.1.size)) (own_mono o6 P5.out.1.size))
  clear o6 b6 P5
  go_wp2
  go_ret
  exact ⟨_, rfl, P6.out.2, P6.out.1⟩
end Go.Proofs.YtgilkbmipgejeaaDoor
/- '==' of two instructions. -/
namespace Go.Proofs.YtgilkbmipgejeaaDoor
open Go.RowKit Num Dec
set_option linter.unusedVariables false
set_option linter.unusedSimpArgs false

def insB (i j : Ins) : Bool := decide (i.op = j.op) && (decide (i.x = j.x) && (decide (i.y = j.y) && (decide (i.n = j.n) && (decide (i.nn = j.nn) && (decide (i.addr = j.addr) && decide (i.len = j.len))))))
theorem insB_same (i : Ins) : insB i i = true := by simp [insB]
theorem insB_ne {i j : Ins} (h : ¬ i = j) : insB i j = false := by
  cases hb : insB i j
  · rfl
  · exfalso
    apply h
    unfold insB at hb
    simp only [Bool.and_eq_true, decide_eq_true_eq] at hb
    obtain ⟨h1, h2, h3, h4, h5, h6, h7⟩ := hb
    cases i; cases j
    simp only at h1 h2 h3 h4 h5 h6 h7
    subst h1 h2 h3 h4 h5 h6 h7
    rfl
theorem part_int (cs : Array Value) (k : Nat) (v : Value) (h : cs[k]? = some v) (w : World) : (part 3 cs k).run Tryd.prog w = .ok v w := by
  have hagg : (isAgg 3).run Tryd.prog w = .ok false w := by
    unfold isAgg
    rw [Sem.run_bind, run_underlying Tryd.underlying3 w]
    rfl
  simp [part, Sem.run_bind, hagg, h]
theorem same_int (d : Nat) (a b : Int) (w : World) : (Op.equalIn (d + 1) 3 (.int .i64 a) (.int .i64 b)).run Tryd.prog w = .ok (a == b) w := run_equalIn_int w d 3 .i64 .i64 a b Tryd.underlying3
theorem eq_step (d : Nat) (xs ys : Array Value) (f : Field) (fs : List Field) (a b : Int) (w : World) (hf : f.name ≠ "_") (ht : f.type = 3) (hx : xs[f.offset]? = some (.int .i64 a)) (hy : ys[f.offset]? = some (.int .i64 b)) (r : Bool)
    (hr : (Op.eqFields (d + 1) xs ys fs).run Tryd.prog w = .ok r w) : (Op.eqFields (d + 1) xs ys (f :: fs)).run Tryd.prog w = .ok (decide (a = b) && r) w := by
  unfold Op.eqFields
  rw [if_pos hf, Sem.run_bind, ht, part_int xs _ _ hx, Result.andThen_ok, Sem.run_bind, part_int ys _ _ hy, Result.andThen_ok, Sem.run_bind, same_int, Result.andThen_ok]
  by_cases h : a = b
  · subst h
    simp only [beq_self_eq_true, Bool.not_true, Bool.false_eq_true, if_false, decide_true, Bool.true_and]
    exact hr
  · have hb : (a == b) = false := by simpa using h
    rw [hb, decide_eq_false h]
    simp only [Bool.not_false, if_true, Sem.run_pure, Bool.false_and]
theorem eq_ins (i j : Ins) (w : World) : (Op.equalIn 10000 38 (.agg (icells i)) (.agg (icells j))).run Tryd.prog w = .ok (insB i j) w := by
  have ht : Tryd.prog.underlying 38 = some (.struct (Tryd.prog.fieldsOf 38)) := by kernel_rfl
  have hp : Tryd.prog.stoodInHeld 38 = false := by kernel_rfl
  have e : (10000 : Nat) = 9999 + 1 := by decide
  rw [e, run_equalIn_struct (P := Tryd.prog) w 9999 38 _ _ ht hp]
  clear e ht hp
  have e : (9999 : Nat) = 9998 + 1 := by decide
  rw [e]
  clear e
  generalize (9998 : Nat) = d
  simp only [Program.fieldsOf, Tryd.underlying38]
  unfold insB
  refine eq_step d _ _ _ _ _ _ w (by decide) rfl rfl rfl _ ?_
  refine eq_step d _ _ _ _ _ _ w (by decide) rfl rfl rfl _ ?_
  refine eq_step d _ _ _ _ _ _ w (by decide) rfl rfl rfl _ ?_
  refine eq_step d _ _ _ _ _ _ w (by decide) rfl rfl rfl _ ?_
  refine eq_step d _ _ _ _ _ _ w (by decide) rfl rfl rfl _ ?_
  refine eq_step d _ _ _ _ _ _ w (by decide) rfl rfl rfl _ ?_
  rw [← Bool.and_true (decide (i.len = j.len))]
  refine eq_step d _ _ _ _ _ _ w (by decide) rfl rfl rfl _ ?_
  simp [Op.eqFields]
theorem eql_ins (i j : Ins) (w : World) : (binOp .eql 38 (.agg (icells i)) (.agg (icells j))).run Tryd.prog w = .ok (.bool (insB i j)) w := by
  rw [run_eql_struct, eq_ins]
  simp only [Result.andThen_ok]
theorem neq_ins (i j : Ins) (w : World) : (binOp .neq 38 (.agg (icells i)) (.agg (icells j))).run Tryd.prog w = .ok (.bool (!insB i j)) w := by
  rw [run_neq_struct, eq_ins]
  simp only [Result.andThen_ok]
theorem eqGuardIns : Tryd.prog.eqGuardType Tryd.prog.depth 38 = false := by kernel_rfl
theorem exec_eqI {o : Oper} {ρ : Operand → Value} {w : World} (x y : Operand) (z : TypeId) (ho : o.op = .binOp .eql 38 x y z) (i j : Ins) (hx : ρ x = .agg (icells i)) (hy : ρ y = .agg (icells j)) : (execOp ρ o).run Tryd.prog w = .ok (.value (.bool (insB i j))) w := by
  unfold execOp
  simp only [ho, hx, hy]
  rw [Sem.run_bind, Sem.run_bind, run_eqGuard_agg w .eql 38 x y _ _ eqGuardIns, Result.andThen_ok, eql_ins, Result.andThen_ok, Sem.run_pure]
theorem exec_neI {o : Oper} {ρ : Operand → Value} {w : World} (x y : Operand) (z : TypeId) (ho : o.op = .binOp .neq 38 x y z) (i j : Ins) (hx : ρ x = .agg (icells i)) (hy : ρ y = .agg (icells j)) : (execOp ρ o).run Tryd.prog w = .ok (.value (.bool (!insB i j))) w := by
  unfold execOp
  simp only [ho, hx, hy]
  rw [Sem.run_bind, Sem.run_bind, run_eqGuard_agg w .neq 38 x y _ _ eqGuardIns, Result.andThen_ok, neq_ins, Result.andThen_ok, Sem.run_pure]
section
variable {ops : Array Oper} {C : World → Prop} {i j : Ins}
theorem quiet_eqI {Q : Act → Prop} {o : Oper} {rest : List Oper} {a : Act} (i j : Ins) (hw : Region.wanted o (yielded ops a.tmps) = true) (x y : Operand) (z : TypeId) (ho : o.op = .binOp .eql 38 x y z) (hx : a.eval x = .agg (icells i)) (hy : a.eval y = .agg (icells j))
    (h : wpQuiet Tryd.prog ops C Q rest (a.put o.dst (.bool (insB i j)))) : wpQuiet Tryd.prog ops C Q (o :: rest) a :=
  quiet_run hw _ (fun w' _ => exec_eqI x y z ho i j hx hy) h
theorem quiet_neI {Q : Act → Prop} {o : Oper} {rest : List Oper} {a : Act} (i j : Ins) (hw : Region.wanted o (yielded ops a.tmps) = true) (x y : Operand) (z : TypeId) (ho : o.op = .binOp .neq 38 x y z) (hx : a.eval x = .agg (icells i)) (hy : a.eval y = .agg (icells j))
    (h : wpQuiet Tryd.prog ops C Q rest (a.put o.dst (.bool (!insB i j)))) : wpQuiet Tryd.prog ops C Q (o :: rest) a :=
  quiet_run hw _ (fun w' _ => exec_neI x y z ho i j hx hy) h
end
end Go.Proofs.YtgilkbmipgejeaaDoor
/- The contract of the reference's Few, and lists of writes. -/
namespace Go.Proofs.YtgilkbmipgejeaaDoor
open Go.RowKit Num
set_option linter.unusedVariables false
set_option maxRecDepth 100000

theorem add_one (a : Addr) : a.add 1 = ⟨a.block, a.off + 1, none⟩ := by simp [Addr.add]
/-- A write: its address, and its slice of bytes. -/
structure Wr where
  a : Int
  A : Option Addr
  n : Nat
  c : Nat
  b : List Int
/-- What holds of a write in a world. -/
structure Wr.ok (x : Wr) (w : World) : Prop where
  len : x.b.length = x.n
  rd : Rd w x.A x.b
  cap : x.n ≤ x.c
  max : x.c ≤ maxLen
  lo : -9223372036854775808 ≤ x.a
  hi : x.a ≤ 9223372036854775807
/-- The slice at A holds the writes l. -/
def Wrs (w : World) (A : Option Addr) (l : List Wr) : Prop := l ≠ [] → ∃ ad, A = some ad ∧ ad.block < w.heap.size ∧ ∀ i (h : i < l.length), w.cell? (ad.add (i * 2)) = some (.int .i64 l[i].a) ∧ w.cell? (ad.add (i * 2 + 1)) = some (.slice l[i].A l[i].n l[i].c) ∧ l[i].ok w
theorem Wr.ok.below {x : Wr} {w w' : World} (h : x.ok w) (hb : Below w.heap.size w w') : x.ok w' := ⟨h.len, h.rd.below hb, h.cap, h.max, h.lo, h.hi⟩
theorem Wrs.below {w w' : World} {A : Option Addr} {l : List Wr} (h : Wrs w A l) (hb : Below w.heap.size w w') : Wrs w' A l := fun hne => by
  obtain ⟨ad, rfl, hlt, hc⟩ := h hne
  exact ⟨ad, rfl, Nat.lt_of_lt_of_le hlt hb.size, fun i hi => ⟨(hb.cell (p := ad.add (i * 2)) (by rw [add_block]; exact hlt)).trans (hc i hi).1, (hb.cell (p := ad.add (i * 2 + 1)) (by rw [add_block]; exact hlt)).trans (hc i hi).2.1, (hc i hi).2.2.below hb⟩⟩
theorem Wrs.at_ {w : World} {A : Option Addr} {l : List Wr} (h : Wrs w A l) {k : Nat} (hk : k < l.length) : ∃ ad, A = some ad ∧ ad.block < w.heap.size ∧ w.cell? (ad.add (k * 2)) = some (.int .i64 l[k].a) ∧ w.cell? (ad.add (k * 2 + 1)) = some (.slice l[k].A l[k].n l[k].c) ∧ l[k].ok w := by
  obtain ⟨ad, e, hlt, hc⟩ := h (by rintro rfl; simp at hk)
  exact ⟨ad, e, hlt, hc k hk⟩
/-- A write that is short and near. -/
def Wr.small (x : Wr) : Prop := x.n ≤ 100 ∧ -1000000 ≤ x.a ∧ x.a ≤ 1000000
/-- What Few says. -/
def Fewed (n : Nat) (l : List Wr) (w : World) (e : Ending) (w' : World) : Prop := ∃ b : Bool, e = .returned (.bool b) ∧ (b = true → n ≤ 2000 ∧ l.length ≤ 20 ∧ ∀ i (h : i < l.length), l[i].small) ∧ w = w'

set_option maxRecDepth 100000 in
set_option maxHeartbeats 4000000 in
theorem few_any (A : Option Addr) (n c : Nat) (B : Option Addr) (m d : Nat) (l : List Wr) (w : World) (n1 : n ≤ maxLen) (m1 : m ≤ maxLen) (hl : l.length = m) (hW : Wrs w B l) :
    Calls Tryd.prog 9 #[.slice A n c, .slice B m d] w (Fewed n l w) := by
  unfold maxLen at n1 m1
  have H := Lib.hid (And.intro hl hW)
  clear hl hW
  go_enter Tryd.func9, Tryd.ntmps9
  go_wp2
  go_loop [5] (fun i => ∃ k : Nat, k ≤ 21 ∧ k ≤ m ∧ i = .int .i64 k ∧ ∀ j (h : j < l.length), j < k → l[j].small) (fun i => 21 - (intOf i).toNat)
  case atStart => exact ⟨0, by omega, by omega, rfl, fun j _ h => absurd h (by omega)⟩
  case round =>
    obtain ⟨k, hk, hkm, rfl, hs⟩ := hrel
    have Hs := Lib.hid hs
    clear hs
    by_cases hlt : k < m
    · by_cases h20 : k ≤ 20
      · have hkl : k < l.length := by have := H.out.1; omega
        obtain ⟨ad, rfl, hb, c0, c1, ok⟩ := H.out.2.at_ hkl
        rw [← add_add, add_one] at c1
        obtain ⟨y, hy⟩ : ∃ y, y = l[k] := ⟨_, rfl⟩
        rw [← hy] at c0 c1 ok
        obtain ⟨o1, o2, o3, o4, o5, o6⟩ := ok
        unfold maxLen at o4
        have k0 : (k : Int) < (m : Int) := by omega
        have k1 : (k : Int) ≤ 20 := by omega
        have k2 : 0 ≤ (k : Int) := by omega
        have HY := Lib.hid hy
        clear hy o1 o2
        by_cases h1 : (100 : Int) < (y.n : Int)
        · go_wp2
          go_ret
          exact ⟨false, rfl, (by simp), rfl⟩
        · by_cases h2 : y.a < -1000000
          · go_wp2
            go_ret
            exact ⟨false, rfl, (by simp), rfl⟩
          · by_cases h3 : 1000000 < y.a
            · go_wp2
              go_ret
              exact ⟨false, rfl, (by simp), rfl⟩
            · go_wp2
              go_round
              case rel =>
                refine ⟨k + 1, by omega, by omega, by go_num, fun j hj hjk => ?_⟩
                by_cases e : j = k
                · subst e
                  rw [← HY.out]
                  exact ⟨by omega, by omega, by omega⟩
                · exact Hs.out j hj (by omega)
              case measure => simp [intOf]; omega
      · have hm : 20 < m := by omega
        have k1 : ¬ (k : Int) ≤ 20 := by omega
        have k3 : ¬ (m : Int) ≤ 20 := by omega
        go_wp2
        go_ret
        exact ⟨false, rfl, (by simp), rfl⟩
    · have hkn : k = m := by omega
      subst hkn
      by_cases h20 : k ≤ 20
      · have k3 : (k : Int) ≤ 20 := by omega
        by_cases hn : n ≤ 2000
        · have k4 : (n : Int) ≤ 2000 := by omega
          go_wp2
          go_ret
          exact ⟨true, rfl, fun _ => ⟨hn, by rw [H.out.1]; exact h20, fun j hj => Hs.out j hj (by have := H.out.1; omega)⟩, rfl⟩
        · have k4 : ¬ (n : Int) ≤ 2000 := by omega
          go_wp2
          go_ret
          exact ⟨false, rfl, (by simp), rfl⟩
      · have k3 : ¬ (k : Int) ≤ 20 := by omega
        go_wp2
        go_ret
        exact ⟨false, rfl, (by simp), rfl⟩
end Go.Proofs.YtgilkbmipgejeaaDoor
/- Reads behind a write; new memory. -/
namespace Go.Proofs.YtgilkbmipgejeaaDoor
open Go.RowKit Num
set_option linter.unusedVariables false
set_option maxRecDepth 100000

theorem get_written (M b : List Int) (a : Int) (j k : Nat) (hM : M.length = 65536) (hb : b.length ≤ 65536) (hj : j < 65536) (hk : ((j : Int) - a) % 65536 = k) (h : k < b.length) : (put M a b)[j]? = b[k]? := by
  have e : (((j : Int) - a) % 65536).toNat = k := by omega
  rw [put_get b M a hb hM j hj, e, if_pos h]
theorem get_kept (M b : List Int) (a : Int) (j k : Nat) (hM : M.length = 65536) (hb : b.length ≤ 65536) (hj : j < 65536) (hk : ((j : Int) - a) % 65536 = k) (h : b.length ≤ k) : (put M a b)[j]? = M[j]? := by
  have e : (((j : Int) - a) % 65536).toNat = k := by omega
  rw [put_get b M a hb hM j hj, e, if_neg (by omega)]
theorem below_drewN (w : World) (n : Nat) : Below w.heap.size w (w.drewN n) := ⟨rfl, rfl, rfl, Nat.le_refl _, fun _ _ => rfl⟩
theorem below_new (w : World) (o : Obj) : Below w.heap.size w (w.alloc o) := (Below.refl _ _).alloc (Nat.le_refl _) _
theorem Laid.go {w w' : World} (h : Laid w) (hb : Below w.heap.size w w') : Laid w' := h.step hb
theorem rd_new (w : World) (L : List Int) (t : TypeId) : Rd (w.alloc (.cells (arr L) t)) (some ⟨w.heap.size, 0, none⟩) L := fun _ => ⟨_, rfl, by simp, fun j hj => by
  rw [add_pl, Nat.zero_add, cell_of_row _ _ _ _ _ _ (heap_alloc_new w _)]
  exact arr_get L j hj⟩
end Go.Proofs.YtgilkbmipgejeaaDoor
/- What the laws of layer 5 have in common: a write of whatever length; arguments that are slices of bytes. -/
namespace Go.Proofs.YtgilkbmipgejeaaDoor
open Go.RowKit Num
set_option linter.unusedVariables false
set_option maxRecDepth 100000

/-- A slice of bytes that came in. -/
structure Arg (w : World) (A : Option Addr) (n c : Nat) (L : List Int) : Prop where
  rd : Rd w A L
  len : L.length = n
  cap : n ≤ c
  max : c ≤ maxLen
theorem Arg.below {w w' : World} {A : Option Addr} {n c : Nat} {L : List Int} (h : Arg w A n c L) (hb : Below w.heap.size w w') : Arg w' A n c L := ⟨h.rd.below hb, h.len, h.cap, h.max⟩
/-- Its block, if it has an element. -/
theorem Arg.block {w : World} {A : Option Addr} {n c : Nat} {L : List Int} (h : Arg w A n c L) : ∀ ad, A = some ad → 0 < n → ad.block < w.heap.size := fun ad e hn =>
  h.rd.block_lt' (by rintro rfl; have := h.len; simp at this; omega) e
/-- How many spans, and which, a write of m bytes logs. -/
def cnt (m : Nat) : Nat := if m = 0 then 0 else 1
def entry (a : Int) (m : Nat) : List Value := if m = 0 then [] else [.int .i64 (a % 65536), .int .i64 m]

theorem write_both (p : Nat) (M : List Int) (v : Value) (n base : Nat) (xs : List Value) (a : Int) (A : Option Addr) (m c : Nat) (L : List Int) (w : World) (hM : M.length = 65536) (hp : MemAt p M v w)
    (hv : w.ownsRow base 52 2 v n xs) (hb : base ≤ w.heap.size) (hn : n ≤ 1000) (hL : L.length = m) (m1 : m ≤ 65536) (hmc : m ≤ c) (hR : Rd w A L) (hA : ∀ ad, A = some ad → 0 < m → ad.block ≠ p) :
    Calls Tryd.prog 18 #[.pointer (some ⟨p, 0, none⟩), .int .i64 a, .slice A m c] w (Wrote p (put M a L) base (n + cnt m) (xs ++ entry a m) v w) := by
  by_cases h0 : m = 0
  · subst h0
    obtain rfl : L = [] := List.eq_nil_of_length_eq_zero hL
    refine (write_none p a A c w).mono ?_
    rintro e w' ⟨rfl, rfl⟩
    refine ⟨rfl, v, hp, ?_, Apart.refl, .inl rfl⟩
    simpa [cnt, entry] using hv
  · obtain ⟨k, hk⟩ : ∃ k : Nat, a % 65536 = k := ⟨(a % 65536).toNat, by omega⟩
    have := write_any p M v n base xs a k A m c L w hM hp hv hb hn hk hL (by omega) m1 hmc hR (fun ad e => hA ad e (by omega))
    simpa [cnt, entry, h0, hk] using this

/-- The bytes of the whole memory. -/
theorem bytes_all (p : Nat) (M : List Int) (v : Value) (N : Nat) (w : World) (hN : N = 65536) (hM : M.length = 65536) (hp : MemAt p M v w) :
    Calls Tryd.prog 47 #[.pointer (some ⟨p, 0, none⟩), .int .i64 0, .int .i64 65536] w (Gave N M w) := by
  subst hN
  have h := bytes_any p M v 0 0 65536 w hM hp (by omega) (Nat.le_refl _)
  rw [seg_all M hM] at h
  exact h
theorem own_cap {w : World} {base size n c : Nat} {e : TypeId} {A : Option Addr} {xs : List Value} (h : w.ownsRow base e size (.slice A n c) n xs) : n ≤ c := by
  rcases h.2 with ⟨h1, h2⟩ | ⟨g', c', cur, h1, _, _, hc, _⟩
  · omega
  · injection h1 with _ _ h2
    omega
end Go.Proofs.YtgilkbmipgejeaaDoor
/- Arguments of the laws of layer 5 opened: slices of bytes, slices of writes. -/
namespace Go.Proofs.YtgilkbmipgejeaaDoor
open Go.RowKit Go.ChangeShapes Go.WideShapes
set_option linter.unusedVariables false
set_option maxRecDepth 100000

theorem laidOut : laidOutB Tryd.prog = true := by kernel_rfl

section
variable {H : Type} {enc : TypeId × Value → H} {W : World} {r : Reach} {base : Nat}
theorem bytes_of {fuel : Nat} {A : Option Addr} {n c : Nat} {x : DataW H × List MemPlace} (h : DataW.trod enc Tryd.prog W 0 (fun _ => true) true fuel 22 [.slice A n c] = some x) : ∃ L, Arg W A n c L := by
  rcases open_ints Tryd.underlying22 Tryd.underlying5 (by kernel_rfl) h with ⟨hcs, _⟩ | ⟨a, len, cap, zs, hcs, hb, hl, hm, hz, _, hcell, hw⟩
  · injection hcs with hcs
    injection hcs with e1 e2 e3
    subst e1; subst e2; subst e3
    exact ⟨[], Rd.nil, rfl, Nat.le_refl _, Nat.zero_le _⟩
  · injection hcs with hcs
    injection hcs with e1 e2 e3
    subst e1; subst e2; subst e3
    simp only [if_true] at hz
    refine ⟨zs.take n, fun hne => ?_, by rw [List.length_take]; omega, hl, hm⟩
    have h0 : 0 < n := by
      rcases Nat.eq_zero_or_pos n with e | e
      · subst e; exact absurd (List.take_zero) hne
      · exact e
    have hlt := World.block_lt_of_cell? W _ (hcell 0 (by omega))
    rw [add_block] at hlt
    refine ⟨a, rfl, hlt, fun j hj => ?_⟩
    rw [List.length_take] at hj
    rw [hcell j (by omega), List.getElem_take, List.getD_eq_getElem?_getD, List.getElem?_eq_getElem (by omega)]
    rfl
theorem open_bytes {v : Value} {d : DataW H} {p : List MemPlace} (hv : Value.okWide Tryd.prog W r base 22 v) (h : DataW.Trod enc Tryd.prog W 0 (fun _ => true) true 22 v d p) : ∃ A n c L, v = .slice A n c ∧ Arg W A n c L := by
  obtain ⟨A, n, c, rfl⟩ := okWide_slice Tryd.underlying22 hv
  obtain ⟨fuel, hf⟩ := h
  obtain ⟨L, hL⟩ := bytes_of hf
  exact ⟨A, n, c, L, rfl, hL⟩

instance : Inhabited Wr := ⟨⟨0, none, 0, 0, []⟩⟩
/-- A slice of writes that came in. -/
structure ArgW (w : World) (A : Option Addr) (n c : Nat) (l : List Wr) : Prop where
  rd : Wrs w A l
  len : l.length = n
  cap : n ≤ c
  max : c ≤ maxLen
theorem ArgW.below {w w' : World} {A : Option Addr} {n c : Nat} {l : List Wr} (h : ArgW w A n c l) (hb : Below w.heap.size w w') : ArgW w' A n c l := ⟨h.rd.below hb, h.len, h.cap, h.max⟩
theorem open_writes {v : Value} {d : DataW H} {p : List MemPlace} (hv : Value.okWide Tryd.prog W r base 63 v) (h : DataW.Trod enc Tryd.prog W 0 (fun _ => true) true 63 v d p) : ∃ A n c l, v = .slice A n c ∧ ArgW W A n c l := by
  obtain ⟨A, n, c, rfl⟩ := okWide_slice Tryd.underlying63 hv
  obtain ⟨fuel, hf⟩ := h
  rcases Go.Deep.open_slice_pairs Tryd.underlying63 Tryd.underlying65 (by kernel_rfl) rfl rfl (by kernel_rfl) (by kernel_rfl) hf with ⟨hcs, _⟩ | ⟨a, len, cap, m, k, V0, V1, D0, D1, P0, P1, hcs, hb, hl, hm, hmm, _, hi⟩
  · injection hcs with hcs
    injection hcs with e1 e2 e3
    subst e1; subst e2; subst e3
    exact ⟨none, 0, 0, [], rfl, fun hne => absurd rfl hne, rfl, Nat.le_refl _, Nat.zero_le _⟩
  · injection hcs with hcs
    injection hcs with e1 e2 e3
    subst e1; subst e2; subst e3
    simp only [if_true] at hmm
    have each : ∀ i, i < n → ∃ x : Wr, W.cell? (a.add (i * 2)) = some (.int .i64 x.a) ∧ W.cell? (a.add (i * 2 + 1)) = some (.slice x.A x.n x.c) ∧ x.ok W := by
      intro i hin
      obtain ⟨h0, h1, t0, t1⟩ := hi i (by omega)
      obtain ⟨z, e0, _, w0⟩ := DataW.trod_int Tryd.underlying3 t0
      have hs : ∃ A' n' c', V1 i = .slice A' n' c' := by
        rcases open_ints Tryd.underlying22 Tryd.underlying5 (by kernel_rfl) t1 with ⟨hcs, _⟩ | ⟨a', len', cap', zs, hcs, _⟩
        · injection hcs with hcs; exact ⟨_, _, _, hcs⟩
        · injection hcs with hcs; exact ⟨_, _, _, hcs⟩
      obtain ⟨A', n', c', e1⟩ := hs
      rw [e1] at t1 h1
      obtain ⟨L, hL⟩ := bytes_of t1
      injection e0 with e0
      rw [e0] at h0
      have hz := Num.bd_i64 w0
      exact ⟨⟨z, A', n', c', L⟩, h0, h1, hL.len, hL.rd, hL.cap, hL.max, hz.1, hz.2⟩
    obtain ⟨f, hf⟩ : ∃ f : Nat → Wr, ∀ i, i < n → W.cell? (a.add (i * 2)) = some (.int .i64 (f i).a) ∧ W.cell? (a.add (i * 2 + 1)) = some (.slice (f i).A (f i).n (f i).c) ∧ (f i).ok W :=
      ⟨fun i => if h : i < n then (each i h).choose else default, fun i hin => by
        simp only [hin, dif_pos]
        exact (each i hin).choose_spec⟩
    refine ⟨some a, n, c, (List.range n).map f, rfl, fun hne => ?_, by simp, hl, hm⟩
    have h0 : 0 < n := by
      rcases Nat.eq_zero_or_pos n with e | e
      · subst e; exact absurd rfl hne
      · exact e
    have hlt := World.block_lt_of_cell? W _ (hf 0 h0).1
    rw [add_block] at hlt
    refine ⟨a, rfl, hlt, fun i hin => ?_⟩
    simp only [List.length_map, List.length_range] at hin
    simp only [List.getElem_map, List.getElem_range]
    exact hf i hin
end
end Go.Proofs.YtgilkbmipgejeaaDoor
/- What the frames round the walks of layer 5 need. -/
