/- Contracts of the reference of layer 6: rows as lists of 128 pixels. -/
import Derived.Test.YtfajhppnfnapfaaPix
import Derived.Laws.MakeOwn
namespace Go.Proofs.Ytfajhppnfnapfaa
open Go.RowKit Num
set_option linter.unusedVariables false
set_option linter.unusedSimpArgs false

/-- The block g holds 128 pixels, and may be written. -/
structure Pix (g : Nat) (f : Nat → Bool) (w : World) : Prop where
  lt : g < w.heap.size
  at_ : ∀ j, j < 128 → w.cell? ⟨g, j, none⟩ = some (.bool (f j))
  fz : ∀ j, j < 128 → w.frozen? ⟨g, j, none⟩ = false
section
variable {g : Nat} {f f' : Nat → Bool} {w w' : World}
theorem Pix.below (H : Pix g f w) {n : Nat} (hb : Below n w w') (hn : g < n) : Pix g f w' :=
  ⟨Nat.lt_of_lt_of_le H.lt hb.size, fun j hj => (hb.cell (p := ⟨g, j, none⟩) hn).trans (H.at_ j hj), fun j hj => (hb.frozen (p := ⟨g, j, none⟩) hn).trans (H.fz j hj)⟩
theorem Pix.step (H : Pix g f w) (hb : Below w.heap.size w w') : Pix g f w' := H.below hb H.lt
theorem Pix.congr (H : Pix g f w) (h : ∀ j, j < 128 → f j = f' j) : Pix g f' w := ⟨H.lt, fun j hj => by rw [← h j hj]; exact H.at_ j hj, H.fz⟩
theorem Pix.set (H : Pix g f w) {k : Nat} (hk : k < 128) (v : Bool) : Pix g (fun j => if j = k then v else f j) (w.setCell ⟨g, k, none⟩ (.bool v)) := by
  refine ⟨by simpa using H.lt, fun j hj => ?_, fun j hj => by rw [World.frozen?_setCell]; exact H.fz j hj⟩
  by_cases e : j = k
  · subst e
    rw [if_pos rfl]
    exact World.cell?_setCell_same w (a := ⟨g, j, none⟩) _ (H.at_ j hj)
  · rw [if_neg e, World.cell?_setCell_other _ _ _ _ (by simp [Ne.symm e])]
    exact H.at_ j hj
theorem Pix.other (H : Pix g f w) {b : Nat} (hb : b ≠ g) (o : Nat) (v : Value) : Pix g f (w.setCell ⟨b, o, none⟩ v) :=
  ⟨by simpa using H.lt, fun j hj => by rw [World.cell?_setCell_other _ _ _ _ (by simp [hb])]; exact H.at_ j hj, fun j hj => by rw [World.frozen?_setCell]; exact H.fz j hj⟩
/-- A new slice of 128 pixels. -/
def Drawn (f : Nat → Bool) (w : World) (e : Ending) (w' : World) : Prop :=
  ∃ g, e = .returned (.slice (some ⟨g, 0, none⟩) 128 128) ∧ w.heap.size ≤ g ∧ Pix g f w' ∧ Below w.heap.size w w'
end

/-- 128 pixels that are not set. -/
def blank : Array Value := madeCells #[.bool false] 128
theorem Pix.new (w : World) (t : TypeId) : Pix w.heap.size (fun _ => false) (w.alloc (.cells blank t)) :=
  ⟨by simp, fun j hj => by rw [World.cell?_alloc_at _ _ _ _ rfl]; simp [blank, madeCells, hj, Nat.mod_one], fun j hj => World.frozen?_alloc_at _ _ _ _ rfl⟩
theorem infoBool : (Try.prog.info? 4).map (fun i => (i.zero, i.bytes, i.size)) = some (some (.bool false), 1, 1) := by kernel_rfl
theorem make_blank (w : World) : (Instr.makeSlice 29 (.int .i64 128) (.int .i64 128)).run Try.prog w = .ok (.slice (some ⟨w.heap.size, 0, none⟩) 128 128) (w.alloc (.cells blank 4)) := by
  have hi := infoBool
  cases hq : Try.prog.info? 4 with
  | none => rw [hq] at hi; cases hi
  | some i =>
    rw [hq] at hi
    simp only [Option.map_some, Option.some.injEq, Prod.mk.injEq] at hi
    obtain ⟨hz, hb, hs⟩ := hi
    have h := run_make (P := Try.prog) w 29 4 i (.bool false) Try.underlying29 hq hz .i64 .i64 128 128 (by decide) (by decide) (by rw [hb]; decide) (by decide)
    rw [h, hs]
    rfl

theorem div_step (H k : Nat) : H / 2 ^ k / 2 = H / 2 ^ (k + 1) := by rw [Nat.div_div_eq_div_mul, ← Nat.pow_succ]
theorem bit_of (H k X : Nat) (h : X = H / 2 ^ k) : H.testBit k = decide (X % 2 = 1) := by
  rw [h, Nat.testBit_eq_decide_div_mod_eq]
/-- The pixels that are drawn behind k rounds. -/
def pixF (h l : Nat) (k j : Nat) : Bool := if j < 64 then decide (63 < j + k) && h.testBit (63 - j) else decide (127 < j + k) && l.testBit (127 - j)

set_option maxRecDepth 100000 in
set_option maxHeartbeats 2000000 in
theorem rpixels_any (h l : BitVec 64) (w : World) : Calls Try.prog 23 #[.int .u64 (h.toNat : Int), .int .u64 (l.toNat : Int)] w (Drawn (px (h ++ l)) w) := by
  have hp : ∀ j, j < 128 → pixF h.toNat l.toNat 64 j = px (h ++ l) j := by
    intro j hj
    unfold pixF px
    rw [BitVec.getMsbD_append]
    by_cases c : j < 64
    · rw [if_pos c, if_neg (by omega), BitVec.getMsbD_eq_getLsbD, decide_eq_true (by omega), decide_eq_true c, ← BitVec.testBit_toNat]
    · rw [if_neg c, if_pos (by omega), BitVec.getMsbD_eq_getLsbD, decide_eq_true (by omega), decide_eq_true (by omega), ← BitVec.testBit_toNat, show 64 - 1 - (j - 64) = 127 - j by omega]
  have Hp := Lib.hid hp
  clear hp
  have hh := h.isLt
  have hl := l.isLt
  generalize h.toNat = H at *
  generalize l.toNat = L at *
  generalize px (h ++ l) = F at *
  have mk := make_blank
  go_enter Try.func23, Try.ntmps23
  go_wp2
  have N := Lib.hid (Pix.new w 4)
  have B := Lib.hid (below_new w (.cells blank 4))
  generalize w.alloc (.cells blank 4) = w1 at *
  clear mk
  go_loopw [0, 1, 6] (fun a b i wr => ∃ k X Y : Nat, k ≤ 64 ∧ a = .int .u64 (X : Int) ∧ b = .int .u64 (Y : Int) ∧ i = .int .i64 (k : Int) ∧ X = H / 2 ^ k ∧ Y = L / 2 ^ k ∧ Pix w.heap.size (pixF H L k) wr ∧ Below w.heap.size w wr) (fun _ _ i _ => 64 - (intOf i).toNat)
  case atStart =>
    refine ⟨0, H, L, by omega, rfl, rfl, rfl, by simp, by simp, N.out.congr fun j hj => ?_, B.out⟩
    unfold pixF
    split
    · rw [decide_eq_false (by omega)]; rfl
    · rw [decide_eq_false (by omega)]; rfl
  case round =>
    clear N B
    obtain ⟨k, X, Y, hk, rfl, rfl, rfl, hX, hY, hP, hB⟩ := hrel
    have XX := Lib.hid hX
    have YY := Lib.hid hY
    have PP := Lib.hid hP
    have BB := Lib.hid hB
    have X1 : (X : Int) ≤ 18446744073709551615 := by
      have := Nat.div_le_self H (2 ^ k)
      rw [← hX] at this
      omega
    have Y1 : (Y : Int) ≤ 18446744073709551615 := by
      have := Nat.div_le_self L (2 ^ k)
      rw [← hY] at this
      omega
    clear hX hY hP hB
    by_cases hlt : k < 64
    · have c0 := PP.out.at_ (63 - k) (by omega)
      have c1 := PP.out.at_ (127 - k) (by omega)
      have f0 := PP.out.fz (63 - k) (by omega)
      have f1 := PP.out.fz (127 - k) (by omega)
      have e0 : (63 : Int) - (k : Int) = ((63 - k : Nat) : Int) := by omega
      have e1 : (127 : Int) - (k : Int) = ((127 - k : Nat) : Int) := by omega
      go_wp2
      go_roundw
      case rel =>
        refine ⟨k + 1, X / 2, Y / 2, by omega, by go_num, by go_num, by go_num, by rw [XX.out, div_step], by rw [YY.out, div_step], ((PP.out.set (k := 63 - k) (by omega) _).set (k := 127 - k) (by omega) _).congr fun j hj => ?_, (BB.out.setCell (p := ⟨w.heap.size, 63 - k, none⟩) (Nat.le_refl _) _).setCell (p := ⟨w.heap.size, 127 - k, none⟩) (Nat.le_refl _) _⟩
        have b0 := bit_of H k X XX.out
        have b1 := bit_of L k Y YY.out
        unfold pixF
        by_cases q0 : j = 63 - k
        · subst q0
          rw [if_neg (by omega), if_pos rfl, if_pos (by omega), show 63 - (63 - k) = k by omega, b0, decide_eq_true (by omega)]
          simp only [Bool.true_and]
          rw [Bool.eq_iff_iff]
          simp
          omega
        · by_cases q1 : j = 127 - k
          · subst q1
            rw [if_pos rfl, if_neg (by omega), show 127 - (127 - k) = k by omega, b1, decide_eq_true (by omega)]
            simp only [Bool.true_and]
            rw [Bool.eq_iff_iff]
            simp
            omega
          · rw [if_neg q1, if_neg q0]
            by_cases c : j < 64
            · rw [if_pos c, if_pos c, show decide (63 < j + k) = decide (63 < j + (k + 1)) by congr 1; simp; omega]
            · rw [if_neg c, if_neg c, show decide (127 < j + k) = decide (127 < j + (k + 1)) by congr 1; simp; omega]
      case measure => simp [intOf]; omega
    · have hk64 : k = 64 := by omega
      subst hk64
      clear hlt
      go_wp2
      go_ret
      exact ⟨_, rfl, Nat.le_refl _, PP.out.congr Hp.out, BB.out⟩

theorem rwidth_any (b : Bool) (w : World) : Calls Try.prog 11 #[.bool b] w fun e w' => e = .returned (.int .i64 (if b then 128 else 64)) ∧ w = w' := by
  cases b
  all_goals
    go_enter Try.func11, Try.ntmps11
    go_wp2
    go_ret
    exact ⟨rfl, rfl⟩

set_option maxRecDepth 100000 in
set_option maxHeartbeats 2000000 in
theorem rsame_any (g g' : Nat) (f f' : Nat → Bool) (w : World) (hP : Pix g f w) (hP' : Pix g' f' w) (hf : ∀ j, j < 128 → f j = f' j) :
    Calls Try.prog 13 #[.slice (some ⟨g, 0, none⟩) 128 128, .slice (some ⟨g', 0, none⟩) 128 128] w fun e w' => e = .returned (.bool true) ∧ Below w.heap.size w w' := by
  have PP := Lib.hid (And.intro hP (hP'.congr fun j hj => (hf j hj).symm))
  clear hP hP' hf
  go_enter Try.func13, Try.ntmps13
  go_wp2
  go_loopw [5] (fun i wr => ∃ k : Nat, k ≤ 128 ∧ i = .int .i64 (k : Int) ∧ Below w.heap.size w wr) (fun i _ => 128 - (intOf i).toNat)
  case atStart => exact ⟨0, by omega, rfl, Below.refl _ _⟩
  case round =>
    obtain ⟨k, hk, rfl, hb⟩ := hrel
    have BB := Lib.hid hb
    have RR := Lib.hid (And.intro (PP.out.1.below hb PP.out.1.lt) (PP.out.2.below hb PP.out.2.lt))
    clear hb
    by_cases hlt : k < 128
    · have c0 := RR.out.1.at_ k hlt
      have c1 := RR.out.2.at_ k hlt
      obtain ⟨t, ht⟩ : ∃ t, t = f k := ⟨_, rfl⟩
      rw [← ht] at c0 c1
      clear ht
      go_wp2
      go_quiet (fail)
      go_wp2
      go_roundw
      case rel => exact ⟨k + 1, by omega, by go_num, BB.out.trans ⟨rfl, rfl, rfl, Nat.le_refl _, fun _ _ => rfl⟩⟩
      case measure => simp [intOf]; omega
    · have hk128 : k = 128 := by omega
      subst hk128
      clear hlt
      go_wp2
      go_ret
      exact ⟨rfl, BB.out⟩

/-- The pixels of a shifted list, as far as they are drawn. -/
def shF (f : Nat → Bool) (n width : Int) (k j : Nat) : Bool := decide (j < k) && (decide (0 ≤ (j : Int) - n) && (decide ((j : Int) - n < width) && f ((j : Int) - n).toNat))

set_option maxRecDepth 100000 in
set_option maxHeartbeats 2000000 in
theorem rshift_any (g : Nat) (f : Nat → Bool) (n : Int) (m : Nat) (w : World) (hP : Pix g f w) (n0 : -1000 ≤ n) (n1 : n ≤ 1000) (m1 : m ≤ 128) :
    Calls Try.prog 15 #[.slice (some ⟨g, 0, none⟩) 128 128, .int .i64 n, .int .i64 (m : Int)] w (Drawn (shF f n m m) w) := by
  have mk := make_blank
  have PP := Lib.hid hP
  clear hP
  go_enter Try.func15, Try.ntmps15
  go_wp2
  have N := Lib.hid (Pix.new w 4)
  have B := Lib.hid (below_new w (.cells blank 4))
  generalize w.alloc (.cells blank 4) = w1 at *
  clear mk
  go_loopw [8] (fun i wr => ∃ k : Nat, k ≤ m ∧ i = .int .i64 (k : Int) ∧ Pix w.heap.size (shF f n m k) wr ∧ Below w.heap.size w wr) (fun i _ => m - (intOf i).toNat)
  case atStart => exact ⟨0, by omega, rfl, N.out.congr fun j hj => by simp [shF], B.out⟩
  case round =>
    clear N B
    obtain ⟨k, hk, rfl, hQ, hb⟩ := hrel
    have BB := Lib.hid hb
    have QQ := Lib.hid hQ
    have RR := Lib.hid (PP.out.below hb PP.out.lt)
    clear hb hQ
    by_cases hlt : k < m
    · have hlt2 : (k : Int) < (m : Int) := by omega
      by_cases h1 : 0 ≤ (k : Int) - n
      · by_cases h2 : (k : Int) - n < (m : Int)
        · obtain ⟨d, hd⟩ : ∃ d : Nat, (k : Int) - n = (d : Int) := ⟨((k : Int) - n).toNat, by omega⟩
          have hn : n = (k : Int) - (d : Int) := by omega
          have hd1 : d < m := by omega
          have c0 := RR.out.at_ d (by omega)
          have c1 := QQ.out.at_ k (by omega)
          have f1 := QQ.out.fz k (by omega)
          have e1 : (k : Int) - ((k : Int) - (d : Int)) = (d : Int) := by omega
          subst hn
          clear h1 h2 hd
          obtain ⟨t, ht⟩ : ∃ t, t = f d := ⟨_, rfl⟩
          rw [← ht] at c0
          have T := Lib.hid ht
          clear ht
          go_wp2
          go_roundw
          case rel =>
            refine ⟨k + 1, by omega, by go_num, (QQ.out.set (k := k) (by omega) t).congr fun j hj => ?_, BB.out.setCell (p := ⟨w.heap.size, k, none⟩) (Nat.le_refl _) _⟩
            by_cases q : j = k
            · subst q
              rw [if_pos rfl, T.out]
              unfold shF
              rw [decide_eq_true (by omega), decide_eq_true (by omega), decide_eq_true (by omega), show ((j : Int) - ((j : Int) - (d : Int))).toNat = d by omega]
              rfl
            · rw [if_neg q]
              unfold shF
              rw [show decide (j < k) = decide (j < k + 1) by congr 1; simp; omega]
          case measure => simp [intOf]; omega
        · go_wp2
          go_roundw
          case rel =>
            refine ⟨k + 1, by omega, by go_num, QQ.out.congr fun j hj => ?_, BB.out⟩
            unfold shF
            by_cases q : j = k
            · subst q
              rw [decide_eq_false (p := (j : Int) - n < (m : Int)) (by omega)]
              simp
            · rw [show decide (j < k) = decide (j < k + 1) by congr 1; simp; omega]
          case measure => simp [intOf]; omega
      · go_wp2
        go_roundw
        case rel =>
          refine ⟨k + 1, by omega, by go_num, QQ.out.congr fun j hj => ?_, BB.out⟩
          unfold shF
          by_cases q : j = k
          · subst q
            rw [decide_eq_false (p := 0 ≤ (j : Int) - n) (by omega)]
            simp
          · rw [show decide (j < k) = decide (j < k + 1) by congr 1; simp; omega]
        case measure => simp [intOf]; omega
    · have hkm : k = m := by omega
      subst hkm
      clear hlt
      go_wp2
      go_ret
      exact ⟨_, rfl, Nat.le_refl _, QQ.out, BB.out⟩
end Go.Proofs.Ytfajhppnfnapfaa
