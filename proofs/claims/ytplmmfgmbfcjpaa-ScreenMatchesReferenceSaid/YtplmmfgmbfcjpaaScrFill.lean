/- The contract of the reference's Fill (layer 8): bytes, repeated or cut off. -/
import Derived.Test.YtplmmfgmbfcjpaaScrNum
import Derived.Test.YtplmmfgmbfcjpaaArr
import Derived.Deep.OwnRows
import Derived.Laws.MakeOwn
import Derived.Deep.WholeRow
import Derived.KernelRfl
namespace Go.Proofs.Ytplmmfgmbfcjpaa
open Go.RowKit Num
set_option linter.unusedVariables false
set_option linter.unusedSimpArgs false

/-- The slice at A reads as the bytes L. -/
def Rd8 (w : World) (A : Option Addr) (L : List Nat) : Prop := L ≠ [] → ∃ ad, A = some ad ∧ ad.block < w.heap.size ∧ ∀ j (h : j < L.length), w.cell? (ad.add j) = some (.int .u8 (L[j] : Int))
theorem add_block8 (a : Addr) (n : Nat) : (a.add n).block = a.block := by unfold Addr.add; split <;> rfl
section
variable {w w' : World} {A : Option Addr} {L : List Nat}
theorem Rd8.nil : Rd8 w A [] := fun h => absurd rfl h
theorem Rd8.at_ (h : Rd8 w A L) {k : Nat} (hk : k < L.length) : ∃ ad, A = some ad ∧ ad.block < w.heap.size ∧ w.cell? (ad.add k) = some (.int .u8 (L.getD k 0 : Int)) := by
  obtain ⟨ad, hA, hb, hc⟩ := h (by rintro rfl; simp at hk)
  exact ⟨ad, hA, hb, by rw [hc k hk]; simp [hk]⟩
theorem Rd8.step (h : Rd8 w A L) (hb : Below w.heap.size w w') : Rd8 w' A L := fun hne => by
  obtain ⟨ad, hA, hlt, hc⟩ := h hne
  exact ⟨ad, hA, Nat.lt_of_lt_of_le hlt hb.size, fun j hj => (hb.cell (p := ad.add j) (by rw [add_block8]; exact hlt)).trans (hc j hj)⟩
end
/-- The block g holds n bytes, and may be written. -/
structure Bys (g n : Nat) (F : Nat → Nat) (w : World) : Prop where
  lt : g < w.heap.size
  at_ : ∀ j, j < n → w.cell? ⟨g, j, none⟩ = some (.int .u8 (F j : Int))
  fz : ∀ j, j < n → w.frozen? ⟨g, j, none⟩ = false
section
variable {g n : Nat} {F F' : Nat → Nat} {w w' : World}
theorem Bys.below (H : Bys g n F w) {m : Nat} (hb : Below m w w') (hn : g < m) : Bys g n F w' :=
  ⟨Nat.lt_of_lt_of_le H.lt hb.size, fun j hj => (hb.cell (p := ⟨g, j, none⟩) hn).trans (H.at_ j hj), fun j hj => (hb.frozen (p := ⟨g, j, none⟩) hn).trans (H.fz j hj)⟩
theorem Bys.step (H : Bys g n F w) (hb : Below w.heap.size w w') : Bys g n F w' := H.below hb H.lt
theorem Bys.congr (H : Bys g n F w) (h : ∀ j, j < n → F j = F' j) : Bys g n F' w := ⟨H.lt, fun j hj => by rw [← h j hj]; exact H.at_ j hj, H.fz⟩
theorem Bys.set (H : Bys g n F w) {k : Nat} (hk : k < n) (v : Nat) : Bys g n (fun j => if j = k then v else F j) (w.setCell ⟨g, k, none⟩ (.int .u8 (v : Int))) := by
  refine ⟨by simpa using H.lt, fun j hj => ?_, fun j hj => by rw [World.frozen?_setCell]; exact H.fz j hj⟩
  by_cases e : j = k
  · subst e
    rw [if_pos rfl]
    exact World.cell?_setCell_same w (a := ⟨g, j, none⟩) _ (H.at_ j hj)
  · rw [if_neg e, World.cell?_setCell_other _ _ _ _ (by simp [Ne.symm e])]
    exact H.at_ j hj
theorem Bys.rd {n0 : Nat} (H : Bys g n F w) (h : n0 = n) : Rd8 w (some ⟨g, 0, none⟩) ((List.range n0).map F) := fun _ => by
  subst h
  refine ⟨_, rfl, H.lt, fun j hj => ?_⟩
  have hj : j < n0 := by simpa using hj
  have e : (⟨g, 0, none⟩ : Addr).add j = ⟨g, j, none⟩ := by unfold Addr.add; split <;> simp_all
  rw [e, H.at_ j hj]
  simp
end
theorem infoByte8 : (Try.prog.info? 5).map (fun i => (i.zero, i.size, i.bytes)) = some (some (.int .u8 0), 1, 1) := by kernel_rfl
theorem make_bytes8 (n : Nat) (hn : n ≤ 1000000) (w : World) : (Instr.makeSlice 39 (.int .i64 (n : Int)) (.int .i64 (n : Int))).run Try.prog w = .ok (.slice (some ⟨w.heap.size, 0, none⟩) n n) (w.alloc (.cells (arr (List.replicate n 0)) 5)) := by
  have h := run_make_row' (P := Try.prog) 39 5 (.int .u8 0) 1 Try.underlying39 infoByte8 rfl .i64 .i64 n (by omega) (by omega) w
  have e : madeCells #[.int .u8 0] n = arr (List.replicate n 0) := by
    apply Array.ext'
    unfold arr
    rw [toList_madeCells_one, List.map_replicate]
  rw [e] at h
  exact h
theorem Bys.new (w : World) (n : Nat) : Bys w.heap.size n (fun _ => 0) (w.alloc (.cells (arr (List.replicate n 0)) 5)) :=
  ⟨by simp, fun j hj => by rw [World.cell?_alloc_at _ _ _ _ rfl, arr_get _ _ (by simpa using hj)]; simp, fun j hj => World.frozen?_alloc_at _ _ _ _ rfl⟩
/-- Byte j of a sprite's data. -/
def fillF (L : List Nat) (j : Nat) : Nat := if L.length = 0 then 0 else L.getD (j % L.length) 0
def Filled (n : Nat) (F : Nat → Nat) (w : World) (e : Ending) (w' : World) : Prop := ∃ g, e = .returned (.slice (some ⟨g, 0, none⟩) n n) ∧ w.heap.size ≤ g ∧ Bys g n F w' ∧ Below w.heap.size w w'
set_option maxRecDepth 100000 in
set_option maxHeartbeats 2000000 in
theorem fill_any (A : Option Addr) (L : List Nat) (m cap n : Nat) (w : World) (H : Rd8 w A L) (hm : L.length = m) (m1 : m ≤ maxLen) (n1 : n ≤ 1000) :
    Calls Try.prog 18 #[.slice A m cap, .int .i64 (n : Int)] w (Filled n (fillF L) w) := by
  have HH := Lib.hid (And.intro H hm)
  have mk := make_bytes8 n (by omega)
  unfold maxLen at m1
  have mI : (m : Int) ≤ 9223372036854775807 := by omega
  clear H hm
  go_enter Try.func18, Try.ntmps18
  go_wp2
  have N := Lib.hid (Bys.new w n)
  have B := Lib.hid ((Below.refl _ w).alloc (Nat.le_refl _) (.cells (arr (List.replicate n 0)) 5))
  generalize w.alloc (.cells (arr (List.replicate n 0)) 5) = w1 at *
  clear mk
  go_loopw [6] (fun t wr => ∃ k : Nat, k ≤ n ∧ t = .int .i64 (k : Int) ∧ Bys w.heap.size n (fun j => if j < k then fillF L j else 0) wr ∧ Below w.heap.size w wr) (fun t _ => n - (intOf t).toNat)
  case atStart => exact ⟨0, by omega, rfl, N.out.congr fun j hj => by simp, B.out⟩
  case round =>
    clear N B
    obtain ⟨k, hk, rfl, hP, hB⟩ := hrel
    have PB := Lib.hid (And.intro hP hB)
    clear hP hB
    rcases (show (k < n ∧ 0 < m) ∨ ¬ k < n ∨ (k < n ∧ m = 0) by omega) with ⟨i1, i2⟩ | i1 | ⟨i1, i2⟩
    · obtain ⟨r, hr⟩ : ∃ r, k % m = r := ⟨_, rfl⟩
      have rm : r < m := by rw [← hr]; exact Nat.mod_lt _ i2
      have er : (k : Int) % (m : Int) = (r : Int) := by rw [← hr]; simp
      obtain ⟨ad, hA, hab, hc⟩ := (HH.out.1.step (PB.out.2.mono (Nat.le_refl _))).at_ (k := r) (by rw [HH.out.2]; exact rm)
      obtain ⟨v, hv⟩ : ∃ v, L.getD r 0 = v := ⟨_, rfl⟩
      rw [hv] at hc
      have FV := Lib.hid (show fillF L k = v by unfold fillF; rw [if_neg (by rw [HH.out.2]; omega), HH.out.2, hr, hv])
      obtain rfl := hA
      have c3 := PB.out.1.at_ k i1
      have c4 := PB.out.1.fz k i1
      have J1 := Lib.hid i1
      have i1I : (k : Int) < (n : Int) := by omega
      have i2I : (0 : Int) < (m : Int) := by omega
      have rmI : (r : Int) < (m : Int) := by omega
      have m0 : m ≠ 0 := by omega
      clear hr hv hab
      go_wp2
      go_roundw
      case rel =>
        refine ⟨k + 1, by omega, by go_num, (PB.out.1.set J1.out v).congr fun j hj => ?_, PB.out.2.setCell (p := ⟨w.heap.size, k, none⟩) (Nat.le_refl _) _⟩
        by_cases e : j = k
        · subst e; rw [if_pos rfl, if_pos (by omega), FV.out]
        · rw [if_neg e]
          by_cases e3 : j < k
          · rw [if_pos e3, if_pos (by omega)]
          · rw [if_neg e3, if_neg (by omega)]
      case measure => simp [intOf]; omega
    · have ke := Lib.hid (show k = n by omega)
      have i1I : ¬ (k : Int) < (n : Int) := by omega
      go_wp2
      go_ret
      exact ⟨w.heap.size, rfl, Nat.le_refl _, PB.out.1.congr fun j hj => by rw [if_pos (by rw [ke.out]; exact hj)], PB.out.2⟩
    · have me := Lib.hid i2
      have i1I : (k : Int) < (n : Int) := by omega
      have i2I : ¬ (0 : Int) < (m : Int) := by omega
      have i2N : ¬ 0 < m := by omega
      clear i2
      go_wp2
      go_ret
      exact ⟨w.heap.size, rfl, Nat.le_refl _, PB.out.1.congr fun j hj => by
        have e : fillF L j = 0 := by unfold fillF; rw [if_pos (by rw [HH.out.2]; exact me.out)]
        rw [e]; split <;> rfl, PB.out.2⟩
end Go.Proofs.Ytplmmfgmbfcjpaa
