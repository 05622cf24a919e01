/- The contract of the reference's Few, and lists of writes. -/
import Derived.Test.YtllfakimcgbppaaDoorMemRef2
namespace Go.Proofs.YtllfakimcgbppaaDoor
open Go.RowKit Num
set_option linter.unusedVariables false

theorem add_one (a : Addr) : a.add 1 = ⟨a.block, a.off + 1, none⟩ := by simp [Addr.add]
/-- A write: its address, and its slice of bytes. -/
structure Wr where
  a : Int
  A : Option Addr
  n : Nat
  c : Nat
  b : List Int
/-- What holds of a write in a world. -/
structure Wr.ok (x : Wr) (w : World) : Prop where
  len : x.b.length = x.n
  rd : Rd w x.A x.b
  cap : x.n ≤ x.c
  max : x.c ≤ maxLen
  lo : -9223372036854775808 ≤ x.a
  hi : x.a ≤ 9223372036854775807
/-- The slice at A holds the writes l. -/
def Wrs (w : World) (A : Option Addr) (l : List Wr) : Prop := l ≠ [] → ∃ ad, A = some ad ∧ ad.block < w.heap.size ∧ ∀ i (h : i < l.length), w.cell? (ad.add (i * 2)) = some (.int .i64 l[i].a) ∧ w.cell? (ad.add (i * 2 + 1)) = some (.slice l[i].A l[i].n l[i].c) ∧ l[i].ok w
theorem Wr.ok.below {x : Wr} {w w' : World} (h : x.ok w) (hb : Below w.heap.size w w') : x.ok w' := ⟨h.len, h.rd.below hb, h.cap, h.max, h.lo, h.hi⟩
theorem Wrs.below {w w' : World} {A : Option Addr} {l : List Wr} (h : Wrs w A l) (hb : Below w.heap.size w w') : Wrs w' A l := fun hne => by
  obtain ⟨ad, rfl, hlt, hc⟩ := h hne
  exact ⟨ad, rfl, Nat.lt_of_lt_of_le hlt hb.size, fun i hi => ⟨(hb.cell (p := ad.add (i * 2)) (by rw [add_block]; exact hlt)).trans (hc i hi).1, (hb.cell (p := ad.add (i * 2 + 1)) (by rw [add_block]; exact hlt)).trans (hc i hi).2.1, (hc i hi).2.2.below hb⟩⟩
theorem Wrs.at_ {w : World} {A : Option Addr} {l : List Wr} (h : Wrs w A l) {k : Nat} (hk : k < l.length) : ∃ ad, A = some ad ∧ ad.block < w.heap.size ∧ w.cell? (ad.add (k * 2)) = some (.int .i64 l[k].a) ∧ w.cell? (ad.add (k * 2 + 1)) = some (.slice l[k].A l[k].n l[k].c) ∧ l[k].ok w := by
  obtain ⟨ad, e, hlt, hc⟩ := h (by rintro rfl; simp at hk)
  exact ⟨ad, e, hlt, hc k hk⟩
/-- A write that is short and near. -/
def Wr.small (x : Wr) : Prop := x.n ≤ 100 ∧ -1000000 ≤ x.a ∧ x.a ≤ 1000000
/-- What Few says. -/
def Fewed (n : Nat) (l : List Wr) (w : World) (e : Ending) (w' : World) : Prop := ∃ b : Bool, e = .returned (.bool b) ∧ (b = true → n ≤ 2000 ∧ l.length ≤ 20 ∧ ∀ i (h : i < l.length), l[i].small) ∧ w = w'

set_option maxRecDepth 100000 in
set_option maxHeartbeats 4000000 in
theorem few_any (A : Option Addr) (n c : Nat) (B : Option Addr) (m d : Nat) (l : List Wr) (w : World) (n1 : n ≤ maxLen) (m1 : m ≤ maxLen) (hl : l.length = m) (hW : Wrs w B l) :
    Calls Tryd.prog 9 #[.slice A n c, .slice B m d] w (Fewed n l w) := by
  unfold maxLen at n1 m1
  have H := Lib.hid (And.intro hl hW)
  clear hl hW
  go_enter Tryd.func9, Tryd.ntmps9
  go_wp2
  go_loop [5] (fun i => ∃ k : Nat, k ≤ 21 ∧ k ≤ m ∧ i = .int .i64 k ∧ ∀ j (h : j < l.length), j < k → l[j].small) (fun i => 21 - (intOf i).toNat)
  case atStart => exact ⟨0, by omega, by omega, rfl, fun j _ h => absurd h (by omega)⟩
  case round =>
    obtain ⟨k, hk, hkm, rfl, hs⟩ := hrel
    have Hs := Lib.hid hs
    clear hs
    by_cases hlt : k < m
    · by_cases h20 : k ≤ 20
      · have hkl : k < l.length := by have := H.out.1; omega
        obtain ⟨ad, rfl, hb, c0, c1, ok⟩ := H.out.2.at_ hkl
        rw [← add_add, add_one] at c1
        obtain ⟨y, hy⟩ : ∃ y, y = l[k] := ⟨_, rfl⟩
        rw [← hy] at c0 c1 ok
        obtain ⟨o1, o2, o3, o4, o5, o6⟩ := ok
        unfold maxLen at o4
        have k0 : (k : Int) < (m : Int) := by omega
        have k1 : (k : Int) ≤ 20 := by omega
        have k2 : 0 ≤ (k : Int) := by omega
        have HY := Lib.hid hy
        clear hy o1 o2
        by_cases h1 : (100 : Int) < (y.n : Int)
        · go_wp2
          go_ret
          exact ⟨false, rfl, (by simp), rfl⟩
        · by_cases h2 : y.a < -1000000
          · go_wp2
            go_ret
            exact ⟨false, rfl, (by simp), rfl⟩
          · by_cases h3 : 1000000 < y.a
            · go_wp2
              go_ret
              exact ⟨false, rfl, (by simp), rfl⟩
            · go_wp2
              go_round
              case rel =>
                refine ⟨k + 1, by omega, by omega, by go_num, fun j hj hjk => ?_⟩
                by_cases e : j = k
                · subst e
                  rw [← HY.out]
                  exact ⟨by omega, by omega, by omega⟩
                · exact Hs.out j hj (by omega)
              case measure => simp [intOf]; omega
      · have hm : 20 < m := by omega
        have k1 : ¬ (k : Int) ≤ 20 := by omega
        have k3 : ¬ (m : Int) ≤ 20 := by omega
        go_wp2
        go_ret
        exact ⟨false, rfl, (by simp), rfl⟩
    · have hkn : k = m := by omega
      subst hkn
      by_cases h20 : k ≤ 20
      · have k3 : (k : Int) ≤ 20 := by omega
        by_cases hn : n ≤ 2000
        · have k4 : (n : Int) ≤ 2000 := by omega
          go_wp2
          go_ret
          exact ⟨true, rfl, fun _ => ⟨hn, by rw [H.out.1]; exact h20, fun j hj => Hs.out j hj (by have := H.out.1; omega)⟩, rfl⟩
        · have k4 : ¬ (n : Int) ≤ 2000 := by omega
          go_wp2
          go_ret
          exact ⟨false, rfl, (by simp), rfl⟩
      · have k3 : ¬ (k : Int) ≤ 20 := by omega
        go_wp2
        go_ret
        exact ⟨false, rfl, (by simp), rfl⟩
end Go.Proofs.YtllfakimcgbppaaDoor
