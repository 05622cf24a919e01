/- What the laws of layer 5 have in common: a write of whatever length; arguments that are slices of bytes. -/
import Derived.Test.YtllfakimcgbppaaDoorMemAwake
import Derived.Test.YtllfakimcgbppaaDoorCalm
namespace Go.Proofs.YtllfakimcgbppaaDoor
open Go.RowKit Num
set_option linter.unusedVariables false

/-- A slice of bytes that came in. -/
structure Arg (w : World) (A : Option Addr) (n c : Nat) (L : List Int) : Prop where
  rd : Rd w A L
  len : L.length = n
  cap : n ≤ c
  max : c ≤ maxLen
theorem Arg.below {w w' : World} {A : Option Addr} {n c : Nat} {L : List Int} (h : Arg w A n c L) (hb : Below w.heap.size w w') : Arg w' A n c L := ⟨h.rd.below hb, h.len, h.cap, h.max⟩
/-- Its block, if it has an element. -/
theorem Arg.block {w : World} {A : Option Addr} {n c : Nat} {L : List Int} (h : Arg w A n c L) : ∀ ad, A = some ad → 0 < n → ad.block < w.heap.size := fun ad e hn =>
  h.rd.block_lt' (by rintro rfl; have := h.len; simp at this; omega) e
/-- How many spans, and which, a write of m bytes logs. -/
def cnt (m : Nat) : Nat := if m = 0 then 0 else 1
def entry (a : Int) (m : Nat) : List Value := if m = 0 then [] else [.int .i64 (a % 65536), .int .i64 m]

theorem write_both (p : Nat) (M : List Int) (v : Value) (n base : Nat) (xs : List Value) (a : Int) (A : Option Addr) (m c : Nat) (L : List Int) (w : World) (hM : M.length = 65536) (hp : MemAt p M v w)
    (hv : w.ownsRow base 41 2 v n xs) (hb : base ≤ w.heap.size) (hn : n ≤ 1000) (hL : L.length = m) (m1 : m ≤ 65536) (hmc : m ≤ c) (hR : Rd w A L) (hA : ∀ ad, A = some ad → 0 < m → ad.block ≠ p) :
    Calls Tryd.prog 15 #[.pointer (some ⟨p, 0, none⟩), .int .i64 a, .slice A m c] w (Wrote p (put M a L) base (n + cnt m) (xs ++ entry a m) v w) := by
  by_cases h0 : m = 0
  · subst h0
    obtain rfl : L = [] := List.eq_nil_of_length_eq_zero hL
    refine (write_none p a A c w).mono ?_
    rintro e w' ⟨rfl, rfl⟩
    refine ⟨rfl, v, hp, ?_, Apart.refl, .inl rfl⟩
    simpa [cnt, entry] using hv
  · obtain ⟨k, hk⟩ : ∃ k : Nat, a % 65536 = k := ⟨(a % 65536).toNat, by omega⟩
    have := write_any p M v n base xs a k A m c L w hM hp hv hb hn hk hL (by omega) m1 hmc hR (fun ad e => hA ad e (by omega))
    simpa [cnt, entry, h0, hk] using this

/-- The bytes of the whole memory. -/
theorem bytes_all (p : Nat) (M : List Int) (v : Value) (N : Nat) (w : World) (hN : N = 65536) (hM : M.length = 65536) (hp : MemAt p M v w) :
    Calls Tryd.prog 13 #[.pointer (some ⟨p, 0, none⟩), .int .i64 0, .int .i64 65536] w (Gave N M w) := by
  subst hN
  have h := bytes_any p M v 0 0 65536 w hM hp (by omega) (Nat.le_refl _)
  rw [seg_all M hM] at h
  exact h
theorem own_cap {w : World} {base size n c : Nat} {e : TypeId} {A : Option Addr} {xs : List Value} (h : w.ownsRow base e size (.slice A n c) n xs) : n ≤ c := by
  rcases h.2 with ⟨h1, h2⟩ | ⟨g', c', cur, h1, _, _, hc, _⟩
  · omega
  · injection h1 with _ _ h2
    omega

/-- A read, told of what stays. -/
theorem read_below (p : Nat) (M : List Int) (v : Value) (a x : Int) (k : Nat) (w : World) (hM : M.length = 65536) (hp : MemAt p M v w) (hk : a % 65536 = k) (hx : M[k]? = some x) :
    Calls Tryd.prog 19 #[.pointer (some ⟨p, 0, none⟩), .int .i64 a] w fun e w' => e = .returned (.int .u8 x) ∧ Below w.heap.size w w' :=
  (read_any p M v a x k w hM hp hk hx).mono fun _ _ ⟨he, n, hw⟩ => ⟨he, by rw [hw]; exact below_drewN _ _⟩
end Go.Proofs.YtllfakimcgbppaaDoor
