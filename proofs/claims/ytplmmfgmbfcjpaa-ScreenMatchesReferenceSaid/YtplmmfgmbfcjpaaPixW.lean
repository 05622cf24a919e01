/- The contracts of package row, in words, as the laws meet them. -/
import Derived.Test.YtplmmfgmbfcjpaaPixSp
namespace Go.Proofs.Ytplmmfgmbfcjpaa
open Go.RowKit Num
set_option linter.unusedVariables false
set_option linter.unusedSimpArgs false

theorem spriteW {b c x m : Nat} {bi ci xi mi : Int} {clip : Bool} {h l : BitVec 64} (e : sprite b c x m clip = h ++ l) (hb : bi = (b : Int)) (hci : ci = (c : Int)) (hxi : xi = (x : Int)) (hmi : mi = (m : Int)) (hc : c = 8 ∨ c = 16) (b1 : b ≤ 65535) (x1 : x ≤ 128) (m1 : m ≤ 128) (w : World) :
    Calls Try.prog 58 #[.int .u16 bi, .int .i64 ci, .int .i64 xi, .int .i64 mi, .bool clip] w fun e w' => e = .returned (.agg #[.int .u64 (h.toNat : Int), .int .u64 (l.toNat : Int)]) ∧ Below w.heap.size w w' := by
  subst hb hci hxi hmi
  rw [← rv_append, ← e]
  exact sprite_any b c x m clip w hc b1 x1 m1
theorem shiftW {h l h' l' : BitVec 64} {n m : Int} (e : shift (h ++ l) n m = h' ++ l') (n0 : -1000 ≤ n) (n1 : n ≤ 1000) (m0 : 0 ≤ m) (m1 : m ≤ 128) (w : World) :
    Calls Try.prog 62 #[.agg #[.int .u64 (h.toNat : Int), .int .u64 (l.toNat : Int)], .int .i64 n, .int .i64 m] w fun e w' => e = .returned (.agg #[.int .u64 (h'.toNat : Int), .int .u64 (l'.toNat : Int)]) ∧ Below w.heap.size w w' := by
  rw [← rv_append, ← rv_append, ← e]
  exact shift_any _ n m w (by omega) (by omega) m0 m1
theorem andW {h l h' l' v1 v2 : BitVec 64} (e : (h ++ l) &&& (h' ++ l') = v1 ++ v2) (w : World) : Calls Try.prog 57 #[.agg #[.int .u64 (h.toNat : Int), .int .u64 (l.toNat : Int)], .agg #[.int .u64 (h'.toNat : Int), .int .u64 (l'.toNat : Int)]] w fun e w' =>
    e = .returned (.agg #[.int .u64 (v1.toNat : Int), .int .u64 (v2.toNat : Int)]) ∧ Below w.heap.size w w' := by
  rw [← rv_append, ← rv_append, ← rv_append, ← e]
  exact and_any _ _ w
theorem xorW {h l h' l' v1 v2 : BitVec 64} (e : (h ++ l) ^^^ (h' ++ l') = v1 ++ v2) (w : World) : Calls Try.prog 56 #[.agg #[.int .u64 (h.toNat : Int), .int .u64 (l.toNat : Int)], .agg #[.int .u64 (h'.toNat : Int), .int .u64 (l'.toNat : Int)]] w fun e w' =>
    e = .returned (.agg #[.int .u64 (v1.toNat : Int), .int .u64 (v2.toNat : Int)]) ∧ Below w.heap.size w w' := by
  rw [← rv_append, ← rv_append, ← rv_append, ← e]
  exact xor_any _ _ w
theorem emptyW {h l : BitVec 64} {f : Bool} (e : decide (h ++ l = 0#128) = f) (w : World) : Calls Try.prog 59 #[.agg #[.int .u64 (h.toNat : Int), .int .u64 (l.toNat : Int)]] w fun e w' => e = .returned (.bool f) ∧ Below w.heap.size w w' := by
  rw [← rv_append, ← e]
  exact empty_any _ w
theorem getW {h l : BitVec 64} {x : Int} {f : Bool} (e : pxi (h ++ l) x = f) (x0 : -9223372036854775808 ≤ x) (x1 : x ≤ 9223372036854775807) (w : World) : Calls Try.prog 42 #[.agg #[.int .u64 (h.toNat : Int), .int .u64 (l.toNat : Int)], .int .i64 x] w fun e w' => e = .returned (.bool f) ∧ Below w.heap.size w w' := by
  rw [← rv_append, ← e]
  exact get_any _ x w x0 x1
end Go.Proofs.Ytplmmfgmbfcjpaa
