/- Contracts of package mem: Read, Write, Dirty. -/
import Derived.Test.YtllfakimcgbppaaDoorMemBlk
import Derived.Test.YtllfakimcgbppaaDoorMix
import Derived.Test.YtllfakimcgbppaaDoorAddrNum
import Derived.Test.YtllfakimcgbppaaDoorFontTab
import Derived.Handy
import Derived.IntWalk
import Derived.Lib.Hide
import Derived.Deep.QuietTactic
import Derived.Deep.AppendLies
namespace Go.Proofs.YtllfakimcgbppaaDoor
open Go.RowKit Num
set_option linter.unusedVariables false

set_option maxHeartbeats 400000 in
theorem mwrap_any (n : Int) (k : Nat) (w : World) (h : n % 65536 = k) : Calls Tryd.prog 25 #[.int .i64 n] w fun e w' => e = .returned (.int .i64 k) ∧ w' = w := by
  have hb := and65535 n
  rw [h] at hb
  clear h
  go_enter Tryd.func25, Tryd.ntmps25
  go_wp2
  go_ret
  exact ⟨rfl, rfl⟩
set_option maxHeartbeats 400000 in
theorem mmod_any (n : Int) (k : Nat) (w : World) (h : n % 65536 = k) : Calls Tryd.prog 17 #[.int .i64 n] w fun e w' => e = .returned (.int .i64 k) ∧ w' = w := by
  have H := Lib.hid h
  clear h
  by_cases hn : n.tmod 65536 < 0
  all_goals
    go_enter Tryd.func17, Tryd.ntmps17
    go_wp2
    go_ret
    exact ⟨ret_int (by have := mod16 n; have := H.out; first | omega | (unfold wrap64; omega)), rfl⟩

/-- The world after a read: it drew some numbers. -/
def Reads (v : Value) (w : World) (e : Ending) (w' : World) : Prop := e = .returned v ∧ ∃ n, w' = w.drewN n

set_option maxHeartbeats 400000 in
theorem read_nil (a : Int) (w : World) : Calls Tryd.prog 19 #[.pointer none, .int .i64 a] w fun e w' => e = .returned (.int .u8 0) ∧ w = w' := by
  go_enter Tryd.func19, Tryd.ntmps19
  go_wp2
  go_ret
  exact ⟨rfl, rfl⟩
set_option maxRecDepth 100000 in
set_option maxHeartbeats 1000000 in
theorem read_any (p : Nat) (M : List Int) (v : Value) (a x : Int) (k : Nat) (w : World) (hM : M.length = 65536) (hp : MemAt p M v w) (hk : a % 65536 = k) (hx : M[k]? = some x) :
    Calls Tryd.prog 19 #[.pointer (some ⟨p, 0, none⟩), .int .i64 a] w (Reads (.int .u8 x) w) := by
  have hc : w.cell? ⟨p, k, none⟩ = some (.int .u8 x) := by
    rw [hp.cell hM k (by omega)]
    rw [List.getElem?_eq_getElem (by omega)] at hx
    injection hx with hx
    rw [hx]
  have k0 : 0 ≤ (k : Int) := by omega
  have k1 : (k : Int) < 65536 := by omega
  have H := Lib.hid hk
  clear hk hx hp hM
  go_enter Tryd.func19, Tryd.ntmps19
  go_wp2
  go_quiet ((go_at_call 25; exact Calls.quiet_of_same (mwrap_any _ _ _ H.out)))
  go_wp2
  go_ret
  exact ⟨rfl, _, rfl⟩
end Go.Proofs.YtllfakimcgbppaaDoor
