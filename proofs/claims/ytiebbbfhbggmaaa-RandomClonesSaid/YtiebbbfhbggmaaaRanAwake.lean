/- The contract of 'awake' of layer 13. -/
import Derived.Test.YtiebbbfhbggmaaaRanMake
namespace Go.Proofs.Ytiebbbfhbggmaaa
open Go.RowKit Num
set_option linter.unusedVariables false
set_option linter.unusedSimpArgs false

/-- A new slice of bytes that are written out. -/
theorem rd_litS {w : World} {g : Nat} {L : List Int} {t : TypeId} (H : Blk g t (arr L) w) : Rd w (some ⟨g, 0, none⟩) L := fun hne => by
  refine ⟨_, rfl, H.lt, fun j hj => ?_⟩
  rw [add_pl, Nat.zero_add, H.cell, arr_get _ _ hj]
/-- The zero stream is that of the empty list. -/
theorem St.zero (w : World) : St w.heap.size w.heap.size [] 0 (w.alloc (.cells #[.slice none 0 0, .int .u64 0] 38)) :=
  ⟨Nat.le_refl _, none, 0, Blk.new _ _ _, World.ownsRow_nil _ _ _ _⟩

set_option maxRecDepth 100000 in
set_option maxHeartbeats 4000000 in
theorem awake13 (w : World) : Calls Try.prog 7 #[] w fun e w' => e = .returned (.bool true) ∧ Below w.heap.size w w' := by
  have A5 := Lib.hid fun (A : Option Addr) (w : World) (H : Rd w A [7, 8]) => (show rat [7, 8] 5 = 8 by decide) ▸ at_any A 2 2 [7, 8] 5 w H rfl (by decide) (by decide)
  have A0 := Lib.hid fun (w : World) => (show rat [] 5 = 0 by decide) ▸ at_any none 0 0 [] 5 w Rd.nil rfl (by decide) (by decide)
  have n0 : nxt [7, 8] 0 = 7 := by decide
  have n1 : nxt [7, 8] (0 + 1) = 8 := by decide
  have n2 : nxt [7, 8] (0 + 1 + 1) = 7 := by decide
  have n3 : nxt [] 0 = 0 := by decide
  have HN := Lib.hid (And.intro n0 (And.intro n1 (And.intro n2 n3)))
  clear n0 n1 n2 n3
  go_enter Try.func7, Try.ntmps7
  go_wp2_with fail
  have R1 := Lib.hid (show Rd _ _ [7, 8] from rd_litS (Blk.new w 5 (arr [7, 8])))
  have B := Lib.hid (below_newS w (.cells (arr [7, 8]) 5))
  refine (new_any (some ⟨w.heap.size, 0, none⟩) 2 2 [7, 8] _ R1.out rfl (by decide)).mono ?_
  rintro e w1 ⟨g, rfl, s1, b1⟩
  have S := Lib.hid (s1.mono B.out.size)
  have B := Lib.hid (B.out.trans (b1.mono B.out.size))
  clear b1 s1 R1
  go_wp2_with fail
  have Z := Lib.hid ((St.zero w1).mono B.out.size)
  have GZ := Lib.hid (show g ≠ w1.heap.size by have := S.out.lt; omega)
  have S := Lib.hid (S.out.alloc (.cells #[.slice none 0 0, .int .u64 0] 38))
  have B := Lib.hid (B.out.alloc B.out.size (.cells #[.slice none 0 0, .int .u64 0] 38))
  generalize w1.alloc (.cells #[.slice none 0 0, .int .u64 0] 38) = w2 at *
  obtain ⟨z, hz⟩ : ∃ z, w1.heap.size = z := ⟨_, rfl⟩
  rw [hz] at Z GZ ⊢
  clear hz
  refine (next_any S.out (by decide) (by decide)).mono ?_
  rintro e w3 ⟨rfl, s1, a1⟩
  have Z := Lib.hid (Z.out.other a1 GZ.out.symm S.out)
  have B := Lib.hid (B.out.trans (a1.below B.out.size S.out.low (fun _ e => by cases e)))
  have S := Lib.hid s1
  clear s1 a1
  rw [HN.out.1]
  go_wp2_with fail
  refine (next_any S.out (by decide) (by decide)).mono ?_
  rintro e w4 ⟨rfl, s1, a1⟩
  have Z := Lib.hid (Z.out.other a1 GZ.out.symm S.out)
  have B := Lib.hid (B.out.trans (a1.below B.out.size S.out.low (fun _ e => by cases e)))
  have S := Lib.hid s1
  clear s1 a1
  rw [HN.out.2.1]
  go_wp2_with fail
  refine (next_any S.out (by decide) (by decide)).mono ?_
  rintro e w5 ⟨rfl, s1, a1⟩
  have Z := Lib.hid (Z.out.other a1 GZ.out.symm S.out)
  have B := Lib.hid (B.out.trans (a1.below B.out.size S.out.low (fun _ e => by cases e)))
  have S := Lib.hid s1
  clear s1 a1
  rw [HN.out.2.2.1]
  go_wp2_with fail
  refine (count_any S.out (by decide)).mono ?_
  rintro e w' ⟨rfl, rfl⟩
  rw [show ((0 + 1 + 1 + 1 : Nat) : Int) = 3 from rfl]
  clear S
  go_wp2_with fail
  refine (next_any Z.out (by decide) (by decide)).mono ?_
  rintro e w6 ⟨rfl, s1, a1⟩
  have B := Lib.hid (B.out.trans (a1.below B.out.size Z.out.low (fun _ e => by cases e)))
  have Z := Lib.hid s1
  clear s1 a1
  rw [HN.out.2.2.2]
  go_wp2_with fail
  refine (count_any Z.out (by decide)).mono ?_
  rintro e w' ⟨rfl, rfl⟩
  rw [show ((0 + 1 : Nat) : Int) = 1 from rfl]
  clear Z
  go_wp2_with fail
  refine (next_nil _).mono ?_
  rintro e w' ⟨rfl, rfl⟩
  go_wp2_with fail
  refine (sclone_nil _).mono ?_
  rintro e w' ⟨rfl, rfl⟩
  go_wp2_with fail
  have R1 := Lib.hid (show Rd _ _ [7, 8] from rd_litS (Blk.new w6 5 (arr [7, 8])))
  have B := Lib.hid (B.out.trans ((below_newS w6 (.cells (arr [7, 8]) 5)).mono B.out.size))
  refine (A5.out _ _ R1.out).mono ?_
  rintro e w7 ⟨rfl, b1⟩
  have B := Lib.hid (B.out.trans (b1.mono B.out.size))
  clear b1 R1
  go_wp2_with fail
  refine (A0.out _).mono ?_
  rintro e w8 ⟨rfl, b1⟩
  have B := Lib.hid (B.out.trans (b1.mono B.out.size))
  clear b1
  go_wp2_with fail
  go_ret
  exact ⟨rfl, B.out⟩
end Go.Proofs.Ytiebbbfhbggmaaa
