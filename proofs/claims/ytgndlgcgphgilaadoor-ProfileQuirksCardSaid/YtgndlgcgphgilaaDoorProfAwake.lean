/- 'awake' of the law package of layer 2 returns true. -/
import Derived.Test.YtgndlgcgphgilaaDoorProfMath
namespace Go.Proofs.YtgndlgcgphgilaaDoor
open Go.RowKit Num
set_option linter.unusedVariables false

theorem name_0 : nameTo 1 (atB 0 7 0) (atB 0 7 1) (atB 0 7 2) (atB 0 7 3) (atB 0 7 4) (atB 0 7 5) (atB 0 7 6) 7 = ⟨#[99, 104, 105, 112, 56]⟩ := by decide +kernel
theorem name_383 : nameTo 3 (atB 383 7 0) (atB 383 7 1) (atB 383 7 2) (atB 383 7 3) (atB 383 7 4) (atB 383 7 5) (atB 383 7 6) 7 = ⟨#[120, 111, 99, 104, 105, 112, 43, 115, 104, 105, 102, 116, 43, 107, 101, 101, 112, 43, 106, 117, 109, 112, 43, 108, 111, 103, 105, 99, 43, 99, 108, 105, 112, 43, 119, 97, 105, 116, 43, 102, 97, 117, 108, 116]⟩ := by decide +kernel
theorem parse_wrong : levOf ⟨#[99, 104, 105, 112, 56, 43, 107, 101, 101, 112, 43, 115, 104, 105, 102, 116]⟩ = 1 ∧ ¬ (restTo (rest0 ⟨#[99, 104, 105, 112, 56, 43, 107, 101, 101, 112, 43, 115, 104, 105, 102, 116]⟩) 7).size = 0 := by decide +kernel
theorem parse_wrongV : parseV ⟨#[99, 104, 105, 112, 56, 43, 107, 101, 101, 112, 43, 115, 104, 105, 102, 116]⟩ = .tuple #[profV 0 false false false false false false false, .int .i64 6] := by
  unfold parseV
  rw [if_neg (fun h => parse_wrong.2 h.2)]

theorem Holds.alloc {b : Nat} {l : Int} {b0 b1 b2 b3 b4 b5 b6 : Bool} {w : World} (h : Holds b l b0 b1 b2 b3 b4 b5 b6 w) (o : Obj) : Holds b l b0 b1 b2 b3 b4 b5 b6 (w.alloc o) := h.below ((Below.refl _ _).alloc (Nat.le_refl _) _) h.1
theorem Laid.alloc {w : World} (h : Laid w) (o : Obj) : Laid (w.alloc o) := h.below ((Below.refl _ _).alloc (Nat.le_refl _) _) h.1
theorem name_a (w : World) (hL : Laid w) : Calls Tryd.prog 14 #[profV 1 (atB 0 7 0) (atB 0 7 1) (atB 0 7 2) (atB 0 7 3) (atB 0 7 4) (atB 0 7 5) (atB 0 7 6)] w fun e w' => e = .returned (.string ⟨#[99, 104, 105, 112, 56]⟩) ∧ Below w.heap.size w w' := by
  have h := name_yes 1 (atB 0 7 0) (atB 0 7 1) (atB 0 7 2) (atB 0 7 3) (atB 0 7 4) (atB 0 7 5) (atB 0 7 6) w (by omega) (by omega) hL
  rw [name_0] at h
  exact h
theorem name_b (w : World) (hL : Laid w) : Calls Tryd.prog 14 #[profV 3 (atB 383 7 0) (atB 383 7 1) (atB 383 7 2) (atB 383 7 3) (atB 383 7 4) (atB 383 7 5) (atB 383 7 6)] w fun e w' => e = .returned (.string ⟨#[120, 111, 99, 104, 105, 112, 43, 115, 104, 105, 102, 116, 43, 107, 101, 101, 112, 43, 106, 117, 109, 112, 43, 108, 111, 103, 105, 99, 43, 99, 108, 105, 112, 43, 119, 97, 105, 116, 43, 102, 97, 117, 108, 116]⟩) ∧ Below w.heap.size w w' := by
  have h := name_yes 3 (atB 383 7 0) (atB 383 7 1) (atB 383 7 2) (atB 383 7 3) (atB 383 7 4) (atB 383 7 5) (atB 383 7 6) w (by omega) (by omega) hL
  rw [name_383] at h
  exact h
theorem parse_c (w : World) (hL : Laid w) : Calls Tryd.prog 16 #[.string ⟨#[99, 104, 105, 112, 56, 43, 107, 101, 101, 112, 43, 115, 104, 105, 102, 116]⟩] w fun e w' => e = .returned (.tuple #[profV 0 false false false false false false false, .int .i64 6]) ∧ Below w.heap.size w w' := by
  have h := parse_any ⟨#[99, 104, 105, 112, 56, 43, 107, 101, 101, 112, 43, 115, 104, 105, 102, 116]⟩ w (by decide) hL
  rw [parse_wrongV] at h
  exact h

/-- What a world behind some calls still has. -/
structure Since (w : World) (w' : World) : Prop where
  below : Below w.heap.size w w'
  laid : Laid w'
theorem Since.start {w : World} (h : Laid w) : Since w w := ⟨Below.refl _ _, h⟩
theorem Since.step {w w1 w2 : World} (h : Since w w1) (hb : Below w1.heap.size w1 w2) : Since w w2 := ⟨h.below.trans (hb.mono h.below.size), h.laid.below hb h.laid.1⟩
theorem Since.alloc {w w1 : World} (h : Since w w1) (o : Obj) : Since w (w1.alloc o) := h.step ((Below.refl _ _).alloc (Nat.le_refl _) _)
theorem Holds.step {b : Nat} {l : Int} {b0 b1 b2 b3 b4 b5 b6 : Bool} {w w' : World} (h : Holds b l b0 b1 b2 b3 b4 b5 b6 w) (hb : Below w.heap.size w w') : Holds b l b0 b1 b2 b3 b4 b5 b6 w' := h.below hb h.1

set_option maxHeartbeats 4000000 in
theorem awake2 (w : World) (hL : Laid w) : Calls Tryd.prog 7 #[] w fun e w' => e = .returned (.bool true) ∧ Below w.heap.size w w' := by
  have s0 := Since.start hL
  have S0 := Lib.hid s0
  clear s0 hL
  go_enter Tryd.func7, Tryd.ntmps7
  go_wp2_with fail
  refine (at_yes 0 _ (by omega)).mono ?_
  rintro e w1 ⟨rfl, hb1⟩
  have S1 := Lib.hid (S0.out.step hb1)
  clear hb1
  go_wp2_with fail
  have S2 := Lib.hid (S1.out.alloc (.cells #[.int .i64 1, .bool (atB 0 7 0), .bool (atB 0 7 1), .bool (atB 0 7 2), .bool (atB 0 7 3), .bool (atB 0 7 4), .bool (atB 0 7 5), .bool (atB 0 7 6)] 23))
  have hA := Lib.hid (Holds.new w1 23 1 (atB 0 7 0) (atB 0 7 1) (atB 0 7 2) (atB 0 7 3) (atB 0 7 4) (atB 0 7 5) (atB 0 7 6))
  refine (at_yes 383 _ (by omega)).mono ?_
  rintro e w2 ⟨rfl, hb2⟩
  have S3 := Lib.hid (S2.out.step hb2)
  have hA2 := Lib.hid (hA.out.step hb2)
  clear hb2
  go_wp2_with fail
  have S4 := Lib.hid (S3.out.alloc (.cells #[.int .i64 3, .bool (atB 383 7 0), .bool (atB 383 7 1), .bool (atB 383 7 2), .bool (atB 383 7 3), .bool (atB 383 7 4), .bool (atB 383 7 5), .bool (atB 383 7 6)] 23))
  have hB := Lib.hid (Holds.new w2 23 3 (atB 383 7 0) (atB 383 7 1) (atB 383 7 2) (atB 383 7 3) (atB 383 7 4) (atB 383 7 5) (atB 383 7 6))
  have hA3 := Lib.hid (hA2.out.alloc (.cells #[.int .i64 3, .bool (atB 383 7 0), .bool (atB 383 7 1), .bool (atB 383 7 2), .bool (atB 383 7 3), .bool (atB 383 7 4), .bool (atB 383 7 5), .bool (atB 383 7 6)] 23))
  refine (at_no 384 _ (by omega)).mono ?_
  rintro e w3 ⟨rfl, hb3⟩
  have S5 := Lib.hid (S4.out.step hb3)
  have hB2 := Lib.hid (hB.out.step hb3)
  have hA4 := Lib.hid (hA3.out.step hb3)
  clear hb3
  go_wp2_with fail
  have S6 := Lib.hid (S5.out.alloc (.cells #[.int .i64 0, .bool false, .bool false, .bool false, .bool false, .bool false, .bool false, .bool false] 23))
  have hB3 := Lib.hid (hB2.out.alloc (.cells #[.int .i64 0, .bool false, .bool false, .bool false, .bool false, .bool false, .bool false, .bool false] 23))
  have hA5 := Lib.hid (hA4.out.alloc (.cells #[.int .i64 0, .bool false, .bool false, .bool false, .bool false, .bool false, .bool false, .bool false] 23))
  refine (parse_c _ S6.out.laid).mono ?_
  rintro e w4 ⟨rfl, hb4⟩
  have S7 := Lib.hid (S6.out.step hb4)
  have hB4 := Lib.hid (hB3.out.step hb4)
  have hA6 := Lib.hid (hA5.out.step hb4)
  have S8 := Lib.hid (S7.out.alloc (.cells #[.int .i64 0, .bool false, .bool false, .bool false, .bool false, .bool false, .bool false, .bool false] 23))
  have hB5 := Lib.hid (hB4.out.alloc (.cells #[.int .i64 0, .bool false, .bool false, .bool false, .bool false, .bool false, .bool false, .bool false] 23))
  have hz := hA6.out.1
  have hz2 := hB4.out.1
  clear hb4 hA hA2 hA3 hA4 hA5 hB hB2 hB3 S0 S1 S2 S3 S4 S5 S6
  have hc := hA6.out
  obtain ⟨y', c0, c1, c2, c3, c4, c5, c6, c7⟩ := hc
  go_wp2_with fail
  refine (name_a _ S8.out.laid).mono ?_
  rintro e w5 ⟨rfl, hb5⟩
  have S9 := Lib.hid (S8.out.step hb5)
  have hc := hB5.out.step hb5
  clear hb5 c0 c1 c2 c3 c4 c5 c6 c7 hB4 hB5 hA6
  obtain ⟨y'', c0, c1, c2, c3, c4, c5, c6, c7⟩ := hc
  go_wp2_with fail
  refine (name_b _ S9.out.laid).mono ?_
  rintro e w6 ⟨rfl, hb6⟩
  have SX := Lib.hid (S9.out.step hb6)
  clear hb6 c0 c1 c2 c3 c4 c5 c6 c7
  go_wp2_with (go_at_call 17; refine (count_any _).mono ?_; rintro e w' ⟨rfl, rfl⟩)
  go_ret
  exact ⟨rfl, SX.out.below⟩
end Go.Proofs.YtgndlgcgphgilaaDoor
