/- Contracts of package profile: what each function returns. -/
import Derived.Test.YtgndlgcgphgilaaDoorRows
import Derived.Test.YtgndlgcgphgilaaDoorNum
import Derived.WalkKit
import Derived.WalkSpells
import Derived.WalkLawsBesides
import Derived.BigQuiet
import Derived.Deep.QuietTactic
import Derived.StillTailTactics
import Derived.Handy
import Derived.Lib.Hide
import Derived.Laws.EntriesVeiled
namespace Go.Proofs.YtgndlgcgphgilaaDoor
open Go.RowKit Num
set_option linter.unusedVariables false

set_option maxHeartbeats 400000 in
theorem q1_any (b : Nat) (w : World) :
    Calls Tryd.prog 23 #[.pointer (some ⟨b, 0, none⟩)] w fun e w' => e = .returned (.pointer (some ⟨b, 1, none⟩)) ∧ w = w' := by
  go_enter Tryd.func23, Tryd.ntmps23
  go_wp2
  go_ret
  exact ⟨rfl, rfl⟩

set_option maxHeartbeats 400000 in
theorem q2_any (b : Nat) (w : World) :
    Calls Tryd.prog 24 #[.pointer (some ⟨b, 0, none⟩)] w fun e w' => e = .returned (.pointer (some ⟨b, 2, none⟩)) ∧ w = w' := by
  go_enter Tryd.func24, Tryd.ntmps24
  go_wp2
  go_ret
  exact ⟨rfl, rfl⟩

set_option maxHeartbeats 400000 in
theorem q3_any (b : Nat) (w : World) :
    Calls Tryd.prog 25 #[.pointer (some ⟨b, 0, none⟩)] w fun e w' => e = .returned (.pointer (some ⟨b, 3, none⟩)) ∧ w = w' := by
  go_enter Tryd.func25, Tryd.ntmps25
  go_wp2
  go_ret
  exact ⟨rfl, rfl⟩

set_option maxHeartbeats 400000 in
theorem q4_any (b : Nat) (w : World) :
    Calls Tryd.prog 26 #[.pointer (some ⟨b, 0, none⟩)] w fun e w' => e = .returned (.pointer (some ⟨b, 4, none⟩)) ∧ w = w' := by
  go_enter Tryd.func26, Tryd.ntmps26
  go_wp2
  go_ret
  exact ⟨rfl, rfl⟩

set_option maxHeartbeats 400000 in
theorem q5_any (b : Nat) (w : World) :
    Calls Tryd.prog 27 #[.pointer (some ⟨b, 0, none⟩)] w fun e w' => e = .returned (.pointer (some ⟨b, 5, none⟩)) ∧ w = w' := by
  go_enter Tryd.func27, Tryd.ntmps27
  go_wp2
  go_ret
  exact ⟨rfl, rfl⟩

set_option maxHeartbeats 400000 in
theorem q6_any (b : Nat) (w : World) :
    Calls Tryd.prog 28 #[.pointer (some ⟨b, 0, none⟩)] w fun e w' => e = .returned (.pointer (some ⟨b, 6, none⟩)) ∧ w = w' := by
  go_enter Tryd.func28, Tryd.ntmps28
  go_wp2
  go_ret
  exact ⟨rfl, rfl⟩

set_option maxHeartbeats 400000 in
theorem q7_any (b : Nat) (w : World) :
    Calls Tryd.prog 29 #[.pointer (some ⟨b, 0, none⟩)] w fun e w' => e = .returned (.pointer (some ⟨b, 7, none⟩)) ∧ w = w' := by
  go_enter Tryd.func29, Tryd.ntmps29
  go_wp2
  go_ret
  exact ⟨rfl, rfl⟩

/-- The quirks, as package profile lists them: each with its text and the function that points to its field. -/
def quirkV : Value := .agg #[.string ⟨#[43, 115, 104, 105, 102, 116]⟩, .func (.func 23) #[] #[], .string ⟨#[43, 107, 101, 101, 112]⟩, .func (.func 24) #[] #[], .string ⟨#[43, 106, 117, 109, 112]⟩, .func (.func 25) #[] #[], .string ⟨#[43, 108, 111, 103, 105, 99]⟩, .func (.func 26) #[] #[], .string ⟨#[43, 99, 108, 105, 112]⟩, .func (.func 27) #[] #[], .string ⟨#[43, 119, 97, 105, 116]⟩, .func (.func 28) #[] #[], .string ⟨#[43, 102, 97, 117, 108, 116]⟩, .func (.func 29) #[] #[]]

theorem quirk_at : (∀ w : World, (Instr.index 45 quirkV (.int .i64 0)).run Tryd.prog w = .ok (.agg #[.string ⟨#[43, 115, 104, 105, 102, 116]⟩, .func (.func 23) #[] #[]]) w) ∧
    (∀ w : World, (Instr.index 45 quirkV (.int .i64 1)).run Tryd.prog w = .ok (.agg #[.string ⟨#[43, 107, 101, 101, 112]⟩, .func (.func 24) #[] #[]]) w) ∧
    (∀ w : World, (Instr.index 45 quirkV (.int .i64 2)).run Tryd.prog w = .ok (.agg #[.string ⟨#[43, 106, 117, 109, 112]⟩, .func (.func 25) #[] #[]]) w) ∧
    (∀ w : World, (Instr.index 45 quirkV (.int .i64 3)).run Tryd.prog w = .ok (.agg #[.string ⟨#[43, 108, 111, 103, 105, 99]⟩, .func (.func 26) #[] #[]]) w) ∧
    (∀ w : World, (Instr.index 45 quirkV (.int .i64 4)).run Tryd.prog w = .ok (.agg #[.string ⟨#[43, 99, 108, 105, 112]⟩, .func (.func 27) #[] #[]]) w) ∧
    (∀ w : World, (Instr.index 45 quirkV (.int .i64 5)).run Tryd.prog w = .ok (.agg #[.string ⟨#[43, 119, 97, 105, 116]⟩, .func (.func 28) #[] #[]]) w) ∧
    (∀ w : World, (Instr.index 45 quirkV (.int .i64 6)).run Tryd.prog w = .ok (.agg #[.string ⟨#[43, 102, 97, 117, 108, 116]⟩, .func (.func 29) #[] #[]]) w) :=
  ⟨fun _ => by kernel_rfl, fun _ => by kernel_rfl, fun _ => by kernel_rfl, fun _ => by kernel_rfl, fun _ => by kernel_rfl, fun _ => by kernel_rfl, fun _ => by kernel_rfl⟩

/-- A profile's value. -/
abbrev profV (l : Int) (b0 b1 b2 b3 b4 b5 b6 : Bool) : Value := .agg #[.int .i64 l, .bool b0, .bool b1, .bool b2, .bool b3, .bool b4, .bool b5, .bool b6]
/-- The block b holds a profile. -/
def Holds (b : Nat) (l : Int) (b0 b1 b2 b3 b4 b5 b6 : Bool) (w : World) : Prop := b < w.heap.size ∧ w.cell? ⟨b, 0, none⟩ = some (.int .i64 l) ∧ w.cell? ⟨b, 1, none⟩ = some (.bool b0) ∧ w.cell? ⟨b, 2, none⟩ = some (.bool b1) ∧ w.cell? ⟨b, 3, none⟩ = some (.bool b2) ∧ w.cell? ⟨b, 4, none⟩ = some (.bool b3) ∧ w.cell? ⟨b, 5, none⟩ = some (.bool b4) ∧ w.cell? ⟨b, 6, none⟩ = some (.bool b5) ∧ w.cell? ⟨b, 7, none⟩ = some (.bool b6)
theorem Holds.below {b : Nat} {l : Int} {b0 b1 b2 b3 b4 b5 b6 : Bool} {w w' : World} {n : Nat} (h : Holds b l b0 b1 b2 b3 b4 b5 b6 w) (hb : Below n w w') (hn : b < n) : Holds b l b0 b1 b2 b3 b4 b5 b6 w' := by
  obtain ⟨h0, h⟩ := h
  refine ⟨Nat.lt_of_lt_of_le h0 hb.size, ?_⟩
  have e : ∀ j, w'.cell? ⟨b, j, none⟩ = w.cell? ⟨b, j, none⟩ := fun j => hb.cell (p := ⟨b, j, none⟩) hn
  simpa only [e] using h
theorem Holds.new (w : World) (t : TypeId) (l : Int) (b0 b1 b2 b3 b4 b5 b6 : Bool) : Holds w.heap.size l b0 b1 b2 b3 b4 b5 b6 (w.alloc (.cells #[.int .i64 l, .bool b0, .bool b1, .bool b2, .bool b3, .bool b4, .bool b5, .bool b6] t)) := by
  unfold Holds
  simp

set_option maxHeartbeats 1000000 in
theorem quirks_any (w : World) :
    Calls Tryd.prog 18 #[] w fun e w' => e = .returned quirkV ∧ Below w.heap.size w w' := by
  go_enter Tryd.func18, Tryd.ntmps18
  go_wp2
  go_returns
  exact ⟨rfl, by go_grown⟩
end Go.Proofs.YtgndlgcgphgilaaDoor
