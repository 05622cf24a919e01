/- Contracts of the reference of layer 6: rows as lists of 128 pixels. -/
import Derived.Test.YtplmmfgmbfcjpaaPix
import Derived.Laws.MakeOwn
namespace Go.Proofs.Ytplmmfgmbfcjpaa
open Go.RowKit Num
set_option linter.unusedVariables false
set_option linter.unusedSimpArgs false

/-- The block g holds 128 pixels, and may be written. -/
structure Pix (g : Nat) (f : Nat → Bool) (w : World) : Prop where
  lt : g < w.heap.size
  at_ : ∀ j, j < 128 → w.cell? ⟨g, j, none⟩ = some (.bool (f j))
  fz : ∀ j, j < 128 → w.frozen? ⟨g, j, none⟩ = false
section
variable {g : Nat} {f f' : Nat → Bool} {w w' : World}
theorem Pix.below (H : Pix g f w) {n : Nat} (hb : Below n w w') (hn : g < n) : Pix g f w' :=
  ⟨Nat.lt_of_lt_of_le H.lt hb.size, fun j hj => (hb.cell (p := ⟨g, j, none⟩) hn).trans (H.at_ j hj), fun j hj => (hb.frozen (p := ⟨g, j, none⟩) hn).trans (H.fz j hj)⟩
theorem Pix.step (H : Pix g f w) (hb : Below w.heap.size w w') : Pix g f w' := H.below hb H.lt
theorem Pix.congr (H : Pix g f w) (h : ∀ j, j < 128 → f j = f' j) : Pix g f' w := ⟨H.lt, fun j hj => by rw [← h j hj]; exact H.at_ j hj, H.fz⟩
theorem Pix.set (H : Pix g f w) {k : Nat} (hk : k < 128) (v : Bool) : Pix g (fun j => if j = k then v else f j) (w.setCell ⟨g, k, none⟩ (.bool v)) := by
  refine ⟨by simpa using H.lt, fun j hj => ?_, fun j hj => by rw [World.frozen?_setCell]; exact H.fz j hj⟩
  by_cases e : j = k
  · subst e
    rw [if_pos rfl]
    exact World.cell?_setCell_same w (a := ⟨g, j, none⟩) _ (H.at_ j hj)
  · rw [if_neg e, World.cell?_setCell_other _ _ _ _ (by simp [Ne.symm e])]
    exact H.at_ j hj
theorem Pix.other (H : Pix g f w) {b : Nat} (hb : b ≠ g) (o : Nat) (v : Value) : Pix g f (w.setCell ⟨b, o, none⟩ v) :=
  ⟨by simpa using H.lt, fun j hj => by rw [World.cell?_setCell_other _ _ _ _ (by simp [hb])]; exact H.at_ j hj, fun j hj => by rw [World.frozen?_setCell]; exact H.fz j hj⟩
/-- A new slice of 128 pixels. -/
def Drawn (f : Nat → Bool) (w : World) (e : Ending) (w' : World) : Prop :=
  ∃ g, e = .returned (.slice (some ⟨g, 0, none⟩) 128 128) ∧ w.heap.size ≤ g ∧ Pix g f w' ∧ Below w.heap.size w w'
end

/-- 128 pixels that are not set. -/
def blank : Array Value := madeCells #[.bool false] 128
theorem Pix.new (w : World) (t : TypeId) : Pix w.heap.size (fun _ => false) (w.alloc (.cells blank t)) :=
  ⟨by simp, fun j hj => by rw [World.cell?_alloc_at _ _ _ _ rfl]; simp [blank, madeCells, hj, Nat.mod_one], fun j hj => World.frozen?_alloc_at _ _ _ _ rfl⟩
theorem infoBool : (Try.prog.info? 4).map (fun i => (i.zero, i.bytes, i.size)) = some (some (.bool false), 1, 1) := by kernel_rfl
theorem make_blank (w : World) : (Instr.makeSlice 64 (.int .i64 128) (.int .i64 128)).run Try.prog w = .ok (.slice (some ⟨w.heap.size, 0, none⟩) 128 128) (w.alloc (.cells blank 4)) := by
  have hi := infoBool
  cases hq : Try.prog.info? 4 with
  | none => rw [hq] at hi; cases hi
  | some i =>
    rw [hq] at hi
    simp only [Option.map_some, Option.some.injEq, Prod.mk.injEq] at hi
    obtain ⟨hz, hb, hs⟩ := hi
    have h := run_make (P := Try.prog) w 64 4 i (.bool false) Try.underlying64 hq hz .i64 .i64 128 128 (by decide) (by decide) (by rw [hb]; decide) (by decide)
    rw [h, hs]
    rfl

theorem div_step (H k : Nat) : H / 2 ^ k / 2 = H / 2 ^ (k + 1) := by rw [Nat.div_div_eq_div_mul, ← Nat.pow_succ]
theorem bit_of (H k X : Nat) (h : X = H / 2 ^ k) : H.testBit k = decide (X % 2 = 1) := by
  rw [h, Nat.testBit_eq_decide_div_mod_eq]
end Go.Proofs.Ytplmmfgmbfcjpaa
