/- Contracts of the reference of layer 7: planes as lists of 8192 pixels; Blank, Get, Height, Words. -/
import Derived.Test.YtplmmfgmbfcjpaaPixRef
import Derived.Test.YtplmmfgmbfcjpaaPlaneBox
namespace Go.Proofs.Ytplmmfgmbfcjpaa
open Go.RowKit Num
set_option linter.unusedVariables false
set_option linter.unusedSimpArgs false

/-- The block g holds 8192 pixels, and may be written. -/
structure Pxs (g : Nat) (f : Nat → Bool) (w : World) : Prop where
  lt : g < w.heap.size
  at_ : ∀ j, j < 8192 → w.cell? ⟨g, j, none⟩ = some (.bool (f j))
  fz : ∀ j, j < 8192 → w.frozen? ⟨g, j, none⟩ = false
section
variable {g : Nat} {f f' : Nat → Bool} {w w' : World}
theorem Pxs.below (H : Pxs g f w) {n : Nat} (hb : Below n w w') (hn : g < n) : Pxs g f w' :=
  ⟨Nat.lt_of_lt_of_le H.lt hb.size, fun j hj => (hb.cell (p := ⟨g, j, none⟩) hn).trans (H.at_ j hj), fun j hj => (hb.frozen (p := ⟨g, j, none⟩) hn).trans (H.fz j hj)⟩
theorem Pxs.step (H : Pxs g f w) (hb : Below w.heap.size w w') : Pxs g f w' := H.below hb H.lt
theorem Pxs.drew (H : Pxs g f w) : Pxs g f w.drew := H.step (Below.refl _ _).drew
theorem Pxs.congr (H : Pxs g f w) (h : ∀ j, j < 8192 → f j = f' j) : Pxs g f' w := ⟨H.lt, fun j hj => by rw [← h j hj]; exact H.at_ j hj, H.fz⟩
theorem Pxs.set (H : Pxs g f w) {k : Nat} (hk : k < 8192) (v : Bool) : Pxs g (fun j => if j = k then v else f j) (w.setCell ⟨g, k, none⟩ (.bool v)) := by
  refine ⟨by simpa using H.lt, fun j hj => ?_, fun j hj => by rw [World.frozen?_setCell]; exact H.fz j hj⟩
  by_cases e : j = k
  · subst e
    rw [if_pos rfl]
    exact World.cell?_setCell_same w (a := ⟨g, j, none⟩) _ (H.at_ j hj)
  · rw [if_neg e, World.cell?_setCell_other _ _ _ _ (by simp [Ne.symm e])]
    exact H.at_ j hj
/-- A new slice of 8192 pixels. -/
def DrawnP (f : Nat → Bool) (w : World) (e : Ending) (w' : World) : Prop :=
  ∃ g, e = .returned (.slice (some ⟨g, 0, none⟩) 8192 8192) ∧ w.heap.size ≤ g ∧ Pxs g f w' ∧ Below w.heap.size w w'
theorem DrawnP.congr {e : Ending} (H : DrawnP f w e w') (h : ∀ j, j < 8192 → f j = f' j) : DrawnP f' w e w' := by
  obtain ⟨g, h1, h2, h3, h4⟩ := H
  exact ⟨g, h1, h2, h3.congr h, h4⟩
end

theorem made_get (n j : Nat) (h : j < n) : (madeCells #[.bool false] n)[j]? = some (.bool false) := by simp [madeCells, h, Nat.mod_one]
/-- 8192 pixels that are not set. -/
def blankP : Array Value := madeCells #[.bool false] 8192
theorem Pxs.new (w : World) (t : TypeId) : Pxs w.heap.size (fun _ => false) (w.alloc (.cells blankP t)) :=
  ⟨by simp, fun j hj => by rw [World.cell?_alloc_at _ _ _ _ rfl]; exact made_get 8192 j hj, fun j hj => World.frozen?_alloc_at _ _ _ _ rfl⟩
theorem make_blankP (w : World) : (Instr.makeSlice 64 (.int .i64 8192) (.int .i64 8192)).run Try.prog w = .ok (.slice (some ⟨w.heap.size, 0, none⟩) 8192 8192) (w.alloc (.cells blankP 4)) := by
  have hi := infoBool
  cases hq : Try.prog.info? 4 with
  | none => rw [hq] at hi; cases hi
  | some i =>
    rw [hq] at hi
    simp only [Option.map_some, Option.some.injEq, Prod.mk.injEq] at hi
    obtain ⟨hz, hb, hs⟩ := hi
    have h := run_make (P := Try.prog) w 64 4 i (.bool false) Try.underlying64 hq hz .i64 .i64 8192 8192 (by decide) (by decide) (by rw [hb]; decide) (by decide)
    rw [h, hs]
    rfl
theorem blank_any (w : World) : Calls Try.prog 28 #[] w (DrawnP (fun _ => false) w) := by
  have mk := make_blankP
  go_enter Try.func28, Try.ntmps28
  go_wp2
  go_ret
  exact ⟨_, rfl, Nat.le_refl _, Pxs.new w _, below_new w _⟩
theorem rheight_any (b : Bool) (w : World) : Calls Try.prog 50 #[.bool b] w fun e w' => e = .returned (.int .i64 (if b then 64 else 32)) ∧ w = w' := by
  cases b
  all_goals
    go_enter Try.func50, Try.ntmps50
    go_wp2
    go_ret
    exact ⟨rfl, rfl⟩
theorem rget_any (g : Nat) (f : Nat → Bool) (w : World) (H : Pxs g f w) {x y k : Nat} {xi yi : Int} (hx : xi = (x : Int)) (hy : yi = (y : Int)) (hk : k = 128 * y + x) (x1 : x < 128) (y1 : y < 64) :
    Calls Try.prog 53 #[.slice (some ⟨g, 0, none⟩) 8192 8192, .int .i64 xi, .int .i64 yi] w fun e w' => e = .returned (.bool (f k)) ∧ w = w' := by
  subst hx hy
  have h1 := H.at_ k (by omega)
  have ek : 128 * (y : Int) + (x : Int) = (k : Int) := by omega
  have k1 : k < 8192 := by omega
  clear H
  obtain ⟨v, hv⟩ : ∃ v, v = f k := ⟨_, rfl⟩
  rw [← hv] at h1 ⊢
  clear hv hk
  go_enter Try.func53, Try.ntmps53
  go_wp2
  go_ret
  exact ⟨rfl, rfl⟩
end Go.Proofs.Ytplmmfgmbfcjpaa
