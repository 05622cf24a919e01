/- The contract of Sprite. -/
import Derived.Test.YtplmmfgmbfcjpaaPix4
namespace Go.Proofs.Ytplmmfgmbfcjpaa
open Go.RowKit Num
set_option linter.unusedVariables false
set_option linter.unusedSimpArgs false

theorem sprite_any (b c x m : Nat) (clip : Bool) (w : World) (hc : c = 8 ∨ c = 16) (b1 : b ≤ 65535) (x1 : x ≤ 128) (m1 : m ≤ 128) :
    Calls Try.prog 58 #[.int .u16 (b : Int), .int .i64 (c : Int), .int .i64 (x : Int), .int .i64 (m : Int), .bool clip] w fun e w' => e = .returned (rv (sprite b c x m clip)) ∧ Below w.heap.size w w' := by
  obtain ⟨m1', m2', em⟩ := words (firsts m)
  obtain ⟨i1, i2, ei⟩ := words (shift (sp0 b c) x m)
  obtain ⟨j1, j2, ej⟩ := words (mv (sp0 b c) ((x : Int) - m))
  have hp : ∀ k : Nat, IntKind.u64.wrap ((b : Int) * 2 ^ min k 64) = ((BitVec.ofNat 64 b <<< k).toNat : Int) := fun k => by
    have h := shl64 (BitVec.ofNat 64 b) k
    rw [BitVec.toNat_ofNat, Nat.mod_eq_of_lt (by omega)] at h
    rw [IntKind.wrap_u64]
    exact h
  unfold sprite
  cases clip
  · rw [if_neg (by simp), ei, ej, app_xor, rv_append]
    rcases hc with rfl | rfl
    · exact sprite_8_false b x m _ m1' m2' i1 i2 j1 j2 _ _ ej rfl rfl w (hp 56) (by omega) (by omega) (by omega) (by omega) (by omega) (by omega) em ei
    · exact sprite_16_false b x m _ m1' m2' i1 i2 j1 j2 _ _ ej rfl rfl w (hp 48) (by omega) (by omega) (by omega) (by omega) (by omega) (by omega) em ei
  · rw [if_pos rfl, ei, rv_append]
    rcases hc with rfl | rfl
    · exact sprite_8_true b x m _ m1' m2' i1 i2 w (hp 56) (by omega) (by omega) (by omega) (by omega) (by omega) (by omega) em ei
    · exact sprite_16_true b x m _ m1' m2' i1 i2 w (hp 48) (by omega) (by omega) (by omega) (by omega) (by omega) (by omega) em ei
end Go.Proofs.Ytplmmfgmbfcjpaa
