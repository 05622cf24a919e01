/- The reference's Decode is that of the table. -/
import Derived.Test.YthfiaemdpfffcaaGreatDoorDecRef3
import Derived.Test.YthfiaemdpfffcaaGreatDoorDecRef4
import Derived.Test.YthfiaemdpfffcaaGreatDoorDecRef5
namespace Go.Proofs.YthfiaemdpfffcaaGreatDoor
open Go.RowKit Num Dec
theorem rdecode_any (b0 b1 b2 b3 : Nat) (l : Int) (w : World) (h0 : b0 < 256) (h1 : b1 < 256) (h2 : b2 < 256) (h3 : b3 < 256) :
    Calls Tryz.prog 15 #[.int .u8 (b0 : Int), .int .u8 (b1 : Int), .int .u8 (b2 : Int), .int .u8 (b3 : Int), .int .i64 l] w fun e w' => e = .returned (.agg (icells (dec b0 b1 b2 b3 l))) ∧ Below w.heap.size w w' := by
  by_cases hf : (top (b0 * 256 + b1)).op = 43 ∨ (top (b0 * 256 + b1)).op = 44
  · exact rdecode_rest b0 b1 b2 b3 l w h0 h1 h2 h3 (fun _ => hf)
  · cases hok : ok b0 b1 l
    · exact rdecode_rest b0 b1 b2 b3 l w h0 h1 h2 h3 (fun h => by rw [hok] at h; cases h)
    · cases hk : (top (b0 * 256 + b1)).pk
      · exact rdecode_k1 b0 b1 b2 b3 l w h0 h1 h2 h3 hok hf (by rw [hk]; simp)
      · exact rdecode_k1 b0 b1 b2 b3 l w h0 h1 h2 h3 hok hf (by rw [hk]; simp)
      · exact rdecode_k1 b0 b1 b2 b3 l w h0 h1 h2 h3 hok hf (by rw [hk]; simp)
      · exact rdecode_k1 b0 b1 b2 b3 l w h0 h1 h2 h3 hok hf (by rw [hk]; simp)
      · exact rdecode_k1 b0 b1 b2 b3 l w h0 h1 h2 h3 hok hf (by rw [hk]; simp)
      · exact rdecode_k2 b0 b1 b2 b3 l w h0 h1 h2 h3 hok hf (by rw [hk]; simp)
      · exact rdecode_k2 b0 b1 b2 b3 l w h0 h1 h2 h3 hok hf (by rw [hk]; simp)
      · exact rdecode_k2 b0 b1 b2 b3 l w h0 h1 h2 h3 hok hf (by rw [hk]; simp)
      · exact rdecode_k2 b0 b1 b2 b3 l w h0 h1 h2 h3 hok hf (by rw [hk]; simp)
      · exact rdecode_k2 b0 b1 b2 b3 l w h0 h1 h2 h3 hok hf (by rw [hk]; simp)
end Go.Proofs.YthfiaemdpfffcaaGreatDoor
